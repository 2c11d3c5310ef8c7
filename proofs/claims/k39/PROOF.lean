import PyProof.Rows.All
import Wide.All
import OpenK.AllK
import Wide.FinOn
import HandS.TupSets
import HandS.SetBool
import HandS.Base
import HandS.Call
import HandS.List
import HandS.Comp
import HandS.Dict
import HandS.Set
import PyProof.EqAt
import PyProof.EqKinds
import PyProof.TupleCall
import PyProof.Rows.SortShell
import KE.KSortTup
import HandS.SortOrd
import HandS.SortRule
import PyProof.MinMaxWalk
import PyProof.WalksMore
import HandS.ForMost
import HandS.FltList
import HandS.Conv
import HandS.DictComp
import HandS.Defaults
import HandS.Evl
import HandS.Property
import HandS.ClsMeth
import HandS.IsInst
import HandS.FStr
import HandS.Exc
import HandS.Wide
import HandS.Deep
import HandS.DeepEq
import PyProof.P3In
import HandS.Zip
import HandS.Style
import HandS.DictTup
import HandS.TryOnly
import HandS.SetTxt0
import PyProof.Rows.SetFrom
import HandS.Flow
import HandS.TupAny
import PySem.Challenge.RW_onehostmore_k39_crowds_as_they_are

set_option Elab.async false
set_option linter.all false
set_option maxRecDepth 100000
set_option maxHeartbeats 8000000

/-! SxTab -/
/-! Tables of sets of up to 4,914 members: every slot is met in time, whatever the hashes. -/
namespace Sx
open PySem PySem.Spec PyProof.Rows L2

/-! ### the round of the slots, for all masks that come -/
def gather (m : Nat) : Nat → Nat → Nat → Nat
  | 0, _, bits => bits
  | left + 1, i, bits => gather m left ((i * 5 + 1) % (m + 1)) (bits ||| (1 <<< i))
theorem lcg_head (m i : Nat) : ∀ k, lcgI m ((i * 5 + 1) % (m + 1)) k = lcgI m i (k + 1)
  | 0 => rfl
  | k + 1 => congrArg (fun z => (z * 5 + 1) % (m + 1)) (lcg_head m i k)
theorem lcg_plus (m i a : Nat) : ∀ k, lcgI m (lcgI m i a) k = lcgI m i (a + k)
  | 0 => rfl
  | k + 1 => congrArg (fun z => (z * 5 + 1) % (m + 1)) (lcg_plus m i a k)
theorem gather_bit (m j : Nat) : ∀ left i bits, (gather m left i bits).testBit j = true → bits.testBit j = true ∨ ∃ k, k < left ∧ lcgI m i k = j
  | 0, _, _, h => .inl h
  | left + 1, i, bits, h => by
    rcases gather_bit m j left _ _ h with q | ⟨k, hk, e⟩
    · rw [Nat.testBit_or, Bool.or_eq_true] at q
      rcases q with q | q
      · exact .inl q
      · rw [Nat.one_shiftLeft, Nat.testBit_two_pow] at q
        exact .inr ⟨0, Nat.succ_pos _, of_decide_eq_true q⟩
    · exact .inr ⟨k + 1, Nat.succ_lt_succ hk, (lcg_head m i k).symm.trans e⟩
/-- the masks of tables with room for 4,914 -/
def Msk (m : Nat) : Prop := m = 7 ∨ m = 31 ∨ m = 127 ∨ m = 511 ∨ m = 2047 ∨ m = 8191
structure Round (m : Nat) : Prop where
  all : gather m (m + 1) 0 0 = 2 ^ (m + 1) - 1
  back : lcgI m 0 (m + 1) = 0
theorem round7 : Round 7 := ⟨by decide +kernel, by decide +kernel⟩
theorem round31 : Round 31 := ⟨by decide +kernel, by decide +kernel⟩
theorem round127 : Round 127 := ⟨by decide +kernel, by decide +kernel⟩
theorem round511 : Round 511 := ⟨by decide +kernel, by decide +kernel⟩
theorem round2047 : Round 2047 := ⟨by decide +kernel, by decide +kernel⟩
theorem round8191 : Round 8191 := ⟨by decide +kernel, by decide +kernel⟩
theorem Msk.round {m : Nat} (h : Msk m) : Round m := by
  rcases h with e | e | e | e | e | e
  · rw [e]; exact round7
  · rw [e]; exact round31
  · rw [e]; exact round127
  · rw [e]; exact round511
  · rw [e]; exact round2047
  · rw [e]; exact round8191
theorem Msk.odd {m : Nat} (h : Msk m) : m % 2 = 1 := by
  rcases h with e | e | e | e | e | e <;> rw [e]
theorem Msk.big {m : Nat} (h : Msk m) : m ≤ 8191 := by
  rcases h with e | e | e | e | e | e <;> rw [e] <;> decide
theorem Round.some {m : Nat} (r : Round m) {j : Nat} (hj : j ≤ m) : ∃ k, k ≤ m ∧ lcgI m 0 k = j := by
  have b : (gather m (m + 1) 0 0).testBit j = true := by
    rw [r.all, Nat.testBit_two_pow_sub_one]
    exact decide_eq_true (Nat.lt_succ_of_le hj)
  rcases gather_bit m j _ _ _ b with q | ⟨k, hk, e⟩
  · simp at q
  · exact ⟨k, Nat.le_of_lt_succ hk, e⟩
theorem Round.turn {m : Nat} (r : Round m) (k : Nat) : lcgI m 0 (m + 1 + k) = lcgI m 0 k := by
  rw [← lcg_plus, r.back]
theorem Msk.all {m : Nat} (h : Msk m) {i j : Nat} (hi : i ≤ m) (hj : j ≤ m) : ∃ k, k ≤ m ∧ lcgI m i k = j := by
  obtain ⟨a, ha, ea⟩ := h.round.some hi
  obtain ⟨b, hb, eb⟩ := h.round.some hj
  subst ea
  by_cases c : a ≤ b
  · refine ⟨b - a, by omega, ?_⟩
    rw [lcg_plus, Nat.add_sub_of_le c, eb]
  · refine ⟨m + 1 + b - a, by omega, ?_⟩
    rw [lcg_plus, Nat.add_sub_of_le (by omega), h.round.turn, eb]
/-- each slot begins one of the first runs -/
theorem Msk.run {m : Nat} (hm : Msk m) (h : Int) {j : Nat} (hj : j ≤ m) : ∃ n, n ≤ m + 12 ∧ runI m (SetTable.bits h) n = j := by
  obtain ⟨k, hk, e⟩ := hm.all (runI_le m (SetTable.bits h) 12) hj
  exact ⟨12 + k, by omega, (runI_tail (bits_lt h) k).trans e⟩
theorem Msk.meets {m : Nat} (hm : Msk m) (h : Int) {j : Nat} (hj : j ≤ m) : ∃ k, k < 10 * SetTable.turns m ∧ way m h k = j := by
  obtain ⟨n, hn, e⟩ := hm.run h hj
  obtain ⟨k, hk, e2⟩ := run_nth m (SetTable.bits h) n
  refine ⟨k, by unfold SetTable.turns; omega, ?_⟩
  show (nth m (runAt m (SetTable.bits h % (m + 1)) (SetTable.bits h)) k).j = j
  rw [e2]
  exact e
theorem way_in {m : Nat} (h : Int) (k : Nat) : way m h k ≤ m := by
  have hi : SetTable.bits h % (m + 1) ≤ m := Nat.le_of_lt_succ (Nat.mod_lt _ (Nat.succ_pos _))
  obtain ⟨a, b, _⟩ := runEnd_bd hi
  have q := nth_in k (runAt m (SetTable.bits h % (m + 1)) (SetTable.bits h)) (m := m) (by
    show SetTable.bits h % (m + 1) + (SetTable.runEnd m (SetTable.bits h % (m + 1)) - SetTable.bits h % (m + 1)) ≤ m
    omega)
  exact Nat.le_trans (Nat.le_add_right _ _) q

/-! ### a table in which all is found again -/
structure Tb (t : SetTable) (hs : List Int) : Prop where
  up : Ris t.place.toList
  nod : t.dummies = #[]
  len : t.place.size = hs.length
  msk : Msk t.mask
  low : ∀ x ∈ t.place.toList, x ≤ t.mask
  again : ∀ (i : Nat) (h : Int) (j : Nat), hs[i]? = some h → t.place.toList[i]? = some j → ∃ k, way t.mask h k = j ∧ ∀ c, c < k → way t.mask h c ∈ t.place.toList
/-- K is the first free step of h -/
structure Fst (t : SetTable) (h : Int) (K : Nat) : Prop where
  free : way t.mask h K ∉ t.place.toList
  full : ∀ c, c < K → way t.mask h c ∈ t.place.toList
theorem Tb.first {t : SetTable} {hs : List Int} (T : Tb t hs) (hl : hs.length ≤ t.mask) (h : Int) : ∃ K, K < 10 * SetTable.turns t.mask ∧ Fst t h K := by
  obtain ⟨j, hj, hn⟩ := st_missing t.place.toList (t.mask + 1) (by rw [Array.length_toList, T.len]; omega)
  obtain ⟨k, hk, e⟩ := T.msk.meets h (Nat.le_of_lt_succ hj)
  have start : way t.mask h k ∉ t.place.toList := fun z => hn (e ▸ z)
  obtain ⟨K, a, b, c⟩ := st_least (p := fun k => way t.mask h k ∉ t.place.toList) k start
  exact ⟨K, Nat.lt_of_le_of_lt a hk, b, fun q hq => Classical.byContradiction fun z => c q hq z⟩
/-- what has this hash stands ahead of the first free step -/
theorem Tb.ahead {t : SetTable} {hs : List Int} (T : Tb t hs) {h : Int} {K i j : Nat} (F : Fst t h K) (hi : hs[i]? = some h) (hj : t.place.toList[i]? = some j) : ∃ k, k < K ∧ way t.mask h k = j := by
  obtain ⟨k, e, b⟩ := T.again i h j hi hj
  refine ⟨k, ?_, e⟩
  rcases Nat.lt_or_ge k K with c | c
  · exact c
  · exfalso
    rcases Nat.lt_or_ge K k with d | d
    · exact F.free (b K d)
    · have ek : k = K := Nat.le_antisymm d c
      subst ek
      rw [← e] at hj
      exact F.free (List.mem_of_getElem? hj)
/-- how many stand ahead of the step's slot -/
abbrev bel (t : SetTable) (h : Int) (K : Nat) : Nat := SetTable.below t.place (way t.mask h K)
theorem Tb.bel_le {t : SetTable} {hs : List Int} (T : Tb t hs) (h : Int) (K : Nat) : bel t h K ≤ hs.length := by
  have q := (below_cut T.up (way t.mask h K)).1
  rw [← T.len]
  exact q
theorem Tb.put {t : SetTable} {hs : List Int} (T : Tb t hs) {h : Int} {K : Nat} (F : Fst t h K) : Tb (t.put (way t.mask h K)).1 (hs.take (bel t h K) ++ h :: hs.drop (bel t h K)) := by
  have pl := put_place t (way t.mask h K)
  have b1 := T.bel_le h K
  have len0 : t.place.toList.length = hs.length := by rw [Array.length_toList]; exact T.len
  have b2 : bel t h K ≤ t.place.toList.length := by rw [len0]; exact b1
  have more : ∀ {x : Nat}, x ∈ t.place.toList → x ∈ (t.put (way t.mask h K)).1.place.toList := fun {x} z => by
    rw [pl]
    exact mem_ins.2 (.inr z)
  refine ⟨ris_insert T.up fun z => ?_, put_dm T.nod _, ?_, T.msk, fun x z => ?_, fun i g j e1 e2 => ?_⟩
  · exact F.free (List.mem_of_getElem? (by rw [Array.getElem?_toList]; exact z))
  · rw [len_ins _ b1, ← Array.length_toList, pl, len_ins _ b2, len0]
  · rw [pl] at z
    rcases mem_ins.1 z with z | z
    · rw [z]
      exact way_in h K
    · exact T.low x z
  · rw [tins_get _ b1] at e1
    rw [pl, tins_get _ b2] at e2
    rcases Nat.lt_trichotomy i (bel t h K) with c | c | c
    · rw [if_pos c] at e1 e2
      obtain ⟨k, e, z⟩ := T.again i g j e1 e2
      exact ⟨k, e, fun q hq => more (z q hq)⟩
    · rw [if_neg (by omega), if_pos c] at e1 e2
      cases e1
      cases e2
      exact ⟨K, rfl, fun q hq => more (F.full q hq)⟩
    · rw [if_neg (by omega), if_neg (by omega)] at e1 e2
      obtain ⟨k, e, z⟩ := T.again (i - 1) g j e1 e2
      exact ⟨k, e, fun q hq => more (z q hq)⟩
theorem Tb.fill {t : SetTable} {hs : List Int} (T : Tb t hs) {h : Int} {K : Nat} (F : Fst t h K) : (t.put (way t.mask h K)).1.fill = hs.length + 1 := by
  have a := (T.put F).len
  rw [len_ins _ (T.bel_le h K)] at a
  show (t.put (way t.mask h K)).1.place.size + (t.put (way t.mask h K)).1.dummies.size = hs.length + 1
  rw [a, put_dm T.nod]
  rfl

/-! ### all laid anew -/
theorem find_free {m : Nat} (hm : Msk m) (owner : Array (Option Nat)) (h : Int) {j : Nat} (hj : j ≤ m) (hf : oAt owner j = none) :
    ∃ K, SetTable.layClean.free m owner (SetTable.turns m) (SetTable.bits h % (m + 1)) (SetTable.bits h) = some (way m h K) ∧ oAt owner (way m h K) = none ∧ ∀ c, c < K → oAt owner (way m h c) ≠ none := by
  obtain ⟨n, hn, e⟩ := hm.run h hj
  have there : way m h (off m (SetTable.bits h % (m + 1)) (SetTable.bits h) n) = j := by
    unfold way
    rw [nth_off, itL_run]
    exact e
  obtain ⟨K, a, b, c⟩ := st_least (p := fun k => oAt owner (way m h k) = none) _ (show oAt owner (way m h (off m (SetTable.bits h % (m + 1)) (SetTable.bits h) n)) = none by rw [there]; exact hf)
  refine ⟨K, free_spec m owner (SetTable.turns m) n _ _ K (by unfold SetTable.turns; omega) a (fun k hk => ?_) ?_, b, c⟩
  · have q := c k hk
    rw [Option.isNone_eq_false_iff]
    exact Option.isSome_iff_ne_none.mpr q
  · rw [Option.isNone_iff_eq_none]
    exact b
theorem own_step {m : Nat} (hm : Msk m) {done : List Int} {owner : Array (Option Nat)} (W : Own m done owner) (hl : done.length ≤ m) (h : Int) :
    ∃ j, SetTable.layClean.free m owner (SetTable.turns m) (SetTable.bits h % (m + 1)) (SetTable.bits h) = some j ∧ Own m (done ++ [h]) (owner.setIfInBounds j (some done.length)) := by
  obtain ⟨ps, n1, n2⟩ := W.ps
  obtain ⟨j0, l0, z0⟩ := st_missing ps (m + 1) (by omega)
  have f0 : oAt owner j0 = none := Classical.byContradiction fun z => z0 (n2 j0 (Nat.le_of_lt_succ l0) z)
  obtain ⟨K, e1, e2, e3⟩ := find_free hm owner h (Nat.le_of_lt_succ l0) f0
  have inside : way m h K < owner.size := by
    rw [W.sz]
    exact Nat.lt_succ_of_le (way_in h K)
  have here := oAt_set_self (some done.length) inside
  have stay : ∀ {i : Nat}, oAt owner i ≠ none → oAt (owner.setIfInBounds (way m h K) (some done.length)) i ≠ none := fun {i} z => by
    by_cases c : i = way m h K
    · rw [c, here]
      exact fun q => nomatch q
    · rw [oAt_set_ne _ c]
      exact z
  refine ⟨way m h K, e1, ?_, fun j k hj e => ?_, fun k hk => ?_, way m h K :: ps, ?_, fun j hj e => ?_⟩
  · rw [Array.size_setIfInBounds]
    exact W.sz
  · by_cases c : j = way m h K
    · rw [c, here] at e
      cases e
      exact ⟨h, K, by rw [List.getElem?_append_right (Nat.le_refl _), Nat.sub_self]; rfl, c.symm, fun q hq => stay (e3 q hq)⟩
    · rw [oAt_set_ne _ c] at e
      obtain ⟨g, L, a, b, d⟩ := W.at_ j k hj e
      exact ⟨g, L, by rw [List.getElem?_append_left (List.getElem?_eq_some_iff.mp a).1]; exact a, b, fun q hq => stay (d q hq)⟩
  · rw [List.length_append, List.length_singleton] at hk
    rcases Nat.lt_or_ge k done.length with c | c
    · obtain ⟨j, hj, e⟩ := W.all k c
      refine ⟨j, hj, ?_⟩
      rw [oAt_set_ne _ (fun z => by rw [z, e2] at e; cases e)]
      exact e
    · have ek : k = done.length := by omega
      subst ek
      exact ⟨_, way_in h K, here⟩
  · rw [List.length_cons, List.length_append, n1]
    rfl
  · by_cases c : j = way m h K
    · rw [c]
      exact List.mem_cons_self
    · rw [oAt_set_ne _ c] at e
      exact List.mem_cons_of_mem _ (n2 j hj e)
theorem fold_step {m : Nat} (hm : Msk m) : ∀ (rest done : List Int) (owner : Array (Option Nat)), Own m done owner → done.length + rest.length ≤ m →
    ∃ o2, rest.foldl (stepF m) (some (owner, done.length)) = some (o2, (done ++ rest).length) ∧ Own m (done ++ rest) o2
  | [], done, owner, W, _ => ⟨owner, by simp, by simpa using W⟩
  | h :: rest, done, owner, W, hl => by
    have hl' : done.length + (rest.length + 1) ≤ m := hl
    obtain ⟨j, e, W2⟩ := own_step hm W (by omega) h
    have grown : (done ++ [h]).length = done.length + 1 := by simp
    obtain ⟨o2, f, W3⟩ := fold_step hm rest (done ++ [h]) _ W2 (by rw [grown]; omega)
    rw [List.append_assoc] at f W3
    rw [grown] at f
    exact ⟨o2, (by rw [List.foldl_cons, stepF_some e]; exact f), W3⟩
theorem clean_ok {m : Nat} (hm : Msk m) {hs : Array Int} (hn : hs.size ≤ m) : ∃ owner, SetTable.layClean m hs = some owner ∧ Own m hs.toList owner := by
  obtain ⟨owner, f, W⟩ := fold_step hm hs.toList [] _ (Own.init m) (by rw [Array.length_toList]; simpa using hn)
  rw [List.nil_append] at f W
  refine ⟨owner, ?_, W⟩
  rw [layClean_eq]
  exact congrArg (Option.map (·.1)) f
theorem anew_ok (t : SetTable) {hs : Array Int} {wanted M : Nat} (hw : SetTable.sizeAbove wanted - 1 = M) (hM : Msk M) (hn : hs.size ≤ M) :
    ∃ t' order, t.relaid hs wanted = some (t', order) ∧ order.toList.Perm (List.range hs.size) ∧ Tb t' (order.toList.map fun i => hs.getD i 0) ∧ t'.mask = M ∧ t'.led = t.led ∧ t'.plain = t.plain := by
  obtain ⟨owner, e, W⟩ := clean_ok hM hn
  have made : t.relaid hs wanted = some (tabOf t M owner, ((liveOf M owner).map (·.2)).toArray) := by
    rw [relaid_eq, hw, e]
    rfl
  obtain ⟨rise, within⟩ := ris_live (fun j => owner.getD j none) (List.range (M + 1)) (by
    unfold Ris
    first | exact List.pairwise_lt_range | exact List.pairwise_lt_range _)
  have rise1 : Ris ((liveOf M owner).map (·.1)) := rise
  have within1 : ∀ x ∈ (liveOf M owner).map (·.1), x ∈ List.range (M + 1) := within
  have numbers : ∀ k, k < hs.size → k ∈ (liveOf M owner).map (·.2) := fun k hk => by
    obtain ⟨j, b1, b2⟩ := W.all k (by rw [Array.length_toList]; exact hk)
    exact List.mem_map.mpr ⟨(j, k), (mem_live W.sz).2 ⟨b1, b2⟩, rfl⟩
  have count : (liveOf M owner).length = hs.size := by
    obtain ⟨ps, p1, p2⟩ := W.ps
    have a := nat_nodup_len ((liveOf M owner).map (·.1)) ps (List.Pairwise.imp (fun {a b} (z : a < b) => Nat.ne_of_lt z) (show List.Pairwise (fun a b : Nat => a < b) ((liveOf M owner).map (·.1)) from rise1)) fun x hx => by
      obtain ⟨⟨y, k⟩, hq, ey⟩ := List.mem_map.mp hx
      cases ey
      obtain ⟨b1, b2⟩ := (mem_live W.sz).1 hq
      exact p2 _ b1 (by rw [b2]; exact fun z => nomatch z)
    have b := nat_nodup_len (List.range hs.size) ((liveOf M owner).map (·.2)) List.nodup_range fun k hk => numbers k (List.mem_range.mp hk)
    have hz : hs.toList.length = hs.size := Array.length_toList
    rw [List.length_map, p1, hz] at a
    rw [List.length_map, List.length_range] at b
    omega
  refine ⟨_, _, made, perm_range hs.size _ (by show ((liveOf M owner).map (·.2)).length = _; rw [List.length_map, count]) numbers, ⟨rise1, rfl, ?_, hM, fun x hx => Nat.le_of_lt_succ (List.mem_range.mp (within1 x hx)), fun i h j h1 h2 => ?_⟩, rfl, rfl, rfl⟩
  · show ((liveOf M owner).map (·.1)).toArray.size = (((liveOf M owner).map (·.2)).map fun i => hs.getD i 0).length
    simp
  · have g1 : (((liveOf M owner).map (·.2)).map fun i => hs.getD i 0)[i]? = some h := h1
    have g2 : ((liveOf M owner).map (·.1))[i]? = some j := h2
    rw [List.map_map, List.getElem?_map] at g1
    rw [List.getElem?_map] at g2
    obtain ⟨⟨y, k⟩, hq, ey⟩ := Option.map_eq_some_iff.mp g2
    rw [hq] at g1
    cases ey
    obtain ⟨b1, b2⟩ := (mem_live W.sz).1 (List.mem_of_getElem? hq)
    obtain ⟨h0, K, a1, a2, a3⟩ := W.at_ y k b1 b2
    have eh : h0 = h := by
      have z : hs.getD k 0 = h := Option.some.inj g1
      rw [← z, Array.getD_eq_getD_getElem?, ← Array.getElem?_toList, a1]
      rfl
    subst eh
    refine ⟨K, a2, fun c hc => ?_⟩
    show way M h0 c ∈ (liveOf M owner).map (·.1)
    obtain ⟨k2, z⟩ := Option.ne_none_iff_exists'.mp (a3 c hc)
    exact List.mem_map.mpr ⟨(way M h0 c, k2), (mem_live W.sz).2 ⟨way_in h0 c, z⟩, rfl⟩
theorem grown5 : SetTable.sizeAbove (SetTable.grown 5) = 32 := by decide +kernel
theorem grown19 : SetTable.sizeAbove (SetTable.grown 19) = 128 := by decide +kernel
theorem grown77 : SetTable.sizeAbove (SetTable.grown 77) = 512 := by decide +kernel
theorem grown307 : SetTable.sizeAbove (SetTable.grown 307) = 2048 := by decide +kernel
theorem grown1229 : SetTable.sizeAbove (SetTable.grown 1229) = 8192 := by decide +kernel
end Sx

/-! SxSet -/
/-! Sets of tuples of ints and texts, up to 4,000 of them. -/
namespace Sx
open PySem PySem.Spec PyProof.Rows L2

/-- the tuple at a has the keys k -/
abbrev IsK (P : Program) (w : World) (h : Heap) (k : List Key) (a : Addr) : Prop := IsTupleKey (mixKind P w) h k a
abbrev kh (P : Program) (w : World) (k : List Key) : Int := tupleKeyHash (mixKind P w) k

section
variable {P : Program} {w : World} {A : Around} {E : Value → Shared → Prop} {s : Shared}
/-- ints and texts: what the model asks of an item -/
theorem flat_items {k : List Key} {vs : List Value} (h : ItemsAre (mixKind P w) k vs) : ∀ v ∈ vs, (∀ n, ofAClassStatement n v = pure false) ∧ ∀ n, hashByValue n v = pure (plainKind v) := by
  induction h with
  | nil => exact fun v hv => nomatch hv
  | @cons k0 u ks us h1 _ ih =>
    intro v hv
    rcases List.mem_cons.mp hv with e | hv
    · subst e
      rcases keyIs_shape (k := k0) (v := v) h1 with ⟨i, t, _, e⟩ | ⟨x, t, _, e⟩ <;> subst e <;> exact ⟨fun n => by cases n <;> rfl, fun n => hashByValue_scannable n rfl⟩
    · exact ih v hv
theorem noClass {k : List Key} {b : Addr} {Q : Bool → Shared → Prop} (hk : IsK P w s.heap k b) (h : Q false s) : wpAny (model P w) A (ofAClassStatement 8 (.ref b)) Q E s := by
  have hT := hk.typeIs
  obtain ⟨o, its, n, ho, _, hd, hi⟩ := hk
  unfold ofAClassStatement
  refine wpAny_bind (wpAny_typeOf hT ?_)
  have e : (("tuple" : String) == "tuple") = true := by decide
  simp only [e, if_true, Bool.not_true, Bool.false_eq_true, if_false]
  try refine wpAny_bind (wpAny_pure ?_)
  try simp only [Bool.not_true, Bool.false_eq_true, if_false]
  show wpAny _ _ (seqItems? (.ref b) >>= _) _ _ s
  refine wpAny_bind (wpAny_seqItems ho hd (wpAny_bind ?_))
  show wpAny _ _ (forIn its _ _) _ _ s
  rw [← Array.forIn_toList]
  refine wpAny_forIn_list _ (fun left r s' => (r.1 = none ∧ s' = s) ∧ ∀ v ∈ left, ofAClassStatement 7 v = pure false) _ ?_ ?_ _ _ ⟨⟨rfl, rfl⟩, fun v hv => (flat_items hi v hv).1 7⟩
  · rintro v left r s' ⟨⟨hr, e⟩, every⟩
    subst e
    rw [every v List.mem_cons_self]
    refine wpAny_bind (wpAny_pure ?_)
    simp only [Bool.false_eq_true, if_false]
    exact wpAny_pure ⟨⟨rfl, rfl⟩, fun u hu => every u (List.mem_cons_of_mem _ hu)⟩
  · rintro ⟨r1, r2⟩ s' ⟨⟨hr, e⟩, _⟩
    subst e
    simp only at hr
    subst hr
    exact wpAny_pure h
theorem byValue {k : List Key} {b : Addr} {Q : Bool → Shared → Prop} (hk : IsK P w s.heap k b) (h : ∀ y, Q y s) : wpAny (model P w) A (hashByValue 8 (.ref b)) Q E s := by
  have hT := hk.typeIs
  obtain ⟨o, its, n, ho, _, hd, hi⟩ := hk
  unfold hashByValue
  refine wpAny_bind (wpAny_specialOf hT F.slot_tuple_hash.lookup ?_)
  show wpAny _ _ (seqItems? (.ref b) >>= _) _ _ s
  refine wpAny_bind (wpAny_seqItems ho hd (wpAny_bind ?_))
  show wpAny _ _ (forIn its _ _) _ _ s
  rw [← Array.forIn_toList]
  refine wpAny_forIn_list _ (fun left r s' => (r.1 = none ∧ s' = s) ∧ ∀ v ∈ left, hashByValue 7 v = pure (plainKind v)) _ ?_ ?_ _ _ ⟨⟨rfl, rfl⟩, fun v hv => (flat_items hi v hv).2 7⟩
  · rintro v left r s' ⟨⟨hr, e⟩, every⟩
    subst e
    rw [every v List.mem_cons_self]
    refine wpAny_bind (wpAny_pure ?_)
    cases plainKind v with
    | true =>
      simp only [Bool.not_true, Bool.false_eq_true, if_false]
      exact wpAny_pure ⟨⟨rfl, rfl⟩, fun u hu => every u (List.mem_cons_of_mem _ hu)⟩
    | false =>
      simp only [Bool.not_false, if_true]
      refine wpAny_pure ?_
      show wpAny _ _ (pure false) _ _ _
      exact wpAny_pure (h false)
  · rintro ⟨r1, r2⟩ s' ⟨⟨hr, e⟩, _⟩
    subst e
    simp only at hr
    subst hr
    exact wpAny_pure (h true)
/-- looking for such a tuple among such tuples shows nothing -/
theorem unseen {k : List Key} {b : Addr} {Q : Bool → Shared → Prop} (hk : IsK P w s.heap k b) {ys : List Value} (hy : ∀ y ∈ ys, ∃ g c, y = Value.ref c ∧ IsK P w s.heap g c) (h : Q false s) :
    wpAny (model P w) A (searchCouldBeSeen (.ref b) ys) Q E s := by
  unfold searchCouldBeSeen
  refine wpAny_bind ?_
  refine wpAny_forIn_list _ (fun left r s' => (r.1 = none ∧ s' = s) ∧ ∀ y ∈ left, ∃ g c, y = Value.ref c ∧ IsK P w s.heap g c) _ ?_ ?_ _ _ ⟨⟨rfl, rfl⟩, hy⟩
  · rintro v left r s' ⟨⟨hr, e⟩, every⟩
    subst e
    obtain ⟨g, c, ev, hc⟩ := every v List.mem_cons_self
    subst ev
    have others := fun u (hu : u ∈ left) => every u (List.mem_cons_of_mem _ hu)
    dsimp only
    by_cases hv : (b == c || (carriedByValue (.ref b) && carriedByValue (.ref c))) = true
    · exact wp_if_pos hv (wpAny_pure ⟨⟨rfl, rfl⟩, others⟩)
    · refine wp_if_neg hv (wpAny_bind (wpAny_eqIsQuiet_tuple hk ?_))
      simp only [Bool.not_true, Bool.false_eq_true, if_false]
      refine wpAny_bind (wpAny_eqIsQuiet_tuple hc ?_)
      simp only [Bool.not_true, Bool.false_eq_true, if_false]
      refine wpAny_bind (noClass hk ?_)
      simp only [Bool.false_eq_true, if_false]
      refine wpAny_bind (noClass hc ?_)
      simp only [Bool.false_eq_true, if_false]
      exact wpAny_pure ⟨⟨rfl, rfl⟩, others⟩
  · rintro ⟨r1, r2⟩ s' ⟨⟨hr, e⟩, _⟩
    subst e
    simp only at hr
    subst hr
    exact wpAny_pure h

/-! ### what such a set is -/
abbrev Row := Addr × List Key
def rows (P : Program) (w : World) (L : List Row) : List (Int × Value) := L.map fun p => (kh P w p.2, Value.ref p.1)
def hs (P : Program) (w : World) (L : List Row) : List Int := L.map fun p => kh P w p.2
/-- the set at a, without its tuples -/
structure SetX (P : Program) (w : World) (h : Heap) (a : Addr) (L : List Row) (es : Array (Int × Value)) (ep : Nat) (t : SetTable) : Prop where
  obj : ∃ o, h.get? a = some o ∧ o.ExactSet ∧ o.data = .set es ep t
  are : es.toList = rows P w L
  tab : Tb t (hs P w L)
  one : (L.map (·.2)).Nodup
  led : w.params.followText "set-order" = true ∨ t.led = true
  room : L.length * 5 < t.mask * 3
  few : L.length ≤ 4000
def Tups (P : Program) (w : World) (h : Heap) (L : List Row) : Prop := ∀ p ∈ L, IsK P w h p.2 p.1
variable {a : Addr} {L : List Row} {es : Array (Int × Value)} {ep : Nat} {t : SetTable}
theorem rows_len {es : Array (Int × Value)} (e : es.toList = rows P w L) : es.size = L.length := by
  rw [← Array.length_toList, e]
  exact List.length_map _
theorem hs_len : (hs P w L).length = L.length := List.length_map _
theorem SetX.fits (R : SetX P w s.heap a L es ep t) : t.fits es.size = true := by
  have h1 := R.tab.len
  rw [hs_len] at h1
  have h2 := rows_len R.are
  have h3 := R.room
  unfold SetTable.fits SetTable.fill
  rw [R.tab.nod, Bool.and_eq_true, beq_iff_eq, decide_eq_true_eq]
  exact ⟨by omega, by show t.place.size + 0 ≤ t.mask; omega⟩
theorem row_at {es : Array (Int × Value)} (e : es.toList = rows P w L) {i : Nat} {p : Row} (h : L[i]? = some p) : es[i]? = some (kh P w p.2, Value.ref p.1) := by
  rw [← Array.getElem?_toList, e]
  show (L.map _)[i]? = _
  rw [List.getElem?_map, h]
  rfl
theorem SetX.calm (R : SetX P w s.heap a L es ep t) : ¬ t.gaveWay = true := by
  unfold SetTable.gaveWay
  rw [R.tab.msk.odd]
  decide

/-! ### the search -/
abbrev hAt (es : Array (Int × Value)) (i : Nat) : Int := (es[i]?.map (·.1)).getD 0
/-- the q-th state of the search for h -/
abbrev stp (m : Nat) (h : Int) (q : Nat) : SetTable.Probe := nth m (runAt m (SetTable.bits h % (m + 1)) (SetTable.bits h)) q
theorem stp_dummy (m : Nat) (h : Int) : ∀ q, (stp m h q).dummy = none
  | 0 => rfl
  | q + 1 => by
    show (nth m _ (q + 1)).dummy = none
    rw [nth_succ]
    unfold adv
    split <;> exact stp_dummy m h q
theorem stp_on (m : Nat) (h : Int) (c q : Nat) : nth m (stp m h c) q = stp m h (c + q) := (nth_add m c _ q).symm
theorem seek (R : SetX P w s.heap a L es ep t) (Ts : Tups P w s.heap L) {x : Addr} {k : List Key} (hx : IsK P w s.heap k x) (hu : A.units < cLine) {K : Nat} (hKf : K < 10 * SetTable.turns t.mask) (F : Fst t (kh P w k) K)
    {Q : SetFound → Shared → Prop} (hin : k ∈ L.map (·.2) → Q (.there none) s) (hout : k ∉ L.map (·.2) → Q (.free (way t.mask (kh P w k) K) false) s) :
    ∀ (f c : Nat) (at_ : Option SetTable.Probe), at_.getD (t.probeStart (kh P w k)) = stp t.mask (kh P w k) c → c ≤ K → K - c < f →
      (∀ (i : Nat) (p : Row), L[i]? = some p → p.2 = k → ∃ c', c ≤ c' ∧ c' < K ∧ t.place.toList[i]? = some (way t.mask (kh P w k) c')) →
      wpAny (model P w) A (setSearchFrom a (.ref x) (kh P w k) true f at_) Q E s
  | 0, c, _, _, _, hf, _ => absurd hf (Nat.not_lt_zero _)
  | f + 1, c, at_, hst, hc, hf, hre => by
    obtain ⟨o, ho, hex, hd⟩ := R.obj
    rw [setSearchFrom_succ]
    refine wpAny_bind (wpAny_setState_of ho hd R.fits ?_)
    refine wp_if_neg R.calm ?_
    try refine wpAny_bind (wpAny_pure ?_)
    have slotOf : ∀ q, (nth t.mask (stp t.mask (kh P w k) c) q).j = way t.mask (kh P w k) (c + q) := fun q => congrArg SetTable.Probe.j (stp_on _ _ c q)
    have toK : c + (K - c) = K := by omega
    have found := go_spec t R.tab.up R.tab.nod (fun i => (es[i]?.map (·.1)).getD 0) (kh P w k) (10 * SetTable.turns t.mask) (K - c) (stp t.mask (kh P w k) c) (stp_dummy _ _ _) (by omega)
      (fun q hq => by rw [slotOf]; exact F.full _ (by omega)) (by rw [slotOf, toK]; exact F.free)
    have hashAt : ∀ (i : Nat) (p : Row), L[i]? = some p → hAt es i = kh P w p.2 := fun i p hp => by
      unfold hAt
      rw [row_at R.are hp]
      rfl
    -- what has the key isn't passed
    have passed : ∀ {q' i0 : Nat} {p0 : Row}, L[i0]? = some p0 → p0.2 = k → (∀ c' i', c' < q' → t.place.toList[i']? = some (nth t.mask (stp t.mask (kh P w k) c) c').j → hAt es i' ≠ kh P w k) →
        ∀ {c' : Nat}, c ≤ c' → t.place.toList[i0]? = some (way t.mask (kh P w k) c') → c' < c + q' → False := fun {q' i0 p0} h0 e0 no {c'} l1 l2 l3 => by
      refine no (c' - c) i0 (by omega) (by rw [slotOf, Nat.add_sub_of_le l1]; exact l2) ?_
      rw [hashAt i0 p0 h0, e0]
    rcases found with ⟨q, i, hq, hi, hh, no, e⟩ | ⟨no, e⟩
    · have e' : t.probe (fun i => (es[i]?.map (·.1)).getD 0) (kh P w k) (at_.getD (t.probeStart (kh P w k))) = some (.candidate (way t.mask (kh P w k) (c + q)) i (stp t.mask (kh P w k) (c + (q + 1)))) := by
        rw [hst]
        unfold SetTable.probe
        rw [e, slotOf, stp_on]
      rw [e']
      rw [slotOf] at hi
      have hiL : i < L.length := by
        have h1 := (List.getElem?_eq_some_iff.mp hi).1
        have h2 := R.tab.len
        rw [hs_len] at h2
        rw [Array.length_toList] at h1
        omega
      obtain ⟨p, hp⟩ : ∃ p, L[i]? = some p := ⟨_, List.getElem?_eq_getElem hiL⟩
      have pm : p ∈ L := List.mem_of_getElem? hp
      have live : t.slot (way t.mask (kh P w k) (c + q)) = .live i := slot_live R.tab.up hi
      have tail : wpAny (model P w) A (searchRest a (.ref x) (kh P w k) true f es t (way t.mask (kh P w k) (c + q)) i (stp t.mask (kh P w k) (c + (q + 1)))) Q E s := by
        unfold searchRest
        rw [row_at R.are hp]
        refine wpAny_bind (wpAny_holding (wpAny_eqBool_tuple hu (Ts p pm) hx ?_))
        refine wpAny_bind (wpAny_setState_of ho hd R.fits ?_)
        by_cases same : p.2 = k
        · refine wp_if_pos (by simp [same]) (wpAny_pure (hin ?_))
          exact List.mem_map.mpr ⟨p, pm, same⟩
        · refine wp_if_neg (by simp [same]) ?_
          try refine wpAny_bind (wpAny_pure ?_)
          rw [sameMem]
          simp only [if_true, live, row_at R.are hp]
          refine wpAny_bind (wpAny_isSame_ref_self (wpAny_bind (wpAny_pure ?_)))
          simp only [if_true]
          refine wp_if_neg (by simp [same]) ?_
          refine seek R Ts hx hu hKf F hin hout f (c + (q + 1)) _ rfl (by omega) (by omega) fun i0 p0 h0 e0 => ?_
          obtain ⟨c', l1, l2, l3⟩ := hre i0 p0 h0 e0
          refine ⟨c', ?_, l2, l3⟩
          rcases Nat.lt_trichotomy c' (c + q) with z | z | z
          · exact (passed (q' := q) h0 e0 no l1 l3 z).elim
          · rw [z] at l3
            have z2 := slot_live R.tab.up l3
            rw [live] at z2
            cases z2
            rw [hp] at h0
            cases h0
            exact absurd e0 same
          · omega
      by_cases hl : t.led = true
      · refine wp_if_neg (by simp [hl]) ?_
        try refine wpAny_bind (wpAny_pure ?_)
        exact tail
      · refine wp_if_pos (by simp [hl]) (wpAny_bind (unseen hx (fun y hy => ?_) ?_))
        · obtain ⟨e1, h1, h2⟩ := List.mem_map.mp hy
          have h3 : e1 ∈ es.toList := by
            have : e1 ∈ es ∧ e1.1 = kh P w k := by simpa using h1
            simpa using this.1
          rw [R.are] at h3
          obtain ⟨p2, hp2, e2⟩ := List.mem_map.mp h3
          exact ⟨p2.2, p2.1, by rw [← h2, ← e2], Ts p2 hp2⟩
        · refine wp_if_neg (by decide) ?_
          try refine wpAny_bind (wpAny_pure ?_)
          exact tail
    · have e' : t.probe (fun i => (es[i]?.map (·.1)).getD 0) (kh P w k) (at_.getD (t.probeStart (kh P w k))) = some (.empty (way t.mask (kh P w k) K) none) := by
        rw [hst]
        unfold SetTable.probe
        rw [e, slotOf, toK]
      rw [e']
      refine wpAny_pure (hout fun hm => ?_)
      obtain ⟨p0, m0, e0⟩ := List.mem_map.mp hm
      obtain ⟨i0, h0⟩ := List.getElem?_of_mem m0
      obtain ⟨c', l1, l2, l3⟩ := hre i0 p0 h0 e0
      exact passed (q' := K - c) h0 e0 no l1 l3 (by omega)
theorem seek0 (R : SetX P w s.heap a L es ep t) (Ts : Tups P w s.heap L) {x : Addr} {k : List Key} (hx : IsK P w s.heap k x) (hu : A.units < cLine) {Q : SetFound → Shared → Prop}
    (hin : k ∈ L.map (·.2) → Q (.there none) s) (hout : ∀ K, k ∉ L.map (·.2) → Fst t (kh P w k) K → Q (.free (way t.mask (kh P w k) K) false) s) :
    wpAny (model P w) A (setSearch a (.ref x) (kh P w k) true) Q E s := by
  have room := R.room
  obtain ⟨K, hKf, F⟩ := R.tab.first (by rw [hs_len]; omega) (kh P w k)
  have big := R.tab.msk.big
  unfold setSearch
  refine seek R Ts hx hu hKf F hin (fun z => hout K z F) 100000 0 none rfl (Nat.zero_le _) (by unfold SetTable.turns at hKf; omega) fun i p hp e => ?_
  have h1 : (hs P w L)[i]? = some (kh P w k) := by
    show (L.map _)[i]? = _
    rw [List.getElem?_map, hp, ← e]
    rfl
  have h2 : i < t.place.toList.length := by
    have z := R.tab.len
    rw [hs_len] at z
    have y := (List.getElem?_eq_some_iff.mp hp).1
    rw [Array.length_toList]
    omega
  obtain ⟨c, hc, ec⟩ := R.tab.ahead F h1 (List.getElem?_eq_getElem h2)
  exact ⟨c, Nat.zero_le _, hc, by rw [ec]; exact List.getElem?_eq_getElem h2⟩
end

/-! ### laying anew, adding -/
section
variable {P : Program} {w : World} {A : Around} {E : Value → Shared → Prop} {s : Shared} {a : Addr} {L : List Row} {es : Array (Int × Value)} {ep : Nat} {t : SetTable}
/-- a tuple isn't the set, so it stays -/
theorem isK_but {h h' : Heap} {k : List Key} {b : Addr} {o : Obj} (hb : IsK P w h k b) (ho : h.get? a = some o) (hd : o.data = .set es ep t) (sb : Heap.SameBut a h h') : IsK P w h' k b := by
  obtain ⟨ob, its, n, e, c, d, i⟩ := hb
  refine ⟨ob, its, n, (sb.2 b fun z => ?_).trans e, c, d, i⟩
  subst z
  rw [ho] at e
  cases e
  rw [hd] at d
  cases d
theorem isK_stay {h h' : Heap} {k : List Key} {b : Addr} (x : IsK P w h k b) (hk : ∀ c o, h.get? c = some o → h'.get? c = some o) : IsK P w h' k b := by
  obtain ⟨o, its, n, ho, r⟩ := x
  exact ⟨o, its, n, hk b o ho, r⟩
theorem ordered (L : List Row) {es : Array (Int × Value)} {order : Array Nat} (hr : es.toList = rows P w L) (hp : order.toList.Perm (List.range L.length)) :
    ∃ L2 : List Row, (order.filterMap (es[·]?)).toList = rows P w L2 ∧ L2.Perm L ∧ hs P w L2 = order.toList.map fun i => (es.map (·.1)).getD i 0 := by
  have each : ∀ l : List Nat, (∀ i ∈ l, i < L.length) → l.filterMap (fun i => es[i]?) = rows P w (l.filterMap fun i => L[i]?) ∧ hs P w (l.filterMap fun i => L[i]?) = l.map fun i => (es.map (·.1)).getD i 0 := by
    intro l
    induction l with
    | nil => exact fun _ => ⟨rfl, rfl⟩
    | cons i l ih =>
      intro hl
      obtain ⟨p, hp⟩ : ∃ p, L[i]? = some p := ⟨_, List.getElem?_eq_getElem (hl i List.mem_cons_self)⟩
      obtain ⟨e1, e2⟩ := ih fun j hj => hl j (List.mem_cons_of_mem _ hj)
      have er := row_at hr hp
      have eh : (es.map (·.1)).getD i 0 = kh P w p.2 := by
        rw [Array.getD_eq_getD_getElem?, Array.getElem?_map, er]
        rfl
      rw [List.filterMap_cons_some er, List.filterMap_cons_some hp, e1, List.map_cons, ← e2, eh]
      exact ⟨rfl, rfl⟩
  obtain ⟨e1, e2⟩ := each order.toList fun i hi => List.mem_range.mp (hp.mem_iff.mp hi)
  refine ⟨_, by first | (rw [Array.toList_filterMap]; exact e1) | simpa using e1, ?_, e2⟩
  have whole : ∀ n, n ≤ L.length → (List.range n).filterMap (fun i => L[i]?) = L.take n := by
    intro n
    induction n with
    | zero => exact fun _ => rfl
    | succ n ih =>
      intro hn
      rw [List.range_succ, List.filterMap_append, ih (Nat.le_of_lt hn), List.take_succ, List.getElem?_eq_getElem hn, List.filterMap_cons_some (List.getElem?_eq_getElem hn)]
      rfl
  have z := hp.filterMap fun i => L[i]?
  rw [whole L.length (Nat.le_refl _), List.take_length] at z
  exact z
/-- behind a store -/
theorem stored {o : Obj} {es es' : Array (Int × Value)} {t t' : SetTable} (ho : s.heap.get? a = some o) (hd : o.data = .set es ep t) : (s.heap.update a (Obj.putSet es' t')).get? a = some { o with data := .set es' (ep + 1) t' } := store_at ho hd
theorem relay {o : Obj} (ho : s.heap.get? a = some o) (hex : o.ExactSet) (hd : o.data = .set es ep t) (are : es.toList = rows P w L) (hfit : t.fits es.size = true) (one : (L.map (·.2)).Nodup)
    (ld : w.params.followText "set-order" = true ∨ t.led = true) (few : L.length ≤ 4000) {wanted M : Nat}
    (hw : SetTable.sizeAbove wanted = M + 1) (hM : Msk M) (hn : L.length * 5 < M * 3) {Q : Unit → Shared → Prop}
    (hQ : ∀ h' L' es' ep' t', Heap.SameBut a s.heap h' → SetX P w h' a L' es' ep' t' → L'.Perm L → Q () { s with heap := h' }) : wpAny (model P w) A (setRelay a wanted) Q E s := by
  have size := rows_len are
  have big := hM.big
  obtain ⟨t', order, e, hp, T, em, el, ep'⟩ := anew_ok t (hs := es.map (·.1)) (wanted := wanted) (M := M) (by omega) hM (by rw [Array.size_map]; omega)
  rw [Array.size_map, size] at hp
  obtain ⟨L2, r1, r2, r3⟩ := ordered L are hp
  rw [← r3] at T
  have size2 : (order.filterMap (es[·]?)).size = es.size := by rw [rows_len r1, r2.length_eq, size]
  rw [setRelay_eq]
  refine wpAny_bind (wpAny_setState_of ho hd hfit ?_)
  refine wp_if_neg (by rw [sizeLine_eq]; omega) ?_
  try refine wpAny_bind (wpAny_pure ?_)
  rw [e]
  refine wpAny_bind (wp_if_neg (by rw [size2]; simp) ?_)
  try refine wpAny_bind (wpAny_pure ?_)
  refine wpAny_pure ?_
  refine wpAny_storeSet_of ho hd ?_ (by rw [size2, size, sizeLine_eq]; omega)
  refine hQ _ L2 _ (ep + 1) t' (Heap.SameBut.update ..) ⟨⟨_, stored ho hd, ⟨hex.1, hex.2.1, hex.2.2⟩, rfl⟩, r1, T, (r2.map (·.2)).nodup_iff.mpr one, by rw [el]; exact ld, ?_, by rw [r2.length_eq]; exact few⟩ r2
  rw [r2.length_eq, em]
  exact hn
theorem adding (R : SetX P w s.heap a L es ep t) (Ts : Tups P w s.heap L) {x : Addr} {k : List Key} (hx : IsK P w s.heap k x) (hu : A.units < cLine) (hfew : L.length < 4000) {Q : Bool → Shared → Prop}
    (hQ : ∀ b h' L' es' ep' t', Heap.SameBut a s.heap h' → SetX P w h' a L' es' ep' t' → (k ∈ L.map (·.2) → L' = L) → (k ∉ L.map (·.2) → L'.Perm ((x, k) :: L)) → Q b { s with heap := h' }) :
    wpAny (model P w) A (setAddHashed a (.ref x) (kh P w k)) Q E s := by
  obtain ⟨o, ho, hex, hd⟩ := R.obj
  have size := rows_len R.are
  have room := R.room
  unfold setAddHashed
  refine wpAny_holding ?_
  rw [show (100000 : Nat) = 99999 + 1 from rfl, setAddHashedIn_succ]
  refine wpAny_bind (wpAny_setState_of ho hd R.fits ?_)
  refine wp_if_neg (by simp [byScan, Value.scannable]) ?_
  try refine wpAny_bind (wpAny_pure ?_)
  refine wpAny_bind (seek0 R Ts hx hu (fun hm => ?_) fun K hm F => ?_)
  · exact wpAny_pure (hQ false s.heap L es ep t (Heap.SameBut.refl a s.heap) R (fun _ => rfl) fun z => absurd hm z)
  · refine wpAny_bind (wpAny_setState_of ho hd R.fits ?_)
    dsimp only
    have T1 := R.tab.put F
    have f1 := R.tab.fill F
    have isP : (t.put (way t.mask (kh P w k) K)).2 = bel t (kh P w k) K := rfl
    have ld1 : w.params.followText "set-order" = true ∨ (t.put (way t.mask (kh P w k) K)).1.led = true := R.led
    have m1 : (t.put (way t.mask (kh P w k) K)).1.mask = t.mask := rfl
    have b1 := R.tab.bel_le (kh P w k) K
    generalize bel t (kh P w k) K = p at T1 isP b1
    generalize t.put (way t.mask (kh P w k) K) = pt at T1 f1 isP ld1 m1 ⊢
    obtain ⟨t1, p1⟩ := pt
    dsimp only at T1 f1 isP ld1 m1 ⊢
    subst isP
    have any : ∀ y : Bool, ∃ t2, (if y = true then t1 else { t1 with plain := false }) = t2 ∧ Tb t2 ((hs P w L).take p1 ++ kh P w k :: (hs P w L).drop p1) ∧ t2.fill = (hs P w L).length + 1 ∧ (w.params.followText "set-order" = true ∨ t2.led = true) ∧ t2.mask = t.mask := fun y => by
      cases y with
      | true => exact ⟨t1, rfl, T1, f1, ld1, m1⟩
      | false => exact ⟨_, rfl, ⟨T1.up, T1.nod, T1.len, T1.msk, T1.low, T1.again⟩, f1, ld1, m1⟩
    have are1 : (SetTable.insertAt es p1 (kh P w k, Value.ref x)).toList = rows P w (L.take p1 ++ (x, k) :: L.drop p1) := by
      rw [SetTable.toList_insertAt, R.are]
      unfold rows
      rw [List.map_append, List.map_cons, List.map_take, List.map_drop]
    have pm : (L.take p1 ++ (x, k) :: L.drop p1).Perm ((x, k) :: L) := by
      have z : (L.take p1 ++ (x, k) :: L.drop p1).Perm ((x, k) :: (L.take p1 ++ L.drop p1)) := List.perm_middle
      rw [List.take_append_drop] at z
      exact z
    have hs1 : hs P w (L.take p1 ++ (x, k) :: L.drop p1) = (hs P w L).take p1 ++ kh P w k :: (hs P w L).drop p1 := by
      unfold hs
      rw [List.map_append, List.map_cons, List.map_take, List.map_drop]
    rw [← hs1] at any
    have one1 : ((L.take p1 ++ (x, k) :: L.drop p1).map (·.2)).Nodup := (pm.map (·.2)).nodup_iff.mpr (List.nodup_cons.mpr ⟨hm, R.one⟩)
    have len1 := pm.length_eq
    have size1 := rows_len are1
    generalize SetTable.insertAt es p1 (kh P w k, Value.ref x) = es1 at are1 size1 ⊢
    generalize L.take p1 ++ (x, k) :: L.drop p1 = L1 at pm len1 any one1 are1 size1
    rw [List.length_cons] at len1
    have go0 : ∀ y : Bool, wpAny (model P w) A (do
        storeSet a es1 (if y = true then t1 else { t1 with plain := false })
        if (!false && (if y = true then t1 else { t1 with plain := false }).tooFull) = true then setRelay a (SetTable.grown (es.size + 1))
        return true) Q E s := fun y => by
      obtain ⟨t2, et, T1, f1, ld1, m1⟩ := any y
      rw [et]
      clear et any
      rw [hs_len] at f1
      revert T1 f1 ld1 m1
      generalize t2 = t1
      intro T1 f1 ld1 m1
      refine wpAny_bind (wpAny_storeSet_of ho hd ?_ (by rw [size1, sizeLine_eq]; omega))
      have sb : Heap.SameBut a s.heap (s.heap.update a (Obj.putSet es1 t1)) := Heap.SameBut.update ..
      have ho1 := stored (es' := es1) (t' := t1) ho hd
      generalize s.heap.update a (Obj.putSet es1 t1) = h1 at sb ho1 ⊢
      by_cases hf : t1.tooFull = true
      · first
          | (refine wpAny_bind ?_; refine wp_if_pos (by simp [hf]) ?_)
          | (refine wp_if_pos (by simp [hf]) ?_; refine wpAny_bind ?_)
        have full : (L.length + 1) * 5 ≥ t1.mask * 3 := by
          have z := hf
          unfold SetTable.tooFull at z
          rw [decide_eq_true_eq, f1] at z
          exact z
        rw [m1] at full
        rw [size]
        have hfit1 : t1.fits es1.size = true := by
          have z := T1.len
          rw [hs_len] at z
          unfold SetTable.fits SetTable.fill
          rw [T1.nod, Bool.and_eq_true, beq_iff_eq, decide_eq_true_eq]
          have big := R.tab.msk.odd
          refine ⟨by omega, ?_⟩
          show t1.place.size + 0 ≤ t1.mask
          rcases R.tab.msk with e | e | e | e | e | e <;> omega
        have go : ∀ M, SetTable.sizeAbove (SetTable.grown (L.length + 1)) = M + 1 → Msk M → (L.length + 1) * 5 < M * 3 →
            wpAny (model P w) A (setRelay a (SetTable.grown (L.length + 1))) (fun _ s' => wpAny (model P w) A (pure true) Q E s') E { s with heap := h1 } := fun M w1 w2 w3 => by
          refine relay (s := { s with heap := h1 }) ho1 ⟨hex.1, hex.2.1, hex.2.2⟩ rfl are1 hfit1 one1 ld1 (by omega) w1 w2 (by rw [len1]; exact w3) ?_
          intro h2 L2 es2 ep2 t2 sb2 R2 pm2
          exact wpAny_pure (hQ true h2 L2 es2 ep2 t2 (sb.trans sb2) R2 (fun z => absurd z hm) fun _ => pm2.trans pm)
        rcases R.tab.msk with e | e | e | e | e | e
        · have l4 : L.length = 4 := by omega
          exact go 31 (by rw [l4, grown5]) (.inr (.inl rfl)) (by omega)
        · have l4 : L.length = 18 := by omega
          exact go 127 (by rw [l4, grown19]) (.inr (.inr (.inl rfl))) (by omega)
        · have l4 : L.length = 76 := by omega
          exact go 511 (by rw [l4, grown77]) (.inr (.inr (.inr (.inl rfl)))) (by omega)
        · have l4 : L.length = 306 := by omega
          exact go 2047 (by rw [l4, grown307]) (.inr (.inr (.inr (.inr (.inl rfl))))) (by omega)
        · have l4 : L.length = 1228 := by omega
          exact go 8191 (by rw [l4, grown1229]) (.inr (.inr (.inr (.inr (.inr rfl))))) (by omega)
        · omega
      · first
          | refine wp_if_neg (by simp [hf]) ?_
          | (refine wpAny_bind ?_; refine wp_if_neg (by simp [hf]) ?_; refine wpAny_pure ?_)
        refine wpAny_pure (hQ true h1 L1 es1 (ep + 1) t1 sb ⟨⟨_, ho1, ⟨hex.1, hex.2.1, hex.2.2⟩, rfl⟩, are1, T1, one1, ld1, ?_, by omega⟩ (fun z => absurd z hm) fun _ => pm)
        have z := hf
        unfold SetTable.tooFull at z
        rw [decide_eq_true_eq, f1] at z
        omega
    by_cases pl : t1.plain = true
    · first
        | (refine wpAny_bind ?_; refine wp_if_pos pl ?_; exact byValue hx go0)
        | refine wp_if_pos pl (wpAny_bind (byValue hx go0))
    · first
        | (refine wpAny_bind ?_; refine wp_if_neg pl ?_; exact wpAny_pure (go0 true))
        | refine wp_if_neg pl (wpAny_bind (wpAny_pure (go0 true)))
end
end Sx

/-! SxComp -/
/-! Set comprehensions whose elements are tuples of ints and texts. -/
namespace Sx
open PySem PySem.Spec PyProof.Rows L2

/-- the set of tuples at a: its rows -/
def SetK (P : Program) (w : World) (a : Addr) (L : List Row) : HO := .ext fun h => ∃ es ep t, SetX P w h a L es ep t
theorem setK_ok {P : Program} {w : World} {H : Hp} {h : Heap} {a : Addr} {L : List Row} {es : Array (Int × Value)} {ep : Nat} {t : SetTable} (R : SetX P w h a L es ep t) : ObjOk P w H h a (SetK P w a L) := by
  refine ⟨⟨es, ep, t, R⟩, ?_, fun h1 h2 p k => ?_⟩
  · obtain ⟨o, ho, _⟩ := R.obj
    exact ⟨o, ho⟩
  · obtain ⟨es, ep, t, R1⟩ := p
    obtain ⟨o, ho, r⟩ := R1.obj
    exact ⟨es, ep, t, ⟨o, k o ho, r⟩, R1.are, R1.tab, R1.one, R1.led, R1.room, R1.few⟩
theorem items_mix {P : Program} {w : World} : ∀ {k : List Key} {us : List Value}, Vals (k.map kV) us → ItemsAre (mixKind P w) k us
  | [], _, .nil => .nil
  | .inl n :: k, _, .cons r t => by
    obtain ⟨tk, e⟩ := r
    subst e
    exact .cons (mixKind_int P w n tk) (items_mix t)
  | .inr z :: k, _, .cons r t => by
    obtain ⟨tk, e⟩ := r
    subst e
    exact .cons (mixKind_str P w z tk) (items_mix t)
/-- all rows' tuples stand -/
def Rws (K : PySem.W.Frag) (H : Hp) (L : List Row) : Prop := ∀ p ∈ L, SqT K H p.1 (p.2.map kV)
section
variable {X : Cx} {pins : List (Addr × Obj)} {σ : L2.St} {H : Hp} {s : Shared}
theorem isK_of (I : Inv X pins σ H s) {b : Addr} {k : List Key} (h : SqT X.K H b (k.map kV)) : IsK X.prog X.w s.heap k b := by
  obtain ⟨its, r, ⟨o, ho, hc, n, hd⟩, _⟩ := I.tuple h
  exact ⟨o, its.toArray, n, ho, hc, hd, by simpa using items_mix r⟩
/-- found.add(t) -/
theorem addK_ok {E : Value → Shared → Prop} {D a : Addr} {k : List Key} {L : List Row} {Q : Value → Shared → Prop} (I : Inv X pins σ H s) (hu : X.A.units + 1 < cLine) (hD : H D = some (SetK X.prog X.w D L)) (hx : SqT X.K H a (k.map kV)) (hL : Rws X.K H L) (few : L.length < 4000)
    (h : ∀ L' s', (k ∈ L.map (·.2) → L' = L) → (k ∉ L.map (·.2) → L'.Perm ((a, k) :: L)) → Inv X pins σ (upd H D (SetK X.prog X.w D L')) s' → Q .none s') :
    wpAny (model X.prog X.w) X.A (call (.builtin "set.add") [.ref D, .ref a]) Q E s := by
  obtain ⟨es, ep, t, R⟩ := (show ObjOk X.prog X.w H s.heap D (SetK X.prog X.w D L) from I.hok D _ hD).1
  have Ts : Tups X.prog X.w s.heap L := fun p hp => isK_of I (hL p hp)
  have hk := isK_of I hx
  obtain ⟨o, ho, hex, hd⟩ := id R.obj
  refine wpAny_call_entry F.slot_set_add ⟨o, ho, hex.1⟩ F.entry_set_add ?_ (F.args_set_add_2 _ _)
  unfold Builtin.«set.add» Builtin.Frozenset.oneOther
  simp only [List.isEmpty_nil, bind_assoc]
  unfold Builtin.Frozenset.addrOf setAdd
  refine wpAny_bind (wpAny_pure ?_)
  try dsimp only
  refine wpAny_bind (wpAny_pure ?_)
  try dsimp only
  refine wpAny_bind (wpAny_holding (wpAny_bind (wpAny_pyHash_tuple (by first | exact hu | omega | exact Nat.lt_of_succ_lt hu) hk ?_)))
  refine adding (s := { s with toks := s.toks + (k.length + 1) }) R Ts hk (by first | exact hu | omega | exact Nat.lt_of_succ_lt hu) few fun b h' L' es' ep' t' sb R' c1 c2 => ?_
  show wpAny _ _ (ret Value.none) _ _ _
  obtain ⟨o', ho', _⟩ := id R'.obj
  exact wpAny_pure ⟨_, rfl, h L' _ c1 c2 (I.write (e := D) (t' := s.toks + (k.length + 1)) (by rw [hD]; trivial) (.inl rfl) (fun b u hb z => (sb.2 b hb).trans z) ⟨o', ho'⟩ (setK_ok R'))⟩
theorem freshK {h : Heap} (P : Program) (w : World) : SetX P w (h.push { cls := .type "set", dict := none, data := .set #[] 0 (.fresh 0 0 (!w.params.followText "set-order")) }) h.objs.size [] #[] 0 (.fresh 0 0 (!w.params.followText "set-order")) where
  obj := ⟨_, Heap.get?_push_size _ rfl, ⟨rfl, rfl, rfl⟩, rfl⟩
  are := rfl
  tab := ⟨List.Pairwise.nil, rfl, rfl, .inl rfl, fun x hx => (by cases hx), fun i h j hi => (by simp [hs] at hi)⟩
  one := List.nodup_nil
  led := by
    show _ ∨ (!w.params.followText "set-order") = true
    cases w.params.followText "set-order" with
    | true => exact .inl rfl
    | false => exact .inr rfl
  room := by
    show 0 * 5 < 7 * 3
    decide
  few := Nat.zero_le _
end

section
variable {X : Cx}
/-- {elt for target in iter if ..}, elt a tuple of ints and texts -/
def tSk (K : PySem.W.Frag) (P : Program) (w : World) (wi : TI) (g : TG) (tt : TT) (te : TE) (vs : List Nat) : TE := fun σ H Q => wi σ H fun J H1 => ∀ D, H1 D = none → ∃ W : Nat → Nat → Hp → Prop, (∃ m, W 0 m (upd H1 D (SetK P w D []))) ∧ ∀ i m H, W i m H →
  (J.stop i H ∧ Q (.ref D) H) ∨ (J.go i H ∧ ∃ Nx : Hp → Prop, (∀ H', Nx H' → ∃ m', m' < m ∧ W (i + 1) m' H') ∧ ∀ x H', J.yld i H x H' → g x (wipe σ vs) H' fun σ2 H2 => wipe σ2 vs = wipe σ vs ∧ tt σ2 H2 fun b H3 =>
    if b = true then te σ2 H3 fun y H4 => ∃ (a : Addr) (k : List Key) (L : List Row), y = .ref a ∧ SqT K H4 a (k.map kV) ∧ H4 D = some (SetK P w D L) ∧ Rws K H4 L ∧ L.length < 4000 ∧
      ∀ L', (k ∈ L.map (·.2) → L' = L) → (k ∉ L.map (·.2) → L'.Perm ((a, k) :: L)) → Nx (upd H4 D (SetK P w D L')) else Nx H3)
theorem sk_core {pins : List (Addr × Obj)} {s : Shared} {σ : L2.St} {H : Hp} {Q : VK} {elt tg iter : Expr} {ifs : List Expr} {scope : Scope} {own : List (PySem.Str × Nat)} {pos pos' : Pos} {wi : TI} {g : TG} {tt : TT} {te : TE} {use : Option (Value → Sem Unit)} {Qf : Value → Shared → Prop}
    (hc : X.calm = true) (hu : X.A.units + 1 < cLine) (hN : X.N.Nodup) (I : Inv X pins σ H s) (hi : PI X tg iter wi) (ok : BlkOk X.N X.env.scope scope own)
    (hg : ∀ (s : Shared) (H : Hp) (C : Addr) (cl : List (PySem.Str × Addr)) (fp : List Addr), PG (X.blk s H scope (compEnvC scope cl C X.env) fp) tg g)
    (ht : ∀ (s : Shared) (H : Hp) (C : Addr) (cl : List (PySem.Str × Addr)) (fp : List Addr), PTs (X.blk s H scope (compEnvC scope cl C X.env) fp) ifs tt)
    (he : ∀ (s : Shared) (H : Hp) (C : Addr) (cl : List (PySem.Str × Addr)) (fp : List Addr), PE (X.blk s H scope (compEnvC scope cl C X.env) fp) elt te)
    (fold : ∀ x, foldedSetIterable iter X.env x = pure x)
    (h : tSk X.K X.prog X.w wi g tt te (own.map (·.2)) σ H Q)
    (back : ∀ D C s' m H', Inv X pins σ H' s' → Q (.ref D) H' → s'.heap.Ns C m → FpOk X pins H' C → compPost (model X.prog X.w) X.A X.xe use Qf (.ref D) C (.ok .next) s') :
    wpAny (model X.prog X.w) X.A (comprehension (.SetComp elt [⟨tg, iter, ifs, 0⟩] scope pos) scope X.env pos' (newSet (.type "set")) false (eval iter X.env) use) Qf X.xe s := by
  have frees : ∀ y ∈ scope.names, y.2 = .free → ∃ c, X.env.cells.lookup y.1 = some c := fun y hy e => by
    rcases ok.free y hy e with q | q
    · exact I.ok.has _ (.inl q)
    · exact I.ok.has _ (.inr q)
  refine wpAny_comprehension_free (use := use) rfl fold (closure_ok frees) ok.kind (fun y hy e => by rw [ok.uniq y hy, e]) (thn (hi.run pins s σ H _ I h) fun xv s1 hx => thn hx fun itv s2 h2 => ?_)
  obtain ⟨it, fp, tn, J, H2, e, I2, T, st2, f2, q⟩ := h2
  subst e
  refine PpSet.newSet_ok (newEnv_comp ?_)
  generalize hD : s2.heap.objs.size = D
  have free0 : H2 D = none := I2.hok.fresh (Nat.le_of_eq hD)
  obtain ⟨W, ⟨m0, w0⟩, turn⟩ := q D free0
  generalize es3 : ({ s2 with heap := s2.heap.push { cls := .type "set", dict := none, data := .set #[] 0 (.fresh 0 0 (!X.w.params.followText "set-order")) } } : Shared) = s3
  have keep3 : ∀ b o, s2.heap.get? b = some o → s3.heap.get? b = some o := fun b o z => by
    rw [← es3]
    exact Heap.get?_push_of_some _ z
  have size3 : s3.heap.objs.size = s2.heap.objs.size + 1 := by
    rw [← es3]
    exact Heap.size_push ..
  have J3 : Inv X pins σ (upd H2 D (SetK X.prog X.w D [])) s3 := by
    rw [← es3]
    refine I2.laid (t' := s2.toks) (fun b o z => Heap.get?_push_of_some _ z) (Nat.le_of_eq hD) ?_
    rw [← hD]
    exact setK_ok (freshK X.prog X.w)
  have old : ∀ b ∈ fp, b < s2.heap.objs.size := fun b hb => by
    obtain ⟨o, z, _⟩ := T.obj _ _ st2 b hb
    exact Heap.lt_size z
  have feet : ∀ b ∈ fp, FpOk X pins (upd H2 D (SetK X.prog X.w D [])) b ∧ b < s3.heap.objs.size := fun b hb => by
    have lt := old b hb
    refine ⟨⟨?_, (f2 b hb).2⟩, by rw [size3]; exact Nat.lt_succ_of_lt lt⟩
    rw [upd_ne (by rw [← hD]; exact Nat.ne_of_lt lt)]
    exact (f2 b hb).1
  have st3 : tn 0 s3.heap := T.keep _ _ _ st2 fun b _ o z => keep3 b o z
  have J4 := block_start J3 ok hN feet
  have pg := hg s3 (upd H2 D (SetK X.prog X.w D [])) s3.heap.objs.size (cellsFrom (s3.heap.objs.size + 1) scope.names (cloFrom X.env.cells scope.names [])) fp
  have pt := ht s3 (upd H2 D (SetK X.prog X.w D [])) s3.heap.objs.size (cellsFrom (s3.heap.objs.size + 1) scope.names (cloFrom X.env.cells scope.names [])) fp
  have pe := he s3 (upd H2 D (SetK X.prog X.w D [])) s3.heap.objs.size (cellsFrom (s3.heap.objs.size + 1) scope.names (cloFrom X.env.cells scope.names [])) fp
  show codeAny _ _ (.compStart (.SetComp elt [⟨tg, iter, ifs, 0⟩] scope pos) 0 (.ref it) (.ref D) (compEnvC scope (cellsFrom (s3.heap.objs.size + 1) scope.names (cloFrom X.env.cells scope.names [])) s3.heap.objs.size X.env)) (compPost (model X.prog X.w) X.A X.xe use Qf (.ref D) s3.heap.objs.size) { s3 with heap := pushCells (s3.heap.push { cls := .type "dict", data := .dict #[] }) scope.names }
  have none0 : ∀ b ∈ fp, (upd H2 D (SetK X.prog X.w D [])) b = none := fun b hb => (feet b hb).1.1
  generalize hce : compEnvC scope (cellsFrom (s3.heap.objs.size + 1) scope.names (cloFrom X.env.cells scope.names [])) s3.heap.objs.size X.env = ce at J4 pg pt pe ⊢
  have locals : ce.locals = s3.heap.objs.size := by
    rw [← hce]
    rfl
  generalize hH3 : upd H2 D (SetK X.prog X.w D []) = H3 at J3 J4 pg pt pe w0 none0 feet
  generalize es4 : ({ s3 with heap := pushCells (s3.heap.push { cls := .type "dict", data := .dict #[] }) scope.names } : Shared) = s4 at J4 ⊢
  have st4 : tn 0 s4.heap := T.keep _ _ _ st3 fun b _ o z => by
    rw [← es4]
    exact pushCells_keeps _ _ _ _ (Heap.get?_push_of_some _ z)
  have still : ∀ {σ' : L2.St} {H' : Hp} {s' : Shared}, Inv (X.blk s3 H3 scope ce fp) [] σ' H' s' → (∀ b ∈ fp, H' b = none) → ∀ b ∈ fp, FpOk (X.blk s3 H3 scope ce fp) [] H' b := fun {σ' H' s'} I' hn b hb =>
    ⟨hn b hb, (I'.ok.exf b hb).1, I'.ok.exfs b hb, .inl hb, fun x c z => (I'.ok.exf b hb).2 x c z, fun p hp => absurd (show p ∈ ([] : List (Addr × Obj)) ++ [] from hp) (by simp)⟩
  refine PpSet.codeAny_compStart_set ?_ (T.self X.A 0 _ _ _ st4 ?_)
  all_goals
    refine PpSet.compLoopS_any (fun n s' => ∃ i H', Inv (X.blk s3 H3 scope ce fp) [] (wipe σ (own.map (·.2))) H' s' ∧ tn i s'.heap ∧ (∀ b ∈ fp, H' b = none) ∧ W i n H') ?_ m0 ⟨0, H3, J4, st4, none0, w0⟩
    rintro n s5 ⟨i, H5, I5, st5, n5, w5⟩
    rcases turn i n H5 w5 with ⟨stop, qq⟩ | ⟨go, Nx, hNx, step⟩
    · refine thnF (T.done (X.blk s3 H3 scope ce fp) rfl rfl rfl hc i [] s5 _ H5 (fun _ _ => False) I5 (still I5 n5) st5 stop) fun r s6 ⟨hr, I6⟩ => ?_
      subst hr
      have I7 : Inv X pins σ H5 s6 := J3.call' (ch := fp) I6.os I6.base I6.hok I6.bare fun b hb => ⟨(feet b hb).1.2.2.2.1, (feet b hb).1.2.1, (feet b hb).1.2.2.2.2.1, (feet b hb).1.2.2.2.2.2⟩
      have nC : H5 s3.heap.objs.size = none := by
        rw [← locals]
        exact I6.free
      obtain ⟨m, hn, _⟩ := I6.loc
      have hn : s6.heap.Ns ce.locals m := hn
      rw [locals] at hn
      exact back D s3.heap.objs.size s6 m H5 I7 qq hn (J3.fpOk (Nat.le_refl _) nC)
    · refine thnF (T.item (X.blk s3 H3 scope ce fp) rfl rfl rfl hc i [] s5 _ H5 (fun _ _ => False) I5 (still I5 n5) st5 go) fun r s6 ⟨u, hr, h6⟩ => ?_
      subst hr
      refine thnF h6 fun _ s7 ⟨x, H7, I7, r7, y7, st7, n7⟩ => ?_
      have I7' := I7.pinned (still I7 n7) (T.obj _ _ st7)
      refine thnF (pg.run _ s7 _ H7 x u _ I7' r7 (step x H7 y7)) fun _ s8 ⟨σ8, H8, I8, hw8, q8⟩ => ?_
      refine thnF (pt.run _ s8 σ8 H8 _ I8 q8) fun b s9 ⟨H9, I9, q9⟩ => ?_
      have fin : ∀ {s' : Shared} {H' : Hp}, Inv (X.blk s3 H3 scope ce fp) ([] ++ pinsAt fp s7.heap) σ8 H' s' → Nx H' → ∃ m, m < n ∧ ∃ i H', Inv (X.blk s3 H3 scope ce fp) [] (wipe σ (own.map (·.2))) H' s' ∧ tn i s'.heap ∧ (∀ b ∈ fp, H' b = none) ∧ W i m H' := fun {s' H'} I' nx => by
        obtain ⟨m', hm, w'⟩ := hNx H' nx
        have pinned : ∀ b ∈ fp, ∀ o, s7.heap.get? b = some o → s'.heap.get? b = some o ∧ H' b = none := fun b hb o z => by
          have y := I'.pin (b, o) (List.mem_append_right _ (List.mem_append_right _ (mem_pinsAt hb z)))
          exact ⟨y.1, y.2.1⟩
        have len : (wipe σ (own.map (·.2))).length = σ8.length := by rw [← hw8, wipe_length]
        refine ⟨m', hm, i + 1, H', (I'.unpinned (pins := [])).weak len (fun j v z => ?_), T.keep _ _ _ st7 fun b hb o z => (pinned b hb o z).1, fun b hb => ?_, w'⟩
        · rw [← hw8] at z
          exact (wipe_some z).1
        · obtain ⟨o, z, _⟩ := T.obj _ _ st7 b hb
          exact (pinned b hb o z).2
      cases b with
      | false =>
        simp only [Bool.false_eq_true, if_false] at q9 ⊢
        exact fin I9 q9
      | true =>
        simp only [if_true] at q9 ⊢
        refine thnF (pe.run _ s9 σ8 H9 _ I9 q9) fun z s10 ⟨yv, H10, I10, r10, a, k, L, ey, ht10, hD10, hL10, few, nx⟩ => ?_
        subst ey
        cases (show z = Value.ref a from r10)
        exact addK_ok (X := X.blk s3 H3 scope ce fp) I10 hu hD10 ht10 hL10 few fun L' s11 c1 c2 I11 => fin I11 (nx L' c1 c2)
theorem pe_sk {elt tg iter : Expr} {ifs : List Expr} {scope : Scope} {own : List (PySem.Str × Nat)} {pos : Pos} {wi : TI} {g : TG} {tt : TT} {te : TE} (hc : X.calm = true) (hu : X.A.units + 1 < cLine) (hN : X.N.Nodup) (hi : PI X tg iter wi) (ok : BlkOk X.N X.env.scope scope own)
    (hg : ∀ (s : Shared) (H : Hp) (C : Addr) (cl : List (PySem.Str × Addr)) (fp : List Addr), PG (X.blk s H scope (compEnvC scope cl C X.env) fp) tg g)
    (ht : ∀ (s : Shared) (H : Hp) (C : Addr) (cl : List (PySem.Str × Addr)) (fp : List Addr), PTs (X.blk s H scope (compEnvC scope cl C X.env) fp) ifs tt)
    (he : ∀ (s : Shared) (H : Hp) (C : Addr) (cl : List (PySem.Str × Addr)) (fp : List Addr), PE (X.blk s H scope (compEnvC scope cl C X.env) fp) elt te) (fold : ∀ x, foldedSetIterable iter X.env x = pure x := by intro _; rfl) :
    PE X (.SetComp elt [⟨tg, iter, ifs, 0⟩] scope pos) (tSk X.K X.prog X.w wi g tt te (own.map (·.2))) := by
  refine ⟨fun pins s σ H Q I h => ?_⟩
  rw [PpSet.eval_SetComp]
  refine sk_core hc hu hN I hi ok hg ht he fold h fun D C s' m H' I' q hn f => ⟨m, hn, fun h'' sb => ?_⟩
  obtain ⟨f0, f1, f2, f3, f4, f5⟩ := f
  exact ⟨.ref D, H', I'.turned (t' := s'.toks) (fun b o hb z => (sb.2 b hb).trans z) f0 f1 f3 f4 f5, rfl, q⟩
end
end Sx

/-! SxSort -/
/-! The order of texts, of tuples of texts; sorted of tuples of texts in a list, in a set. -/
namespace Sx
open PySem PySem.Spec PyProof.Rows L2

/-! ### texts, as Python orders them -/
theorem ln_irr : ∀ l : List Nat, ¬ l < l
  | [], h => by simp at h
  | a :: l, h => by
    rw [List.cons_lt_cons_iff] at h
    rcases h with h | ⟨_, h⟩
    · exact Nat.lt_irrefl a h
    · exact ln_irr l h
theorem ln_tri : ∀ a b : List Nat, a < b ∨ a = b ∨ b < a
  | [], [] => .inr (.inl rfl)
  | [], b :: bs => .inl (by simp)
  | a :: as, [] => .inr (.inr (by simp))
  | a :: as, b :: bs => by
    rw [List.cons_lt_cons_iff, List.cons_lt_cons_iff]
    rcases Nat.lt_trichotomy a b with h | h | h
    · exact .inl (.inl h)
    · subst h
      rcases ln_tri as bs with q | q | q
      · exact .inl (.inr ⟨rfl, q⟩)
      · exact .inr (.inl (by rw [q]))
      · exact .inr (.inr (.inr ⟨rfl, q⟩))
    · exact .inr (.inr (.inl h))
theorem ln_tr : ∀ {a b c : List Nat}, a < b → b < c → a < c
  | [], _, [], _, h => by simp at h
  | [], _, c :: cs, _, _ => by simp
  | a :: as, [], _, h, _ => by simp at h
  | a :: as, b :: bs, [], _, h => by simp at h
  | a :: as, b :: bs, c :: cs, h, g => by
    rw [List.cons_lt_cons_iff] at h g ⊢
    rcases h with h | ⟨h, h2⟩
    · rcases g with g | ⟨g, g2⟩
      · exact .inl (Nat.lt_trans h g)
      · exact .inl (by rw [← g]; exact h)
    · rcases g with g | ⟨g, g2⟩
      · exact .inl (by rw [h]; exact g)
      · exact .inr ⟨h.trans g, ln_tr h2 g2⟩
abbrev ltS (a b : Str) : Bool := decide (a.cps.toList < b.cps.toList)
theorem str_ext {a b : Str} (h : a.cps.toList = b.cps.toList) : a = b := by
  obtain ⟨a⟩ := a
  obtain ⟨b⟩ := b
  exact congrArg Str.mk (Array.toList_inj.mp h)
theorem ltS_irr (a : Str) : ltS a a = false := decide_eq_false (ln_irr _)
theorem ltS_tri (a b : Str) : ltS a b = true ∨ a = b ∨ ltS b a = true := by
  rcases ln_tri a.cps.toList b.cps.toList with h | h | h
  · exact .inl (decide_eq_true h)
  · exact .inr (.inl (str_ext h))
  · exact .inr (.inr (decide_eq_true h))
theorem ltS_tr {a b c : Str} (h : ltS a b = true) (g : ltS b c = true) : ltS a c = true := decide_eq_true (ln_tr (of_decide_eq_true h) (of_decide_eq_true g))
theorem ltS_asym {a b : Str} (h : ltS a b = true) : ltS b a = false := by
  cases q : ltS b a with
  | false => rfl
  | true =>
    have z := ltS_tr h q
    rw [ltS_irr] at z
    cases z
/-! ### lists of texts, one after another -/
def ltL : List Str → List Str → Bool
  | [], [] => false
  | [], _ :: _ => true
  | _ :: _, [] => false
  | a :: as, b :: bs => if a = b then ltL as bs else ltS a b
theorem ltL_irr : ∀ l : List Str, ltL l l = false
  | [] => rfl
  | a :: l => by
    show (if a = a then ltL l l else ltS a a) = false
    rw [if_pos rfl]
    exact ltL_irr l
theorem ltL_tri : ∀ a b : List Str, ltL a b = true ∨ a = b ∨ ltL b a = true
  | [], [] => .inr (.inl rfl)
  | [], b :: bs => .inl rfl
  | a :: as, [] => .inr (.inr rfl)
  | a :: as, b :: bs => by
    unfold ltL
    by_cases e : a = b
    · subst e
      rw [if_pos rfl, if_pos rfl]
      rcases ltL_tri as bs with q | q | q
      · exact .inl q
      · exact .inr (.inl (by rw [q]))
      · exact .inr (.inr q)
    · rw [if_neg e, if_neg (Ne.symm e)]
      rcases ltS_tri a b with q | q | q
      · exact .inl q
      · exact absurd q e
      · exact .inr (.inr q)
theorem ltL_tr : ∀ {a b c : List Str}, ltL a b = true → ltL b c = true → ltL a c = true
  | [], [], _, h, _ => by cases h
  | [], _ :: _, [], _, h => by cases h
  | [], _, c :: cs, _, _ => rfl
  | a :: as, [], _, h, _ => by cases h
  | a :: as, b :: bs, [], _, h => by cases h
  | a :: as, b :: bs, c :: cs, h, g => by
    unfold ltL at h g ⊢
    by_cases e : a = b
    · subst e
      rw [if_pos rfl] at h
      by_cases f : a = c
      · subst f
        rw [if_pos rfl] at g ⊢
        exact ltL_tr h g
      · rw [if_neg f] at g ⊢
        exact g
    · rw [if_neg e] at h
      by_cases f : b = c
      · subst f
        rw [if_neg e]
        exact h
      · rw [if_neg f] at g
        have z := ltS_tr h g
        have n : a ≠ c := fun q => by
          rw [q, ltS_irr] at z
          cases z
        rw [if_neg n]
        exact z
theorem ltL_asym {a b : List Str} (h : ltL a b = true) : ltL b a = false := by
  cases q : ltL b a with
  | false => rfl
  | true =>
    have z := ltL_tr h q
    rw [ltL_irr] at z
    cases z
theorem ltL_not {a b : List Str} (h : ltL b a = false) : a = b ∨ ltL a b = true := by
  rcases ltL_tri a b with q | q | q
  · exact .inr q
  · exact .inl q
  · rw [h] at q
    cases q
theorem swo_L {α : Type} (k : α → List Str) : SrtO.Swo fun x y => ltL (k x) (k y) := by
  refine ⟨fun x y h => ltL_asym h, fun x y z h1 h2 => ?_⟩
  rcases ltL_not h1 with e | h1
  · rcases ltL_not h2 with e2 | h2
    · rw [e, e2]
      exact ltL_irr _
    · rw [e]
      exact ltL_asym h2
  · rcases ltL_not h2 with e2 | h2
    · rw [← e2]
      exact ltL_asym h1
    · exact ltL_asym (ltL_tr h1 h2)

/-! ### tuples of texts compared by the sort -/
def IsTP (h : Heap) (v : Value) (ks : List Str) : Prop := ∃ a o its n, v = .ref a ∧ h.get? a = some o ∧ o.cls = .type "tuple" ∧ o.data = .seq its n ∧ Vals (ks.map V.str) its.toList
theorem IsTP.stay {h h' : Heap} {v : Value} {ks : List Str} (p : IsTP h v ks) (k : ∀ b o, h.get? b = some o → o.cls = .type "tuple" → h'.get? b = some o) : IsTP h' v ks := by
  obtain ⟨a, o, its, n, e, ho, hc, r⟩ := p
  exact ⟨a, o, its, n, e, k _ _ ho hc, hc, r⟩
section
variable {prog : Program} {w : World} {A : Around} {E : Value → Shared → Prop} {s : Shared}
theorem kat_texts {fin : Bool} {Q : Bool → Shared → Prop} : ∀ (ks ls : List Str) (us vs : List Value) (i : Nat), Vals (ks.map V.str) us → Vals (ls.map V.str) vs → fin = decide (ks.length < ls.length) → Q (ltL ks ls) s →
    PySem.W.KatLex prog w A true fin Q (us.zip vs) i s
  | [], [], _, _, i, .nil, .nil, e, h => PySem.W.kat_nil (by rw [e]; exact h)
  | [], b :: ls, _, _, i, .nil, .cons _ _, e, h => PySem.W.kat_nil (by rw [e]; exact h)
  | a :: ks, [], _, _, i, .cons _ _, .nil, e, h => PySem.W.kat_nil (by rw [e]; exact h)
  | a :: ks, b :: ls, _, _, i, .cons ra ras, .cons rb rbs, e, h => by
    obtain ⟨t, ea⟩ := ra
    obtain ⟨u, eb⟩ := rb
    subst ea
    subst eb
    unfold ltL at h
    refine PySem.W.kat_cons (wpAny_eqBool_str ?_)
    refine PySem.W.kat_go (fun e1 => ?_) (fun e1 => ?_)
    · rw [if_pos (by simpa using e1)] at h
      exact PySem.W.kat_yes (kat_texts ks ls _ _ (i + 1) ras rbs (by rw [e]; simp) h)
    · rw [if_neg (by simpa using e1)] at h
      refine PySem.W.kat_no ?_
      cases i with
      | zero => exact oneLt_str h
      | succ i =>
        show wpAny _ _ (oneLt' (true && false) _ _) _ _ _
        exact PySem.W.kat_one _ _ (PyProof.Rows.lt_str h)
theorem texts_cmp {vs : List Value} {k : Value → List Str} (hp : ∀ v ∈ vs, IsTP s.heap v (k v)) : SrtO.Cmp prog w A s (tuples' true) (fun p => p.1 ∈ vs) (SrtO.lt2 fun v u => ltL (k v) (k u)) := by
  intro p q hm hm'
  obtain ⟨a, o, its, n, e, ho, hc, hd, r⟩ := hp _ hm
  obtain ⟨a', o', its', n', e', ho', hc', hd', r'⟩ := hp _ hm'
  show wpAny (model prog w) A (keyLt' (tuples' true) p.1 q.1) (fun r s' => s' = s ∧ r = ltL (k p.1) (k q.1)) (fun _ _ => False) s
  generalize k p.1 = kp at r ⊢
  generalize k q.1 = kq at r' ⊢
  rw [e, e']
  refine PySem.W.kat_lt ho hd ho' hd' (kat_texts kp kq _ _ 0 r r' ?_ ⟨rfl, rfl⟩)
  have l1 : kp.length = its.size := by simpa using Paired.length r
  have l2 : kq.length = its'.size := by simpa using Paired.length r'
  rw [l1, l2]
theorem texts_first {h : Heap} : ∀ {vs : List Value}, (∀ v ∈ vs, ∃ k, k ≠ [] ∧ IsTP h v k) → ∃ fs : List Value, PySem.W.KatTups h vs fs ∧ fs.length = vs.length ∧ ∀ f ∈ fs, ∃ x t, f = Value.str x t
  | [], _ => ⟨[], PySem.W.KatTups.nil, rfl, fun _ hm => nomatch hm⟩
  | v :: vs, hp => by
    obtain ⟨fs, h1, h2, h3⟩ := texts_first (vs := vs) fun u hu => hp u (List.mem_cons_of_mem _ hu)
    obtain ⟨k, ne, a, o, its, n, e, ho, hc, hd, r⟩ := hp v List.mem_cons_self
    subst e
    match k, its, ne, r, hd with
    | [], _, ne, _, _ => exact absurd rfl ne
    | x :: k, ⟨u :: us⟩, _, .cons ru _, hd =>
      obtain ⟨t, eu⟩ := ru
      subst eu
      refine ⟨.str x t :: fs, PySem.W.KatTups.cons ho hc hd rfl h1, by rw [List.length_cons, List.length_cons, h2], fun f hm => ?_⟩
      rcases List.mem_cons.mp hm with z | z
      · exact ⟨x, t, z⟩
      · exact h3 f z
theorem texts_sortable {a : Addr} {vs : List Value} {k : Value → List Str} (h0 : 0 < vs.length) (hp : ∀ v ∈ vs, k v ≠ [] ∧ IsTP s.heap v (k v)) (ha : ∀ o, s.heap.get? a = some o → o.cls ≠ .type "tuple") : SrtO.SortableO prog w A s a vs fun v u => ltL (k v) (k u) := by
  intro h' keep
  have hp' : ∀ v ∈ vs, IsTP h' v (k v) := fun v hm => (hp v hm).2.stay fun b o e c => keep b o (fun z => by subst z; exact ha o e c) e
  obtain ⟨fs, h1, h2, h3⟩ := texts_first fun v hm => ⟨_, (hp v hm).1, hp' v hm⟩
  refine ⟨tuples' true, fun Q E hq => ?_, texts_cmp hp'⟩
  refine PySem.W.kat_kind (T := .type "str") h1 (by omega) (fun f hm => ?_) (by rfl) ?_
  · obtain ⟨x, t, e⟩ := h3 f hm
    subst e
    exact PySem.W.Looks.now
  · have e : (Value.type "str" != Value.type "tuple") = true := by first | decide +kernel | rfl | decide
    rw [e]
    exact hq
/-- sorted(l) of tuples of texts -/
theorem sorted_texts {l : Addr} {vs : List Value} {k : Value → List Str} {Q : Value → Shared → Prop} (hl : s.heap.IsList l vs.toArray) (hz : vs.length ≤ sizeLine) (hp : ∀ v ∈ vs, k v ≠ [] ∧ IsTP s.heap v (k v))
    (h : ∀ (h' : Heap) (d : Addr) (out : List Value), out.Perm vs → out.Pairwise (fun v u => ltL (k u) (k v) = false) → (∀ b o, s.heap.get? b = some o → h'.get? b = some o) → s.heap.objs.size ≤ d → (∃ n, h'.get? d = some (seqObj "list" out.toArray n)) → Q (.ref d) { s with heap := h' }) :
    wpAny (model prog w) A (call (.builtin "sorted") [.ref l]) Q E s := by
  refine SrtO.sorted_ord (swo_L k) hl hz (fun h2 h₁ a ha kk => ?_) fun out hs hb => ?_
  · refine texts_sortable (s := { s with heap := h₁ }) (by omega) (fun v hm => ⟨(hp v hm).1, (hp v hm).2.stay fun b o e _ => (kk b o e).2⟩) fun o e => ?_
    have e' : some o = some (seqObj "list" vs.toArray 0) := e.symm.trans ha
    cases e'
    intro c
    exact absurd (Value.type.inj c) (by decide)
  · exact h _ _ out hb.perm hs (fun b o e => sortedAll_old e) (Nat.le_succ _) (sortedAll_at s.heap vs out.toArray)
end

/-! ### as rules of the layer -/
/-- sorted(xs), xs a list of tuples of texts, none empty -/
def rSortTL (K : PySem.W.Frag) : List V → Hp → VK → Prop := fun vs H Q => ∃ (a : Addr) (xs : List V) (k : V → List Str), vs = [V.ref a] ∧ SqL K H a xs ∧ (∀ x ∈ xs, k x ≠ [] ∧ ∃ t, x = V.ref t ∧ SqT K H t ((k x).map V.str)) ∧
  ∀ ys p, ys.Perm xs → ys.Pairwise (fun x y => ltL (k y) (k x) = false) → H p = none → Q (.ref p) (upd H p (.lst ys))
/-- sorted(s), s a set of tuples of texts, none empty -/
def rSortSK (K : PySem.W.Frag) (P : Program) (w : World) : List V → Hp → VK → Prop := fun vs H Q => ∃ (a : Addr) (L : List Row) (k : Addr → List Str), vs = [V.ref a] ∧ H a = some (SetK P w a L) ∧ Rws K H L ∧ (∀ p ∈ L, k p.1 ≠ [] ∧ p.2 = (k p.1).map Sum.inr) ∧
  ∀ (as : List Addr) (p : Addr), as.Perm (L.map (·.1)) → as.Pairwise (fun x y => ltL (k y) (k x) = false) → H p = none → Q (.ref p) (upd H p (.lst (as.map V.ref)))
section
variable {X : Cx} {pins : List (Addr × Obj)} {σ : L2.St} {H : Hp} {s : Shared}
theorem isTP_of (I : Inv X pins σ H s) {t : Addr} {ks : List Str} (h : SqT X.K H t (ks.map V.str)) : IsTP s.heap (.ref t) ks := by
  obtain ⟨its, r, ⟨o, ho, hc, n, hd⟩, _⟩ := I.tuple h
  exact ⟨t, o, its.toArray, n, rfl, ho, hc, hd, by simpa using r⟩
theorem cr_sortTL : CallR X (.builtin "sorted") (rSortTL X.K) := by
  intro pins s σ H vs us Q I r h
  obtain ⟨a, xs, k, rfl, hs, hx, q⟩ := h
  obtain ⟨its, rv, hl, hz⟩ := I.list hs
  rw [Vals.ref1 r]
  obtain ⟨e1, e2⟩ := refs_back rv fun x m => by
    obtain ⟨_, t, e, _⟩ := hx x m
    exact ⟨t, e⟩
  refine sorted_texts (k := fun u => k (backV u)) hl.isList (by rw [← rv.length]; exact hz) (fun v hv => ?_) fun h' d out pm pw kp hd hn => ?_
  · obtain ⟨t, rfl⟩ := e2 v hv
    have hm : V.ref t ∈ xs := by
      rw [e1]
      exact List.mem_map.mpr ⟨_, hv, rfl⟩
    obtain ⟨ne, t', e, ht⟩ := hx _ hm
    cases e
    exact ⟨ne, isTP_of I ht⟩
  · have h3 : ∀ u ∈ out, ∃ a, u = Value.ref a := fun u hu => e2 u (pm.mem_iff.mp hu)
    obtain ⟨n, hn⟩ := hn
    have pm' : (out.map backV).Perm xs := by
      rw [e1]
      exact pm.map backV
    exact ⟨.ref d, upd H d (.lst (out.map backV)), I.laid (t' := s.toks) kp hd ⟨by rw [pm'.length_eq]; exact hz, out, n, vals_back h3, hn⟩, rfl, q _ d pm' (List.pairwise_map.mpr pw) (I.hok.fresh hd)⟩
theorem back_refs : ∀ as : List Addr, (as.map Value.ref).map backV = as.map V.ref
  | [] => rfl
  | a :: as => congrArg (V.ref a :: ·) (back_refs as)
theorem refs_all : ∀ vs : List Value, (∀ v ∈ vs, ∃ a, v = Value.ref a) → ∃ as : List Addr, vs = as.map Value.ref
  | [], _ => ⟨[], rfl⟩
  | v :: vs, h => by
    obtain ⟨a, e⟩ := h v List.mem_cons_self
    obtain ⟨as, e2⟩ := refs_all vs fun u hu => h u (List.mem_cons_of_mem _ hu)
    exact ⟨a :: as, by rw [e, e2]; rfl⟩
theorem ref_inj {a b : Addr} (h : Value.ref a = Value.ref b) : a = b := by cases h; rfl
theorem perm_refs {as bs : List Addr} (h : (as.map Value.ref).Perm (bs.map Value.ref)) : as.Perm bs := by
  have back : ∀ l : List Addr, (l.map Value.ref).map (fun v => match v with | .ref a => a | _ => 0) = l := fun l => by
    induction l with
    | nil => rfl
    | cons a l ih => exact congrArg (a :: ·) ih
  have q := h.map (fun v => match v with | .ref a => a | _ => (0 : Addr))
  rw [back, back] at q
  exact q
theorem vals_refs : ∀ as : List Addr, Vals (as.map V.ref) (as.map Value.ref)
  | [] => .nil
  | a :: as => .cons rfl (vals_refs as)
theorem cr_sortSK (hc : X.calm = true) : CallR X (.builtin "sorted") (rSortSK X.K X.prog X.w) := by
  intro pins s σ H vs us Q I r h
  obtain ⟨a, L, k, rfl, ha, hL, hk, q⟩ := h
  obtain ⟨es, ep, t, R⟩ := (show ObjOk X.prog X.w H s.heap a (SetK X.prog X.w a L) from I.hok a _ ha).1
  obtain ⟨o, ho, hex, hd⟩ := id R.obj
  have size := rows_len R.are
  have few := R.few
  rw [Vals.ref1 r]
  refine Calls.call_function_entry kind_sorted plain_sorted entry_sorted (args_sorted1 _) ?_
  unfold Builtin.«sorted»
  refine wpAny_bind (m := checkCount "sorted" 1 1 _) (wpAny_pure ?_)
  refine wpAny_bind (collect_set (A := X.A.in1) (I.ok.hd hc) ⟨o, ho, hex.1, hd⟩ R.fits (by unfold scanBound; omega) R.tab.up R.led fun s1 vs k1 hz g1 o1 pm => ?_)
  have hes : es.toList.map (·.2) = (L.map (·.1)).map Value.ref := by
    rw [R.are]
    unfold rows
    rw [List.map_map, List.map_map]
    rfl
  rw [hes] at pm
  obtain ⟨as, eas⟩ := refs_all vs fun v hv => by
    obtain ⟨b, _, e⟩ := List.mem_map.mp (pm.mem_iff.mp hv)
    exact ⟨b, e.symm⟩
  subst eas
  have pas := perm_refs pm
  have len : (as.map Value.ref).length ≤ sizeLine := by
    rw [List.length_map, pas.length_eq, List.length_map, sizeLine_eq]
    omega
  refine wpAny_bind (wpAny_newList ?_ len)
  have hoL : (s1.heap.push (seqObj "list" (as.map Value.ref).toArray 0)).get? s1.heap.objs.size = some (seqObj "list" (as.map Value.ref).toArray 0) := Heap.get?_push_size _ rfl
  let kv : Value → List Str := fun v => match v with | .ref b => k b | _ => []
  have hp : ∀ v ∈ as.map Value.ref, kv v ≠ [] ∧ IsTP (s1.heap.push (seqObj "list" (as.map Value.ref).toArray 0)) v (kv v) := fun v hv => by
    obtain ⟨b, hb, e⟩ := List.mem_map.mp hv
    subst e
    obtain ⟨p, hp, e⟩ := List.mem_map.mp (pas.mem_iff.mp hb)
    subst e
    refine ⟨(hk p hp).1, (isTP_of I (t := p.1) (ks := k p.1) ?_).stay fun c u e _ => Heap.get?_push_of_some _ (k1 c u e)⟩
    have z := hL p hp
    rw [(hk p hp).2, List.map_map] at z
    exact z
  refine wpAny_bind (wpAny_holding (wpAny_call_entry slot_list_sort ⟨_, hoL, rfl⟩ entry_list_sort (SrtO.list_sort_ord (s := { s1 with heap := s1.heap.push (seqObj "list" (as.map Value.ref).toArray 0) }) (swo_L kv) hoL len (fun h2 => texts_sortable (by omega) hp fun o' e c => ?_) fun out hs hb => ⟨_, rfl, ?_⟩) (args_list_sort _)))
  · have e' : some o' = some (seqObj "list" (as.map Value.ref).toArray 0) := e.symm.trans hoL
    cases e'
    exact absurd (Value.type.inj c) (by decide)
  · obtain ⟨c, hc'⟩ := sortedHeap_at (vs := as.map Value.ref) (out := out.toArray) hoL
    obtain ⟨bs, ebs⟩ := refs_all out fun v hv => by
      obtain ⟨b, _, e⟩ := List.mem_map.mp (hb.perm.mem_iff.mp hv)
      exact ⟨b, e.symm⟩
    subst ebs
    have pbs := perm_refs hb.perm
    have pw : bs.Pairwise fun x y => ltL (k y) (k x) = false := List.pairwise_map.mp hs
    have hn : H s1.heap.objs.size = none := I.hok.fresh hz
    have kk : ∀ b u, s.heap.get? b = some u → (sortedHeap (s1.heap.push (seqObj "list" (as.map Value.ref).toArray 0)) s1.heap.objs.size (as.map Value.ref) (bs.map Value.ref).toArray).get? b = some u := fun b u e => by
      have z := k1 b u e
      have lt := Heap.lt_size z
      rw [sortedHeap_old (Nat.ne_of_lt lt) (by rw [size_push']; exact Nat.lt_succ_of_lt lt)]
      exact Heap.get?_push_of_some _ z
    have blen : (bs.map V.ref).length ≤ sizeLine := by
      rw [List.length_map, pbs.length_eq, pas.length_eq, List.length_map, sizeLine_eq]
      omega
    have J := I.call' (s' := { s1 with heap := sortedHeap (s1.heap.push (seqObj "list" (as.map Value.ref).toArray 0)) s1.heap.objs.size (as.map Value.ref) (bs.map Value.ref).toArray }) (ch := []) o1 (Un.laid kk hz hn)
      (HOk.laid (o := .lst (bs.map V.ref)) I.hok kk hz ⟨blen, bs.map Value.ref, c, vals_refs bs, by simpa using hc'⟩) (by rw [g1]; exact I.bare) (fun _ z => nomatch z)
    exact wpAny_pure ⟨_, rfl, .ref s1.heap.objs.size, _, J, rfl, q bs s1.heap.objs.size (pbs.trans pas) pw hn⟩
end
end Sx

/-! SxCalls -/
/-! min, max, sorted of texts in lists and tuples; loops over either. -/
namespace Sx
open PySem PySem.Spec PyProof.Rows L2

/-- xs stand in a list or a tuple at a -/
def Sq (K : PySem.W.Frag) (H : Hp) (a : Addr) (xs : List V) : Prop := SqL K H a xs ∨ SqT K H a xs
section
variable {prog : Program} {w : World} {A : Around} {E : Value → Shared → Prop} {s : Shared} {l : Addr} {vs : List Value}
def sv : Value → Str
  | .str x _ => x
  | _ => ⟨#[]⟩
theorem sv_of {ks : List Str} {us : List Value} (r : Vals (ks.map V.str) us) : us.map sv = ks ∧ ∀ u ∈ us, ∃ t, u = .str (sv u) t := by
  induction ks generalizing us with
  | nil =>
    cases r
    exact ⟨rfl, fun u hu => nomatch hu⟩
  | cons k ks ih =>
    cases r with
    | cons h1 h2 =>
      obtain ⟨t, e⟩ := h1
      subst e
      obtain ⟨e1, e2⟩ := ih h2
      refine ⟨by rw [List.map_cons, e1]; rfl, fun u hu => ?_⟩
      rcases List.mem_cons.mp hu with z | z
      · exact ⟨t, by rw [z]; rfl⟩
      · exact e2 u z
theorem of_sv : ∀ {us : List Value}, (∀ u ∈ us, ∃ t, u = .str (sv u) t) → Vals ((us.map sv).map V.str) us
  | [], _ => .nil
  | u :: us, h => by
    obtain ⟨t, e⟩ := h u List.mem_cons_self
    exact .cons ⟨t, e⟩ (of_sv fun v hv => h v (List.mem_cons_of_mem _ hv))
theorem cmp_gt {its : Array Value} (h : ∀ u ∈ its.toList, ∃ t, u = .str (sv u) t) : CmpOf prog w A .Gt (fun i v => its[i]? = some v) (fun i j => ltS (sv (its[j]?.getD .none)) (sv (its[i]?.getD .none))) := fun i j vi vj s Q E hi hj hq => by
  dsimp only at hi hj hq
  rw [hi, hj] at hq
  obtain ⟨t, e⟩ := h vi (List.mem_of_getElem? (by rw [Array.getElem?_toList]; exact hi))
  obtain ⟨u, e2⟩ := h vj (List.mem_of_getElem? (by rw [Array.getElem?_toList]; exact hj))
  rw [e, e2] at hq ⊢
  exact richCompare_gives (op := .Gt) (typeIs_str s _ t) (typeIs_str s _ u) F.slot_str_gt F.entry_str_gt (F.args_str_gt_2 _ _) (gives_str_gt _ _ t u) (fun e => nomatch e) hq
theorem cmp_lt {its : Array Value} (h : ∀ u ∈ its.toList, ∃ t, u = .str (sv u) t) : CmpOf prog w A .Lt (fun i v => its[i]? = some v) (fun i j => ltS (sv (its[i]?.getD .none)) (sv (its[j]?.getD .none))) := fun i j vi vj s Q E hi hj hq => by
  dsimp only at hi hj hq
  rw [hi, hj] at hq
  obtain ⟨t, e⟩ := h vi (List.mem_of_getElem? (by rw [Array.getElem?_toList]; exact hi))
  obtain ⟨u, e2⟩ := h vj (List.mem_of_getElem? (by rw [Array.getElem?_toList]; exact hj))
  rw [e, e2] at hq ⊢
  exact richCompare_gives (op := .Lt) (typeIs_str s _ t) (typeIs_str s _ u) F.slot_str_lt F.entry_str_lt (F.args_str_lt_2 _ _) (gives_str_lt _ _ t u) (fun e => nomatch e) hq
theorem iter_tup {its : Array Value} {Q : Value → Shared → Prop} (hl : s.heap.IsTuple l its)
    (h : ∀ s₂ : Shared, s₂ = { s with heap := s.heap.push { cls := .type "tuple_iterator", data := .fields #[.ref l, .int 0 0] } } →
      (s₂.heap.IsTupleIter s.heap.objs.size l 0 ∧ s₂.heap.IsTuple l its) → (∀ b ∈ [s.heap.objs.size, l], b < s₂.heap.objs.size) → l ≠ s.heap.objs.size → Q (.ref s.heap.objs.size) s₂) : wpAny (model prog w) A (pyIter (.ref l)) Q E s := by
  obtain ⟨o, e, c, n, d⟩ := id hl
  have lt : l < s.heap.objs.size := Heap.lt_size e
  refine wpAny_pyIter_tuple hl (h _ rfl ⟨⟨_, Heap.get?_push_size _ rfl, rfl, rfl⟩, ⟨o, Heap.get?_push_of_some _ e, c, n, d⟩⟩ (fun b hb => ?_) (Nat.ne_of_lt lt))
  show b < (s.heap.push _).objs.size
  rw [Heap.size_push]
  rcases List.mem_cons.mp hb with z | hb
  · rw [z]; exact Nat.lt_succ_self _
  · rw [List.mem_singleton.mp hb]; exact Nat.lt_succ_of_lt lt
theorem kept_tup {h' : Heap} (hk : ∀ b o, b ∉ [s.heap.objs.size] → (s.heap.push { cls := .type "tuple_iterator", data := .fields #[.ref l, .int 0 0] }).get? b = some o → h'.get? b = some o) :
    ∀ b o, s.heap.get? b = some o → h'.get? b = some o := fun b o e => hk b o (fun z => by
      rw [List.mem_singleton.mp z] at e
      exact Nat.lt_irrefl _ (Heap.lt_size e)) (Heap.get?_push_of_some _ e)
/-- of two texts the greater, the lesser -/
def mxS (a b : Str) : Str := if ltS a b = true then b else a
def mnS (a b : Str) : Str := if ltS b a = true then b else a
theorem max_two {a b : Str} {t u : Tok} {Q : Value → Shared → Prop} (hh : A.handled = none) (hl : s.heap.IsList l #[.str a t, .str b u] ∨ s.heap.IsTuple l #[.str a t, .str b u])
    (h : ∀ v h' tk, (∃ t, v = .str (mxS a b) t) → (∀ d o, s.heap.get? d = some o → h'.get? d = some o) → Q v { s with heap := h', toks := tk }) : wpAny (model prog w) A (call (.builtin "max") [.ref l]) Q E s := by
  have every : ∀ v ∈ (#[.str a t, .str b u] : Array Value).toList, ∃ t, v = .str (sv v) t := fun v hv => by
    rcases List.mem_cons.mp hv with z | hv
    · exact ⟨t, by rw [z]; rfl⟩
    · exact ⟨u, by rw [List.mem_singleton.mp hv]; rfl⟩
  have pick : ∀ v, (#[.str a t, .str b u] : Array Value)[argBest (fun i j => ltS (sv ((#[.str a t, .str b u] : Array Value)[j]?.getD .none)) (sv ((#[.str a t, .str b u] : Array Value)[i]?.getD .none))) (2 - 1)]? = some v → ∃ t, v = .str (mxS a b) t := fun v hv => by
    cases q : ltS a b with
    | true =>
      have e : argBest (fun i j => ltS (sv ((#[.str a t, .str b u] : Array Value)[j]?.getD .none)) (sv ((#[.str a t, .str b u] : Array Value)[i]?.getD .none))) (2 - 1) = 1 := by
        show (if ltS a b = true then 0 + 1 else 0) = 1
        rw [q]; rfl
      rw [e] at hv
      exact ⟨u, by unfold mxS; rw [q]; exact (Option.some.inj hv).symm⟩
    | false =>
      have e : argBest (fun i j => ltS (sv ((#[.str a t, .str b u] : Array Value)[j]?.getD .none)) (sv ((#[.str a t, .str b u] : Array Value)[i]?.getD .none))) (2 - 1) = 0 := by
        show (if ltS a b = true then 0 + 1 else 0) = 0
        rw [q]; rfl
      rw [e] at hv
      exact ⟨t, by unfold mxS; rw [q]; exact (Option.some.inj hv).symm⟩
  rcases hl with hl | hl
  · refine call_max_walk (iter_anyList hl fun s₂ e st hfp ne => ?_)
    subst e
    exact ⟨_, _, _, _, _, _, _, rfl, Walks.list (A := A.in1) hh _ l ne #[.str a t, .str b u], st, hfp, by simp, cmp_gt every, fun v h' tk hP hk => h v h' tk (pick v hP) (PySem.old_kept hk)⟩
  · refine call_max_walk (iter_tup hl fun s₂ e st hfp ne => ?_)
    subst e
    exact ⟨_, _, _, _, _, _, _, rfl, Walks.tuple (A := A.in1) hh _ l ne #[.str a t, .str b u], st, hfp, by simp, cmp_gt every, fun v h' tk hP hk => h v h' tk (pick v hP) (kept_tup hk)⟩
theorem min_two {a b : Str} {t u : Tok} {Q : Value → Shared → Prop} (hh : A.handled = none) (hl : s.heap.IsList l #[.str a t, .str b u] ∨ s.heap.IsTuple l #[.str a t, .str b u])
    (h : ∀ v h' tk, (∃ t, v = .str (mnS a b) t) → (∀ d o, s.heap.get? d = some o → h'.get? d = some o) → Q v { s with heap := h', toks := tk }) : wpAny (model prog w) A (call (.builtin "min") [.ref l]) Q E s := by
  have every : ∀ v ∈ (#[.str a t, .str b u] : Array Value).toList, ∃ t, v = .str (sv v) t := fun v hv => by
    rcases List.mem_cons.mp hv with z | hv
    · exact ⟨t, by rw [z]; rfl⟩
    · exact ⟨u, by rw [List.mem_singleton.mp hv]; rfl⟩
  have pick : ∀ v, (#[.str a t, .str b u] : Array Value)[argBest (fun i j => ltS (sv ((#[.str a t, .str b u] : Array Value)[i]?.getD .none)) (sv ((#[.str a t, .str b u] : Array Value)[j]?.getD .none))) (2 - 1)]? = some v → ∃ t, v = .str (mnS a b) t := fun v hv => by
    cases q : ltS b a with
    | true =>
      have e : argBest (fun i j => ltS (sv ((#[.str a t, .str b u] : Array Value)[i]?.getD .none)) (sv ((#[.str a t, .str b u] : Array Value)[j]?.getD .none))) (2 - 1) = 1 := by
        show (if ltS b a = true then 0 + 1 else 0) = 1
        rw [q]; rfl
      rw [e] at hv
      exact ⟨u, by unfold mnS; rw [q]; exact (Option.some.inj hv).symm⟩
    | false =>
      have e : argBest (fun i j => ltS (sv ((#[.str a t, .str b u] : Array Value)[i]?.getD .none)) (sv ((#[.str a t, .str b u] : Array Value)[j]?.getD .none))) (2 - 1) = 0 := by
        show (if ltS b a = true then 0 + 1 else 0) = 0
        rw [q]; rfl
      rw [e] at hv
      exact ⟨t, by unfold mnS; rw [q]; exact (Option.some.inj hv).symm⟩
  rcases hl with hl | hl
  · refine call_min_walk (iter_anyList hl fun s₂ e st hfp ne => ?_)
    subst e
    exact ⟨_, _, _, _, _, _, _, rfl, Walks.list (A := A.in1) hh _ l ne #[.str a t, .str b u], st, hfp, by simp, cmp_lt every, fun v h' tk hP hk => h v h' tk (pick v hP) (PySem.old_kept hk)⟩
  · refine call_min_walk (iter_tup hl fun s₂ e st hfp ne => ?_)
    subst e
    exact ⟨_, _, _, _, _, _, _, rfl, Walks.tuple (A := A.in1) hh _ l ne #[.str a t, .str b u], st, hfp, by simp, cmp_lt every, fun v h' tk hP hk => h v h' tk (pick v hP) (kept_tup hk)⟩
/-- collect of a tuple -/
theorem collect_tup {Q : List Value → Shared → Prop} (hl : s.heap.IsTuple l vs.toArray) (hz : vs.length ≤ sizeLine)
    (h : ∀ h', (∀ b o, s.heap.get? b = some o → h'.get? b = some o) → s.heap.objs.size ≤ h'.objs.size → Q vs { s with heap := h' }) : wpAny (model prog w) A (collect (.ref l)) Q E s := by
  obtain ⟨o, ho, hc, n, hd⟩ := id hl
  unfold collect
  refine wpAny_bind (wpAny_runValue (codeAny_builtin entry_proto_collect' ?_))
  show wpAny _ _ (do again (.builtin "list.__iadd__" ⟨[← newList [], .ref l], []⟩)) _ _ s
  refine wpAny_bind (wpAny_newList (wpAny_pure ⟨Code.quiet_builtin _ (by decide +kernel), codeAny_builtin entry_list_iadd' ?_⟩))
  show wpAny _ _ (Builtin.List.listExtendWith (.ref s.heap.objs.size) (.ref l) (.ref s.heap.objs.size)) _ _ { s with heap := s.heap.push (seqObj "list" #[] 0) }
  unfold Builtin.List.listExtendWith
  have ho' : (s.heap.push (seqObj "list" #[] 0)).get? l = some o := Heap.get?_push_of_some _ ho
  refine wpAny_bind (wpAny_typeOf (T := "tuple") ⟨o, ho', hc⟩ ?_)
  have ht : (Value.type "tuple" == Value.type "tuple") = true := by rfl
  rw [if_pos (by rw [ht]; simp)]
  refine wpAny_bind (listItems_at ho' hd (listItems_at (xs := #[]) (n := 0) (Heap.get?_push_size _ rfl) rfl ?_ |> wpAny_bind))
  rw [if_neg (by simp)]
  refine wpAny_bind (listUpdate_at (xs := #[]) (n := 0) (Heap.get?_push_size _ rfl) rfl ?_ (Nat.zero_le _) (by simp only [Array.size_append, List.size_toArray, List.length_nil]; omega))
  refine wpAny_pure ?_
  show wpAny (model prog w) A (do
      let o ← load s.heap.objs.size
      match o.data with
      | .seq xs _ => pure xs.toList
      | _ => unsupported "internal:collect") Q E { s with heap := (s.heap.push (seqObj "list" #[] 0)).update s.heap.objs.size (Obj.mapSeq (· ++ vs.toArray)) }
  refine wpAny_bind (wpAny_load (get?_update_seq (Heap.get?_push_size _ rfl) _) ?_)
  show wpAny _ _ (pure ((#[] : Array Value) ++ vs.toArray).toList) Q E _
  rw [show ((#[] : Array Value) ++ vs.toArray).toList = vs by simp]
  refine wpAny_pure (h _ (fun b u e => ?_) ?_)
  · rw [Heap.get?_update_ne _ _ _ _ (Nat.ne_of_lt (Heap.lt_size e))]
    exact Heap.get?_push_of_some _ e
  · rw [Heap.size_update, Heap.size_push]
    exact Nat.le_succ _
theorem collect_lst {Q : List Value → Shared → Prop} (hl : s.heap.IsList l vs.toArray) (hz : vs.length ≤ sizeLine)
    (h : ∀ h', (∀ b o, s.heap.get? b = some o → h'.get? b = some o) → s.heap.objs.size ≤ h'.objs.size → Q vs { s with heap := h' }) : wpAny (model prog w) A (collect (.ref l)) Q E s := by
  refine collect_list hl (h _ (fun b u e => ?_) ?_) hz
  · rw [Heap.get?_update_ne _ _ _ _ (Nat.ne_of_lt (Heap.lt_size e))]
    exact Heap.get?_push_of_some _ e
  · rw [Heap.size_update, Heap.size_push]
    exact Nat.le_succ _
theorem swo_S {α : Type} (k : α → Str) : SrtO.Swo fun x y => ltS (k x) (k y) := by
  refine ⟨fun x y h => ltS_asym h, fun x y z h1 h2 => ?_⟩
  rcases ltS_tri (k x) (k y) with q | q | q
  · rcases ltS_tri (k y) (k z) with p | p | p
    · exact ltS_asym (ltS_tr q p)
    · rw [← p]; exact h1
    · rw [h2] at p; cases p
  · rw [q]; exact h2
  · rw [h1] at q; cases q
theorem txt_sortable {a : Addr} (h2 : 2 ≤ vs.length) (hv : ∀ u ∈ vs, ∃ t, u = .str (sv u) t) : SrtO.SortableO prog w A s a vs fun v u => ltS (sv v) (sv u) := by
  intro h' _
  refine ⟨oneType', fun Q E hq => ?_, fun p q hm hm' => ?_⟩
  · match vs, h2, hv with
    | v1 :: v2 :: rest, _, hv =>
      rw [keyKind_strs (Vals.strs (of_sv hv))]
      exact wpAny_pure hq
    | [], h, _ => exact absurd h (by decide)
    | [v], h, _ => exact absurd h (by simp)
  · obtain ⟨t, e⟩ := hv _ hm
    obtain ⟨u, e'⟩ := hv _ hm'
    show wpAny (model prog w) A (keyLt' oneType' p.1 q.1) (fun r s' => s' = _ ∧ r = ltS (sv p.1) (sv q.1)) (fun _ _ => False) _
    rw [e, e', keyLt'_oneType]
    exact oneLt_str ⟨rfl, rfl⟩
/-- sorted of texts, behind their collecting -/
theorem sorted_txt {x : Value} {Q : Value → Shared → Prop} (hv : ∀ u ∈ vs, ∃ t, u = .str (sv u) t) (hz : vs.length ≤ sizeLine)
    (hc : ∀ Q' : List Value → Shared → Prop, (∀ h', (∀ b o, s.heap.get? b = some o → h'.get? b = some o) → s.heap.objs.size ≤ h'.objs.size → Q' vs { s with heap := h' }) → wpAny (model prog w) A.in1 (collect x) Q' (fun _ _ => False) s)
    (h : ∀ h' d (out : List Value), out.Perm vs → out.Pairwise (fun v u => ltS (sv u) (sv v) = false) → (∀ b o, s.heap.get? b = some o → h'.get? b = some o) → s.heap.objs.size ≤ d → (∃ n, h'.get? d = some (seqObj "list" out.toArray n)) → Q (.ref d) { s with heap := h' }) :
    wpAny (model prog w) A (call (.builtin "sorted") [x]) Q E s := by
  refine Calls.call_function_entry kind_sorted plain_sorted entry_sorted (args_sorted1 _) ?_
  unfold Builtin.«sorted»
  refine wpAny_bind (m := checkCount "sorted" 1 1 _) (wpAny_pure ?_)
  refine wpAny_bind (wpAny_mono (hc _ fun h1 k1 z1 => ?_) (fun _ _ q => q) fun _ _ q => q.elim)
  refine wpAny_bind (wpAny_newList ?_ hz)
  have hoL : (h1.push (seqObj "list" vs.toArray 0)).get? h1.objs.size = some (seqObj "list" vs.toArray 0) := Heap.get?_push_size _ rfl
  refine wpAny_bind (wpAny_holding (wpAny_call_entry slot_list_sort ⟨_, hoL, rfl⟩ entry_list_sort (SrtO.list_sort_ord (s := { s with heap := h1.push (seqObj "list" vs.toArray 0) }) (swo_S sv) hoL hz (fun h2 => txt_sortable h2 hv) fun out hs hb => ⟨_, rfl, ?_⟩) (args_list_sort _)))
  refine wpAny_pure ⟨_, rfl, h _ h1.objs.size out hb.perm hs (fun b u e => ?_) z1 (sortedHeap_at (vs := vs) (out := out.toArray) hoL)⟩
  have z := k1 b u e
  have lt := Heap.lt_size z
  rw [sortedHeap_old (Nat.ne_of_lt lt) (by rw [size_push']; exact Nat.lt_succ_of_lt lt)]
  exact Heap.get?_push_of_some _ z
end

section
variable {X : Cx} {pins : List (Addr × Obj)} {σ : L2.St} {H : Hp} {s : Shared}
theorem two_of (I : Inv X pins σ H s) {l : Addr} {a b : Str} (h : Sq X.K H l [.str a, .str b]) : ∃ t u, s.heap.IsList l #[.str a t, .str b u] ∨ s.heap.IsTuple l #[.str a t, .str b u] := by
  rcases h with h | h
  · obtain ⟨its, r, hl, _⟩ := I.list h
    obtain ⟨u1, u2, rfl, ⟨t, rfl⟩, ⟨u, rfl⟩⟩ := vals2 r
    exact ⟨t, u, .inl hl.isList⟩
  · obtain ⟨its, r, ht, _⟩ := I.tuple h
    obtain ⟨u1, u2, rfl, ⟨t, rfl⟩, ⟨u, rfl⟩⟩ := vals2 r
    exact ⟨t, u, .inr ht⟩
/-- max, min of a pair of texts -/
def rMxS (K : PySem.W.Frag) : List V → Hp → VK → Prop := fun vs H Q => ∃ l a b, vs = [V.ref l] ∧ Sq K H l [.str a, .str b] ∧ Q (.str (mxS a b)) H
def rMnS (K : PySem.W.Frag) : List V → Hp → VK → Prop := fun vs H Q => ∃ l a b, vs = [V.ref l] ∧ Sq K H l [.str a, .str b] ∧ Q (.str (mnS a b)) H
theorem cr_mxS (hc : X.calm = true) : CallR X (.builtin "max") (rMxS X.K) := by
  intro pins s σ H vs us Q I r h
  obtain ⟨l, a, b, rfl, hs, q⟩ := h
  obtain ⟨t, u, hl⟩ := two_of I hs
  rw [Vals.ref1 r]
  refine max_two (I.ok.hd hc) hl fun v h' tk ⟨t', e⟩ hk => ⟨.str (mxS a b), H, I.kept hk, ⟨t', e⟩, q⟩
theorem cr_mnS (hc : X.calm = true) : CallR X (.builtin "min") (rMnS X.K) := by
  intro pins s σ H vs us Q I r h
  obtain ⟨l, a, b, rfl, hs, q⟩ := h
  obtain ⟨t, u, hl⟩ := two_of I hs
  rw [Vals.ref1 r]
  refine min_two (I.ok.hd hc) hl fun v h' tk ⟨t', e⟩ hk => ⟨.str (mnS a b), H, I.kept hk, ⟨t', e⟩, q⟩
/-- sorted of texts in a list or a tuple -/
def rSortX (K : PySem.W.Frag) : List V → Hp → VK → Prop := fun vs H Q => ∃ l ks, vs = [V.ref l] ∧ Sq K H l (ks.map V.str) ∧
  ∀ (ys : List Str) (p : Addr), ys.Perm ks → ys.Pairwise (fun x y => ltS y x = false) → H p = none → Q (.ref p) (upd H p (.lst (ys.map V.str)))
theorem cr_sortX : CallR X (.builtin "sorted") (rSortX X.K) := by
  intro pins s σ H vs us Q I r h
  obtain ⟨l, ks, rfl, hs, q⟩ := h
  rw [Vals.ref1 r]
  have both : ∃ its : List Value, Vals (ks.map V.str) its ∧ its.length ≤ sizeLine ∧ (s.heap.IsList l its.toArray ∨ s.heap.IsTuple l its.toArray) := by
    rcases hs with h | h
    · obtain ⟨its, r, hl, hz⟩ := I.list h
      exact ⟨its, r, by rw [← Paired.length r]; exact hz, .inl hl.isList⟩
    · obtain ⟨its, r, ht, hz⟩ := I.tuple h
      exact ⟨its, r, by rw [← Paired.length r]; exact hz, .inr ht⟩
  obtain ⟨its, rv, hz, hl⟩ := both
  obtain ⟨e1, e2⟩ := sv_of rv
  refine sorted_txt e2 hz (fun Q' hq => ?_) fun h' d out pm pw kp hd hn => ?_
  · rcases hl with hl | hl
    · exact collect_lst hl hz hq
    · exact collect_tup hl hz hq
  · obtain ⟨n, hn⟩ := hn
    have e3 : ∀ u ∈ out, ∃ t, u = .str (sv u) t := fun u hu => e2 u (pm.mem_iff.mp hu)
    have pm' : (out.map sv).Perm ks := by
      rw [← e1]
      exact pm.map sv
    have len : ((out.map sv).map V.str).length ≤ sizeLine := by
      rw [List.length_map, List.length_map, pm.length_eq]
      exact hz
    exact ⟨.ref d, upd H d (.lst ((out.map sv).map V.str)), I.laid (t' := s.toks) kp hd ⟨len, out, n, of_sv e3, hn⟩, rfl, q (out.map sv) d pm' (List.pairwise_map.mpr pw) (I.hok.fresh hd)⟩
/-- what is walked may be this or that: the reading tells which -/
def iOr (w1 w2 : TI) : TI := fun σ H R => w1 σ H R ∨ w2 σ H R
theorem pi_or {tg iter : Expr} {w1 w2 : TI} (h1 : PI X tg iter w1) (h2 : PI X tg iter w2) : PI X tg iter (iOr w1 w2) :=
  ⟨fun pins s σ H R I h => h.elim (h1.run pins s σ H R I) (h2.run pins s σ H R I)⟩
/-- a list or a tuple that a name holds -/
abbrev iSq (K : PySem.W.Frag) (te : TE) : TI := iOr (iList K te) (iTup K te)
theorem pi_sq {tg e : Expr} {te : TE} (he : PE X e te) : PI X tg e (iSq X.K te) := pi_or (pi_list he) (pi_tup he)
end
theorem Sq.same {K : PySem.W.Frag} {H H' : Hp} {a : Addr} {xs : List V} (e : ∀ b o, H b = some o → H' b = some o) (h : Sq K H a xs) : Sq K H' a xs := by
  rcases h with h | h
  · exact .inl (Same.seq e h)
  · rcases h with (h | ⟨o, h⟩) | h
    · exact .inr (.inl (.inl (e _ _ h)))
    · exact .inr (.inl (.inr ⟨o, e _ _ h⟩))
    · exact .inr (.inr h)
/-- the heap without what stands at p -/
def er (p : Addr) (H : Hp) : Hp := fun b => if b = p then none else H b
theorem er_ne {p b : Addr} {H : Hp} (h : b ≠ p) : er p H b = H b := if_neg h
theorem er_self {p : Addr} {H : Hp} : er p H p = none := if_pos rfl
theorem er_some {p b : Addr} {H : Hp} {o : HO} (h : er p H b = some o) : b ≠ p ∧ H b = some o := by
  by_cases e : b = p
  · rw [e, er_self] at h; cases h
  · rw [er_ne e] at h; exact ⟨e, h⟩
theorem er_same (p : Addr) (H : Hp) : Same (er p H) H := fun b o h => (er_some h).2
theorem er_keep {p : Addr} {H H' : Hp} (k : ∀ b o, H b = some o → b ≠ p → H' b = some o) : Same (er p H) H' := fun b o h => k b o (er_some h).2 (er_some h).1
theorem er_mono {p : Addr} {H H' : Hp} (k : Same H H') : Same (er p H) (er p H') := fun b o h => by
  obtain ⟨n, q⟩ := er_some h
  rw [er_ne n]
  exact k b o q
theorem sqT_same {K : PySem.W.Frag} {H H' : Hp} {a : Addr} {xs : List V} (e : Same H H') (h : SqT K H a xs) : SqT K H' a xs := by
  rcases h with (h | ⟨o, h⟩) | h
  · exact .inl (.inl (e _ _ h))
  · exact .inl (.inr ⟨o, e _ _ h⟩)
  · exact .inr h
/-- what is no list, no tuple and not locked doesn't matter -/
theorem Sq.er {K : PySem.W.Frag} {H : Hp} {p a C dx : Addr} {fs : List (Str × V)} {xs : List V} (hp : H p = some (.ins C dx fs)) (h : Sq K H a xs) : Sq K (er p H) a xs := by
  have k : ∀ {o : HO}, H a = some o → (∀ C dx fs, o ≠ .ins C dx fs) → Sx.er p H a = some o := fun {o} e n => by
    refine (er_ne fun z => ?_).trans e
    rw [z, hp] at e
    cases e
    exact n _ _ _ rfl
  rcases h with ((h | ⟨o, h⟩) | h) | ((h | ⟨o, h⟩) | h)
  · exact .inl (.inl (.inl (k h fun _ _ _ z => nomatch z)))
  · exact .inl (.inl (.inr ⟨o, k h fun _ _ _ z => nomatch z⟩))
  · exact .inl (.inr h)
  · exact .inr (.inl (.inl (k h fun _ _ _ z => nomatch z)))
  · exact .inr (.inl (.inr ⟨o, k h fun _ _ _ z => nomatch z⟩))
  · exact .inr (.inr h)
/-- for x in y, y a name that holds a list or a tuple -/
theorem for_sq {K : PySem.W.Frag} {i : Nat} {a : Addr} {xs : List V} {g : TG} {tb : TS} {D : Ends} {σ : L2.St} {H Hx : Hp} (hv : σ[i]? = some (some (.ref a))) (hx : Sq K Hx a xs) (Pv : Nat → L2.St → Hp → Prop) (h0 : Pv 0 σ H) (hl : ∀ i σ' H', Pv i σ' H' → Same Hx H')
    (hs : ∀ i x σ' H', xs[i]? = some x → Pv i σ' H' → g x σ' H' fun σ2 H2 => tb { D with nx := Pv (i + 1), ct := Pv (i + 1), bk := D.nx } σ2 H2) (hd : ∀ σ' H', Pv xs.length σ' H' → D.nx σ' H') : tFor (iSq K (tVar i)) g tb D σ H := by
  rcases hx with hx | hx
  · exact .inl ⟨_, hv, a, rfl, ⟨xs, Same.seq (hl _ _ _ h0) hx⟩, for_list (xs := xs) Pv h0 (fun i σ' H' _ p => Same.seq (hl i σ' H' p) hx) hs hd⟩
  · exact .inr ⟨_, hv, a, rfl, ⟨xs, sqT_same (hl _ _ _ h0) hx⟩, for_tup (xs := xs) Pv h0 (fun i σ' H' _ p => sqT_same (hl i σ' H' p) hx) hs hd⟩
end Sx

/-! SxOrd -/
/-! Lists put in order without doubles; what a Book holds. -/
namespace Sx
open PySem PySem.Spec PyProof.Rows L2

structure Tot {α : Type} (lt : α → α → Bool) : Prop where
  irr : ∀ a, lt a a = false
  tr : ∀ {a b c}, lt a b = true → lt b c = true → lt a c = true
  tri : ∀ a b, lt a b = true ∨ a = b ∨ lt b a = true
section
variable {α : Type} {lt : α → α → Bool}
theorem Tot.asym (O : Tot lt) {a b : α} (h : lt a b = true) : lt b a = false := by
  cases q : lt b a with
  | false => rfl
  | true =>
    have z := O.tr h q
    rw [O.irr] at z
    cases z
theorem Tot.eq (O : Tot lt) {a b : α} (h : lt a b = false) (g : lt b a = false) : a = b := by
  rcases O.tri a b with q | q | q
  · rw [h] at q; cases q
  · exact q
  · rw [g] at q; cases q
def ins (lt : α → α → Bool) (x : α) : List α → List α
  | [] => [x]
  | y :: l => if lt x y = true then x :: y :: l else if lt y x = true then y :: ins lt x l else y :: l
def srt (lt : α → α → Bool) (l : List α) : List α := l.foldr (ins lt) []
abbrev Up (lt : α → α → Bool) (l : List α) : Prop := l.Pairwise fun a b => lt a b = true
theorem mem_ins' (O : Tot lt) {x z : α} : ∀ {l : List α}, z ∈ ins lt x l ↔ z = x ∨ z ∈ l
  | [] => by simp [ins]
  | y :: l => by
    unfold ins
    by_cases h : lt x y = true
    · rw [if_pos h, List.mem_cons]
    · rw [if_neg h]
      by_cases g : lt y x = true
      · rw [if_pos g, List.mem_cons, mem_ins' O (l := l), List.mem_cons]
        constructor
        · rintro (q | q | q)
          · exact .inr (.inl q)
          · exact .inl q
          · exact .inr (.inr q)
        · rintro (q | q | q)
          · exact .inr (.inl q)
          · exact .inl q
          · exact .inr (.inr q)
      · rw [if_neg g]
        have e : x = y := O.eq (by simpa using h) (by simpa using g)
        subst e
        rw [List.mem_cons]
        constructor
        · intro q; exact .inr q
        · rintro (q | q)
          · exact .inl q
          · exact q
theorem up_ins (O : Tot lt) {x : α} : ∀ {l : List α}, Up lt l → Up lt (ins lt x l)
  | [], _ => by simp [ins, Up]
  | y :: l, h => by
    obtain ⟨h1, h2⟩ := List.pairwise_cons.mp h
    unfold ins
    by_cases c : lt x y = true
    · rw [if_pos c]
      refine List.pairwise_cons.mpr ⟨fun z hz => ?_, h⟩
      rcases List.mem_cons.mp hz with e | hz
      · rw [e]; exact c
      · exact O.tr c (h1 z hz)
    · rw [if_neg c]
      by_cases g : lt y x = true
      · rw [if_pos g]
        refine List.pairwise_cons.mpr ⟨fun z hz => ?_, up_ins O h2⟩
        rcases (mem_ins' O).mp hz with e | hz
        · rw [e]; exact g
        · exact h1 z hz
      · rw [if_neg g]
        exact h
theorem mem_srt (O : Tot lt) {z : α} : ∀ {l : List α}, z ∈ srt lt l ↔ z ∈ l
  | [] => Iff.rfl
  | x :: l => by
    show z ∈ ins lt x (srt lt l) ↔ _
    rw [mem_ins' O, mem_srt O, List.mem_cons]
theorem up_srt (O : Tot lt) : ∀ l : List α, Up lt (srt lt l)
  | [] => List.Pairwise.nil
  | x :: l => up_ins O (up_srt O l)
theorem up_nodup (O : Tot lt) {l : List α} (h : Up lt l) : l.Nodup := h.imp fun {a b} q e => by
  rw [e, O.irr] at q
  cases q
/-- there is one ascending list of the same members -/
theorem up_one (O : Tot lt) : ∀ {l m : List α}, Up lt l → Up lt m → (∀ z, z ∈ l ↔ z ∈ m) → l = m
  | [], [], _, _, _ => rfl
  | [], y :: m, _, _, h => absurd ((h y).mpr List.mem_cons_self) (by simp)
  | x :: l, [], _, _, h => absurd ((h x).mp List.mem_cons_self) (by simp)
  | x :: l, y :: m, hl, hm, h => by
    obtain ⟨a1, a2⟩ := List.pairwise_cons.mp hl
    obtain ⟨b1, b2⟩ := List.pairwise_cons.mp hm
    have e : x = y := by
      rcases List.mem_cons.mp ((h x).mp List.mem_cons_self) with q | q
      · exact q
      · rcases List.mem_cons.mp ((h y).mpr List.mem_cons_self) with p | p
        · exact p.symm
        · have z := O.asym (b1 x q)
          rw [a1 y p] at z
          cases z
    subst e
    have no : ∀ {k : List α}, (∀ z ∈ k, lt x z = true) → x ∉ k := fun k m => by
      have z := k x m
      rw [O.irr] at z
      cases z
    rw [up_one O a2 b2 fun z => ?_]
    have q := h z
    rw [List.mem_cons, List.mem_cons] at q
    constructor
    · intro hz
      rcases q.mp (.inr hz) with e | w
      · rw [e] at hz; exact absurd hz (no a1)
      · exact w
    · intro hz
      rcases q.mpr (.inr hz) with e | w
      · rw [e] at hz; exact absurd hz (no b1)
      · exact w
theorem srt_self (O : Tot lt) {l : List α} (h : Up lt l) : srt lt l = l := up_one O (up_srt O l) h fun z => mem_srt O
theorem srt_same (O : Tot lt) {l m : List α} (h : ∀ z, z ∈ l ↔ z ∈ m) : srt lt l = srt lt m := up_one O (up_srt O l) (up_srt O m) fun z => by rw [mem_srt O, mem_srt O, h]
/-- sorted as Python says (no double there) is ascending -/
theorem up_of (O : Tot lt) : ∀ {l : List α}, l.Nodup → l.Pairwise (fun x y => lt y x = false) → Up lt l
  | [], _, _ => List.Pairwise.nil
  | x :: l, n, h => by
    obtain ⟨n1, n2⟩ := List.nodup_cons.mp n
    obtain ⟨h1, h2⟩ := List.pairwise_cons.mp h
    refine List.pairwise_cons.mpr ⟨fun z hz => ?_, up_of O n2 h2⟩
    rcases O.tri x z with q | q | q
    · exact q
    · rw [q] at n1; exact absurd hz n1
    · rw [h1 z hz] at q; cases q
end
theorem ltCps_is : ∀ a b : List Nat, ltCps a b = decide (a < b)
  | [], [] => rfl
  | [], b :: bs => (decide_eq_true (by simp)).symm
  | a :: as, [] => (decide_eq_false (by simp)).symm
  | a :: as, b :: bs => by
    show (decide (a < b) || (a == b && ltCps as bs)) = _
    rw [ltCps_is as bs, Bool.eq_iff_iff, decide_eq_true_eq, List.cons_lt_cons_iff, Bool.or_eq_true, Bool.and_eq_true, decide_eq_true_eq, beq_iff_eq, decide_eq_true_eq]
theorem rising_pw : ∀ (r : List Str) (p : Str), risingS p r = true → (p :: r).Pairwise fun x y => ltS y x = false
  | [], p, _ => List.pairwise_singleton _ _
  | x :: r, p, h => by
    unfold risingS at h
    rw [Bool.and_eq_true, Bool.not_eq_true', ltCps_is] at h
    have ih := rising_pw r x h.2
    have ih2 := List.pairwise_cons.mp ih
    refine List.pairwise_cons.mpr ⟨fun z hz => ?_, ih⟩
    rcases List.mem_cons.mp hz with e | hz
    · rw [e]; exact h.1
    · have a := ih2.1 z hz
      cases q : ltS z p with
      | false => rfl
      | true =>
        rcases ltS_tri p x with c | c | c
        · rw [ltS_tr q c] at a; cases a
        · rw [← c, q] at a; cases a
        · have b := h.1
          rw [show decide (x.cps.toList < p.cps.toList) = ltS x p from rfl, c] at b
          cases b
theorem sortedS_pw {l : List Str} (h : sortedS l = true) : l.Pairwise fun x y => ltS y x = false := by
  cases l with
  | nil => exact List.Pairwise.nil
  | cons x r => exact rising_pw r x h
theorem totS : Tot ltS := ⟨ltS_irr, ltS_tr, ltS_tri⟩
def ltP (p q : Str × Str) : Bool := ltL [p.1, p.2] [q.1, q.2]
theorem totP : Tot ltP := by
  refine ⟨fun a => ltL_irr _, fun h g => ltL_tr h g, fun a b => ?_⟩
  rcases ltL_tri [a.1, a.2] [b.1, b.2] with q | q | q
  · exact .inl q
  · refine .inr (.inl (Prod.ext ?_ ?_))
    · exact (List.cons.inj q).1
    · exact (List.cons.inj (List.cons.inj q).2).1
  · exact .inr (.inr q)
/-- the pair, the lesser text first -/
def nrm (p : Str × Str) : Str × Str := (mnS p.1 p.2, mxS p.1 p.2)
/-- who clashes with k, by ascending pairs -/
def nearM (cs : List (Str × Str)) (k : Str) : List Str := cs.filterMap fun c => if c.1 = k then some c.2 else if c.2 = k then some c.1 else none
theorem nearM_snoc (cs : List (Str × Str)) (c : Str × Str) (k : Str) : nearM (cs ++ [c]) k = nearM cs k ++ (if c.1 = k then [c.2] else if c.2 = k then [c.1] else []) := by
  unfold nearM
  rw [List.filterMap_append]
  by_cases h : c.1 = k
  · simp [List.filterMap_cons, h]
  · by_cases g : c.2 = k
    · simp [List.filterMap_cons, h, g]
    · simp [List.filterMap_cons, h, g]
theorem paired_get {α β : Type} {F : α → β → Prop} : ∀ {xs : List α} {ys : List β} {i : Nat} {x : α}, Paired F xs ys → xs[i]? = some x → ∃ y, ys[i]? = some y ∧ F x y
  | _, _, _, _, .nil, e => by simp at e
  | _, _, 0, x, .cons r _, e => by
    cases e
    exact ⟨_, rfl, r⟩
  | _, _, i + 1, x, .cons _ t, e => paired_get (i := i) t e
theorem paired_imp {α β : Type} {F G : α → β → Prop} (f : ∀ a b, F a b → G a b) : ∀ {xs : List α} {ys : List β}, Paired F xs ys → Paired G xs ys
  | _, _, .nil => .nil
  | _, _, .cons r t => .cons (f _ _ r) (paired_imp f t)
/-- more of a kind than there are: not without doubles -/
theorem few_of {α : Type} [DecidableEq α] : ∀ {l m : List α}, l.Nodup → (∀ z ∈ l, z ∈ m) → l.length ≤ m.length
  | [], _, _, _ => Nat.zero_le _
  | x :: l, m, n, h => by
    obtain ⟨n1, n2⟩ := List.nodup_cons.mp n
    have hx := h x List.mem_cons_self
    have q := few_of (l := l) (m := m.erase x) n2 fun z hz => (List.mem_erase_of_ne (fun e : z = x => n1 (by rw [← e]; exact hz))).mpr (h z (List.mem_cons_of_mem _ hz))
    rw [List.length_erase_of_mem hx] at q
    have p : 0 < m.length := List.length_pos_of_mem hx
    rw [List.length_cons]
    omega
/-- tuple(xs) of a list, of a tuple -/
def rTupOf (K : PySem.W.Frag) : List V → Hp → VK → Prop := fun xs H Q => ∃ p ys, xs = [.ref p] ∧ ((SqL K H p ys ∧ ∀ l, H l = none → Q (.ref l) (upd H l (.tup ys))) ∨ (SqT K H p ys ∧ Q (.ref p) H))
theorem cr_tupOf {X : Cx} : CallR X (.type "tuple") (rTupOf X.K) := call_tuple_of
/-! the built-in names -/
theorem bt_sorted : bootBuiltins "sorted" = some (.builtin "sorted") := by decide +kernel
theorem bt_min : bootBuiltins "min" = some (.builtin "min") := by decide +kernel
theorem bt_max : bootBuiltins "max" = some (.builtin "max") := by decide +kernel
theorem bt_len : bootBuiltins "len" = some (.builtin "len") := by decide +kernel
theorem bt_all : bootBuiltins "all" = some (.builtin "all") := by decide +kernel
theorem bt_isinstance : bootBuiltins "isinstance" = some (.builtin "isinstance") := by decide +kernel
theorem bt_abs : bootBuiltins "abs" = some (.builtin "abs") := by decide +kernel
theorem bt_tuple : bootBuiltins "tuple" = some (.type "tuple") := by decide +kernel
theorem bt_list : bootBuiltins "list" = some (.type "list") := by decide +kernel
theorem bt_int : bootBuiltins "int" = some (.type "int") := by decide +kernel
theorem bt_range : bootBuiltins "range" = some (.type "range") := by decide +kernel
theorem bt_set : bootBuiltins "set" = some (.type "set") := by decide +kernel
theorem bt_zip : bootBuiltins "zip" = some (.type "zip") := by decide +kernel
theorem bt_enumerate : bootBuiltins "enumerate" = some (.type "enumerate") := by decide +kernel
theorem bt_dict : bootBuiltins "dict" = some (.type "dict") := by decide +kernel
theorem bt_str : bootBuiltins "str" = some (.type "str") := by decide +kernel
theorem bt_bool : bootBuiltins "bool" = some (.type "bool") := by decide +kernel
end Sx

/-! SxKeys -/
namespace Sx
open PySem PySem.Spec PyProof.Rows L2
/-! ### comprehensions over lists or tuples, over a dict's keys -/
theorem sk_sq {K : PySem.W.Frag} {P : Program} {w : World} {i : Nat} {a : Addr} {xs : List V} {g : TG} {tt : TT} {te : TE} {vs : List Nat} {σ : L2.St} {H Hx : Hp} {Q : VK} (hv : σ[i]? = some (some (.ref a))) (hx : Sq K Hx a xs) (hH : Same Hx H) (Pv : Addr → Nat → Hp → Prop)
    (h0 : ∀ D, H D = none → Pv D 0 (upd H D (SetK P w D []))) (hl : ∀ D j H', Pv D j H' → Same Hx H')
    (hs : ∀ D j x H', xs[j]? = some x → Pv D j H' → g x (wipe σ vs) H' fun σ2 H2 => wipe σ2 vs = wipe σ vs ∧ tt σ2 H2 fun b H3 =>
      if b = true then te σ2 H3 fun y H4 => ∃ (a : Addr) (k : List Key) (L : List Row), y = .ref a ∧ SqT K H4 a (k.map kV) ∧ H4 D = some (SetK P w D L) ∧ Rws K H4 L ∧ L.length < 4000 ∧
        ∀ L', (k ∈ L.map (·.2) → L' = L) → (k ∉ L.map (·.2) → L'.Perm ((a, k) :: L)) → Pv D (j + 1) (upd H4 D (SetK P w D L')) else Pv D (j + 1) H3)
    (hd : ∀ D H', H D = none → Pv D xs.length H' → Q (.ref D) H') : tSk K P w (iSq K (tVar i)) g tt te vs σ H Q := by
  rcases hx with hx | hx
  · refine .inl ⟨_, hv, a, rfl, ⟨xs, Same.seq hH hx⟩, fun D hD => ⟨fun j m H' => m = xs.length - j ∧ j ≤ xs.length ∧ Pv D j H', ⟨xs.length, rfl, Nat.zero_le _, h0 D hD⟩, ?_⟩⟩
    rintro j m H' ⟨rfl, hj, p⟩
    have sq := Same.seq (hl D j H' p) hx
    rcases Nat.lt_or_ge j xs.length with lt | ge
    · exact .inr ⟨⟨xs, xs[j], sq, List.getElem?_eq_getElem lt⟩, Pv D (j + 1), fun H2 p2 => ⟨xs.length - (j + 1), by omega, rfl, lt, p2⟩, fun x H2 ⟨e, y⟩ => by rw [e]; exact hs D j x H' (y xs sq) p⟩
    · have e : j = xs.length := Nat.le_antisymm hj ge
      subst e
      exact .inl ⟨⟨xs, sq, Nat.le_refl _⟩, hd D H' hD p⟩
  · refine .inr ⟨_, hv, a, rfl, ⟨xs, sqT_same hH hx⟩, fun D hD => ⟨fun j m H' => m = xs.length - j ∧ j ≤ xs.length ∧ Pv D j H', ⟨xs.length, rfl, Nat.zero_le _, h0 D hD⟩, ?_⟩⟩
    rintro j m H' ⟨rfl, hj, p⟩
    have sq := sqT_same (hl D j H' p) hx
    rcases Nat.lt_or_ge j xs.length with lt | ge
    · exact .inr ⟨⟨xs, xs[j], sq, List.getElem?_eq_getElem lt⟩, Pv D (j + 1), fun H2 p2 => ⟨xs.length - (j + 1), by omega, rfl, lt, p2⟩, fun x H2 ⟨e, y⟩ => by rw [e]; exact hs D j x H' (y xs sq) p⟩
    · have e : j = xs.length := Nat.le_antisymm hj ge
      subst e
      exact .inl ⟨⟨xs, sq, Nat.le_refl _⟩, hd D H' hD p⟩
/-- {k: v for k in d} while d is locked -/
theorem dc_keys {i j : Nat} {d : Addr} {od : Obj} {kvs : List (Key × V)} {tt : TT} {tk tv : TE} {vs : List Nat} {σ : L2.St} {H : Hp} {Q : VK} (hv : σ[i]? = some (some (.ref d))) (hd : H d = some (.frz od (.dK kvs))) (Pv : Addr → Nat → Hp → Prop)
    (h0 : ∀ D, H D = none → Pv D 0 (upd H D (.dK []))) (hl : ∀ D n H', Pv D n H' → H' d = some (.frz od (.dK kvs)))
    (hs : ∀ D n k v H', kvs[n]? = some (k, v) → Pv D n H' → wipe ((wipe σ vs).set j (some (kV k))) vs = wipe σ vs ∧ tt ((wipe σ vs).set j (some (kV k))) H' fun b H3 =>
      if b = true then tk ((wipe σ vs).set j (some (kV k))) H3 fun y H4 => tv ((wipe σ vs).set j (some (kV k))) H4 fun z H5 => ∃ kvs k, y = kV k ∧ H5 D = some (.dK kvs) ∧ kvs.length < sizeLine ∧ Pv D (n + 1) (upd H5 D (.dK (putK kvs k z))) else Pv D (n + 1) H3)
    (hq : ∀ D H', H D = none → Pv D kvs.length H' → Q (.ref D) H') : tDc (iKeys (tVar i)) (gName j) tt tk tv vs σ H Q := by
  refine ⟨_, hv, d, od, rfl, .inl ⟨kvs, hd, fun D hD => ⟨fun n m H' => m = kvs.length - n ∧ n ≤ kvs.length ∧ Pv D n H', ⟨kvs.length, rfl, Nat.zero_le _, h0 D hD⟩, ?_⟩⟩⟩
  rintro n m H' ⟨rfl, hn, p⟩
  have hf := hl D n H' p
  rcases Nat.lt_or_ge n kvs.length with lt | ge
  · refine .inr ⟨⟨hf, lt⟩, Pv D (n + 1), fun H2 p2 => ⟨kvs.length - (n + 1), by omega, rfl, lt, p2⟩, fun x H2 ⟨e, k, v, hk, ex⟩ => ?_⟩
    subst e
    subst ex
    exact hs D n k v _ hk p
  · have e : n = kvs.length := Nat.le_antisymm hn ge
    subst e
    exact .inl ⟨⟨hf, Nat.le_refl _⟩, hq D H' hD p⟩
end Sx

/-! BookA -/
namespace Sx
open PySem PySem.Spec PyProof.Rows L2

def top (i : Nat) : Stmt := PySem.Challenge.pw_onehostmore_k39_crowds_as_they_are.main.body.getD i (.Pass ⟨0, 0, 0, 0⟩)
abbrev cBook : Stmt := top 10
abbrev sInit : Stmt := inClass cBook 0

/-! ### a Book as it stands -/
def bkF (ak ac an : Addr) : List (Str × V) := putF "_near" (.ref an) (putF "_clashes" (.ref ac) (putF "_kinds" (.ref ak) []))
theorem n1 : ¬ (("_clashes" : Str) = "_near") := by decide +kernel
theorem n2 : ¬ (("_kinds" : Str) = "_near") := by decide +kernel
theorem n3 : ¬ (("_kinds" : Str) = "_clashes") := by decide +kernel
theorem bkF_near (ak ac an : Addr) : (bkF ak ac an).lookup ("_near" : Str) = some (.ref an) := by
  unfold bkF
  rw [lookup_putF, if_pos rfl]
theorem bkF_clashes (ak ac an : Addr) : (bkF ak ac an).lookup ("_clashes" : Str) = some (.ref ac) := by
  unfold bkF
  rw [lookup_putF, if_neg n1, lookup_putF, if_pos rfl]
theorem bkF_kinds (ak ac an : Addr) : (bkF ak ac an).lookup ("_kinds" : Str) = some (.ref ak) := by
  unfold bkF
  rw [lookup_putF, if_neg n2, lookup_putF, if_neg n3, lookup_putF, if_pos rfl]
theorem bkF_no (ak ac an : Addr) {m : Str} (h1 : ¬ m = "_near") (h2 : ¬ m = "_clashes") (h3 : ¬ m = "_kinds") : (bkF ak ac an).lookup m = none := by
  unfold bkF
  rw [lookup_putF, if_neg h1, lookup_putF, if_neg h2, lookup_putF, if_neg h3]
  rfl
/-- pairs of texts, each a tuple of its own at ts -/
def Prs (K : PySem.W.Frag) (H : Hp) (ts : List Addr) (cs : List (Str × Str)) : Prop := Paired (fun t c => SqT K H t [.str c.1, .str c.2]) ts cs
/-- a Book stands at p -/
structure BookAt (K : PySem.W.Frag) (C : Addr) (H : Hp) (p : Addr) (ks : List Str) (cs : List (Str × Str)) : Prop where
  ex : ∃ dx ak ac an kvs ts, H p = some (.ins C dx (bkF ak ac an)) ∧ SqT K H ak (ks.map V.str) ∧ SqT K H ac (ts.map V.ref) ∧ Prs K H ts cs ∧ H an = some (.dK kvs) ∧
    (∀ k, k ∈ ks → ∃ t, valV kvs (.inr k) = some (.ref t) ∧ SqT K H t ((nearM cs k).map V.str)) ∧ (∀ k, k ∉ ks → valV kvs (.inr k) = none)
theorem BookAt.same {K : PySem.W.Frag} {C : Addr} {H H' : Hp} {p : Addr} {ks : List Str} {cs : List (Str × Str)} (e : Same H H') (b : BookAt K C H p ks cs) : BookAt K C H' p ks cs := by
  obtain ⟨dx, ak, ac, an, kvs, ts, h1, h2, h3, h4, h5, h6, h7⟩ := b.ex
  refine ⟨dx, ak, ac, an, kvs, ts, e _ _ h1, sqT_same e h2, sqT_same e h3, paired_imp (fun _ _ z => sqT_same e z) h4, e _ _ h5, fun k hk => ?_, h7⟩
  obtain ⟨t, a, b⟩ := h6 k hk
  exact ⟨t, a, sqT_same e b⟩

/-! ### Book.__init__ -/
def strOf : V → Option Str
  | .str z => some z
  | _ => none
structure TBook (K : PySem.W.Frag) (mg : Str → Option Value) (C : Addr) : Prop where
  cl : Cls K C
  nK : NoAttr K C "_kinds"
  nC : NoAttr K C "_clashes"
  nN : NoAttr K C "_near"
  sorted : mg "sorted" = none
  tuple : mg "tuple" = none
  min : mg "min" = none
  max : mg "max" = none
def spInit (K : PySem.W.Frag) (C : Addr) : Sp := fun vs H Q _ => ∃ (p dx lk lc : Addr) (ts : List Addr) (ks : List Str) (ps : List (Str × Str)), vs = [.ref p, .ref lk, .ref lc] ∧ H p = some (.ins C dx []) ∧
  Sq K H lk (ks.map V.str) ∧ Sq K H lc (ts.map V.ref) ∧ Paired (fun t c => Sq K H t [.str c.1, .str c.2]) ts ps ∧ ks.Nodup ∧ ks.length ≤ 40 ∧ (∀ c ∈ ps, c.1 ∈ ks ∧ c.2 ∈ ks) ∧
  ∀ H', BookAt K C H' p (srt ltS ks) (srt ltP (ps.map nrm)) → (∀ b o, H b = some o → b ≠ p → H' b = some o) → Q .non H'
/-- the dict near while it is filled: nl tells the address of each kind's list, g what stands in it -/
structure NL (H0 H : Hp) (p d : Addr) (nl : List (Str × Addr)) (g : Str → List Str) : Prop where
  dic : H d = some (.dK (nl.map fun q => (Sum.inr q.1, V.ref q.2)))
  one : (nl.map (·.1)).Nodup
  adr : (nl.map (·.2)).Nodup
  lst : ∀ q ∈ nl, H q.2 = some (.lst ((g q.1).map V.str))
  new : ∀ q ∈ nl, H0 q.2 = none
  nd : H0 d = none
  keep : ∀ b o, H0 b = some o → b ≠ p → H b = some o
theorem nl_val : ∀ {nl : List (Str × Addr)} {k : Str} {a : Addr}, (nl.map (·.1)).Nodup → (k, a) ∈ nl → valV (nl.map fun q => ((Sum.inr q.1 : Key), V.ref q.2)) (Sum.inr k) = some (.ref a)
  | [], _, _, _, h => by simp at h
  | q :: nl, k, a, n, h => by
    obtain ⟨n1, n2⟩ := List.nodup_cons.mp n
    unfold valV
    rw [List.map_cons, List.find?_cons]
    by_cases e : q.1 = k
    · have z : decide ((Sum.inr q.1 : Key) = Sum.inr k) = true := decide_eq_true (by rw [e])
      simp only [z]
      rcases List.mem_cons.mp h with w | w
      · rw [← w]; rfl
      · exact absurd (List.mem_map.mpr ⟨(k, a), w, rfl⟩) (by rw [← e]; exact n1)
    · have z : decide ((Sum.inr q.1 : Key) = Sum.inr k) = false := decide_eq_false fun w => e (Sum.inr.inj w)
      simp only [z]
      rcases List.mem_cons.mp h with w | w
      · exact absurd (by rw [← w]) e
      · exact nl_val n2 w
theorem nl_no : ∀ {nl : List (Str × Addr)} {k : Str}, k ∉ nl.map (·.1) → valV (nl.map fun q => ((Sum.inr q.1 : Key), V.ref q.2)) (Sum.inr k) = none
  | [], _, _ => rfl
  | q :: nl, k, h => by
    unfold valV
    rw [List.map_cons, List.find?_cons]
    have z : decide ((Sum.inr q.1 : Key) = Sum.inr k) = false := decide_eq_false fun w => h (by rw [← Sum.inr.inj w]; exact List.mem_cons_self)
    simp only [z]
    exact nl_no fun w => h (List.mem_cons_of_mem _ w)
theorem nl_at {nl : List (Str × Addr)} {k : Str} (h : k ∈ nl.map (·.1)) : ∃ a, (k, a) ∈ nl := by
  obtain ⟨q, hq, e⟩ := List.mem_map.mp h
  exact ⟨q.2, by rw [← e]; exact hq⟩
theorem nl_inj {nl : List (Str × Addr)} (n : (nl.map (·.2)).Nodup) : ∀ {q r : Str × Addr}, q ∈ nl → r ∈ nl → q.2 = r.2 → q = r := by
  induction nl with
  | nil => exact fun h => by simp at h
  | cons x nl ih =>
    obtain ⟨n1, n2⟩ := List.nodup_cons.mp n
    intro q r hq hr e
    rcases List.mem_cons.mp hq with a | a <;> rcases List.mem_cons.mp hr with b | b
    · rw [a, b]
    · exact absurd (List.mem_map.mpr ⟨r, b, by rw [← e, a]⟩) n1
    · exact absurd (List.mem_map.mpr ⟨q, a, by rw [e, b]⟩) n1
    · exact ih n2 a b e
/-- a new key with its empty list -/
theorem NL.more {H0 H : Hp} {p d l : Addr} {nl : List (Str × Addr)} {g : Str → List Str} {k : Str} (N : NL H0 H p d nl g) (hp : H p ≠ none) (hl : H l = none) (hk : k ∉ nl.map (·.1)) (hg : g k = []) :
    NL H0 (upd (upd H l (.lst [])) d (.dK (putK (nl.map fun q => ((Sum.inr q.1 : Key), V.ref q.2)) (Sum.inr k) (.ref l)))) p d (nl ++ [(k, l)]) g := by
  have ld : l ≠ d := fun e => by rw [e, N.dic] at hl; cases hl
  have H0l : H0 l = none := by
    cases q : H0 l with
    | none => rfl
    | some o =>
      by_cases e : l = p
      · rw [e] at hl; exact absurd hl hp
      · rw [N.keep l o q e] at hl; cases hl
  have other : ∀ q ∈ nl, q.2 ≠ d ∧ q.2 ≠ l := fun q hq => by
    have a := N.lst q hq
    refine ⟨fun e => ?_, fun e => ?_⟩
    · rw [e, N.dic] at a
      cases a
    · rw [e, hl] at a
      cases a
  refine ⟨?_, ?_, ?_, fun q hq => ?_, fun q hq => ?_, N.nd, fun b o e hb => ?_⟩
  · rw [upd_same, putK_new _ (nl_no hk), List.map_append]
    rfl
  · rw [List.map_append]
    exact nd_snoc N.one hk
  · rw [List.map_append]
    refine nd_snoc N.adr fun m => ?_
    obtain ⟨q, hq, e⟩ := List.mem_map.mp m
    exact (other q hq).2 e
  · rcases List.mem_append.mp hq with hq | hq
    · rw [upd_ne (other q hq).1, upd_ne (other q hq).2]
      exact N.lst q hq
    · rw [List.mem_singleton.mp hq, upd_ne ld, upd_same, hg]
      rfl
  · rcases List.mem_append.mp hq with hq | hq
    · exact N.new q hq
    · rw [List.mem_singleton.mp hq]
      exact H0l
  · rw [upd_ne (ne_of_none e N.nd), upd_ne (fun z => by rw [z, H0l] at e; cases e)]
    exact N.keep b o e hb
/-- a text more in one list -/
theorem NL.app {H0 H : Hp} {p d a : Addr} {nl : List (Str × Addr)} {g : Str → List Str} {k x : Str} (N : NL H0 H p d nl g) (hk : (k, a) ∈ nl) :
    NL H0 (upd H a (.lst ((g k).map V.str ++ [.str x]))) p d nl (fun j => if j = k then g k ++ [x] else g j) := by
  have hL := N.lst _ hk
  have ad : d ≠ a := fun e => by
    have a := N.dic
    rw [e, hL] at a
    cases a
  refine ⟨?_, N.one, N.adr, fun q hq => ?_, N.new, N.nd, fun b o e hb => ?_⟩
  · rw [upd_ne ad]
    exact N.dic
  · by_cases e : q.2 = a
    · have z : q = (k, a) := nl_inj N.adr hq hk e
      rw [z, upd_same, if_pos rfl, List.map_append]
      rfl
    · have ne : q.1 ≠ k := fun w => by
        have v1 := nl_val N.one hk
        have v2 := nl_val N.one (k := q.1) (a := q.2) hq
        rw [w, v1] at v2
        cases v2
        exact e rfl
      rw [upd_ne e, if_neg ne]
      exact N.lst q hq
  · rw [upd_ne (ne_of_none e (N.new _ hk))]
    exact N.keep b o e hb
theorem NL.eqv {H0 H : Hp} {p d : Addr} {nl : List (Str × Addr)} {g g' : Str → List Str} (N : NL H0 H p d nl g) (e : ∀ k, g k = g' k) : NL H0 H p d nl g' := by
  have q : g = g' := funext e
  rw [← q]
  exact N
/-- something new beside, or p itself -/
theorem NL.beside {H0 H H' : Hp} {p d : Addr} {nl : List (Str × Addr)} {g : Str → List Str} (N : NL H0 H p d nl g) (hp : H0 p ≠ none) (e : ∀ b o, H b = some o → b ≠ p → H' b = some o) : NL H0 H' p d nl g :=
  ⟨e _ _ N.dic fun z => hp (by rw [← z]; exact N.nd), N.one, N.adr, fun q hq => e _ _ (N.lst q hq) fun z => hp (by rw [← z]; exact N.new q hq), N.new, N.nd, fun b o h hb => e _ _ (N.keep b o h hb) hb⟩
section
variable {P : Program} {w : World} {K : PySem.W.Frag} {mg : Str → Option Value} {base : Heap}
abbrev nInit : List Str := ["self", "kinds", "clashes", "near", "kind", "pair", "one", "other"]
theorem scInit : FnScope nInit ["self", "kinds", "clashes"] (defScope sInit) := ⟨rfl, rfl, rfl, by decide +kernel, rfl, by decide +kernel, by decide +kernel⟩
theorem ok_init {f C : Addr} {fd : FuncData} {dvs : List V} (F : FunD K "__init__" "Book.__init__" (defArgs sInit) (defBody sInit) (defScope sInit) dvs [] f fd) (T : TBook K mg C) : FnOk P w K mg base CX0 1 f fd ["self", "kinds", "clashes"] (spInit K C) := by
  refine F.ok scInit (fun vs H Q E h => ?_) (fun cdv A outer s H vs Q E hr h => ?_)
  · obtain ⟨p, dx, lk, lc, ts, ks, ps, rfl, _⟩ := h
    rfl
  · obtain ⟨p, dx, lk, lc, ts, ks, ps, rfl, hp, hk, hc, hps, nd, few, inn, q⟩ := h
    have hu := hu_of hr
    refine ⟨_, (pss_cons (ps_set (i := 3) scInit.nd rfl (Or.inr rfl) pe_dnewK)
      (Evl.pss_cut (ps_for PassesOwn.never rfl (pi_sq (pv 1)) (pg_name (i := 4) scInit.nd rfl (Or.inl rfl))
        (pss_cons (ps_if (pt_cmp (pc_din hu (pv 4) (pv 3))) (pss_one ps_never) pss_nil)
        (pss_one (ps_dput hu (pv 3) (pv 4) (pe_lst pa_nil) rfl))))
      (Evl.pss_cut (ps_for PassesOwn.never rfl (pi_sq (pv 2)) (pg_name (i := 5) scInit.nd rfl (Or.inl rfl))
        (pss_one (ps_for PassesOwn.never rfl (pi_sq (pv 5)) (pg_name (i := 4) scInit.nd rfl (Or.inl rfl))
          (pss_one (ps_if (pt_cmp (pc_dnotin hu (pv 4) (pv 3))) (pss_one ps_never) pss_nil)))))
      (pss_cons (ps_fld (pv 0) (pe_callTy cr_tupOf (by rfl) T.tuple bt_tuple (pa_cons (pe_callB (call_sortedD rfl) (by rfl) T.sorted bt_sorted (pa_cons (pv 3) pa_nil)) pa_nil)) rfl)
      (Evl.pss_cut (ps_fld (pv 0) (pe_callTy cr_tupOf (by rfl) T.tuple bt_tuple (pa_cons (pe_callB (cr_sortSK rfl) (by rfl) T.sorted bt_sorted (pa_cons
          (pe_sk (own := [("pair", 5)]) (g := gName 5) (tt := tYes) rfl hu scInit.nd (pi_sq (pv 2)) (blkOk_by (N := nInit) (sc := defScope sInit) (by decide +kernel)) (fun _ _ _ _ _ => pg_name (i := 5) scInit.nd rfl (Or.inl rfl)) (fun _ _ _ _ _ => pts_nil)
            (fun _ _ _ _ _ => pe_tup (pa_cons (pe_callB (r := rMnS K) (cr_mnS rfl) (by rfl) T.min bt_min (pa_cons (pv 5) pa_nil)) (pa_cons (pe_callB (r := rMxS K) (cr_mxS rfl) (by rfl) T.max bt_max (pa_cons (pv 5) pa_nil)) pa_nil)))) pa_nil)) pa_nil)) rfl)
      (Evl.pss_cut (ps_for PassesOwn.never rfl (pi_tup (pe_fld (pv 0) rfl)) (pg_tup rfl (pgs_cons (pg_name (i := 6) scInit.nd rfl (Or.inl rfl)) (pgs_cons (pg_name (i := 7) scInit.nd rfl (Or.inl rfl)) pgs_nil)))
        (pss_cons (ps_expr (pe_bm PySem.F.plainAttrs_list PySem.F.slot_list_append PySem.F.type_list_append mt_append (pe_dget hu (pv 3) (pv 6) (fun _ _ => rfl)) (pa_cons (pv 7) pa_nil)))
        (pss_one (ps_if (pt_cmpR op_ne (pv 6) (pv 7) (nomark _)) (pss_one (ps_expr (pe_bm PySem.F.plainAttrs_list PySem.F.slot_list_append PySem.F.type_list_append mt_append (pe_dget hu (pv 3) (pv 7) (fun _ _ => rfl)) (pa_cons (pv 6) pa_nil)))) pss_nil))))
      (pss_one (ps_fld (pv 0) (pe_lock (pe_dc (own := [("kind", 4)]) (g := gName 4) (tt := tYes) rfl scInit.nd (pi_keys (pv 3)) (blkOk_by (N := nInit) (sc := defScope sInit) (by decide +kernel)) (fun _ _ _ _ _ => pg_name (i := 4) scInit.nd rfl (Or.inl rfl)) (fun _ _ _ _ _ => pts_nil)
          (fun _ _ _ _ _ => pv 4) (fun _ _ _ _ _ => pe_callTy (r := rTupOf K) cr_tupOf (by rfl) T.tuple bt_tuple (pa_cons (pe_dget hu (pv 3) (pv 4) (fun _ _ => rfl)) pa_nil)))) rfl)))))))).nox, ?_⟩
    have noP : H p ≠ none := by rw [hp]; exact fun z => nomatch z
    have sP : Sq K (er p H) lk (ks.map V.str) := hk.er hp
    have sC : Sq K (er p H) lc (ts.map V.ref) := hc.er hp
    have sPs : Paired (fun t c => Sq K (er p H) t [.str c.1, .str c.2]) ts ps := paired_imp (fun _ _ z => z.er hp) hps
    -- near = {}
    intro d hd
    have npd : p ≠ d := ne_of_none hp hd
    have N0 : NL H (upd H d (.dK [])) p d [] (fun _ => []) := ⟨upd_same, List.nodup_nil, List.nodup_nil, fun q hq => (by cases hq), fun q hq => (by cases hq), hd, fun b o e _ => by rw [upd_ne (ne_of_none e hd)]; exact e⟩
    -- for kind in kinds
    refine ⟨fun σ' H' => ∃ nl v4, σ' = [some (.ref p), some (.ref lk), some (.ref lc), some (.ref d), v4, none, none, none] ∧ NL H H' p d nl (fun _ => []) ∧ nl.map (·.1) = ks ∧ H' p = some (.ins C dx []),
      for_sq (i := 1) rfl sP (fun i σ' H' => ∃ nl v4, σ' = [some (.ref p), some (.ref lk), some (.ref lc), some (.ref d), v4, none, none, none] ∧ NL H H' p d nl (fun _ => []) ∧ nl.map (·.1) = ks.take i ∧ H' p = some (.ins C dx []))
        ⟨[], none, rfl, N0, rfl, by rw [upd_ne npd]; exact hp⟩ (fun i σ' H' ⟨_, _, _, N, _⟩ => er_keep N.keep) ?_ ?_, ?_⟩
    · rintro i x σ' H' hi ⟨nl, v4, rfl, N, en, hp'⟩
      rw [List.getElem?_map] at hi
      obtain ⟨k, hki, rfl⟩ := Option.map_eq_some_iff.mp hi
      have knew : k ∉ nl.map (·.1) := by
        rw [en]
        intro m
        obtain ⟨j, hj, e⟩ := List.getElem_of_mem m
        rw [List.length_take] at hj
        have e2 : ks[j]? = some k := by
          rw [← e, List.getElem_take]
          exact List.getElem?_eq_getElem (by omega)
        have := nd_ix nd e2 hki
        omega
      refine ⟨_, rfl, _, rfl, d, _, rfl, DGet.k (k := Sum.inr k) N.dic, ?_⟩
      rw [nl_no knew]
      refine ⟨_, rfl, iteF ?_⟩
      refine ⟨Nat.zero_le _, fun l hl => ?_⟩
      have nld : d ≠ l := fun e => by rw [← e, N.dic] at hl; cases hl
      refine ⟨_, rfl, _, rfl, d, _, rfl, DPut.k (k := Sum.inr k) (by rw [upd_ne nld]; exact N.dic) (small1000 ?_), ?_⟩
      · have z := congrArg List.length en
        rw [List.length_map, List.length_take] at z
        rw [List.length_map]
        omega
      · refine ⟨nl ++ [(k, l)], _, rfl, N.more (by rw [hp']; exact fun z => nomatch z) hl knew rfl, ?_, ?_⟩
        · rw [List.map_append, en, List.take_add_one, hki]
          rfl
        · rw [upd_ne npd, upd_ne (ne_of_none hp' hl)]
          exact hp'
    · rintro σ' H' ⟨nl, v4, rfl, N, en, hp'⟩
      rw [List.length_map, List.take_length] at en
      exact ⟨nl, v4, rfl, N, en, hp'⟩
    -- for pair in clashes: for kind in pair
    rintro σ1 H1 ⟨nl, v4, rfl, N1, en, hp1⟩
    refine ⟨fun σ' H' => H' = H1 ∧ ∃ v4 v5, σ' = [some (.ref p), some (.ref lk), some (.ref lc), some (.ref d), v4, v5, none, none],
      for_sq (i := 2) rfl sC (fun i σ' H' => H' = H1 ∧ ∃ v4 v5, σ' = [some (.ref p), some (.ref lk), some (.ref lc), some (.ref d), v4, v5, none, none])
        ⟨rfl, v4, none, rfl⟩ (fun i σ' H' ⟨e, _⟩ => by rw [e]; exact er_keep N1.keep) ?_ (fun σ' H' h => h), ?_⟩
    · rintro i x σ' H' hi ⟨rfl, v4, v5, rfl⟩
      rw [List.getElem?_map] at hi
      obtain ⟨t, hti, rfl⟩ := Option.map_eq_some_iff.mp hi
      obtain ⟨c, hci, hc2⟩ := paired_get sPs hti
      refine for_sq (i := 5) rfl hc2 (fun i σ' H2 => H2 = H' ∧ ∃ v4, σ' = [some (.ref p), some (.ref lk), some (.ref lc), some (.ref d), v4, some (.ref t), none, none])
        ⟨rfl, v4, rfl⟩ (fun i σ' H2 ⟨e, _⟩ => by rw [e]; exact er_keep N1.keep) ?_ ?_
      · rintro j x σ' H2 hj ⟨rfl, v4, rfl⟩
        have xk : ∃ k, x = .str k ∧ k ∈ ks := by
          have m := inn c (List.mem_of_getElem? hci)
          match j, hj with
          | 0, hj => cases hj; exact ⟨_, rfl, m.1⟩
          | 1, hj => cases hj; exact ⟨_, rfl, m.2⟩
          | j + 2, hj => simp at hj
        obtain ⟨k, rfl, km⟩ := xk
        obtain ⟨a, ha⟩ := nl_at (nl := nl) (k := k) (by rw [en]; exact km)
        refine ⟨_, rfl, _, rfl, d, _, rfl, DGet.k (k := Sum.inr k) N1.dic, ?_⟩
        rw [nl_val N1.one ha]
        exact ⟨_, rfl, iteF ⟨rfl, _, rfl⟩⟩
      · rintro σ' H2 ⟨rfl, v4, rfl⟩
        exact ⟨rfl, v4, _, rfl⟩
    rintro σ2 H2 ⟨rfl, v4, v5, rfl⟩
    -- self._kinds = tuple(sorted(near))
    refine ⟨_, rfl, d, _, ks, rfl, .inl N1.dic, ?_, by omega, fun ys a1 pys sys ha1 => ?_⟩
    · rw [List.map_map, ← en, List.map_map]
      rfl
    refine ⟨a1, _, rfl, .inl ⟨SqL.of upd_same, fun ak hak => ?_⟩⟩
    have hp4 : ∀ o1 o2, (upd (upd H2 a1 o1) ak o2) p = some (.ins C dx []) := fun o1 o2 => by
      have pa : p ≠ a1 := ne_of_none hp1 ha1
      have e1 : (upd H2 a1 o1) p = some (.ins C dx []) := by rw [upd_ne pa]; exact hp1
      by_cases z : p = ak
      · rw [← z, upd_ne pa, hp1] at hak; cases hak
      · rw [upd_ne z]; exact e1
    refine ⟨_, rfl, p, C, dx, [], rfl, hp4 _ _, T.cl, T.nK, (by show 0 < 1000; decide), ?_⟩
    have eys : ys = srt ltS ks := up_one totS (up_of totS (pys.nodup_iff.mpr nd) (sortedS_pw sys)) (up_srt totS ks) fun z => by rw [pys.mem_iff, mem_srt totS]
    subst eys
    have keep5 : ∀ b o, H2 b = some o → b ≠ p → (upd (upd (upd H2 a1 (.lst ((srt ltS ks).map V.str))) ak (.tup ((srt ltS ks).map V.str))) p (.ins C dx (putF "_kinds" (.ref ak) []))) b = some o := fun b o e hb => by
      have e1 : (upd H2 a1 (.lst ((srt ltS ks).map V.str))) b = some o := by rw [upd_ne (ne_of_none e ha1)]; exact e
      rw [upd_ne hb, upd_ne (ne_of_none e1 hak)]
      exact e1
    have N5 := N1.beside noP keep5
    have pak : p ≠ ak := fun z => by
      have w := hp4 (.lst ((srt ltS ks).map V.str)) (.tup ((srt ltS ks).map V.str))
      rw [z, upd_same] at w
      cases w
    have hak5 : (upd (upd (upd H2 a1 (.lst ((srt ltS ks).map V.str))) ak (.tup ((srt ltS ks).map V.str))) p (.ins C dx (putF "_kinds" (.ref ak) []))) ak = some (.tup ((srt ltS ks).map V.str)) := by rw [upd_ne pak.symm, upd_same]
    have hp5 : (upd (upd (upd H2 a1 (.lst ((srt ltS ks).map V.str))) ak (.tup ((srt ltS ks).map V.str))) p (.ins C dx (putF "_kinds" (.ref ak) []))) p = some (.ins C dx (putF "_kinds" (.ref ak) [])) := upd_same
    generalize upd (upd (upd H2 a1 (.lst ((srt ltS ks).map V.str))) ak (.tup ((srt ltS ks).map V.str))) p (.ins C dx (putF "_kinds" (.ref ak) [])) = H5 at N5 hak5 hp5 ⊢
    clear keep5 hp4 hak ha1 N1 hp1
    -- self._clashes = tuple(sorted({(min(pair), max(pair)) for pair in clashes}))
    let key : Str × Str → List Key := fun c => [Sum.inr c.1, Sum.inr c.2]
    have keyInj : ∀ c c' : Str × Str, key c = key c' → c = c' := fun c c' e => by
      have e1 := (List.cons.inj e).1
      have e2 := (List.cons.inj (List.cons.inj e).2).1
      exact Prod.ext (Sum.inr.inj e1) (Sum.inr.inj e2)
    let Pc : Addr → Nat → Hp → Prop := fun D j H' => ∃ L : List Row, H' D = some (SetK P w D L) ∧ (∀ r ∈ L, ∃ c, c ∈ ps.take j ∧ r.2 = key (nrm c) ∧ H' r.1 = some (.tup (r.2.map kV)) ∧ H5 r.1 = none) ∧ (∀ c ∈ ps.take j, key (nrm c) ∈ L.map (·.2)) ∧ (L.map (·.2)).Nodup ∧ H5 D = none ∧ Same H5 H'
    have inP : ∀ {c : Str × Str}, c ∈ ps → (nrm c).1 ∈ ks ∧ (nrm c).2 ∈ ks := fun {c} m => by
      obtain ⟨a, b⟩ := inn c m
      unfold nrm mnS mxS
      constructor
      · show (if ltS c.2 c.1 = true then c.2 else c.1) ∈ ks
        split <;> assumption
      · show (if ltS c.1 c.2 = true then c.2 else c.1) ∈ ks
        split <;> assumption
    let all2 : List (Str × Str) := ks.flatMap fun a => ks.map fun b => (a, b)
    have all2len : all2.length ≤ 1600 := by
      have z : ∀ l : List Str, (l.flatMap fun a => ks.map fun b => (a, b)).length = l.length * ks.length := fun l => by
        induction l with
        | nil => simp
        | cons a l ih => rw [List.flatMap_cons, List.length_append, ih, List.length_map, List.length_cons, Nat.add_mul, Nat.one_mul, Nat.add_comm]
      show (ks.flatMap fun a => ks.map fun b => (a, b)).length ≤ 1600
      rw [z]
      exact Nat.le_trans (Nat.mul_le_mul few few) (by decide)
    have small : ∀ {L : List Row} {j : Nat}, (∀ r ∈ L, ∃ c, c ∈ ps.take j ∧ r.2 = key (nrm c)) → (L.map (·.2)).Nodup → L.length ≤ 1600 := fun {L j} h n => by
      have z := few_of (l := L.map (·.2)) (m := all2.map key) n fun y hy => by
        obtain ⟨r, hr, e⟩ := List.mem_map.mp hy
        obtain ⟨c, hc, e2⟩ := h r hr
        obtain ⟨m1, m2⟩ := inP (List.mem_of_mem_take hc)
        refine List.mem_map.mpr ⟨nrm c, List.mem_flatMap.mpr ⟨_, m1, List.mem_map.mpr ⟨_, m2, rfl⟩⟩, ?_⟩
        rw [← e, e2]
      rw [List.length_map, List.length_map] at z
      omega
    refine ⟨fun σ' H' => ∃ ac as, σ' = [some (.ref p), some (.ref lk), some (.ref lc), some (.ref d), v4, v5, none, none] ∧ (∀ b o, H5 b = some o → b ≠ p → H' b = some o) ∧ H' p = some (.ins C dx (putF "_clashes" (.ref ac) (putF "_kinds" (.ref ak) []))) ∧ H' ac = some (.tup (as.map V.ref)) ∧
      Prs K H' as (srt ltP (ps.map nrm)) ∧ (srt ltP (ps.map nrm)).length ≤ 1600, ?_, ?_⟩
    unfold sFld tCB tCons tNil
    refine sk_sq (i := 2) rfl sC (er_keep fun b o e hb => N5.keep b o e hb) Pc (fun D hD => ⟨[], upd_same, fun r hr => (by cases hr), fun c hc => (by simp at hc), List.nodup_nil, hD, fun b o e => by rw [upd_ne (ne_of_none e hD)]; exact e⟩)
      (fun D j H' ⟨_, _, _, _, _, _, k⟩ => er_keep fun b o e hb => k b o (N5.keep b o e hb)) ?_ ?_
    · rintro D j x H' hj ⟨L, hD, hL, hall, hnd, hDn, k⟩
      rw [List.getElem?_map] at hj
      obtain ⟨t, htj, rfl⟩ := Option.map_eq_some_iff.mp hj
      obtain ⟨c, hcj, hc2⟩ := paired_get sPs htj
      have hc3 : Sq K H' t [.str c.1, .str c.2] := hc2.same (er_keep fun b o e hb => k b o (N5.keep b o e hb))
      refine ⟨rfl, _, rfl, t, c.1, c.2, rfl, hc3, _, rfl, t, c.1, c.2, rfl, hc3, (by show 2 ≤ sizeLine; decide), fun q hq => ?_⟩
      have nDq : D ≠ q := fun e => by rw [← e, hD] at hq; cases hq
      have H5q : H5 q = none := by
        cases z : H5 q with
        | none => rfl
        | some o => rw [k q o z] at hq; cases hq
      refine ⟨q, key (nrm c), L, rfl, SqT.of upd_same, by rw [upd_ne nDq]; exact hD, fun r hr => ?_, ?_, fun L' c1 c2 => ?_⟩
      · obtain ⟨_, _, _, h4, _⟩ := hL r hr
        refine SqT.of ?_
        rw [upd_ne (fun e => by rw [e, hq] at h4; cases h4)]
        exact h4
      · have := small (fun r hr => let ⟨c, a, b, _⟩ := hL r hr; ⟨c, a, b⟩) hnd
        omega
      · have tk : ps.take (j + 1) = ps.take j ++ [c] := by rw [List.take_add_one, hcj]; rfl
        have old : ∀ r ∈ L, ∃ c', c' ∈ ps.take (j + 1) ∧ r.2 = key (nrm c') ∧ (upd (upd H' q (.tup [.str (mnS c.1 c.2), .str (mxS c.1 c.2)])) D (SetK P w D L')) r.1 = some (.tup (r.2.map kV)) ∧ H5 r.1 = none := fun r hr => by
          obtain ⟨c', h1, h2, h4, h5⟩ := hL r hr
          refine ⟨c', by rw [tk]; exact List.mem_append_left _ h1, h2, ?_, h5⟩
          rw [upd_ne (fun e => by rw [e, hD] at h4; cases h4), upd_ne (fun e => by rw [e, hq] at h4; cases h4)]
          exact h4
        have kept : Same H5 (upd (upd H' q (.tup [.str (mnS c.1 c.2), .str (mxS c.1 c.2)])) D (SetK P w D L')) := fun b o e => by
          rw [upd_ne (ne_of_none e hDn), upd_ne (ne_of_none e H5q)]
          exact k b o e
        by_cases m : key (nrm c) ∈ L.map (·.2)
        · have eL := c1 m
          subst eL
          refine ⟨L', upd_same, old, fun c' hc' => ?_, hnd, hDn, kept⟩
          rw [tk] at hc'
          rcases List.mem_append.mp hc' with z | z
          · exact hall c' z
          · rw [List.mem_singleton.mp z]; exact m
        · have pm := c2 m
          refine ⟨L', upd_same, fun r hr => ?_, fun c' hc' => ?_, ?_, hDn, kept⟩
          · rcases List.mem_cons.mp (pm.mem_iff.mp hr) with e | hr
            · rw [e]
              refine ⟨c, by rw [tk]; simp, rfl, ?_, H5q⟩
              rw [upd_ne nDq.symm, upd_same]
              rfl
            · exact old r hr
          · rw [(pm.map (·.2)).mem_iff, List.map_cons]
            rw [tk] at hc'
            rcases List.mem_append.mp hc' with z | z
            · exact List.mem_cons_of_mem _ (hall c' z)
            · rw [List.mem_singleton.mp z]; exact List.mem_cons_self
          · exact (pm.map (·.2)).nodup_iff.mpr (List.nodup_cons.mpr ⟨m, hnd⟩)
    · rintro D H6 hD ⟨L, hD6, hL, hall, hnd, hDn, k6⟩
      have lts : ts.length = ps.length := Paired.length hps
      rw [List.length_map, lts, List.take_length] at hL hall
      let kk : Addr → List Str := fun a => match H6 a with | some (.tup xs) => xs.filterMap strOf | _ => []
      have kkr : ∀ r ∈ L, ∃ c, c ∈ ps ∧ r.2 = key (nrm c) ∧ kk r.1 = [(nrm c).1, (nrm c).2] := fun r hr => by
        obtain ⟨c, h1, h2, h4, _⟩ := hL r hr
        refine ⟨c, h1, h2, ?_⟩
        show (match H6 r.1 with | some (.tup xs) => xs.filterMap strOf | _ => ([] : List Str)) = _
        rw [h4, h2]
        rfl
      refine ⟨D, L, kk, rfl, hD6, fun r hr => SqT.of (hL r hr).choose_spec.2.2.1, fun r hr => ?_, fun as a2 pas was ha2 => ?_⟩
      · obtain ⟨c, _, h2, h3⟩ := kkr r hr
        rw [h3, h2]
        exact ⟨fun z => (by cases z), rfl⟩
      let pk : Addr → Str × Str := fun a => match kk a with | [x, y] => (x, y) | _ => (⟨#[]⟩, ⟨#[]⟩)
      have pkr : ∀ r ∈ L, ∃ c, c ∈ ps ∧ r.2 = key (nrm c) ∧ pk r.1 = nrm c := fun r hr => by
        obtain ⟨c, h1, h2, h3⟩ := kkr r hr
        refine ⟨c, h1, h2, ?_⟩
        show (match kk r.1 with | [x, y] => (x, y) | _ => _) = _
        rw [h3]
      have mem : ∀ a ∈ as, ∃ r ∈ L, r.1 = a := fun a ha => by
        obtain ⟨r, hr, e⟩ := List.mem_map.mp (pas.mem_iff.mp ha)
        exact ⟨r, hr, e⟩
      have ecs : as.map pk = srt ltP (ps.map nrm) := by
        refine up_one totP (up_of totP ?_ ?_) (up_srt totP _) fun z => ?_
        · refine (pas.map pk).nodup_iff.mpr ?_
          rw [List.map_map]
          refine List.pairwise_map.mpr (List.Pairwise.imp_of_mem (fun {q r} hq hr ne e => ?_) (List.pairwise_map.mp hnd))
          obtain ⟨c, _, h2, h3⟩ := pkr q hq
          obtain ⟨c', _, h2', h3'⟩ := pkr r hr
          have e' : pk q.1 = pk r.1 := e
          rw [h3, h3'] at e'
          exact ne (by rw [h2, h2', e'])
        · refine List.pairwise_map.mpr (List.Pairwise.imp_of_mem (fun {x y} hx hy e => ?_) was)
          obtain ⟨q, hq, e1⟩ := mem x hx
          obtain ⟨r, hr, e2⟩ := mem y hy
          obtain ⟨c, _, h2, h3⟩ := kkr q hq
          obtain ⟨c', _, h2', h3'⟩ := kkr r hr
          obtain ⟨d1, _, g2, g3⟩ := pkr q hq
          obtain ⟨d2, _, g2', g3'⟩ := pkr r hr
          rw [← e1, ← e2] at e ⊢
          rw [g3, g3']
          rw [h3, h3'] at e
          have z1 := keyInj _ _ (h2.symm.trans g2)
          have z2 := keyInj _ _ (h2'.symm.trans g2')
          rw [← z1, ← z2]
          exact e
        · rw [mem_srt totP, List.mem_map, List.mem_map]
          constructor
          · rintro ⟨a, ha, e⟩
            obtain ⟨r, hr, e1⟩ := mem a ha
            obtain ⟨c, h1, _, h3⟩ := pkr r hr
            exact ⟨c, h1, by rw [← e, ← e1, h3]⟩
          · rintro ⟨c, hc', e⟩
            obtain ⟨r, hr, e1⟩ := List.mem_map.mp (hall c hc')
            obtain ⟨c', h1, h2, h3⟩ := pkr r hr
            refine ⟨r.1, pas.mem_iff.mpr (List.mem_map.mpr ⟨r, hr, rfl⟩), ?_⟩
            rw [h3, ← e]
            exact keyInj _ _ (h2.symm.trans e1)
      refine ⟨a2, _, rfl, .inl ⟨SqL.of upd_same, fun ac hac => ?_⟩⟩
      have hp6 : H6 p = some (.ins C dx (putF "_kinds" (.ref ak) [])) := k6 _ _ hp5
      have pa2 : p ≠ a2 := ne_of_none hp6 ha2
      have pac : p ≠ ac := fun z => by
        rw [← z, upd_ne pa2, hp6] at hac
        cases hac
      have keep6 : ∀ b o, H6 b = some o → b ≠ p → ∀ fs, (upd (upd (upd H6 a2 (.lst (as.map V.ref))) ac (.tup (as.map V.ref))) p (.ins C dx fs)) b = some o := fun b o e hb fs => by
        have e1 : (upd H6 a2 (.lst (as.map V.ref))) b = some o := by rw [upd_ne (ne_of_none e ha2)]; exact e
        rw [upd_ne hb, upd_ne (ne_of_none e1 hac)]
        exact e1
      refine ⟨_, rfl, p, C, dx, _, rfl, by rw [upd_ne pac, upd_ne pa2]; exact hp6, T.cl, T.nC, (by show 1 < 1000; decide), ?_⟩
      refine ⟨ac, as, rfl, fun b o e hb => keep6 b o (k6 b o e) hb _, upd_same, by rw [upd_ne pac.symm, upd_same], ?_, ?_⟩
      · rw [← ecs]
        have walk : ∀ l : List Addr, (∀ a ∈ l, a ∈ as) → Prs K (upd (upd (upd H6 a2 (.lst (as.map V.ref))) ac (.tup (as.map V.ref))) p (.ins C dx (putF "_clashes" (.ref ac) (putF "_kinds" (.ref ak) [])))) l (l.map pk) := fun l => by
          induction l with
          | nil => exact fun _ => .nil
          | cons a l ih =>
            intro hl
            refine .cons ?_ (ih fun b hb => hl b (List.mem_cons_of_mem _ hb))
            obtain ⟨r, hr, e1⟩ := mem a (hl a List.mem_cons_self)
            obtain ⟨c, h1, h2, h4, h5⟩ := hL r hr
            obtain ⟨c', _, g2, g3⟩ := pkr r hr
            have z := keyInj _ _ (h2.symm.trans g2)
            refine SqT.of (keep6 _ _ ?_ (fun e => ?_) _)
            · rw [← e1, g3, ← z]
              rw [h2] at h4
              exact h4
            · rw [← e1] at e
              rw [e, hp5] at h5
              cases h5
        exact walk as fun a h => h
      · rw [← ecs, List.length_map, pas.length_eq, List.length_map]
        exact small (fun r hr => let ⟨c, a, b⟩ := kkr r hr; ⟨c, by rw [lts, List.take_length]; exact a, b.1⟩) hnd (j := ts.length)
    -- for one, other in self._clashes
    rintro σ3 H7 ⟨ac, as, rfl, k7, hp7, hac7, hpr, hlen⟩
    have N7 := N5.beside noP k7
    have hak7 := k7 _ _ hak5 pak.symm
    have csin : ∀ c ∈ srt ltP (ps.map nrm), c.1 ∈ ks ∧ c.2 ∈ ks := fun c hc => by
      obtain ⟨c0, h0, e⟩ := List.mem_map.mp ((mem_srt totP).mp hc)
      rw [← e]
      exact inP h0
    clear hak5 hp5 N5
    generalize srt ltP (ps.map nrm) = cs at q hpr hlen csin
    clear keyInj inP all2len small
    have notL : ∀ {b : Addr} {o : HO}, H7 b = some o → (∀ xs, o ≠ .lst xs) → ∀ r ∈ nl, r.2 ≠ b := fun {b o} e n r hr z => by
      have y := N7.lst r hr
      rw [z, e] at y
      cases y
      exact n _ rfl
    have las : as.length = cs.length := Paired.length hpr
    have gsmall : ∀ (n : Nat) (k : Str), ((nearM (cs.take n) k).map V.str).length < sizeLine := fun n k => by
      rw [List.length_map, sizeLine_eq]
      have z : (nearM (cs.take n) k).length ≤ (cs.take n).length := List.length_filterMap_le _ _
      rw [List.length_take] at z
      omega
    let Pl : Nat → L2.St → Hp → Prop := fun i σ' H' => ∃ v6 v7, σ' = [some (.ref p), some (.ref lk), some (.ref lc), some (.ref d), v4, v5, v6, v7] ∧ NL H H' p d nl (fun k => nearM (cs.take i) k) ∧ (∀ b o, H7 b = some o → (∀ r ∈ nl, r.2 ≠ b) → H' b = some o)
    refine ⟨Pl as.length, ⟨_, rfl, p, C, dx, _, _, rfl, hp7, T.cl, T.nC, (by rw [lookup_putF, if_pos rfl]), ac, rfl, ⟨_, SqT.of hac7⟩, for_tup (xs := as.map V.ref) Pl ⟨none, none, rfl, N7, fun b o e _ => e⟩ (fun i σ' H' _ ⟨_, _, _, _, k⟩ => SqT.of (k _ _ hac7 (notL hac7 fun _ z => nomatch z))) ?_ (fun σ' H' h => by rw [List.length_map] at h; exact h)⟩, ?_⟩
    · rintro i x σ' H' hi ⟨v6, v7, rfl, N, k⟩
      rw [List.getElem?_map] at hi
      obtain ⟨t, hti, rfl⟩ := Option.map_eq_some_iff.mp hi
      obtain ⟨c, hci, hT⟩ := paired_get hpr hti
      have hT' : SqT K H' t [.str c.1, .str c.2] := by
        rcases hT with (z | ⟨o, z⟩) | z
        · exact .inl (.inl (k _ _ z (notL z fun _ w => nomatch w)))
        · exact .inl (.inr ⟨o, k _ _ z (notL z fun _ w => nomatch w)⟩)
        · exact .inr z
      have tk : cs.take (i + 1) = cs.take i ++ [c] := by rw [List.take_add_one, hci]; rfl
      obtain ⟨m1, m2⟩ := csin c (List.mem_of_getElem? hci)
      obtain ⟨a, ha⟩ := nl_at (nl := nl) (k := c.1) (by rw [en]; exact m1)
      obtain ⟨b, hb⟩ := nl_at (nl := nl) (k := c.2) (by rw [en]; exact m2)
      have hLa := N.lst _ ha
      refine ⟨t, _, rfl, hT', rfl, _, _, rfl, _, _, rfl, rfl, ?_⟩
      refine ⟨_, rfl, _, rfl, d, .ref a, rfl, (by have z := DGet.k (k := Sum.inr c.1) N.dic; rw [nl_val N.one ha] at z; exact z), .inl ⟨rfl, _, SqL.of hLa⟩, _, rfl, a, _, _, rfl, rfl, hLa, gsmall i c.1, ?_⟩
      have N8 := N.app (x := c.2) ha
      have k8 : ∀ b o, H7 b = some o → (∀ r ∈ nl, r.2 ≠ b) → (upd H' a (.lst ((nearM (cs.take i) c.1).map V.str ++ [.str c.2]))) b = some o := fun b o e n => by
        rw [upd_ne (Ne.symm (n _ ha))]
        exact k b o e n
      refine ⟨_, rfl, _, rfl, rfl, _, rfl, ?_⟩
      by_cases e : c.1 = c.2
      · refine iteNS (by rw [e]) ?_
        refine ⟨_, _, rfl, N8.eqv fun j => ?_, k8⟩
        show _ = nearM (cs.take (i + 1)) j
        rw [tk, nearM_snoc]
        by_cases ej : j = c.1
        · rw [if_pos ej, ej, if_pos rfl]
        · rw [if_neg ej, if_neg (Ne.symm ej), if_neg (by rw [← e]; exact Ne.symm ej), List.append_nil]
      · have ne : ¬ (V.str c.1 = V.str c.2) := fun z => e (V.str.inj z)
        rw [decide_eq_false ne]
        refine iteT ?_
        have hLb := N8.lst _ hb
        refine ⟨_, rfl, _, rfl, d, .ref b, rfl, (by have z := DGet.k (k := Sum.inr c.2) N8.dic; rw [nl_val N8.one hb] at z; exact z), .inl ⟨rfl, _, SqL.of hLb⟩, _, rfl, b, _, _, rfl, rfl, hLb, ?_, ?_⟩
        · show (List.map V.str (if c.2 = c.1 then _ else nearM (cs.take i) c.2)).length < sizeLine
          rw [if_neg (Ne.symm e)]
          exact gsmall i c.2
        · have N9 := N8.app (x := c.1) hb
          refine ⟨_, _, rfl, N9.eqv fun j => ?_, fun b' o e' n => ?_⟩
          · show (if j = c.2 then (if c.2 = c.1 then _ else nearM (cs.take i) c.2) ++ [c.1] else if j = c.1 then nearM (cs.take i) c.1 ++ [c.2] else nearM (cs.take i) j) = nearM (cs.take (i + 1)) j
            rw [tk, nearM_snoc, if_neg (Ne.symm e)]
            by_cases e2 : j = c.2
            · rw [if_pos e2, e2, if_neg e, if_pos rfl]
            · rw [if_neg e2]
              by_cases e1 : j = c.1
              · rw [if_pos e1, e1, if_pos rfl]
              · rw [if_neg e1, if_neg (Ne.symm e1), if_neg (Ne.symm e2), List.append_nil]
          · rw [upd_ne (Ne.symm (n _ hb))]
            exact k8 b' o e' n
    -- self._near = {kind: tuple(near[kind]) for kind in near}
    rintro σ4 H8 ⟨v6, v7, rfl, N8', k8⟩
    have N8 : NL H H8 p d nl (nearM cs) := N8'.eqv fun k => by
      show nearM (cs.take as.length) k = nearM cs k
      rw [las, List.take_length]
    clear N8'
    have hp8 := k8 _ _ hp7 (notL hp7 fun _ z => nomatch z)
    have hac8 := k8 _ _ hac7 (notL hac7 fun _ z => nomatch z)
    have hak8 := k8 _ _ hak7 (notL hak7 fun _ z => nomatch z)
    have hpr8 : Prs K H8 as cs := paired_imp (fun t c hT => by
      rcases hT with (z | ⟨o, z⟩) | z
      · exact .inl (.inl (k8 _ _ z (notL z fun _ w => nomatch w)))
      · exact .inl (.inr ⟨o, k8 _ _ z (notL z fun _ w => nomatch w)⟩)
      · exact .inr z) hpr
    clear hp7 hac7 hak7 hpr k7 k8 notL N7
    unfold sFld tLockE
    refine ⟨d, _, N8.dic, trivial, fun od => ?_⟩
    let kv : List (Key × V) := nl.map fun r => (Sum.inr r.1, V.ref r.2)
    let Pn : Addr → Nat → Hp → Prop := fun D n H' => H' d = some (.frz od (.dK kv)) ∧ (∃ new : List (Key × V), H' D = some (.dK new) ∧ new.length ≤ n ∧ (∀ j r, nl[j]? = some r → j < n → ∃ t, valV new (Sum.inr r.1) = some (.ref t) ∧ H' t = some (.tup ((nearM cs r.1).map V.str)) ∧ H8 t = none) ∧
      (∀ key v, valV new key = some v → ∃ r ∈ nl, key = Sum.inr r.1)) ∧ H8 D = none ∧ (∀ b o, H8 b = some o → b ≠ d → H' b = some o)
    have dfree : ∀ {D : Addr}, (upd H8 d (.frz od (.dK kv))) D = none → D ≠ d ∧ H8 D = none := fun {D} hD => by
      have nD : D ≠ d := fun e => by rw [e, upd_same] at hD; cases hD
      rw [upd_ne nD] at hD
      exact ⟨nD, hD⟩
    refine dc_keys (i := 3) (j := 4) (kvs := kv) (od := od) rfl upd_same Pn (fun D hD => ?_) (fun D n H' h => h.1) ?_ ?_
    · obtain ⟨nD, hD8⟩ := dfree hD
      refine ⟨by rw [upd_ne nD.symm, upd_same], ⟨[], upd_same, Nat.le_refl _, fun j r _ h => absurd h (Nat.not_lt_zero _), fun key v h => (by cases h)⟩, hD8, fun b o e hb => ?_⟩
      rw [upd_ne (ne_of_none e hD8), upd_ne hb]
      exact e
    · rintro D n k v H' hn ⟨hf, ⟨new, hD, hl, hnew, hback⟩, hD8, kp⟩
      have hn' : (nl.map fun r => ((Sum.inr r.1 : Key), V.ref r.2))[n]? = some (k, v) := hn
      rw [List.getElem?_map] at hn'
      obtain ⟨r, hr, er⟩ := Option.map_eq_some_iff.mp hn'
      cases er
      have rm := List.mem_of_getElem? hr
      have hLr := kp _ _ (N8.lst r rm) (fun z => by have y := N8.lst r rm; rw [z, N8.dic] at y; cases y)
      refine ⟨rfl, _, rfl, _, rfl, _, rfl, d, .ref r.2, rfl, .inl ⟨kv, Sum.inr r.1, .inr ⟨od, hf⟩, rfl, ?_⟩, r.2, _, rfl, .inl ⟨SqL.of hLr, fun t ht => ?_⟩⟩
      · exact (nl_val N8.one rm).symm
      · have tD : D ≠ t := fun e => by rw [← e, hD] at ht; cases ht
        have td : d ≠ t := fun e => by rw [← e, hf] at ht; cases ht
        have t8 : H8 t = none := by
          cases z : H8 t with
          | none => rfl
          | some o => rw [kp t o z td.symm] at ht; cases ht
        have dD : d ≠ D := fun e => by rw [← e, N8.dic] at hD8; cases hD8
        refine ⟨new, Sum.inr r.1, rfl, by rw [upd_ne tD]; exact hD, small1000 ?_, by rw [upd_ne dD, upd_ne td]; exact hf, ⟨putK new (Sum.inr r.1) (.ref t), upd_same, ?_, fun j r' hj hjn => ?_, fun key v hv => ?_⟩, hD8, fun b o e hb => ?_⟩
        · have z := (List.getElem?_eq_some_iff.mp hr).1
          have y := congrArg List.length en
          rw [List.length_map] at y
          omega
        · exact Nat.le_trans (length_putK new (Sum.inr r.1) (.ref t)) (Nat.succ_le_succ hl)
        · rw [valV_put]
          by_cases e : r'.1 = r.1
          · rw [if_pos (by rw [e])]
            refine ⟨t, rfl, ?_, t8⟩
            rw [upd_ne tD.symm, upd_same, e]
          · rw [if_neg fun z => e (Sum.inr.inj z)]
            have jn : j < n := by
              rcases Nat.lt_or_ge j n with w | w
              · exact w
              · have ej : j = n := by omega
                rw [ej, hr] at hj
                cases hj
                exact absurd rfl e
            obtain ⟨t', a1, a2, a3⟩ := hnew j r' hj jn
            refine ⟨t', a1, ?_, a3⟩
            rw [upd_ne (fun z => by rw [z, hD] at a2; cases a2), upd_ne (fun z => by rw [z, ht] at a2; cases a2)]
            exact a2
        · rw [valV_put] at hv
          by_cases e : key = Sum.inr r.1
          · exact ⟨r, rm, e⟩
          · rw [if_neg e] at hv
            exact hback key v hv
        · rw [upd_ne (ne_of_none e hD8), upd_ne (ne_of_none e t8)]
          exact kp b o e hb
    · rintro D H9 hD ⟨hf, ⟨new, hD9, hl, hnew, hback⟩, hD8, kp⟩
      obtain ⟨nD, _⟩ := dfree hD
      refine ⟨hf, ?_⟩
      have old : ∀ b o, H8 b = some o → (upd H9 d (.dK kv)) b = some o := fun b o e => by
        by_cases z : b = d
        · rw [z, upd_same]
          rw [z, N8.dic] at e
          exact e
        · rw [upd_ne z]
          exact kp b o e z
      refine ⟨_, rfl, p, C, dx, _, rfl, old _ _ hp8, T.cl, T.nN, (by show 2 < 1000; decide), ?_⟩
      have keep : ∀ b o, b ≠ p → (upd H9 d (.dK kv)) b = some o → (upd (upd H9 d (.dK kv)) p (.ins C dx (bkF ak ac D))) b = some o := fun b o hb e => by
        rw [upd_ne hb]
        exact e
      have pD : p ≠ D := fun z => by rw [← z, hp8] at hD8; cases hD8
      refine q _ ⟨dx, ak, ac, D, new, as, upd_same, SqT.of (keep _ _ pak.symm (old _ _ hak8)), ?_, ?_, keep _ _ pD.symm (by rw [upd_ne nD]; exact hD9), fun k hk => ?_, fun k hk => ?_⟩ fun b o e hb => ?_
      · refine SqT.of (keep _ _ (fun z => ?_) (old _ _ hac8))
        rw [z, hp8] at hac8
        cases hac8
      · exact paired_imp (fun t c hT => by
          have ne : ∀ {o : HO}, H8 t = some o → (∀ C dx fs, o ≠ .ins C dx fs) → t ≠ p := fun {o} e n z => by
            rw [z, hp8] at e
            cases e
            exact n _ _ _ rfl
          rcases hT with (z | ⟨o, z⟩) | z
          · exact .inl (.inl (keep _ _ (ne z fun _ _ _ w => nomatch w) (old _ _ z)))
          · exact .inl (.inr ⟨o, keep _ _ (ne z fun _ _ _ w => nomatch w) (old _ _ z)⟩)
          · exact .inr z) hpr8
      · have km : k ∈ ks := (mem_srt totS).mp hk
        rw [← en] at km
        obtain ⟨a, ha⟩ := nl_at km
        obtain ⟨j, hj⟩ := List.getElem?_of_mem ha
        obtain ⟨t, a1, a2, a3⟩ := hnew j _ hj (by show j < (nl.map _).length; rw [List.length_map]; exact (List.getElem?_eq_some_iff.mp hj).1)
        have td : t ≠ d := fun z => by rw [z, N8.dic] at a3; cases a3
        exact ⟨t, a1, SqT.of (keep _ _ (fun z => by rw [z, hp8] at a3; cases a3) (by rw [upd_ne td]; exact a2))⟩
      · cases z : valV new (Sum.inr k) with
        | none => rfl
        | some v =>
          obtain ⟨r, hr, e⟩ := hback _ _ z
          refine absurd ?_ hk
          rw [mem_srt totS, ← en, Sum.inr.inj e]
          exact List.mem_map.mpr ⟨r, hr, rfl⟩
      · exact keep _ _ hb (old _ _ (N8.keep b o e hb))
end
end Sx

/-! SxFn -/
/-! Calls in short: a def, a method, a property, a static method, a class, each with its promise. -/
namespace Sx
open PySem PySem.Spec PyProof.Rows L2

/-- all built-in names that are used here are the built-in ones -/
structure Blt (mg : Str → Option Value) : Prop where
  sorted : mg "sorted" = none
  tuple : mg "tuple" = none
  min : mg "min" = none
  max : mg "max" = none
  len : mg "len" = none
  all : mg "all" = none
  isinstance : mg "isinstance" = none
  abs : mg "abs" = none
  list : mg "list" = none
  int : mg "int" = none
  range : mg "range" = none
  set : mg "set" = none
  zip : mg "zip" = none
  enumerate : mg "enumerate" = none
  dict : mg "dict" = none
  str : mg "str" = none
  bool : mg "bool" = none
section
variable (P : Program) (w : World) (K : PySem.W.Frag) (mg : Str → Option Value) (base : Heap)
/-- the module's x is a def that keeps sp -/
def FnG (x : Str) (k : Nat) (ps : List Str) (sp : Sp) : Prop := ∃ f fd, mg x = some (.ref f) ∧ PySem.W.keepIn K (.ref f) = true ∧ FnOk P w K mg base CX0 k f fd ps sp ∧ Binds K fd ps []
/-- C's m is a method that keeps sp -/
def MtG (C : Addr) (m : Str) (k : Nat) (ps : List Str) (sp : Sp) : Prop := ∃ f fd, Meth K C m f ∧ FnOk P w K mg base CX0 k f fd ps sp ∧ Binds K fd ps []
/-- C's m is a property -/
def PrG (C : Addr) (m : Str) (k : Nat) (sp : Sp) : Prop := ∃ p g fd, PropOf K C m p g ∧ FnOk P w K mg base CX0 k g fd ["self"] sp ∧ Binds K fd ["self"] []
/-- C's m is a static method -/
def SmG (C : Addr) (m : Str) (k : Nat) (ps : List Str) (sp : Sp) : Prop := ∃ mc p g fd rest, ClX.CRead K C mc ∧ PySem.W.findCls K (.ref C) mc m = some (.get (.builtin "staticmethod.__get__") (.ref p) .none (.ref C)) ∧ PySem.W.recIn K p "staticmethod" = some (.ref g :: rest) ∧
  PySem.W.keepIn K (.ref g) = true ∧ FnOk P w K mg base CX0 k g fd ps sp ∧ Binds K fd ps []
/-- the module's x is the class at C, its __init__ keeps sp -/
def MkG (x : Str) (C : Addr) (k : Nat) (ps : List Str) (sp : Sp) : Prop := ∃ f fd, mg x = some (.ref C) ∧ Mk K C f ∧ FnOk P w K mg base CX0 k f fd ps sp ∧ Binds K fd ps []
end
section
variable {X : Cx} {k : Nat} {C : Addr} {ps : List Str} {sp : Sp} {x m : Str} {p pos apos : Pos} {e o : Expr} {es : List Expr} {ta : TE} {t : TA}
theorem pe_g (G : FnG X.prog X.w X.K X.mg X.base x k ps sp) (hr : Room k X.A) (ha : PA X (e :: es) t) (hg : Gl X x := by rfl) (hdb : (x == ("__debug__" : Str)) = false := by decide)
    (he : starEach (e :: es) X.env = (false, eval e X.env) :: starEach es X.env := by rfl) (hpl : (backTo pos (starEach es X.env)).any (·.1) = false := by rfl) : PE X (.Call (.Name x p) (e :: es) [] pos) (tCall sp [] E0 t) := by
  obtain ⟨f, fd, hm, kp, F, b⟩ := G
  exact pe_call F hr hg hm kp b .nil pass0 ha hdb he hpl
theorem pe_g0 (G : FnG X.prog X.w X.K X.mg X.base x k ps sp) (hr : Room k X.A) (hg : Gl X x := by rfl) (hdb : (x == ("__debug__" : Str)) = false := by decide) : PE X (.Call (.Name x p) [] [] pos) (tCall sp [] E0 tNil) := by
  obtain ⟨f, fd, hm, kp, F, b⟩ := G
  exact pe_call0 F hr hg hm kp b .nil pass0 hdb
theorem pe_mk (G : MkG X.prog X.w X.K X.mg X.base x C k ps sp) (hr : Room (k + 1) X.A) (ha : PA X (e :: es) t) (hg : Gl X x := by rfl) (hdb : (x == ("__debug__" : Str)) = false := by decide)
    (he : starEach (e :: es) X.env = (false, eval e X.env) :: starEach es X.env := by rfl) (hpl : (backTo pos (starEach es X.env)).any (·.1) = false := by rfl) : PE X (.Call (.Name x p) (e :: es) [] pos) (tMake C sp [] E0 t) := by
  obtain ⟨f, fd, hm, M, F, b⟩ := G
  exact pe_make M F hr hg hm b .nil pass0 ha hdb he hpl
theorem pe_pg {f : Str} (G : PrG X.prog X.w X.K X.mg X.base C f k sp) (c : Cls X.K C) (he : PE X e ta) (hr : Room (k + 1) X.A) (hab : attributeBase e f X.env (eval e X.env) = eval e X.env := by rfl) : PE X (.Attribute e f pos) (tProp C sp [] E0 ta) := by
  obtain ⟨p, g, fd, hp, F, b⟩ := G
  exact pe_prop he c hp F hr b .nil (fun _ _ _ _ _ _ _ h => h.elim) hab
theorem pe_mg {pl : Sem Bool} (G : MtG X.prog X.w X.K X.mg X.base C m k ps sp) (c : Cls X.K C) (he : PE X o ta) (hr : Room k X.A) (ha : PA X (e :: es) t)
    (hst : starEach (e :: es) X.env = (false, eval e X.env) :: starEach es X.env := by rfl) (hpl : (backTo pos (starEach es X.env)).any (·.1) = false := by rfl)
    (ht : eval (.Call (.Attribute o m apos) (e :: es) [] pos) X.env = (do
      let ov ← eval o X.env
      standAt apos.atName
      let (f, first) ← holding [ov] (getMethod ov m pl)
      callWith pos f first (backTo pos (starEach (e :: es) X.env)) (backToKw pos (keywordEach [] X.env))) := by rfl) : PE X (.Call (.Attribute o m apos) (e :: es) [] pos) (tMeth C m sp [] E0 ta t) := by
  obtain ⟨f, fd, M, F, b⟩ := G
  exact pe_meth he c M F hr b .nil pass0 ha hst hpl ht
theorem pe_mg0 {pl : Sem Bool} (G : MtG X.prog X.w X.K X.mg X.base C m k ps sp) (c : Cls X.K C) (he : PE X o ta) (hr : Room k X.A)
    (ht : eval (.Call (.Attribute o m apos) [] [] pos) X.env = (do
      let ov ← eval o X.env
      standAt apos.atName
      let (f, first) ← holding [ov] (getMethod ov m pl)
      callWith pos f first (backTo pos (starEach [] X.env)) (backToKw pos (keywordEach [] X.env))) := by rfl) : PE X (.Call (.Attribute o m apos) [] [] pos) (tMeth C m sp [] E0 ta tNil) := by
  obtain ⟨f, fd, M, F, b⟩ := G
  exact pe_meth0 he c M F hr b .nil pass0 ht
theorem pe_sg {pl : Sem Bool} (G : SmG X.prog X.w X.K X.mg X.base C m k ps sp) (hm : X.mg x = some (.ref C)) (hr : Room k X.A) (ha : PA X (e :: es) t) (hg : Gl X x := by rfl) (hdb : (x == ("__debug__" : Str)) = false := by decide)
    (hst : starEach (e :: es) X.env = (false, eval e X.env) :: starEach es X.env := by rfl) (hpl : (backTo pos (starEach es X.env)).any (·.1) = false := by rfl)
    (ht : eval (.Call (.Attribute (.Name x p) m apos) (e :: es) [] pos) X.env = (do
      let ov ← eval (.Name x p) X.env
      standAt apos.atName
      let (f, first) ← holding [ov] (getMethod ov m pl)
      callWith pos f first (backTo pos (starEach (e :: es) X.env)) (backToKw pos (keywordEach [] X.env))) := by rfl) : PE X (.Call (.Attribute (.Name x p) m apos) (e :: es) [] pos) (tCall sp [] E0 t) := by
  obtain ⟨mc, q, g, fd, rest, r, c, rc, kp, F, b⟩ := G
  refine ⟨fun pins s σ H Q I h => ?_⟩
  refine PySem.W.methodCall_KW (pl := pl) (ld_glob I hg hm ?_ hdb) ht
  refine PySem.W.method_cls I.kIn r.ga (PySem.W.cls_bind I.kIn r.rd c ?_)
  refine wpAny_call (PySem.W.sm_get (s := { s with toks := s.toks + 1 }) I.kIn rc (PySem.W.handed_on (handed_of (v := V.ref g) rfl) ?_))
  have I2 := I.tok (s.toks + 1)
  refine PySem.W.callWith_K (first := []) (h₀ := X.base) I2.ok.mod.kin kp (thn (ha.run pos pins _ σ H _ I2 h) fun us s1 ⟨vs, H1, I1, rr, q1⟩ => ⟨I1.kIn, ?_⟩) hst hpl
  exact run_fn F hr b .nil pass0 I1 rr q1
end
end Sx

/-! SxLc -/
/-! Comprehensions whose elements are values, or new tuples. -/
namespace Sx
open PySem PySem.Spec PyProof.Rows L2
/-- te gives the value v whatever is laid beside; tt answers b -/
def Gv (te : TE) (σ : L2.St) (H : Hp) (v : V) : Prop := ∀ Q : VK, (∀ H', Same H H' → Q v H') → te σ H Q
def Gt (tt : TT) (σ : L2.St) (H : Hp) (b : Bool) : Prop := ∀ Q : Bool → Hp → Prop, (∀ H', Same H H' → Q b H') → tt σ H Q
/-- te gives a new tuple of the values vs -/
def Gu (te : TE) (σ : L2.St) (H : Hp) (vs : List V) : Prop := ∀ Q : VK, (∀ t H', H t = none → Same H H' → H' t = some (.tup vs) → Q (.ref t) H') → te σ H Q
theorem Same.new {H : Hp} {p : Addr} {o : HO} (h : H p = none) : Same H (upd H p o) := fun b u e => by
  rw [upd_ne (ne_of_none e h)]
  exact e
/-- a list that wasn't there may change -/
theorem Same.mut {H H' : Hp} {p : Addr} {o : HO} (e : Same H H') (h : H p = none) : Same H (upd H' p o) := fun b u q => by
  rw [upd_ne (ne_of_none q h)]
  exact e b u q
theorem same_id {H : Hp} : Same H H := fun _ _ e => e
theorem paired_map {α β γ : Type} {F : β → γ → Prop} {f : α → β} {g : α → γ} : ∀ {l : List α}, (∀ x ∈ l, F (f x) (g x)) → Paired F (l.map f) (l.map g)
  | [], _ => .nil
  | x :: l, h => .cons (h x List.mem_cons_self) (paired_map fun y hy => h y (List.mem_cons_of_mem _ hy))
theorem paired_strs (l : List Str) : Paired (fun x z => x = V.str z) (l.map V.str) l := by
  have h := paired_map (F := fun x z => x = V.str z) (f := V.str) (g := id) (l := l) fun _ _ => rfl
  rw [List.map_id] at h
  exact h
theorem paired_refs {α : Type} {F : Addr → α → Prop} {ts : List Addr} {zs : List α} (h : Paired F ts zs) : Paired (fun x z => ∃ t, x = V.ref t ∧ F t z) (ts.map V.ref) zs := by
  induction h with
  | nil => exact .nil
  | cons r _ ih => exact .cons ⟨_, rfl, r⟩ ih
theorem paired_snoc {α β : Type} {F : α → β → Prop} {as : List α} {ys : List β} {b : α} {y : β} (h : Paired F as ys) : F b y → Paired F (as ++ [b]) (ys ++ [y]) := by
  induction h with
  | nil => exact fun r => .cons r .nil
  | cons r _ ih => exact fun z => .cons r (ih z)
section
variable {K : PySem.W.Frag} {a : Addr} {xs : List V} {g : TG} {tt : TT} {te : TE} {vs : List Nat} {σ : L2.St} {H : Hp} {Qr : Addr → Hp → Prop} {α : Type} {zs : List α} {R : V → α → Prop}
/-- what a turn of a comprehension asks: the target, the test, the element -/
abbrev Turn1 (D : Addr) (g : TG) (tt : TT) (te : TE) (vs : List Nat) (σ : L2.St) (x : V) (H : Hp) (nx : Hp → Prop) : Prop := g x (wipe σ vs) H fun σ2 H2 => wipe σ2 vs = wipe σ vs ∧ tt σ2 H2 fun b H3 =>
  if b = true then te σ2 H3 fun y H4 => ∃ acc, H4 D = some (.lst acc) ∧ acc.length < sizeLine ∧ nx (upd H4 D (.lst (acc ++ [y]))) else nx H3
/-- a turn: the target gives names, the test answers c z -/
def Tst (g : TG) (tt : TT) (te : TE) (vs : List Nat) (σ : L2.St) (x : V) (H : Hp) (b : Bool) (E : TE → L2.St → Hp → Prop) : Prop := ∃ σ2, wipe σ2 vs = wipe σ vs ∧ Gt tt σ2 H b ∧ (b = true → ∀ H', Same H H' → E te σ2 H') ∧ ∀ k : L2.St → Hp → Prop, k σ2 H → g x (wipe σ vs) H k
/-- values -/
theorem vals_core {D : Addr} (f : α → V) (c : α → Bool) (hp : Paired R xs zs) (hD : H D = none) (hz : xs.length ≤ 10000)
    (ht : ∀ x z, z ∈ zs → R x z → ∀ H', Same H H' → Tst g tt te vs σ x H' (c z) fun te σ H => Gv te σ H (f z)) :
    ∀ i x H', xs[i]? = some x → (Same H H' ∧ H' D = some (.lst (((zs.take i).filter c).map f))) → Turn1 D g tt te vs σ x H' fun H'' => Same H H'' ∧ H'' D = some (.lst (((zs.take (i + 1)).filter c).map f)) := by
  rintro i x H' hi ⟨s, hd⟩
  obtain ⟨z, hzi, hR⟩ := paired_get hp hi
  have tk : zs.take (i + 1) = zs.take i ++ [z] := by rw [List.take_add_one, hzi]; rfl
  have len : (((zs.take i).filter c).map f).length < 10001 := by
    rw [List.length_map]
    have y := List.length_filter_le c (zs.take i)
    have e := Paired.length hp
    rw [List.length_take] at y
    omega
  obtain ⟨σ2, hw, hgt, hge, hg⟩ := ht x z (List.mem_of_getElem? hzi) hR H' s
  refine hg _ ⟨hw, hgt _ fun H2 s2 => ?_⟩
  cases hc : c z with
  | true =>
    refine iteT (hge hc H2 s2 _ fun H3 s3 => ⟨_, s3 _ _ (s2 _ _ hd), Nat.lt_of_lt_of_le len (by decide), Sx.Same.mut (s.trans (s2.trans s3)) hD, ?_⟩)
    rw [upd_same, tk, List.filter_append, List.map_append]
    simp [hc]
  | false =>
    refine iteF ⟨s.trans s2, ?_⟩
    rw [s2 _ _ hd, tk, List.filter_append, List.map_append]
    simp [hc]
/-- [f x for x in xs if c x], xs a list; a tuple -/
theorem lc_valsL (f : α → V) (c : α → Bool) (hx : SqL K H a xs) (hp : Paired R xs zs) (hz : xs.length ≤ 10000)
    (ht : ∀ x z, z ∈ zs → R x z → ∀ H', Same H H' → Tst g tt te vs σ x H' (c z) fun te σ H => Gv te σ H (f z)) (q : ∀ D H', H D = none → Same H H' → H' D = some (.lst ((zs.filter c).map f)) → Qr D H') :
    ∀ D, H D = none → ∃ W : Nat → Nat → Hp → Prop, (∃ m, W 0 m (upd H D (.lst []))) ∧ ∀ i m H', W i m H' → ((Itl K a).stop i H' ∧ Qr D H') ∨ ((Itl K a).go i H' ∧ ∃ Nx : Hp → Prop, (∀ H', Nx H' → ∃ m', m' < m ∧ W (i + 1) m' H') ∧ ∀ x H2, (Itl K a).yld i H' x H2 → Turn1 D g tt te vs σ x H2 Nx) := fun D hD =>
  lc_list (Qd := fun H' => Qr D H') (xs := xs) (fun i H' => Same H H' ∧ H' D = some (.lst (((zs.take i).filter c).map f))) ⟨Same.new hD, upd_same⟩ (fun i H' _ p => Same.seq p.1 hx)
    (vals_core f c hp hD hz ht) fun H' p => q D H' hD p.1 (by have z := p.2; rw [Paired.length hp, List.take_length] at z; exact z)
theorem lc_valsT (f : α → V) (c : α → Bool) (hx : SqT K H a xs) (hp : Paired R xs zs) (hz : xs.length ≤ 10000)
    (ht : ∀ x z, z ∈ zs → R x z → ∀ H', Same H H' → Tst g tt te vs σ x H' (c z) fun te σ H => Gv te σ H (f z)) (q : ∀ D H', H D = none → Same H H' → H' D = some (.lst ((zs.filter c).map f)) → Qr D H') :
    ∀ D, H D = none → ∃ W : Nat → Nat → Hp → Prop, (∃ m, W 0 m (upd H D (.lst []))) ∧ ∀ i m H', W i m H' → ((Itt K a).stop i H' ∧ Qr D H') ∨ ((Itt K a).go i H' ∧ ∃ Nx : Hp → Prop, (∀ H', Nx H' → ∃ m', m' < m ∧ W (i + 1) m' H') ∧ ∀ x H2, (Itt K a).yld i H' x H2 → Turn1 D g tt te vs σ x H2 Nx) := fun D hD =>
  lc_tup (Qd := fun H' => Qr D H') (xs := xs) (fun i H' => Same H H' ∧ H' D = some (.lst (((zs.take i).filter c).map f))) ⟨Same.new hD, upd_same⟩ (fun i H' _ p => sqT_same p.1 hx)
    (vals_core f c hp hD hz ht) fun H' p => q D H' hD p.1 (by have z := p.2; rw [Paired.length hp, List.take_length] at z; exact z)
/-- new tuples: the turn -/
def News1 (H H' : Hp) (D : Addr) (f : α → List V) (ys : List α) : Prop := Same H H' ∧ ∃ ts : List Addr, H' D = some (.lst (ts.map V.ref)) ∧ Paired (fun t x => H' t = some (.tup (f x)) ∧ H t = none ∧ t ≠ D) ts ys
theorem news_core {D : Addr} (f : α → List V) (c : α → Bool) (hp : Paired R xs zs) (hD : H D = none) (hz : xs.length ≤ 10000)
    (hg : ∀ x z, z ∈ zs → R x z → ∀ H', Same H H' → Tst g tt te vs σ x H' (c z) fun te σ H => Gu te σ H (f z)) :
    ∀ i x H', xs[i]? = some x → News1 H H' D f ((zs.take i).filter c) → Turn1 D g tt te vs σ x H' fun H'' => News1 H H'' D f ((zs.take (i + 1)).filter c) := by
  rintro i x H' hi ⟨s, ts, hd, hpr⟩
  obtain ⟨z, hzi, hR⟩ := paired_get hp hi
  have tk : zs.take (i + 1) = zs.take i ++ [z] := by rw [List.take_add_one, hzi]; rfl
  obtain ⟨σ2, hw, ht, he, hg2⟩ := hg x z (List.mem_of_getElem? hzi) hR H' s
  refine hg2 _ ⟨hw, ht _ fun H2 s2 => ?_⟩
  have stay : ∀ {H3 : Hp}, Same H' H3 → Paired (fun t x => H3 t = some (.tup (f x)) ∧ H t = none ∧ t ≠ D) ts ((zs.take i).filter c) := fun {H3} s3 => paired_imp (fun t x h => ⟨s3 _ _ h.1, h.2⟩) hpr
  cases hc : c z with
  | true =>
    refine iteT (he hc H2 s2 _ fun t H3 ht3 s3 hn => ⟨ts.map V.ref, s3 _ _ (s2 _ _ hd), ?_, ?_⟩)
    · rw [List.length_map, Paired.length hpr, sizeLine_eq]
      have y := List.length_filter_le c (zs.take i)
      have e := Paired.length hp
      rw [List.length_take] at y
      omega
    · have s13 := s.trans (s2.trans s3)
      have tD : t ≠ D := fun e => by
        rw [e] at hn
        have z := s3 _ _ (s2 _ _ hd)
        rw [hn] at z
        cases z
      have tn : H t = none := by
        cases z : H t with
        | none => rfl
        | some o => rw [s2 _ _ (s _ _ z)] at ht3; cases ht3
      refine ⟨Sx.Same.mut s13 hD, ts ++ [t], by rw [upd_same, List.map_append]; rfl, ?_⟩
      rw [tk, List.filter_append]
      have e1 : [z].filter c = [z] := by simp [hc]
      rw [e1]
      exact paired_snoc (paired_imp (fun u y h => ⟨by rw [upd_ne h.2.2]; exact h.1, h.2⟩) (stay (s2.trans s3))) ⟨by rw [upd_ne tD]; exact hn, tn, tD⟩
  | false =>
    refine iteF ⟨s.trans s2, ts, s2 _ _ hd, ?_⟩
    rw [tk, List.filter_append]
    have e1 : [z].filter c = [] := by simp [hc]
    rw [e1, List.append_nil]
    exact stay s2
theorem lc_newsL (f : α → List V) (c : α → Bool) (hx : SqL K H a xs) (hp : Paired R xs zs) (hz : xs.length ≤ 10000)
    (hg : ∀ x z, z ∈ zs → R x z → ∀ H', Same H H' → Tst g tt te vs σ x H' (c z) fun te σ H => Gu te σ H (f z))
    (q : ∀ D H', H D = none → News1 H H' D f (zs.filter c) → Qr D H') :
    ∀ D, H D = none → ∃ W : Nat → Nat → Hp → Prop, (∃ m, W 0 m (upd H D (.lst []))) ∧ ∀ i m H', W i m H' → ((Itl K a).stop i H' ∧ Qr D H') ∨ ((Itl K a).go i H' ∧ ∃ Nx : Hp → Prop, (∀ H', Nx H' → ∃ m', m' < m ∧ W (i + 1) m' H') ∧ ∀ x H2, (Itl K a).yld i H' x H2 → Turn1 D g tt te vs σ x H2 Nx) := fun D hD =>
  lc_list (Qd := fun H' => Qr D H') (xs := xs) (fun i H' => News1 H H' D f ((zs.take i).filter c)) ⟨Same.new hD, [], upd_same, .nil⟩ (fun i H' _ p => Same.seq p.1 hx)
    (news_core f c hp hD hz hg) fun H' p => q D H' hD (by rw [Paired.length hp, List.take_length] at p; exact p)
theorem lc_newsT (f : α → List V) (c : α → Bool) (hx : SqT K H a xs) (hp : Paired R xs zs) (hz : xs.length ≤ 10000)
    (hg : ∀ x z, z ∈ zs → R x z → ∀ H', Same H H' → Tst g tt te vs σ x H' (c z) fun te σ H => Gu te σ H (f z))
    (q : ∀ D H', H D = none → News1 H H' D f (zs.filter c) → Qr D H') :
    ∀ D, H D = none → ∃ W : Nat → Nat → Hp → Prop, (∃ m, W 0 m (upd H D (.lst []))) ∧ ∀ i m H', W i m H' → ((Itt K a).stop i H' ∧ Qr D H') ∨ ((Itt K a).go i H' ∧ ∃ Nx : Hp → Prop, (∀ H', Nx H' → ∃ m', m' < m ∧ W (i + 1) m' H') ∧ ∀ x H2, (Itt K a).yld i H' x H2 → Turn1 D g tt te vs σ x H2 Nx) := fun D hD =>
  lc_tup (Qd := fun H' => Qr D H') (xs := xs) (fun i H' => News1 H H' D f ((zs.take i).filter c)) ⟨Same.new hD, [], upd_same, .nil⟩ (fun i H' _ p => sqT_same p.1 hx)
    (news_core f c hp hD hz hg) fun H' p => q D H' hD (by rw [Paired.length hp, List.take_length] at p; exact p)
end
/-- a target that is one name -/
theorem tst_name {tt : TT} {te : TE} {vs : List Nat} {σ : L2.St} {x : V} {H : Hp} {b : Bool} {E : TE → L2.St → Hp → Prop} {j : Nat} (hw : wipe ((wipe σ vs).set j (some x)) vs = wipe σ vs) (ht : Gt tt ((wipe σ vs).set j (some x)) H b) (he : b = true → ∀ H', Same H H' → E te ((wipe σ vs).set j (some x)) H') :
    Tst (gName j) tt te vs σ x H b E := ⟨_, hw, ht, he, fun k hk => hk⟩
theorem gt_yes {σ : L2.St} {H : Hp} : Gt tYes σ H true := fun Q h => h H same_id
theorem gv_var {σ : L2.St} {H : Hp} {i : Nat} {v : V} (h : σ[i]? = some (some v)) : Gv (tVar i) σ H v := fun Q q => ⟨v, h, q H same_id⟩

/-! ### [(.., ..) for x in xs for y in ys if ..] -/
theorem News1.more {H H' H2 H3 : Hp} {D t : Addr} {α : Type} {f : α → List V} {ys : List α} {y : α} (N : News1 H H' D f ys) (hD : H D = none) (s2 : Same H' H2) (ht : H2 t = none) (s3 : Same H2 H3) (hn : H3 t = some (.tup (f y))) :
    ∃ acc, H3 D = some (.lst acc) ∧ acc.length = ys.length ∧ News1 H (upd H3 D (.lst (acc ++ [.ref t]))) D f (ys ++ [y]) := by
  obtain ⟨s, ts, hd, hpr⟩ := N
  have tD : t ≠ D := fun e => by
    rw [e] at hn
    have z := s3 _ _ (s2 _ _ hd)
    rw [hn] at z
    cases z
  have tn : H t = none := by
    cases z : H t with
    | none => rfl
    | some o => rw [s2 _ _ (s _ _ z)] at ht; cases ht
  refine ⟨ts.map V.ref, s3 _ _ (s2 _ _ hd), by rw [List.length_map, Paired.length hpr], Sx.Same.mut (s.trans (s2.trans s3)) hD, ts ++ [t], by rw [upd_same, List.map_append]; rfl, ?_⟩
  exact paired_snoc (paired_imp (fun u y h => ⟨by rw [upd_ne h.2.2]; exact s3 _ _ (s2 _ _ h.1), h.2⟩) hpr) ⟨by rw [upd_ne tD]; exact hn, tn, tD⟩
theorem News1.stay {H H' H2 : Hp} {D : Addr} {α : Type} {f : α → List V} {ys : List α} (N : News1 H H' D f ys) (s2 : Same H' H2) : News1 H H2 D f ys := by
  obtain ⟨s, ts, hd, hpr⟩ := N
  exact ⟨s.trans s2, ts, s2 _ _ hd, paired_imp (fun _ _ h => ⟨s2 _ _ h.1, h.2⟩) hpr⟩
section
variable {K : PySem.W.Frag} {a1 a2 : Addr} {xs1 xs2 : List V} {tt1 : TT} {te : TE} {wi1 : TI} {vs vs1 : List Nat} {σ : L2.St} {H : Hp} {Qr : Addr → Hp → Prop} {α β : Type} {zs1 : List α} {zs2 : List β} {R1 : V → α → Prop} {R2 : V → β → Prop} {j1 j2 : Nat}
def rws (c : α → β → Bool) (zs1 : List α) (zs2 : List β) : List (α × β) := zs1.flatMap fun z => (zs2.filter (c z)).map fun u => (z, u)
theorem len_rows (c : α → β → Bool) (zs2 : List β) : ∀ zs1 : List α, (rws c zs1 zs2).length ≤ zs1.length * zs2.length
  | [] => by simp [rws]
  | z :: zs1 => by
    have ih := len_rows c zs2 zs1
    have f := List.length_filter_le (c z) zs2
    unfold rws at ih ⊢
    rw [List.flatMap_cons, List.length_append, List.length_map, List.length_cons, Nat.add_mul, Nat.one_mul]
    omega
theorem lc2_newsT (f : α × β → List V) (c : α → β → Bool) (hx1 : SqT K H a1 xs1) (hp1 : Paired R1 xs1 zs1) (hx2 : SqT K H a2 xs2) (hp2 : Paired R2 xs2 zs2) (hz : zs1.length * zs2.length ≤ 10000)
    (hw1 : ∀ x, wipe ((wipe σ vs).set j1 (some x)) vs = wipe σ vs) (hw2 : ∀ x y, wipe ((wipe ((wipe σ vs).set j1 (some x)) vs1).set j2 (some y)) vs1 = wipe ((wipe σ vs).set j1 (some x)) vs1)
    (hi : ∀ x z, z ∈ zs1 → R1 x z → ∀ H', Same H H' → ∀ R : It → Hp → Prop, R (Itt K a2) H' → wi1 ((wipe σ vs).set j1 (some x)) H' R)
    (hg : ∀ x z y u, z ∈ zs1 → u ∈ zs2 → R1 x z → R2 y u → ∀ H', Same H H' → Gt tt1 ((wipe ((wipe σ vs).set j1 (some x)) vs1).set j2 (some y)) H' (c z u) ∧ (c z u = true → ∀ H'', Same H' H'' → Gu te ((wipe ((wipe σ vs).set j1 (some x)) vs1).set j2 (some y)) H'' (f (z, u))))
    (q : ∀ D H', H D = none → News1 H H' D f (rws c zs1 zs2) → Qr D H') :
    ∀ D, H D = none → ∃ W : Nat → Nat → Hp → Prop, (∃ m, W 0 m (upd H D (.lst []))) ∧ ∀ i m H', W i m H' → ((Itt K a1).stop i H' ∧ Qr D H') ∨ ((Itt K a1).go i H' ∧ ∃ Nx : Hp → Prop, (∀ H', Nx H' → ∃ m', m' < m ∧ W (i + 1) m' H') ∧ ∀ x H2, (Itt K a1).yld i H' x H2 →
      gName j1 x (wipe σ vs) H2 fun σ2 H2 => wipe σ2 vs = wipe σ vs ∧ tYes σ2 H2 fun b H3 => if b = true then wi1 σ2 H3 fun J1 H4 => ∃ W1 : Nat → Nat → Hp → Prop, (∃ m, W1 0 m H4) ∧ ∀ j k H, W1 j k H → (J1.stop j H ∧ Nx H) ∨ (J1.go j H ∧ ∃ Nx1 : Hp → Prop, (∀ H', Nx1 H' → ∃ k', k' < k ∧ W1 (j + 1) k' H') ∧ ∀ x H', J1.yld j H x H' →
        gName j2 x (wipe σ2 vs1) H' fun σ3 H5 => wipe σ3 vs1 = wipe σ2 vs1 ∧ tt1 σ3 H5 fun b H6 => if b = true then te σ3 H6 fun y H7 => ∃ acc, H7 D = some (.lst acc) ∧ acc.length < sizeLine ∧ Nx1 (upd H7 D (.lst (acc ++ [y]))) else Nx1 H6) else Nx H3) := by
  intro D hD
  have l1 := Paired.length hp1
  have l2 := Paired.length hp2
  refine ⟨fun i m H' => m = xs1.length - i ∧ i ≤ xs1.length ∧ News1 H H' D f (rws c (zs1.take i) zs2), ⟨xs1.length, rfl, Nat.zero_le _, Same.new hD, [], upd_same, .nil⟩, ?_⟩
  rintro i m H' ⟨rfl, hle, N⟩
  have sq := sqT_same N.1 hx1
  rcases Nat.lt_or_ge i xs1.length with lt | ge
  · refine .inr ⟨⟨xs1, xs1[i], sq, List.getElem?_eq_getElem lt⟩, fun H2 => News1 H H2 D f (rws c (zs1.take (i + 1)) zs2), fun H2 p2 => ⟨xs1.length - (i + 1), by omega, rfl, lt, p2⟩, fun x H2 ⟨e, y⟩ => ?_⟩
    subst e
    have hxi := y xs1 sq
    obtain ⟨z, hzi, hR⟩ := paired_get hp1 hxi
    have zm := List.mem_of_getElem? hzi
    have tk : zs1.take (i + 1) = zs1.take i ++ [z] := by rw [List.take_add_one, hzi]; rfl
    have tk2 : rws c (zs1.take (i + 1)) zs2 = rws c (zs1.take i) zs2 ++ (zs2.filter (c z)).map fun u => (z, u) := by
      unfold rws
      rw [tk, List.flatMap_append, List.flatMap_cons, List.flatMap_nil, List.append_nil]
    have llen : (rws c (zs1.take i) zs2).length ≤ i * zs2.length := by
      refine Nat.le_trans (len_rows c zs2 _) (Nat.mul_le_mul_right _ ?_)
      rw [List.length_take]
      omega
    have bnd : i * zs2.length + zs2.length ≤ 10000 := by
      have w : (i + 1) * zs2.length ≤ zs1.length * zs2.length := Nat.mul_le_mul_right _ (by omega)
      rw [Nat.add_mul, Nat.one_mul] at w
      omega
    refine ⟨hw1 x, ?_⟩
    unfold tYes
    dsimp only
    rw [if_pos rfl]
    refine hi x z zm hR _ N.1 _ ?_
    refine ⟨fun j k H4 => k = xs2.length - j ∧ j ≤ xs2.length ∧ News1 H H4 D f (rws c (zs1.take i) zs2 ++ ((zs2.take j).filter (c z)).map fun u => (z, u)), ⟨xs2.length, rfl, Nat.zero_le _, by rw [List.take_zero, List.filter_nil, List.map_nil, List.append_nil]; exact N⟩, ?_⟩
    rintro j k H4 ⟨rfl, hj, N4⟩
    have sq2 := sqT_same N4.1 hx2
    rcases Nat.lt_or_ge j xs2.length with lt2 | ge2
    · refine .inr ⟨⟨xs2, xs2[j], sq2, List.getElem?_eq_getElem lt2⟩, fun H5 => News1 H H5 D f (rws c (zs1.take i) zs2 ++ ((zs2.take (j + 1)).filter (c z)).map fun u => (z, u)), fun H5 p5 => ⟨xs2.length - (j + 1), by omega, rfl, lt2, p5⟩, fun y' H5 ⟨e, y2⟩ => ?_⟩
      subst e
      have hyj := y2 xs2 sq2
      obtain ⟨u, huj, hR2⟩ := paired_get hp2 hyj
      have tk3 : zs2.take (j + 1) = zs2.take j ++ [u] := by rw [List.take_add_one, huj]; rfl
      obtain ⟨hT, hE⟩ := hg x z y' u zm (List.mem_of_getElem? huj) hR hR2 _ N4.1
      refine ⟨hw2 x y', hT _ fun H6 s6 => ?_⟩
      cases hc : c z u with
      | true =>
        refine iteT (hE hc _ s6 _ fun t H7 ht s7 hn => ?_)
        obtain ⟨acc, h1, h2, h3⟩ := News1.more (y := (z, u)) N4 hD s6 ht s7 hn
        refine ⟨acc, h1, ?_, ?_⟩
        · rw [h2, List.length_append, List.length_map, sizeLine_eq]
          have w := List.length_filter_le (c z) (zs2.take j)
          rw [List.length_take] at w
          omega
        · have e1 : [u].filter (c z) = [u] := by simp [hc]
          rw [tk3, List.filter_append, e1, List.map_append, ← List.append_assoc]
          exact h3
      | false =>
        refine iteF ?_
        have e1 : [u].filter (c z) = [] := by simp [hc]
        rw [tk3, List.filter_append, e1, List.append_nil]
        exact N4.stay s6
    · have e : j = xs2.length := Nat.le_antisymm hj ge2
      subst e
      refine .inl ⟨⟨xs2, sq2, Nat.le_refl _⟩, ?_⟩
      rw [tk2]
      rw [l2, List.take_length] at N4
      exact N4
  · have e : i = xs1.length := Nat.le_antisymm hle ge
    subst e
    refine .inl ⟨⟨xs1, sq, Nat.le_refl _⟩, q D H' hD ?_⟩
    rw [l1, List.take_length] at N
    exact N
end
end Sx

/-! BookB -/
namespace Sx
open PySem PySem.Spec PyProof.Rows L2

/-! ### Books in good order -/
structure Std (ks : List Str) (cs : List (Str × Str)) : Prop where
  up : Up ltS ks
  few : ks.length ≤ 40
  upc : Up ltP cs
  inn : ∀ c ∈ cs, c.1 ∈ ks ∧ c.2 ∈ ks
  low : ∀ c ∈ cs, ltS c.2 c.1 = false
theorem mnS_mem {a b : Str} {p : Str → Prop} (ha : p a) (hb : p b) : p (mnS a b) := by
  unfold mnS
  split <;> assumption
theorem mxS_mem {a b : Str} {p : Str → Prop} (ha : p a) (hb : p b) : p (mxS a b) := by
  unfold mxS
  split <;> assumption
theorem nrm_low (c : Str × Str) : ltS (nrm c).2 (nrm c).1 = false := by
  show ltS (mxS c.1 c.2) (mnS c.1 c.2) = false
  unfold mxS mnS
  cases q : ltS c.1 c.2 with
  | true =>
    rw [if_pos rfl]
    cases r : ltS c.2 c.1 with
    | true => exact absurd (totS.tr q r) (by rw [totS.irr]; exact fun z => nomatch z)
    | false => rw [if_neg (by exact fun z => nomatch z)]; exact r
  | false =>
    rw [if_neg (by exact fun z => nomatch z)]
    cases r : ltS c.2 c.1 with
    | true => rw [if_pos rfl]; exact q
    | false => rw [if_neg (by exact fun z => nomatch z)]; exact totS.irr _
theorem nrm_self {c : Str × Str} (h : ltS c.2 c.1 = false) : nrm c = c := by
  show (mnS c.1 c.2, mxS c.1 c.2) = c
  unfold mnS mxS
  rw [if_neg (by rw [h]; exact fun z => nomatch z)]
  cases q : ltS c.1 c.2 with
  | true => rfl
  | false =>
    have e : c.1 = c.2 := totS.eq q h
    rw [if_neg (by exact fun z => nomatch z)]
    exact Prod.ext rfl e
theorem std_make {ks : List Str} {ps : List (Str × Str)} (few : ks.length ≤ 40) (nd : ks.Nodup) (inn : ∀ c ∈ ps, c.1 ∈ ks ∧ c.2 ∈ ks) : Std (srt ltS ks) (srt ltP (ps.map nrm)) := by
  refine ⟨up_srt totS ks, ?_, up_srt totP _, fun c hc => ?_, fun c hc => ?_⟩
  · exact Nat.le_trans (few_of (up_nodup totS (up_srt totS ks)) fun z hz => (mem_srt totS).mp hz) few
  · obtain ⟨c0, h0, e⟩ := List.mem_map.mp ((mem_srt totP).mp hc)
    obtain ⟨h1, h2⟩ := inn c0 h0
    rw [← e]
    exact ⟨(mem_srt totS).mpr (mnS_mem (p := (· ∈ ks)) h1 h2), (mem_srt totS).mpr (mxS_mem (p := (· ∈ ks)) h1 h2)⟩
  · obtain ⟨c0, h0, e⟩ := List.mem_map.mp ((mem_srt totP).mp hc)
    rw [← e]
    exact nrm_low c0
theorem map_nrm {cs : List (Str × Str)} (h : ∀ c ∈ cs, ltS c.2 c.1 = false) : cs.map nrm = cs := by
  induction cs with
  | nil => rfl
  | cons c cs ih => rw [List.map_cons, nrm_self (h c List.mem_cons_self), ih fun d hd => h d (List.mem_cons_of_mem _ hd)]
theorem std_len {ks : List Str} {cs : List (Str × Str)} (S : Std ks cs) : cs.length ≤ 1600 := by
  have z : ∀ l : List Str, (l.flatMap fun a => ks.map fun b => (a, b)).length = l.length * ks.length := fun l => by
    induction l with
    | nil => simp
    | cons a l ih => rw [List.flatMap_cons, List.length_append, ih, List.length_map, List.length_cons, Nat.add_mul, Nat.one_mul, Nat.add_comm]
  refine Nat.le_trans (few_of (m := ks.flatMap fun a => ks.map fun b => (a, b)) (up_nodup totP S.upc) fun c hc => ?_) ?_
  · obtain ⟨h1, h2⟩ := S.inn c hc
    exact List.mem_flatMap.mpr ⟨c.1, h1, List.mem_map.mpr ⟨c.2, h2, rfl⟩⟩
  · rw [z]
    exact Nat.le_trans (Nat.mul_le_mul S.few S.few) (by decide)
theorem mem_near {cs : List (Str × Str)} {k z : Str} : z ∈ nearM cs k ↔ (k, z) ∈ cs ∨ (z, k) ∈ cs := by
  unfold nearM
  rw [List.mem_filterMap]
  constructor
  · rintro ⟨c, hc, e⟩
    by_cases h : c.1 = k
    · rw [if_pos h] at e
      have e2 := Option.some.inj e
      exact .inl (by rw [← h, ← e2]; exact hc)
    · rw [if_neg h] at e
      by_cases g : c.2 = k
      · rw [if_pos g] at e
        have e2 := Option.some.inj e
        exact .inr (by rw [← g, ← e2]; exact hc)
      · rw [if_neg g] at e
        cases e
  · rintro (h | h)
    · exact ⟨_, h, by rw [if_pos rfl]⟩
    · refine ⟨_, h, ?_⟩
      by_cases g : z = k
      · rw [if_pos g, g]
      · rw [if_neg g, if_pos rfl]

/-- a field read in a comprehension -/
theorem pe_fldK {X : Cx} (K : PySem.W.Frag) {e : Expr} {f : Str} {pos : Pos} {ta : TE} (he : PE X e ta) (hK : X.K = K) (hb : attributeBase e f X.env (eval e X.env) = eval e X.env) : PE X (.Attribute e f pos) (tFld K ta f) := hK ▸ pe_fld he hb
/-! ### methods -/
abbrev sAsk : Stmt := inClass cBook 9
abbrev sClashing : Stmt := inClass cBook 11
abbrev sPeaceful : Stmt := inClass cBook 12
abbrev sOnly : Stmt := inClass cBook 14
abbrev sWithout : Stmt := inClass cBook 15
abbrev sTurned : Stmt := inClass cBook 18
abbrev sKinds : Stmt := inClass cBook 2
structure TB (K : PySem.W.Frag) (mg : Str → Option Value) (C : Addr) : Prop extends Blt mg where
  cl : Cls K C
  nK : NoAttr K C "_kinds"
  nC : NoAttr K C "_clashes"
  nN : NoAttr K C "_near"
abbrev InitG (P : Program) (w : World) (K : PySem.W.Frag) (mg : Str → Option Value) (base : Heap) (C : Addr) : Prop := MkG P w K mg base "Book" C 1 ["self", "kinds", "clashes"] (spInit K C)
theorem take_snoc {α : Type} {l : List α} {n : Nat} {x : α} (h : l[n]? = some x) : l.take (n + 1) = l.take n ++ [x] := by
  rw [List.take_succ, h]
  rfl
end Sx

/-! BookF -/
namespace Sx
open PySem PySem.Spec PyProof.Rows L2
abbrev sText : Stmt := inClass cBook 5
abbrev sOf : Stmt := inClass cBook 1
abbrev sIsKind : Stmt := top 2
def pairT (c : Str × Str) : Str := Str.empty ++ c.1 ++ "-" ++ c.2
def frontT (ks : List Str) : Str := if ks.isEmpty then "-" else Txt.join " " ks
def txtM (ks : List Str) (cs : List (Str × Str)) : Str := if cs.isEmpty then frontT ks else Str.empty ++ frontT ks ++ "; " ++ Txt.join " " (cs.map pairT)
def spText (K : PySem.W.Frag) (C : Addr) : Sp := fun vs H Q _ => ∃ (p : Addr) (ks : List Str) (cs : List (Str × Str)), vs = [.ref p] ∧ BookAt K C H p ks cs ∧ ks.length ≤ 40 ∧ cs.length ≤ 1600 ∧ (∀ k ∈ ks, k.length ≤ 100) ∧ (∀ c ∈ cs, c.1.length ≤ 100 ∧ c.2.length ≤ 100) ∧
  ((frontT ks).length ≤ 10000 ∧ (Txt.join " " (cs.map pairT)).length ≤ 1000000) ∧ ∀ H', Same H H' → Q (.str (txtM ks cs)) H'
theorem len_pairT (c : Str × Str) : (pairT c).length = c.1.length + 1 + c.2.length := by
  unfold pairT
  rw [Str.length_append, Str.length_append, Str.length_append]
  have e : (Str.empty).length = 0 := rfl
  have e1 : ("-" : Str).length = 1 := by decide +kernel
  rw [e, e1]
  omega
theorem sum_le {l : List Nat} {b : Nat} (h : ∀ x ∈ l, x ≤ b) : l.sum ≤ l.length * b := by
  induction l with
  | nil => simp
  | cons x l ih =>
    rw [List.sum_cons, List.length_cons, Nat.add_mul, Nat.one_mul]
    have a := h x List.mem_cons_self
    have c := ih fun y hy => h y (List.mem_cons_of_mem _ hy)
    omega
section
variable {P : Program} {w : World} {K : PySem.W.Frag} {mg : Str → Option Value} {base : Heap}
abbrev nText : List Str := ["self", "front", "back", "one", "other"]
theorem scText : FnScope nText ["self"] (defScope sText) := ⟨rfl, rfl, rfl, by decide +kernel, rfl, by decide +kernel, by decide +kernel⟩
theorem ok_text {f C : Addr} {fd : FuncData} {dvs : List V} (F : FunD K "text" "Book.text" (defArgs sText) (defBody sText) (defScope sText) dvs [] f fd) (T : TB K mg C) : FnOk P w K mg base CX0 1 f fd ["self"] (spText K C) := by
  refine F.ok scText (fun vs H Q E h => ?_) (fun cdv A outer s H vs Q E hr h => ?_)
  · obtain ⟨p, ks, cs, rfl, _⟩ := h
    rfl
  · obtain ⟨p, ks, cs, rfl, B, few, fewc, hk, hcl, hbig, q⟩ := h
    obtain ⟨dx, ak, ac, an, kvs, ts, hp, hak, hac, hts, han, hin, hout⟩ := id B
    refine ⟨_, (Evl.pss_cut (ps_set (i := 1) scText.nd rfl (Or.inl rfl) (pe_ifExp (pt_truth (pe_fld (pv 0) rfl) (by intro _; rfl)) (pe_join pe_str (pe_fld (pv 0) rfl)) pe_str))
      (pss_cons (ps_if (pt_not (pt_truth (pe_fld (pv 0) rfl) (by intro _; rfl))) (pss_one (ps_ret (pv 1))) pss_nil)
      (pss_cons (ps_set (i := 2) scText.nd rfl (Or.inl rfl) (pe_join pe_str (pe_lc (own := [("one", 3), ("other", 4)]) (g := gTup K 2 (gCons (gName 3) (gCons (gName 4) gNil))) (tt := tYes) rfl scText.nd (pi_tup (pe_fld (pv 0) rfl)) (blkOk_by (N := nText) (sc := defScope sText) (by decide +kernel))
        (fun _ _ _ _ _ => pg_tup rfl (pgs_cons (pg_name (i := 3) scText.nd rfl (Or.inl rfl)) (pgs_cons (pg_name (i := 4) scText.nd rfl (Or.inl rfl)) pgs_nil))) (fun _ _ _ _ _ => pts_nil)
        (fun _ _ _ _ _ => pe_joined (.cons (pe_fmt (pv 3)) (.cons pe_str (.cons (pe_fmt (pv 4)) .nil)))))))
      (pss_one (ps_ret (pe_joined (.cons (pe_fmt (pv 1)) (.cons pe_str (.cons (pe_fmt (pv 2)) .nil))))))))).nox, ?_⟩
    refine ⟨fun σ' H' => σ' = [some (.ref p), some (.str (frontT ks)), none, none, none] ∧ H' = H, ?_, ?_⟩
    · refine ⟨_, rfl, p, C, dx, _, _, rfl, hp, T.cl, T.nK, bkF_kinds _ _ _, _, .inr (.inl ⟨_, hak, rfl⟩), ?_⟩
      cases ks with
      | nil => exact iteF ⟨rfl, rfl⟩
      | cons k ks =>
        dsimp only
        rw [if_pos (show (!(List.map V.str (k :: ks)).isEmpty) = true from rfl)]
        refine ⟨⟨_, rfl⟩, _, rfl, p, C, dx, _, _, rfl, hp, T.cl, T.nK, bkF_kinds _ _ _, _, _, k :: ks, rfl, rfl, .inr hak, ?_, rfl, rfl⟩
        have y := sum_le (l := (k :: ks).map (·.length)) (b := 100) fun x hx => by
          obtain ⟨z, hz, e⟩ := List.mem_map.mp hx
          rw [← e]
          exact hk z hz
        have e1 : (" " : Str).length = 1 := by decide +kernel
        rw [List.length_map] at y
        rw [e1]
        omega
    rintro σ' H' ⟨rfl, rfl⟩
    have lts : ts.length = cs.length := Paired.length hts
    refine ⟨_, rfl, p, C, dx, _, _, rfl, hp, T.cl, T.nC, bkF_clashes _ _ _, _, .inr (.inl ⟨_, hac, rfl⟩), ?_⟩
    cases cs with
    | nil =>
      cases hts
      refine ⟨_, rfl, ?_⟩
      exact q _ same_id
    | cons c0 cs0 =>
      cases ts with
      | nil => cases hts
      | cons t0 ts0 =>
      show if (!(!(List.map V.ref (t0 :: ts0)).isEmpty)) = true then _ else _
      rw [if_neg (by simp)]
      refine ⟨⟨_, rfl⟩, _, rfl, p, C, dx, _, _, rfl, hp, T.cl, T.nC, bkF_clashes _ _ _, ac, rfl, ⟨_, hac⟩, ?_⟩
      refine lc_valsT (te := fun σ H Q => tJs [tFmt (tVar 3), tC (V.str "-"), tFmt (tVar 4)] Str.empty σ H fun out H1 => Q (V.str out) H1) (vs := [3, 4]) (σ := [some (.ref p), some (.str (frontT ks)), none, none, none]) (fun c : Str × Str => V.str (pairT c)) (fun _ => true) hac (paired_refs hts) (by rw [List.length_map]; omega) (fun x z hz hx H2 s2 => ?_) (fun D H2 hD s2 hl => ?_)
      · obtain ⟨t, rfl, hT⟩ := hx
        refine ⟨[some (.ref p), some (.str (frontT ks)), none, some (.str z.1), some (.str z.2)], rfl, gt_yes, fun _ H3 s3 Q h => ?_, fun k hk => ⟨t, _, rfl, sqT_same s2 hT, rfl, _, _, rfl, _, _, rfl, rfl, hk⟩⟩
        obtain ⟨l1, l2⟩ := hcl z hz
        have l := len_pairT z
        have small : ∀ {n : Nat}, n ≤ 300 → n ≤ sizeLine := fun h => Nat.le_trans h (by rw [sizeLine_eq]; decide)
        unfold pairT at l
        rw [Str.length_append] at l
        refine ⟨_, rfl, .inl ⟨_, rfl, small (by omega), _, rfl, small ?_, _, rfl, small (by omega), ?_⟩⟩
        · rw [Str.length_append]; show (0 : Nat) + _ ≤ 300; omega
        · refine ⟨_, rfl, .inl ⟨_, rfl, small (by omega), _, rfl, small ?_, h H3 same_id⟩⟩
          rw [Str.length_append]
          omega
      · have ef : (c0 :: cs0).filter (fun _ => true) = c0 :: cs0 := List.filter_eq_self.mpr fun _ _ => rfl
        rw [ef] at hl
        have em : (c0 :: cs0).map (fun c => V.str (pairT c)) = ((c0 :: cs0).map pairT).map V.str := by rw [List.map_map]; rfl
        rw [em] at hl
        refine ⟨" ", D, (c0 :: cs0).map pairT, rfl, rfl, .inl (SqL.of hl), ?_, ?_⟩
        · have y := sum_le (l := ((c0 :: cs0).map pairT).map (·.length)) (b := 201) fun x hx => by
            obtain ⟨z, hz, e⟩ := List.mem_map.mp hx
            obtain ⟨c, hc, e2⟩ := List.mem_map.mp hz
            rw [← e, ← e2, len_pairT]
            have w := hcl c hc
            omega
          have e1 : (" " : Str).length = 1 := by decide +kernel
          rw [List.length_map, List.length_map] at y
          rw [e1, List.length_map]
          omega
        · have small : ∀ {n : Nat}, n ≤ 2000000 → n ≤ sizeLine := fun h => Nat.le_trans h (by rw [sizeLine_eq]; decide)
          have e2 : ("; " : Str).length = 2 := by decide +kernel
          have e0 : (Str.empty).length = 0 := rfl
          refine ⟨_, rfl, .inl ⟨_, rfl, small (by omega), _, rfl, small ?_, _, rfl, small ?_, ?_⟩⟩
          · rw [Str.length_append, e0]; omega
          · rw [Str.length_append, Str.length_append, e0, e2]; omega
          · refine ⟨_, rfl, .inl ⟨_, rfl, small (by omega), _, rfl, small ?_, ?_⟩⟩
            · rw [Str.length_append, Str.length_append, Str.length_append, e0, e2]; omega
            · exact q _ s2

/-! ### is_kind -/
/-- [f c for c in x], x a text -/
theorem lc_strs {x : Str} {te : TE} {vs : List Nat} {σ : L2.St} {H : Hp} {Qr : Addr → Hp → Prop} {j : Nat} (f : Nat → V) (hz : x.cps.size ≤ 10000) (hw : ∀ v, wipe ((wipe σ vs).set j (some v)) vs = wipe σ vs)
    (ht : ∀ c ∈ x.cps.toList, ∀ H', Same H H' → Gv te ((wipe σ vs).set j (some (.str ⟨#[c]⟩))) H' (f c)) (q : ∀ D H', H D = none → Same H H' → H' D = some (.lst (x.cps.toList.map f)) → Qr D H') :
    ∀ D, H D = none → ∃ W : Nat → Nat → Hp → Prop, (∃ m, W 0 m (upd H D (.lst []))) ∧ ∀ i m H', W i m H' → ((Its x).stop i H' ∧ Qr D H') ∨ ((Its x).go i H' ∧ ∃ Nx : Hp → Prop, (∀ H', Nx H' → ∃ m', m' < m ∧ W (i + 1) m' H') ∧ ∀ v H2, (Its x).yld i H' v H2 → Turn1 D (gName j) tYes te vs σ v H2 Nx) := by
  intro D hD
  refine ⟨fun i m H' => m = x.cps.size - i ∧ i ≤ x.cps.size ∧ Same H H' ∧ H' D = some (.lst ((x.cps.toList.take i).map f)), ⟨x.cps.size, rfl, Nat.zero_le _, Sx.Same.new hD, upd_same⟩, ?_⟩
  rintro i m H' ⟨rfl, hi, s, hd⟩
  rcases Nat.lt_or_ge i x.cps.size with lt | ge
  · refine .inr ⟨lt, fun H2 => Same H H2 ∧ H2 D = some (.lst ((x.cps.toList.take (i + 1)).map f)), fun H2 p => ⟨x.cps.size - (i + 1), by omega, rfl, lt, p⟩, fun v H2 ⟨e, c, hc, ev⟩ => ?_⟩
    subst e
    subst ev
    have hl : x.cps.toList[i]? = some c := by rw [Array.getElem?_toList]; exact hc
    refine ⟨hw _, ?_⟩
    unfold tYes
    dsimp only
    rw [if_pos rfl]
    refine ht c (List.mem_of_getElem? hl) _ s _ fun H3 s3 => ⟨_, s3 _ _ hd, ?_, Sx.Same.mut (s.trans s3) hD, ?_⟩
    · rw [List.length_map, List.length_take, sizeLine_eq]
      omega
    · rw [upd_same, take_snoc hl, List.map_append]
      rfl
  · have e : i = x.cps.size := Nat.le_antisymm hi ge
    subst e
    refine .inl ⟨Nat.le_refl _, q D H' hD s ?_⟩
    rw [show x.cps.size = x.cps.toList.length from (Array.length_toList).symm, List.take_length] at hd
    exact hd
def okSign (c : Nat) : Bool := (!decide ((⟨#[c]⟩ : Str).cps.toList < ("a" : Str).cps.toList)) && (!decide (("z" : Str).cps.toList < (⟨#[c]⟩ : Str).cps.toList))
def isKindM (x : Str) : Bool := !decide (x = "") && x.cps.toList.all okSign
def spIsKind : Sp := fun vs H Q _ => ∃ x : Str, vs = [.str x] ∧ x.cps.size ≤ 4000 ∧ ∀ H', Same H H' → Q (.bl (isKindM x)) H'
abbrev nIsKind : List Str := ["thing", "sign"]
theorem scIsKind : FnScope nIsKind ["thing"] (defScope sIsKind) := ⟨rfl, rfl, rfl, by decide +kernel, rfl, by decide +kernel, by decide +kernel⟩
theorem ok_isKind {f : Addr} {fd : FuncData} {dvs : List V} (F : FunD K "is_kind" "is_kind" (defArgs sIsKind) (defBody sIsKind) (defScope sIsKind) dvs [] f fd) (B : Blt mg) : FnOk P w K mg base CX0 1 f fd ["thing"] spIsKind := by
  refine F.ok scIsKind (fun vs H Q E h => ?_) (fun cdv A outer s H vs Q E hr h => ?_)
  · obtain ⟨x, rfl, _⟩ := h
    rfl
  · obtain ⟨x, rfl, hz, q⟩ := h
    refine ⟨_, (pss_one (ps_ret (pe_and (pe_callB call_isi (by rfl) B.isinstance bt_isinstance (pa_cons (pv 0) (pa_cons (pe_bltn (v := .ty "str") (by rfl) B.str bt_str rfl) pa_nil)))
      (pe_and (pe_cmpR op_ne (pv 0) pe_str (nomark _)) (pe_one (pe_callB (cr_all rfl) (by rfl) B.all bt_all (pa_cons
        (pe_lc (own := [("sign", 1)]) (g := gName 1) (tt := tYes) rfl scIsKind.nd (pi_str (pv 0)) (blkOk_by (N := nIsKind) (sc := defScope sIsKind) (by decide +kernel)) (fun _ _ _ _ _ => pg_name (i := 1) scIsKind.nd rfl (Or.inl rfl)) (fun _ _ _ _ _ => pts_nil)
          (fun _ _ _ _ _ => pe_chain op_le_str op_le_str pe_str (pv 1) pe_str)) pa_nil))))))).nox, ?_⟩
    refine ⟨_, rfl, .str x, .ty "str", .type "str", .type "str", true, rfl, .ty "str", ?_, kit_ty (by decide +kernel), true, rfl, iteT ?_⟩
    · exact .base (.str x)
    refine ⟨_, rfl, rfl, _, rfl, ?_⟩
    have hQ := q
    unfold isKindM at hQ
    by_cases e : x = ""
    · refine iteNS (by rw [e]) ?_
      rw [decide_eq_true e] at hQ
      exact hQ _ same_id
    · have ne : ¬ (V.str x = V.str "") := fun w => e (V.str.inj w)
      rw [decide_eq_false ne]
      rw [decide_eq_false e] at hQ
      refine iteT ⟨_, rfl, x, rfl, ?_⟩
      refine lc_strs (vs := [1]) (σ := [some (.str x), none]) (fun c => .bl (okSign c)) (by omega) (fun _ => by rfl) (fun c hc H' s' Q h => ?_) (fun D H' hD s' hl => ?_)
      · have hq := h H' same_id
        unfold okSign at hq
        refine ⟨_, rfl, _, _, rfl, rfl, _, rfl, ?_⟩
        cases k : (!decide ((⟨#[c]⟩ : Str).cps.toList < ("a" : Str).cps.toList)) with
        | false =>
          rw [k] at hq
          exact iteF hq
        | true =>
          rw [k] at hq
          exact iteT ⟨_, _, rfl, rfl, hq⟩
      · refine ⟨D, x.cps.toList.map okSign, rfl, SqL.of ?_, ?_⟩
        · rw [hl, List.map_map]
          rfl
        · have ea : (x.cps.toList.map okSign).all id = x.cps.toList.all okSign := by rw [List.all_map]; rfl
          rw [ea]
          exact hQ _ s'
end
end Sx

/-! SxObj -/
/-! Comprehensions whose elements are new objects. -/
namespace Sx
open PySem PySem.Spec PyProof.Rows L2
/-- te lays the object o -/
def Go (te : TE) (σ : L2.St) (H : Hp) (o : HO) : Prop := ∀ Q : VK, (∀ t H', H t = none → Same H H' → H' t = some o → Q (.ref t) H') → te σ H Q
def NewsO {α : Type} (H H' : Hp) (D : Addr) (f : α → HO) (ys : List α) : Prop := Same H H' ∧ ∃ ts : List Addr, H' D = some (.lst (ts.map V.ref)) ∧ Paired (fun t x => H' t = some (f x) ∧ H t = none ∧ t ≠ D) ts ys
section
variable {K : PySem.W.Frag} {a : Addr} {xs : List V} {g : TG} {tt : TT} {te : TE} {vs : List Nat} {σ : L2.St} {H : Hp} {Qr : Addr → Hp → Prop} {α : Type} {zs : List α} {R : V → α → Prop}
theorem objs_core {D : Addr} (f : α → HO) (c : α → Bool) (hp : Paired R xs zs) (hD : H D = none) (hz : xs.length ≤ 10000)
    (hg : ∀ x z, z ∈ zs → R x z → ∀ H', Same H H' → Tst g tt te vs σ x H' (c z) fun te σ H => Go te σ H (f z)) :
    ∀ i x H', xs[i]? = some x → NewsO H H' D f ((zs.take i).filter c) → Turn1 D g tt te vs σ x H' fun H'' => NewsO H H'' D f ((zs.take (i + 1)).filter c) := by
  rintro i x H' hi ⟨s, ts, hd, hpr⟩
  obtain ⟨z, hzi, hR⟩ := paired_get hp hi
  have tk : zs.take (i + 1) = zs.take i ++ [z] := by rw [List.take_add_one, hzi]; rfl
  obtain ⟨σ2, hw, ht, he, hg2⟩ := hg x z (List.mem_of_getElem? hzi) hR H' s
  refine hg2 _ ⟨hw, ht _ fun H2 s2 => ?_⟩
  have stay : ∀ {H3 : Hp}, Same H' H3 → Paired (fun t x => H3 t = some (f x) ∧ H t = none ∧ t ≠ D) ts ((zs.take i).filter c) := fun {H3} s3 => paired_imp (fun t x h => ⟨s3 _ _ h.1, h.2⟩) hpr
  cases hc : c z with
  | true =>
    refine iteT (he hc H2 s2 _ fun t H3 ht3 s3 hn => ⟨ts.map V.ref, s3 _ _ (s2 _ _ hd), ?_, ?_⟩)
    · rw [List.length_map, Paired.length hpr, sizeLine_eq]
      have y := List.length_filter_le c (zs.take i)
      have e := Paired.length hp
      rw [List.length_take] at y
      omega
    · have s13 := s.trans (s2.trans s3)
      have tD : t ≠ D := fun e => by
        rw [e, s2 _ _ hd] at ht3
        cases ht3
      have tn : H t = none := by
        cases z : H t with
        | none => rfl
        | some o => rw [s2 _ _ (s _ _ z)] at ht3; cases ht3
      refine ⟨Sx.Same.mut s13 hD, ts ++ [t], by rw [upd_same, List.map_append]; rfl, ?_⟩
      rw [tk, List.filter_append]
      have e1 : [z].filter c = [z] := by simp [hc]
      rw [e1]
      exact paired_snoc (paired_imp (fun u y h => ⟨by rw [upd_ne h.2.2]; exact h.1, h.2⟩) (stay (s2.trans s3))) ⟨by rw [upd_ne tD]; exact hn, tn, tD⟩
  | false =>
    refine iteF ⟨s.trans s2, ts, s2 _ _ hd, ?_⟩
    rw [tk, List.filter_append]
    have e1 : [z].filter c = [] := by simp [hc]
    rw [e1, List.append_nil]
    exact stay s2
theorem lc_objsL (f : α → HO) (c : α → Bool) (hx : SqL K H a xs) (hp : Paired R xs zs) (hz : xs.length ≤ 10000)
    (hg : ∀ x z, z ∈ zs → R x z → ∀ H', Same H H' → Tst g tt te vs σ x H' (c z) fun te σ H => Go te σ H (f z))
    (q : ∀ D H', H D = none → NewsO H H' D f (zs.filter c) → Qr D H') :
    ∀ D, H D = none → ∃ W : Nat → Nat → Hp → Prop, (∃ m, W 0 m (upd H D (.lst []))) ∧ ∀ i m H', W i m H' → ((Itl K a).stop i H' ∧ Qr D H') ∨ ((Itl K a).go i H' ∧ ∃ Nx : Hp → Prop, (∀ H', Nx H' → ∃ m', m' < m ∧ W (i + 1) m' H') ∧ ∀ x H2, (Itl K a).yld i H' x H2 → Turn1 D g tt te vs σ x H2 Nx) := fun D hD =>
  lc_list (Qd := fun H' => Qr D H') (xs := xs) (fun i H' => NewsO H H' D f ((zs.take i).filter c)) ⟨Same.new hD, [], upd_same, .nil⟩ (fun i H' _ p => Same.seq p.1 hx)
    (objs_core f c hp hD hz hg) fun H' p => q D H' hD (by rw [Paired.length hp, List.take_length] at p; exact p)
theorem lc_objsT (f : α → HO) (c : α → Bool) (hx : SqT K H a xs) (hp : Paired R xs zs) (hz : xs.length ≤ 10000)
    (hg : ∀ x z, z ∈ zs → R x z → ∀ H', Same H H' → Tst g tt te vs σ x H' (c z) fun te σ H => Go te σ H (f z))
    (q : ∀ D H', H D = none → NewsO H H' D f (zs.filter c) → Qr D H') :
    ∀ D, H D = none → ∃ W : Nat → Nat → Hp → Prop, (∃ m, W 0 m (upd H D (.lst []))) ∧ ∀ i m H', W i m H' → ((Itt K a).stop i H' ∧ Qr D H') ∨ ((Itt K a).go i H' ∧ ∃ Nx : Hp → Prop, (∀ H', Nx H' → ∃ m', m' < m ∧ W (i + 1) m' H') ∧ ∀ x H2, (Itt K a).yld i H' x H2 → Turn1 D g tt te vs σ x H2 Nx) := fun D hD =>
  lc_tup (Qd := fun H' => Qr D H') (xs := xs) (fun i H' => NewsO H H' D f ((zs.take i).filter c)) ⟨Same.new hD, [], upd_same, .nil⟩ (fun i H' _ p => sqT_same p.1 hx)
    (objs_core f c hp hD hz hg) fun H' p => q D H' hD (by rw [Paired.length hp, List.take_length] at p; exact p)
end
end Sx

/-! BookG -/
namespace Sx
open PySem PySem.Spec PyProof.Rows L2
def frO (t : Str) : Str := (Txt.partition t "; ").1
def bkO (t : Str) : Str := (Txt.partition t "; ").2.2
def OfOk (t : Str) (ks : List Str) (ps : List (Str × Str)) : Prop :=
  t.length ≤ 4000 ∧ (frO t).length ≤ 4000 ∧ (bkO t).length ≤ 4000 ∧ (if frO t = "-" then [] else Txt.split (frO t) " ") = ks ∧
  (if (bkO t).length = 0 then [] else (Txt.split (bkO t) " ").map fun p => Txt.split p "-") = ps.map (fun c => [c.1, c.2]) ∧ (∀ p ∈ Txt.split (bkO t) " ", p.length ≤ 4000) ∧ ps.length ≤ 1600 ∧
  (∀ k ∈ ks, isKindM k = true ∧ k.cps.size ≤ 100) ∧ ks.Nodup ∧ ks.length ≤ 40 ∧ (∀ c ∈ ps, c.1 ∈ ks ∧ c.2 ∈ ks) ∧ txtM (srt ltS ks) (srt ltP (ps.map nrm)) = t ∧
  ((frontT (srt ltS ks)).length ≤ 10000 ∧ (Txt.join " " ((srt ltP (ps.map nrm)).map pairT)).length ≤ 1000000)
instance (t : Str) (ks : List Str) (ps : List (Str × Str)) : Decidable (OfOk t ks ps) := by unfold OfOk; infer_instance

def spOfB (K : PySem.W.Frag) (C : Addr) : Sp := fun vs H Q _ => ∃ (t : Str) (ks : List Str) (ps : List (Str × Str)), vs = [.str t] ∧ OfOk t ks ps ∧ ∀ a H', Same H H' → BookAt K C H' a (srt ltS ks) (srt ltP (ps.map nrm)) → Q (.ref a) H'
theorem paired_lists {α β : Type} {F : α → β → Prop} {ts : List α} {zs : List γ} {f : γ → β} (h : Paired F ts (zs.map f)) : Paired (fun t z => F t (f z)) ts zs := by
  induction zs generalizing ts with
  | nil => cases h; exact .nil
  | cons z zs ih =>
    cases h with
    | cons r t => exact .cons r (ih t)
theorem paired_mapr {α β γ : Type} {F : α → β → Prop} {G : α → γ → Prop} {f : β → γ} {ts : List α} {zs : List β} (i : ∀ t z, F t z → G t (f z)) (h : Paired F ts zs) : Paired G ts (zs.map f) := by
  induction h with
  | nil => exact .nil
  | cons r _ ih => exact .cons (i _ _ r) ih
section
variable {P : Program} {w : World} {K : PySem.W.Frag} {mg : Str → Option Value} {base : Heap}
abbrev nOf : List Str := ["text", "front", "_", "back", "kinds", "pairs", "book", "part", "kind"]
theorem scOf : FnScope nOf ["text"] (defScope sOf) := ⟨rfl, rfl, rfl, by decide +kernel, rfl, by decide +kernel, by decide +kernel⟩
theorem ok_of {f C : Addr} {fd : FuncData} {dvs : List V} (F : FunD K "of" "Book.of" (defArgs sOf) (defBody sOf) (defScope sOf) dvs [] f fd) (T : TB K mg C) (GB : InitG P w K mg base C) (GI : FnG P w K mg base "is_kind" 1 ["thing"] spIsKind) (GT : PrG P w K mg base C "text" 1 (spText K C)) :
    FnOk P w K mg base CX0 3 f fd ["text"] (spOfB K C) := by
  refine F.ok scOf (fun vs H Q E h => ?_) (fun cdv A outer s H vs Q E hr h => ?_)
  · obtain ⟨t, ks, ps, rfl, _⟩ := h
    rfl
  · obtain ⟨t, ks, ps, rfl, ⟨hl, hfl, hbl, hfr, hbk, hpl, hpn, hkk, hnd, few, hin, htx, hbig⟩, q⟩ := h
    have hu := hu_of hr
    refine ⟨_, (pss_cons (ps_asg (pe_partition (pv 0) pe_str) (pg_tup rfl (pgs_cons (pg_name (i := 1) scOf.nd rfl (Or.inl rfl)) (pgs_cons (pg_name (i := 2) scOf.nd rfl (Or.inl rfl)) (pgs_cons (pg_name (i := 3) scOf.nd rfl (Or.inl rfl)) pgs_nil)))))
      (Evl.pss_cut (ps_set (i := 4) scOf.nd rfl (Or.inl rfl) (pe_ifExp (pt_cmpR op_eq (pv 1) pe_str (nomark _)) (pe_lst pa_nil) (pe_split (pv 1) pe_str)))
      (Evl.pss_cut (ps_set (i := 5) scOf.nd rfl (Or.inl rfl) (pe_ifExp (pt_truth (pv 3) (by intro _; rfl)) (pe_lc (own := [("part", 7)]) (g := gName 7) (tt := tYes) rfl scOf.nd (pi_list (pe_split (pv 3) pe_str)) (blkOk_by (N := nOf) (sc := defScope sOf) (by decide +kernel)) (fun _ _ _ _ _ => pg_name (i := 7) scOf.nd rfl (Or.inl rfl)) (fun _ _ _ _ _ => pts_nil) (fun _ _ _ _ _ => pe_split (pv 7) pe_str)) (pe_lst pa_nil)))
      (pss_cons (ps_if (pt_not (pt_val (pe_callB (cr_all rfl) (by rfl) T.all bt_all (pa_cons (pe_lc (own := [("kind", 8)]) (g := gName 8) (tt := tYes) rfl scOf.nd (pi_list (pv 4)) (blkOk_by (N := nOf) (sc := defScope sOf) (by decide +kernel)) (fun _ _ _ _ _ => pg_name (i := 8) scOf.nd rfl (Or.inl rfl)) (fun _ _ _ _ _ => pts_nil) (fun _ _ _ _ _ => pe_g GI (hr.mono (by decide)) (pa_cons (pv 8) pa_nil))) pa_nil)))) (pss_one ps_never) pss_nil)
      (pss_cons (ps_try_thru0 (pss_one (ps_set (i := 6) scOf.nd rfl (Or.inl rfl) (pe_mk GB hr (pa_cons (pv 4) (pa_cons (pv 5) pa_nil))))))
      (pss_cons (ps_if (pt_cmpR op_ne (pe_pg GT T.cl (pv 6) hr) (pv 0) (nomark _)) (pss_one ps_never) pss_nil)
      (pss_one (ps_ret (pv 6))))))))).nox, ?_⟩
    have line : ∀ {n : Nat}, n ≤ 5000 → n ≤ sizeLine := fun h => Nat.le_trans h (by rw [sizeLine_eq]; decide)
    -- front, _, back
    refine ⟨_, rfl, ⟨_, rfl⟩, t, "; ", rfl, rfl, by decide +kernel, line (by omega), fun p0 hp0 => ?_⟩
    have S0 : Same H (upd H p0 (.tup [.str (Txt.partition t "; ").1, .str (Txt.partition t "; ").2.1, .str (Txt.partition t "; ").2.2])) := Sx.Same.new hp0
    refine ⟨p0, _, rfl, SqT.of upd_same, rfl, _, _, rfl, _, _, rfl, _, _, rfl, rfl, ?_⟩
    generalize upd H p0 (.tup [.str (Txt.partition t "; ").1, .str (Txt.partition t "; ").2.1, .str (Txt.partition t "; ").2.2]) = H0 at S0
    generalize (Txt.partition t "; ").2.1 = mid
    -- kinds
    refine ⟨fun σ' H' => ∃ lk, σ' = [some (.str t), some (.str (frO t)), some (.str mid), some (.str (bkO t)), some (.ref lk), none, none, none, none] ∧ Same H H' ∧ H' lk = some (.lst (ks.map V.str)), ?_, ?_⟩
    · refine ⟨_, rfl, rfl, _, rfl, ?_⟩
      by_cases e : frO t = "-"
      · have e2 : decide (V.str (Txt.partition t "; ").1 = V.str "-") = true := decide_eq_true (by show V.str (frO t) = _; rw [e])
        rw [e2]
        rw [if_pos e] at hfr
        refine iteT ⟨Nat.zero_le _, fun l hl => ⟨l, rfl, S0.trans (Sx.Same.new hl), by rw [upd_same, ← hfr]; rfl⟩⟩
      · have e2 : decide (V.str (Txt.partition t "; ").1 = V.str "-") = false := decide_eq_false fun w => e (V.str.inj w)
        rw [e2]
        rw [if_neg e] at hfr
        refine iteF ⟨_, rfl, ⟨_, rfl⟩, _, " ", rfl, rfl, by decide +kernel, line (by show (frO t).length + 2 ≤ 5000; omega), fun l hl => ⟨l, rfl, S0.trans (Sx.Same.new hl), ?_⟩⟩
        rw [upd_same, ← hfr]
        rfl
    rintro σ1 H1 ⟨lk, rfl, S1, hlk⟩
    -- pairs
    refine ⟨fun σ' H' => ∃ lp ts, σ' = [some (.str t), some (.str (frO t)), some (.str mid), some (.str (bkO t)), some (.ref lk), some (.ref lp), none, none, none] ∧ Same H H' ∧ H' lk = some (.lst (ks.map V.str)) ∧ H' lp = some (.lst (ts.map V.ref)) ∧ Paired (fun t c => H' t = some (.lst [.str c.1, .str c.2])) ts ps, ?_, ?_⟩
    · refine ⟨_, rfl, _, ⟨line (by omega), rfl⟩, ?_⟩
      by_cases e : (bkO t).length = 0
      · have e2 : (((bkO t).length : Int) != 0) = false := by rw [e]; rfl
        rw [e2]
        rw [if_pos e] at hbk
        have ep : ps = [] := by
          cases ps with
          | nil => rfl
          | cons p ps => cases hbk
        refine iteF ⟨Nat.zero_le _, fun l hl => ⟨l, [], rfl, S1.trans (Sx.Same.new hl), Sx.Same.new hl _ _ hlk, by rw [upd_same]; rfl, by rw [ep]; exact .nil⟩⟩
      · have e2 : (((bkO t).length : Int) != 0) = true := by
          rw [bne_iff_ne]
          intro z
          exact e (by exact_mod_cast z)
        rw [e2]
        rw [if_neg e] at hbk
        refine iteT ⟨_, rfl, ⟨_, rfl⟩, _, " ", rfl, rfl, by decide +kernel, line (by omega), fun lb hlb => ?_⟩
        have Sb : Same H1 (upd H1 lb (.lst ((Txt.split (bkO t) " ").map V.str))) := Sx.Same.new hlb
        refine ⟨lb, rfl, ⟨_, SqL.of upd_same⟩, ?_⟩
        have plen : (Txt.split (bkO t) " ").length = ps.length := by
          have y := congrArg List.length hbk
          rw [List.length_map, List.length_map] at y
          exact y
        refine lc_objsL (vs := [7]) (σ := [some (.str t), some (.str (frO t)), some (.str mid), some (.str (bkO t)), some (.ref lk), none, none, none, none]) (fun p : Str => .lst ((Txt.split p "-").map V.str)) (fun _ => true) (SqL.of upd_same) (paired_strs _) (by rw [List.length_map, plen]; omega) (fun x z hz hx H2 s2 => ?_) (fun D H2 hD hN => ?_)
        · subst hx
          refine tst_name (by rfl) gt_yes fun _ H3 s3 Q h => ?_
          have w := hpl z hz
          exact ⟨_, rfl, ⟨_, rfl⟩, z, "-", rfl, rfl, by decide +kernel, line (by omega), fun l hl => h l _ hl (Sx.Same.new hl) upd_same⟩
        · obtain ⟨sN, ts, hD2, hts⟩ := hN
          have ef : (Txt.split (bkO t) " ").filter (fun _ => true) = Txt.split (bkO t) " " := List.filter_eq_self.mpr fun _ _ => rfl
          rw [ef] at hts
          refine ⟨D, ts, rfl, S1.trans (Sb.trans sN), sN _ _ (Sb _ _ hlk), hD2, ?_⟩
          have y : Paired (fun t (x : List Str) => H2 t = some (.lst (x.map V.str))) ts ((Txt.split (bkO t) " ").map fun p => Txt.split p "-") := by
            exact paired_mapr (fun _ _ h => h.1) hts
          rw [hbk] at y
          exact paired_lists (F := fun t (x : List Str) => H2 t = some (.lst (x.map V.str))) (f := fun c : Str × Str => [c.1, c.2]) y
    rintro σ2 H2 ⟨lp, ts, rfl, S2, hlk2, hlp, hts⟩
    -- all([is_kind(kind) for kind in kinds])
    refine ⟨_, rfl, lk, rfl, ⟨_, SqL.of hlk2⟩, ?_⟩
    refine lc_valsL (vs := [8]) (σ := [some (.str t), some (.str (frO t)), some (.str mid), some (.str (bkO t)), some (.ref lk), some (.ref lp), none, none, none]) (fun k : Str => V.bl (isKindM k)) (fun _ => true) (SqL.of hlk2) (paired_strs ks) (by rw [List.length_map]; omega) (fun x z hz hx H3 s3 => ?_) (fun D H3 hD s3 hl => ?_)
    · subst hx
      refine tst_name (by rfl) gt_yes fun _ H4 s4 Q h => ?_
      have w := (hkk z hz).2
      exact ⟨_, rfl, z, rfl, by omega, fun H5 s5 => h H5 s5⟩
    have ef : ks.filter (fun _ => true) = ks := List.filter_eq_self.mpr fun _ _ => rfl
    rw [ef] at hl
    refine ⟨D, ks.map isKindM, rfl, SqL.of (by rw [hl, List.map_map]; rfl), ?_⟩
    have ea : (ks.map isKindM).all id = true := by
      rw [List.all_map, List.all_eq_true]
      exact fun k hk => (hkk k hk).1
    rw [ea]
    refine ⟨_, rfl, iteF ?_⟩
    -- book = Book(kinds, pairs)
    refine ⟨_, rfl, _, rfl, fun a dx na nd ne => ?_⟩
    have S4 : Same H3 (upd (upd H3 dx (.own a)) a (.ins C dx [])) := (Sx.Same.new nd).trans (Sx.Same.new (by rw [upd_ne ne.symm]; exact na))
    have S24 := s3.trans S4
    refine ⟨a, dx, lk, lp, ts, ks, ps, rfl, upd_same, .inl (SqL.of (S24 _ _ hlk2)), .inl (SqL.of (S24 _ _ hlp)), paired_imp (fun u c h => .inl (SqL.of (S24 _ _ h))) hts, hnd, few, hin, fun H5 hB k5 => ⟨rfl, ?_⟩⟩
    have aH : ∀ b o, H b = some o → b ≠ a := fun b o e z => by
      rw [z] at e
      rw [s3 _ _ (S2 _ _ e)] at na
      cases na
    have S5 : Same H H5 := fun b o e => k5 b o (S24 _ _ (S2 _ _ e)) (aH b o e)
    have Sd := std_make few hnd hin
    obtain ⟨dx5, _, _, _, _, _, h5, _⟩ := hB.ex
    have kl : ∀ k ∈ ks, k.length ≤ 100 := fun k hk => (hkk k hk).2
    refine ⟨_, rfl, a, dx5, _, rfl, h5, a, _, _, rfl, hB, Sd.few, std_len Sd, fun k hk => kl k ((mem_srt totS).mp hk), fun c hc => ?_, hbig, fun H6 s6 => ?_⟩
    · obtain ⟨m1, m2⟩ := Sd.inn c hc
      exact ⟨kl _ ((mem_srt totS).mp m1), kl _ ((mem_srt totS).mp m2)⟩
    refine ⟨_, rfl, rfl, _, rfl, iteNS (by rw [htx]) ?_⟩
    exact ⟨_, rfl, q a H6 (S5.trans s6) (hB.same s6)⟩
end
end Sx

/-! LawA -/
namespace Sx
open PySem PySem.Spec PyProof.Rows L2
abbrev sTake : Stmt := top 22
/-- an urn: any number, a number below 2 ^ 62, how often it was asked -/
structure Urn (H : Hp) (u : Addr) (n : Nat) : Prop where
  ex : ∃ a b c : Int, H u = some (.lst [.int a, .int b, .int c]) ∧ -(2 ^ 62) < b ∧ b < 2 ^ 62 ∧ 0 ≤ c ∧ c ≤ n
theorem Urn.more {H : Hp} {u : Addr} {n m : Nat} (U : Urn H u n) (h : n ≤ m) : Urn H u m := by
  obtain ⟨a, b, c, h1, h2, h3, h4, h5⟩ := U.ex
  exact ⟨a, b, c, h1, h2, h3, h4, by omega⟩
def spTake : Sp := fun vs H Q _ => ∃ (u : Addr) (n low : Nat), vs = [.ref u, .int low] ∧ Urn H u n ∧ n < 2 ^ 40 ∧ 0 < low ∧ low < 1000000 ∧ ∀ (k : Nat) H', k < low → Urn H' u (n + 1) → (∀ b, b ≠ u → H' b = H b) → Q (.int k) H'
theorem fm {x l : Int} (h : 0 < l) : 0 ≤ Int.fmod x l ∧ Int.fmod x l < l := by
  rw [Int.fmod_eq_emod_of_nonneg _ (by omega)]
  exact ⟨Int.emod_nonneg _ (by omega), Int.emod_lt_of_pos _ h⟩
section
variable {P : Program} {w : World} {K : PySem.W.Frag} {mg : Str → Option Value} {base : Heap}
abbrev nTake : List Str := ["_law_urn", "_law_low_so", "_law_drawn", "_law_once", "_law_far", "_law_both_so"]
theorem scTake : FnScope nTake ["_law_urn", "_law_low_so"] (defScope sTake) := ⟨rfl, rfl, rfl, by decide +kernel, rfl, by decide +kernel, by decide +kernel⟩
theorem ok_take {f : Addr} {fd : FuncData} {dvs : List V} (F : FunD K "_law_take" "_law_take" (defArgs sTake) (defBody sTake) (defScope sTake) dvs [] f fd) (B : Blt mg) : FnOk P w K mg base CX0 1 f fd ["_law_urn", "_law_low_so"] spTake := by
  refine F.ok scTake (fun vs H Q E h => ?_) (fun cdv A outer s H vs Q E hr h => ?_)
  · obtain ⟨u, n, low, rfl, _⟩ := h
    rfl
  · obtain ⟨u, n, low, rfl, ⟨a, b, c, hu, b1, b2, c1, c2⟩, hn, l0, l1, q⟩ := h
    refine ⟨_, (pss_cons (ps_if (pt_cmpR op_gt (pe_ix ix_list (pv 0) pe_int (fun _ _ => rfl)) pe_int (nomark _))
        (pss_cons (ps_set (i := 2) scTake.nd rfl (Or.inl rfl) (pe_op op_modN (pe_callTy call_int1 (by rfl) B.int bt_int (pa_cons (pe_ix ix_list (pv 0) pe_int (fun _ _ => rfl)) pa_nil)) (pv 1)))
        (pss_cons (ps_asg (pe_op op_fdivN (pe_ix ix_list (pv 0) pe_int (fun _ _ => rfl)) (pv 1)) (pg_sub (pv 0) pe_int set_list))
        (pss_one (ps_ret (pv 2))))) pss_nil)
      (pss_cons (ps_asg (pe_op op_add (pe_ix ix_list (pv 0) pe_int (fun _ _ => rfl)) pe_int) (pg_sub (pv 0) pe_int set_list))
      (pss_cons (ps_set (i := 3) scTake.nd rfl (Or.inl rfl) (pe_op op_modN (pe_callTy call_int1 (by rfl) B.int bt_int (pa_cons (pe_op op_mul (pe_op op_add (pe_ix ix_list (pv 0) pe_int (fun _ _ => rfl)) (pe_op op_mul pe_int (pe_ix ix_list (pv 0) pe_int (fun _ _ => rfl)))) (pe_op op_add pe_int (pe_ix ix_list (pv 0) pe_int (fun _ _ => rfl)))) pa_nil)) pe_int))
      (pss_cons (ps_set (i := 4) scTake.nd rfl (Or.inl rfl) (pe_op op_add (pe_op op_modN (pe_callTy call_int1 (by rfl) B.int bt_int (pa_cons (pv 3) pa_nil)) pe_int) pe_int))
      (pss_cons (ps_set (i := 5) scTake.nd rfl (Or.inl rfl) (pe_op op_modN (pe_callTy call_int1 (by rfl) B.int bt_int (pa_cons (pe_op op_mul (pe_op op_add (pe_op op_add (pv 3) (pe_ix ix_list (pv 0) pe_int (fun _ _ => rfl))) (pe_op op_fdivN (pe_ix ix_list (pv 0) pe_int (fun _ _ => rfl)) pe_int)) (pv 4)) pa_nil)) pe_int))
      (pss_one (ps_ret (pe_op op_modN (pe_callTy call_int1 (by rfl) B.int bt_int (pa_cons (pe_op op_fdivN (pe_op op_modN (pe_callTy call_int1 (by rfl) B.int bt_int (pa_cons (pe_op op_add (pe_op op_mul (pv 5) pe_int) (pv 3)) pa_nil)) pe_int) pe_int) pa_nil)) (pv 1))))))))).nox, ?_⟩
    have e0 : ([V.int a, V.int b, V.int c])[0]? = some (.int a) := rfl
    refine ⟨_, rfl, u, _, _, .int a, rfl, rfl, SqL.of hu, atI_nat (j := 0) rfl, _, _, rfl, rfl, _, rfl, ?_⟩
    have lz : (low : Int) ≠ 0 := by omega
    have nat : ∀ {i : Int} {k : Nat}, 0 ≤ i → i.toNat = k → V.int i = V.int (k : Nat) := fun {i k} h e => by rw [← e, Int.toNat_of_nonneg h]
    by_cases ha : (0 : Int) < a
    · rw [decide_eq_true ha]
      refine iteT ⟨_, rfl, u, _, _, .int a, rfl, rfl, SqL.of hu, atI_nat (j := 0) rfl, .inl ⟨_, rfl, _, rfl, _, _, rfl, rfl, lz, ?_⟩⟩
      refine ⟨_, rfl, u, _, _, .int a, rfl, rfl, SqL.of hu, atI_nat (j := 0) rfl, _, rfl, _, _, rfl, rfl, ⟨lz, by omega⟩, _, rfl, u, _, _, 0, rfl, rfl, hu, rfl, ?_⟩
      obtain ⟨f0, f1⟩ := fm (x := a) (l := low) (by omega)
      refine ⟨_, rfl, ?_⟩
      show Q (V.int (Int.fmod a low)) _
      have e : Int.fmod a low = ((Int.fmod a low).toNat : Int) := (Int.toNat_of_nonneg f0).symm
      rw [e]
      exact q _ _ (by omega) ⟨_, b, c, upd_same, b1, b2, c1, by omega⟩ fun x hx => upd_ne hx
    · rw [decide_eq_false ha]
      refine iteF ?_
      refine ⟨_, rfl, u, _, _, .int c, rfl, rfl, SqL.of hu, atI_nat (j := 2) rfl, _, _, rfl, rfl, _, rfl, u, _, _, 2, rfl, rfl, hu, rfl, ?_⟩
      have hu2 : (upd H u (.lst ([V.int a, V.int b, V.int c].set 2 (.int (c + 1))))) u = some (.lst [.int a, .int b, .int (c + 1)]) := upd_same
      have keep : ∀ x, x ≠ u → (upd H u (.lst ([V.int a, V.int b, V.int c].set 2 (.int (c + 1))))) x = H x := fun x hx => upd_ne hx
      generalize upd H u (.lst ([V.int a, V.int b, V.int c].set 2 (.int (c + 1)))) = H2 at hu2 keep
      have c3 : 0 ≤ c + 1 := by omega
      have c4 : c + 1 ≤ 2 ^ 40 := by omega
      have urn : Urn H2 u (n + 1) := ⟨a, b, c + 1, hu2, b1, b2, c3, by omega⟩
      generalize c + 1 = d at hu2 c3 c4
      have nz : ∀ (j : Int), j ≠ 0 → j ≠ 0 := fun _ h => h
      have nd : ∀ (j : Int), (j ≠ 0 ∧ j.natAbs < 1073741824) → (j ≠ 0 ∧ j.natAbs < 1073741824) := fun _ h => h
      have m1 : ∀ x : Int, 0 ≤ Int.fmod x 2147483647 ∧ Int.fmod x 2147483647 < 2147483647 := fun x => fm (by decide)
      have m2 : ∀ x : Int, 0 ≤ Int.fmod x 40009 ∧ Int.fmod x 40009 < 40009 := fun x => fm (by decide)
      have m3 : ∀ x : Int, 0 ≤ Int.fmod x 2147483629 ∧ Int.fmod x 2147483629 < 2147483629 := fun x => fm (by decide)
      have dv : -(2 ^ 62) ≤ Int.fdiv b 1000003 ∧ Int.fdiv b 1000003 ≤ 2 ^ 62 := by
        rw [Int.fdiv_eq_ediv_of_nonneg _ (by decide)]
        omega
      refine ⟨_, rfl, u, _, _, .int b, rfl, rfl, SqL.of hu2, atI_nat (j := 1) rfl, _, rfl, u, _, _, .int d, rfl, rfl, SqL.of hu2, atI_nat (j := 2) rfl, _, _, rfl, rfl, .inl ⟨by decide, by decide⟩, _, _, rfl, rfl, ?_⟩
      refine ⟨_, rfl, u, _, _, .int d, rfl, rfl, SqL.of hu2, atI_nat (j := 2) rfl, _, _, rfl, rfl, _, _, rfl, rfl, .inl ⟨by omega, by omega⟩, .inl ⟨_, rfl, _, _, rfl, rfl, nz _ (by decide), ?_⟩⟩
      obtain ⟨o1, o2⟩ := m1 ((b + 48271 * d) * (39373 + d))
      refine ⟨_, rfl, .inl ⟨_, rfl, _, _, rfl, rfl, nz _ (by decide), _, _, rfl, rfl, ?_⟩⟩
      obtain ⟨f1, f2⟩ := m2 (Int.fmod ((b + 48271 * d) * (39373 + d)) 2147483647)
      refine ⟨_, rfl, _, rfl, u, _, _, .int d, rfl, rfl, SqL.of hu2, atI_nat (j := 2) rfl, _, _, rfl, rfl, ?_⟩
      refine ⟨_, rfl, u, _, _, .int b, rfl, rfl, SqL.of hu2, atI_nat (j := 1) rfl, _, _, rfl, rfl, nd _ (by decide), _, _, rfl, rfl, _, rfl, _, _, rfl, rfl, .inl ⟨by omega, by omega⟩, .inl ⟨_, rfl, _, _, rfl, rfl, nz _ (by decide), ?_⟩⟩
      obtain ⟨t1, t2⟩ := m3 ((Int.fmod ((b + 48271 * d) * (39373 + d)) 2147483647 + d + Int.fdiv b 1000003) * (Int.fmod (Int.fmod ((b + 48271 * d) * (39373 + d)) 2147483647) 40009 + 7))
      refine ⟨_, rfl, _, _, rfl, rfl, .inl ⟨by omega, by omega⟩, _, rfl, _, _, rfl, rfl, .inl ⟨_, rfl, _, _, rfl, rfl, nz _ (by decide), _, _, rfl, rfl, nd _ (by decide), .inl ⟨_, rfl, _, rfl, _, _, rfl, rfl, lz, ?_⟩⟩⟩
      have g0 : ∀ x : Int, 0 ≤ Int.fmod x low := fun x => (fm (by omega)).1
      have g1 : ∀ x : Int, Int.fmod x low < low := fun x => (fm (by omega)).2
      show Q (V.int (Int.fmod _ low)) _
      generalize Int.fdiv (Int.fmod _ 2147483587) 64 = z
      have z0 := g0 z
      have z1 := g1 z
      have e : Int.fmod z low = ((Int.fmod z low).toNat : Int) := (Int.toNat_of_nonneg z0).symm
      rw [e]
      exact q _ _ (by omega) urn keep
end
end Sx

/-! SxData -/
/-! Data: what stays, what is alike. -/
namespace Sx
open PySem PySem.Spec PyProof.Rows L2
theorem same_sqL {K : PySem.W.Frag} {H H' : Hp} {a : Addr} {xs : List V} (s : Same H H') (h : SqL K H a xs) : SqL K H' a xs := Same.seq s h
mutual
theorem dp_same {K : PySem.W.Frag} {H H' : Hp} (s : Same H H') : ∀ (d : PyData) {v : V}, Dp K H v d → Dp K H' v d
  | .none, _, .non => .non
  | .bool b, _, .bl _ => .bl b
  | .int i, _, .int _ => .int i
  | .str x, _, .str _ => .str x
  | .list ds, _, .lst h hs => .lst (same_sqL s h) (dps_same s ds hs)
  | .tuple ds, _, .tup h hs => .tup (sqT_same s h) (dps_same s ds hs)
theorem dps_same {K : PySem.W.Frag} {H H' : Hp} (s : Same H H') : ∀ (ds : List PyData) {vs : List V}, DpAll K H vs ds → DpAll K H' vs ds
  | [], _, .nil => .nil
  | d :: ds, _, .cons h hs => .cons (dp_same s d h) (dps_same s ds hs)
end
def sD (x : Str) : PyData := .str x
def lD (xs : List Str) : PyData := .list (xs.map sD)
def tD (xs : List Str) : PyData := .tuple (xs.map sD)
theorem dps_strs {K : PySem.W.Frag} {H : Hp} : ∀ xs : List Str, DpAll K H (xs.map V.str) (xs.map sD)
  | [] => .nil
  | x :: xs => .cons (.str x) (dps_strs xs)
theorem dp_list {K : PySem.W.Frag} {H : Hp} {a : Addr} {xs : List Str} (h : SqL K H a (xs.map V.str)) : Dp K H (.ref a) (lD xs) := .lst h (dps_strs xs)
theorem dp_tup {K : PySem.W.Frag} {H : Hp} {a : Addr} {xs : List Str} (h : SqT K H a (xs.map V.str)) : Dp K H (.ref a) (tD xs) := .tup h (dps_strs xs)
theorem eqv_strs : ∀ xs ys : List Str, PyData.eqvAll (xs.map sD) (ys.map sD) = decide (xs = ys)
  | [], [] => rfl
  | [], _ :: _ => rfl
  | _ :: _, [] => rfl
  | x :: xs, y :: ys => by
    show (PyData.eqv (.str x) (.str y) && PyData.eqvAll (xs.map sD) (ys.map sD)) = _
    rw [eqv_strs xs ys]
    have e : PyData.eqv (.str x) (.str y) = (x == y) := by simp only [PyData.eqv]
    rw [e]
    by_cases h : x = y
    · subst h
      by_cases g : xs = ys
      · subst g; simp
      · simp [g]
    · simp [h]
theorem eqv_l (xs ys : List Str) : PyData.eqv (lD xs) (lD ys) = decide (xs = ys) := by
  have e : PyData.eqv (lD xs) (lD ys) = PyData.eqvAll (xs.map sD) (ys.map sD) := by simp only [lD, PyData.eqv]
  rw [e, eqv_strs]
theorem eqv_t (xs ys : List Str) : PyData.eqv (tD xs) (tD ys) = decide (xs = ys) := by
  have e : PyData.eqv (tD xs) (tD ys) = PyData.eqvAll (xs.map sD) (ys.map sD) := by simp only [tD, PyData.eqv]
  rw [e, eqv_strs]
def Oks (xs : List Str) : Prop := ∀ x ∈ xs, PyData.strOk x = true
def Okss (Ls : List (List Str)) : Prop := ∀ L ∈ Ls, Oks L
theorem lay_strs : ∀ xs : List Str, Oks xs → PyData.canLayAll0 (xs.map sD) = true ∧ PyData.depthAll (xs.map sD) = 0
  | [], _ => by simp [PyData.canLayAll0, PyData.depthAll]
  | x :: xs, h => by
    obtain ⟨a, b⟩ := lay_strs xs fun y hy => h y (List.mem_cons_of_mem _ hy)
    have c := h x List.mem_cons_self
    rw [List.map_cons]
    simp only [PyData.canLayAll0, PyData.depthAll, a, b, sD, PyData.canLay0, PyData.depth, c]
    simp
theorem lay_l (xs : List Str) (h : Oks xs) : (lD xs).canLay0 = true ∧ (lD xs).depth = 1 := by
  obtain ⟨a, b⟩ := lay_strs xs h
  simp only [lD, PyData.canLay0, PyData.depth, a, b]
  simp
theorem lay_t (xs : List Str) (h : Oks xs) : (tD xs).canLay0 = true ∧ (tD xs).depth = 1 := by
  obtain ⟨a, b⟩ := lay_strs xs h
  simp only [tD, PyData.canLay0, PyData.depth, a, b]
  simp
theorem lay_all {f : List Str → PyData} (hf : ∀ xs, Oks xs → (f xs).canLay0 = true ∧ (f xs).depth = 1) : ∀ Ls : List (List Str), Okss Ls → PyData.canLayAll0 (Ls.map f) = true ∧ PyData.depthAll (Ls.map f) ≤ 1
  | [], _ => by simp [PyData.canLayAll0, PyData.depthAll]
  | L :: Ls, h => by
    obtain ⟨a, b⟩ := lay_all hf Ls fun y hy => h y (List.mem_cons_of_mem _ hy)
    obtain ⟨c, d⟩ := hf L (h L List.mem_cons_self)
    rw [List.map_cons]
    simp only [PyData.canLayAll0, PyData.depthAll, a, c, d]
    refine ⟨rfl, ?_⟩
    omega
theorem shp {d : PyData} (a : d.canLay0 = true) (b : d.depth ≤ 64) : SeqAt.shaped d = true := by
  show (d.canLay0 && decide (d.depth ≤ 64)) = true
  rw [a, decide_eq_true b]
  rfl
theorem shp_ll (Ls : List (List Str)) (h : Okss Ls) : SeqAt.shaped (.list (Ls.map lD)) = true := by
  obtain ⟨a, b⟩ := lay_all lay_l Ls h
  exact shp (by simp only [PyData.canLay0, a]) (by simp only [PyData.depth]; omega)
theorem shp_tt (Ls : List (List Str)) (h : Okss Ls) : SeqAt.shaped (.tuple (Ls.map tD)) = true := by
  obtain ⟨a, b⟩ := lay_all lay_t Ls h
  exact shp (by simp only [PyData.canLay0, a]) (by simp only [PyData.depth]; omega)
theorem shp_l (L : List Str) (h : Oks L) : SeqAt.shaped (lD L) = true := shp (lay_l L h).1 (by rw [(lay_l L h).2]; decide)
theorem shp_t (L : List Str) (h : Oks L) : SeqAt.shaped (tD L) = true := shp (lay_t L h).1 (by rw [(lay_t L h).2]; decide)
/-- x not in t, t a tuple of data -/
def rNotInT (K : PySem.W.Frag) : R2 := fun x y H Q => ∃ d ds, Dp K H x d ∧ Dp K H y (.tuple ds) ∧ SeqAt.shaped d = true ∧ SeqAt.shaped (.tuple ds) = true ∧ Q (.bl (!ds.any fun z => PyData.eqv z d)) H
theorem op_notInT {X : Cx} (hu : X.A.units + 65 < cLine) : OpR X (compareOp .NotIn) (rNotInT X.K) := by
  intro pins s σ H x y v u Q I rx ry h
  obtain ⟨d, ds, hd, he, sd, se, q⟩ := h
  obtain ⟨as, r1⟩ := Dp.reads I d x v hd rx
  obtain ⟨bs, r2⟩ := Dp.reads I (.tuple ds) y u he ry
  exact SeqAt.notIn_tuple_reads r2 r1 (SeqAt.canLay_of_shaped se) (SeqAt.canLay_of_shaped sd) (room_in_shaped sd hu) ⟨.bl _, H, I, rfl, q⟩
end Sx

/-! SxZip -/
/-! [.. for x, y in zip(xs, ys)] -/
namespace Sx
open PySem PySem.Spec PyProof.Rows L2 RZ
section
variable {K : PySem.W.Frag} {a b : Addr} {xs ys : List V} {te : TE} {vs : List Nat} {σ : L2.St} {H : Hp} {Qr : Addr → Hp → Prop} {j1 j2 : Nat}
theorem lc_zipL (hx : SqL K H a xs) (hy : SqL K H b ys) (hl : xs.length = ys.length) (hz : xs.length ≤ 10000) (hw : ∀ x y, wipe (((wipe σ vs).set j1 (some x)).set j2 (some y)) vs = wipe σ vs)
    (ht : ∀ (i : Nat) x y, xs[i]? = some x → ys[i]? = some y → ∀ H', Same H H' → Gv te (((wipe σ vs).set j1 (some x)).set j2 (some y)) H' (.bl true)) (q : ∀ D H', H D = none → Same H H' → H' D = some (.lst (List.replicate xs.length (.bl true))) → Qr D H') :
    ∀ D, H D = none → ∃ W : Nat → Nat → Hp → Prop, (∃ m, W 0 m (upd H D (.lst []))) ∧ ∀ i m H', W i m H' → ((Itz K a b).stop i H' ∧ Qr D H') ∨ ((Itz K a b).go i H' ∧ ∃ Nx : Hp → Prop, (∀ H', Nx H' → ∃ m', m' < m ∧ W (i + 1) m' H') ∧ ∀ v H2, (Itz K a b).yld i H' v H2 → Turn1 D (gTup K 2 (gCons (gName j1) (gCons (gName j2) gNil))) tYes te vs σ v H2 Nx) := by
  intro D hD
  refine ⟨fun i m H' => m = xs.length - i ∧ i ≤ xs.length ∧ Same H H' ∧ H' D = some (.lst (List.replicate i (.bl true))), ⟨xs.length, rfl, Nat.zero_le _, Sx.Same.new hD, upd_same⟩, ?_⟩
  rintro i m H' ⟨rfl, hi, s, hd⟩
  have sx := same_sqL s hx
  have sy := same_sqL s hy
  rcases Nat.lt_or_ge i xs.length with lt | ge
  · have lt2 : i < ys.length := by omega
    refine .inr ⟨⟨xs, ys, xs[i], ys[i], sx, sy, List.getElem?_eq_getElem lt, List.getElem?_eq_getElem lt2⟩, fun H2 => Same H H2 ∧ H2 D = some (.lst (List.replicate (i + 1) (.bl true))), fun H2 p => ⟨xs.length - (i + 1), by omega, rfl, lt, p⟩, fun v H2 ⟨T, x, y, ev, hT, eH, h1, h2⟩ => ?_⟩
    subst ev
    have s2 : Same H' H2 := by rw [eH]; exact Sx.Same.new hT
    have hT2 : H2 T = some (.tup [x, y]) := by rw [eH]; exact upd_same
    refine ⟨T, [x, y], rfl, SqT.of hT2, rfl, _, _, rfl, _, _, rfl, rfl, ?_⟩
    refine ⟨hw x y, ?_⟩
    unfold tYes
    dsimp only
    rw [if_pos rfl]
    refine ht i x y (h1 xs sx) (h2 ys sy) _ (s.trans s2) _ fun H3 s3 => ⟨_, s3 _ _ (s2 _ _ hd), ?_, Sx.Same.mut (s.trans (s2.trans s3)) hD, ?_⟩
    · rw [List.length_replicate, sizeLine_eq]
      omega
    · rw [upd_same, List.replicate_succ']
  · have e : i = xs.length := Nat.le_antisymm hi ge
    subst e
    exact .inl ⟨⟨xs, ys, sx, sy, .inl (Nat.le_refl _)⟩, q D H' hD s hd⟩
theorem lc_zipT (hx : SqT K H a xs) (hy : SqT K H b ys) (hl : xs.length = ys.length) (hz : xs.length ≤ 10000) (hw : ∀ x y, wipe (((wipe σ vs).set j1 (some x)).set j2 (some y)) vs = wipe σ vs)
    (ht : ∀ (i : Nat) x y, xs[i]? = some x → ys[i]? = some y → ∀ H', Same H H' → Gv te (((wipe σ vs).set j1 (some x)).set j2 (some y)) H' (.bl true)) (q : ∀ D H', H D = none → Same H H' → H' D = some (.lst (List.replicate xs.length (.bl true))) → Qr D H') :
    ∀ D, H D = none → ∃ W : Nat → Nat → Hp → Prop, (∃ m, W 0 m (upd H D (.lst []))) ∧ ∀ i m H', W i m H' → ((ItzT K a b).stop i H' ∧ Qr D H') ∨ ((ItzT K a b).go i H' ∧ ∃ Nx : Hp → Prop, (∀ H', Nx H' → ∃ m', m' < m ∧ W (i + 1) m' H') ∧ ∀ v H2, (ItzT K a b).yld i H' v H2 → Turn1 D (gTup K 2 (gCons (gName j1) (gCons (gName j2) gNil))) tYes te vs σ v H2 Nx) := by
  intro D hD
  refine ⟨fun i m H' => m = xs.length - i ∧ i ≤ xs.length ∧ Same H H' ∧ H' D = some (.lst (List.replicate i (.bl true))), ⟨xs.length, rfl, Nat.zero_le _, Sx.Same.new hD, upd_same⟩, ?_⟩
  rintro i m H' ⟨rfl, hi, s, hd⟩
  have sx := sqT_same s hx
  have sy := sqT_same s hy
  rcases Nat.lt_or_ge i xs.length with lt | ge
  · have lt2 : i < ys.length := by omega
    refine .inr ⟨⟨xs, ys, xs[i], ys[i], sx, sy, List.getElem?_eq_getElem lt, List.getElem?_eq_getElem lt2⟩, fun H2 => Same H H2 ∧ H2 D = some (.lst (List.replicate (i + 1) (.bl true))), fun H2 p => ⟨xs.length - (i + 1), by omega, rfl, lt, p⟩, fun v H2 ⟨T, x, y, ev, hT, eH, h1, h2⟩ => ?_⟩
    subst ev
    have s2 : Same H' H2 := by rw [eH]; exact Sx.Same.new hT
    have hT2 : H2 T = some (.tup [x, y]) := by rw [eH]; exact upd_same
    refine ⟨T, [x, y], rfl, SqT.of hT2, rfl, _, _, rfl, _, _, rfl, rfl, ?_⟩
    refine ⟨hw x y, ?_⟩
    unfold tYes
    dsimp only
    rw [if_pos rfl]
    refine ht i x y (h1 xs sx) (h2 ys sy) _ (s.trans s2) _ fun H3 s3 => ⟨_, s3 _ _ (s2 _ _ hd), ?_, Sx.Same.mut (s.trans (s2.trans s3)) hD, ?_⟩
    · rw [List.length_replicate, sizeLine_eq]
      omega
    · rw [upd_same, List.replicate_succ']
  · have e : i = xs.length := Nat.le_antisymm hi ge
    subst e
    exact .inl ⟨⟨xs, ys, sx, sy, .inl (Nat.le_refl _)⟩, q D H' hD s hd⟩
end
theorem tyx_list {K : PySem.W.Frag} {H : Hp} {a : Addr} {xs : List V} (h : SqL K H a xs) : TyX K H (.ref a) (.type "list") := by
  rcases h with (h | ⟨o, h⟩) | ⟨o, its, n, hk, hc, r⟩
  · exact .base (.lst h)
  · exact .base (.frz h)
  · exact .kList hk hc
theorem tyx_tup {K : PySem.W.Frag} {H : Hp} {a : Addr} {xs : List V} (h : SqT K H a xs) : TyX K H (.ref a) (.type "tuple") := by
  rcases h with (h | ⟨o, h⟩) | ⟨o, its, n, hk, hc, r⟩
  · exact .base (.tup h)
  · exact .fTuple h
  · exact .kTuple hk hc
theorem dps_len {K : PySem.W.Frag} {H : Hp} : ∀ {xs : List V} {ds : List PyData}, DpAll K H xs ds → xs.length = ds.length
  | _, _, .nil => rfl
  | _, _, .cons _ h => by rw [List.length_cons, List.length_cons, dps_len h]
theorem dps_get {K : PySem.W.Frag} {H : Hp} : ∀ {xs : List V} {ds : List PyData} {i : Nat} {x : V}, DpAll K H xs ds → xs[i]? = some x → ∃ d, ds[i]? = some d ∧ Dp K H x d
  | _, _, 0, _, .cons h _, e => by cases e; exact ⟨_, rfl, h⟩
  | _, _, i + 1, _, .cons _ h, e => dps_get (i := i) h e
  | _, _, _, _, .nil, e => by simp at e
theorem depth_mem : ∀ {ds : List PyData} {d : PyData}, d ∈ ds → d.depth ≤ PyData.depthAll ds
  | _ :: ds, _, h => by
    rcases List.mem_cons.mp h with e | e
    · rw [e]; simp only [PyData.depthAll]; omega
    · have := depth_mem (ds := ds) e
      simp only [PyData.depthAll]; omega
theorem lay_mem : ∀ {ds : List PyData} {d : PyData}, PyData.canLayAll0 ds = true → d ∈ ds → d.canLay0 = true
  | x :: ds, d, a, h => by
    simp only [PyData.canLayAll0, Bool.and_eq_true] at a
    rcases List.mem_cons.mp h with e | e
    · rw [e]; exact a.1
    · exact lay_mem a.2 e
mutual
theorem eqv_refl : ∀ d : PyData, d.canLay0 = true → PyData.eqv d d = true
  | .none, _ => by simp only [PyData.eqv]
  | .bool b, _ => by simp only [PyData.eqv]; simp
  | .int i, _ => by simp only [PyData.eqv]; simp
  | .str x, _ => by simp only [PyData.eqv]; simp
  | .list ds, h => by simp only [PyData.canLay0] at h; simp only [PyData.eqv]; exact eqvs_refl ds h
  | .tuple ds, h => by simp only [PyData.canLay0] at h; simp only [PyData.eqv]; exact eqvs_refl ds h
  | .dict kvs, h => by simp only [PyData.canLay0] at h; cases h
theorem eqvs_refl : ∀ ds : List PyData, PyData.canLayAll0 ds = true → PyData.eqvAll ds ds = true
  | [], _ => by simp only [PyData.eqvAll]
  | d :: ds, h => by
    simp only [PyData.canLayAll0, Bool.and_eq_true] at h
    simp only [PyData.eqvAll, eqv_refl d h.1, eqvs_refl ds h.2]
    rfl
end
end Sx

/-! SxWalk -/
/-! Comprehensions with an invariant of one's own. -/
namespace Sx
open PySem PySem.Spec PyProof.Rows L2
section
variable {K : PySem.W.Frag} {a : Addr} {xs : List V} {g : TG} {tt : TT} {te : TE} {vs : List Nat} {σ : L2.St} {H : Hp} {Qr : Addr → Hp → Prop} {n : Nat}
theorem lc_walkL (hx : SqL K H a xs) (Pv : Addr → Nat → Hp → Prop) (h0 : ∀ D, H D = none → Pv D 0 (upd H D (.lst []))) (hl : ∀ D j H', Pv D j H' → SqL K H' a xs)
    (hs : ∀ D (j : Nat) x H', xs[j]? = some x → H D = none → Pv D j H' → Turn1 D g tt te vs σ x H' (Pv D (j + 1)))
    (hd : ∀ D H', H D = none → Pv D xs.length H' → Qr D H') :
    ∀ D, H D = none → ∃ W : Nat → Nat → Hp → Prop, (∃ m, W 0 m (upd H D (.lst []))) ∧ ∀ i m H', W i m H' → ((Itl K a).stop i H' ∧ Qr D H') ∨ ((Itl K a).go i H' ∧ ∃ Nx : Hp → Prop, (∀ H', Nx H' → ∃ m', m' < m ∧ W (i + 1) m' H') ∧ ∀ x H2, (Itl K a).yld i H' x H2 → Turn1 D g tt te vs σ x H2 Nx) := by
  intro D hD
  refine ⟨fun j m H' => m = xs.length - j ∧ j ≤ xs.length ∧ Pv D j H', ⟨xs.length, rfl, Nat.zero_le _, h0 D hD⟩, ?_⟩
  rintro j m H' ⟨rfl, hj, p⟩
  have sq := hl D j H' p
  rcases Nat.lt_or_ge j xs.length with lt | ge
  · exact .inr ⟨⟨xs, xs[j], sq, List.getElem?_eq_getElem lt⟩, Pv D (j + 1), fun H2 p2 => ⟨xs.length - (j + 1), by omega, rfl, lt, p2⟩, fun x H2 ⟨e, y⟩ => by rw [e]; exact hs D j x H' (y xs sq) hD p⟩
  · have e : j = xs.length := Nat.le_antisymm hj ge
    subst e
    exact .inl ⟨⟨xs, sq, Nat.le_refl _⟩, hd D H' hD p⟩
theorem lc_walkT (hx : SqT K H a xs) (Pv : Addr → Nat → Hp → Prop) (h0 : ∀ D, H D = none → Pv D 0 (upd H D (.lst []))) (hl : ∀ D j H', Pv D j H' → SqT K H' a xs)
    (hs : ∀ D (j : Nat) x H', xs[j]? = some x → H D = none → Pv D j H' → Turn1 D g tt te vs σ x H' (Pv D (j + 1)))
    (hd : ∀ D H', H D = none → Pv D xs.length H' → Qr D H') :
    ∀ D, H D = none → ∃ W : Nat → Nat → Hp → Prop, (∃ m, W 0 m (upd H D (.lst []))) ∧ ∀ i m H', W i m H' → ((Itt K a).stop i H' ∧ Qr D H') ∨ ((Itt K a).go i H' ∧ ∃ Nx : Hp → Prop, (∀ H', Nx H' → ∃ m', m' < m ∧ W (i + 1) m' H') ∧ ∀ x H2, (Itt K a).yld i H' x H2 → Turn1 D g tt te vs σ x H2 Nx) := by
  intro D hD
  refine ⟨fun j m H' => m = xs.length - j ∧ j ≤ xs.length ∧ Pv D j H', ⟨xs.length, rfl, Nat.zero_le _, h0 D hD⟩, ?_⟩
  rintro j m H' ⟨rfl, hj, p⟩
  have sq := hl D j H' p
  rcases Nat.lt_or_ge j xs.length with lt | ge
  · exact .inr ⟨⟨xs, xs[j], sq, List.getElem?_eq_getElem lt⟩, Pv D (j + 1), fun H2 p2 => ⟨xs.length - (j + 1), by omega, rfl, lt, p2⟩, fun x H2 ⟨e, y⟩ => by rw [e]; exact hs D j x H' (y xs sq) hD p⟩
  · have e : j = xs.length := Nat.le_antisymm hj ge
    subst e
    exact .inl ⟨⟨xs, sq, Nat.le_refl _⟩, hd D H' hD p⟩
theorem lc_walkR (Pv : Addr → Nat → Hp → Prop) (h0 : ∀ D, H D = none → Pv D 0 (upd H D (.lst []))) 
    (hs : ∀ D (j : Nat) x H', j < n ∧ x = V.int (0 + (j : Nat)) → H D = none → Pv D j H' → Turn1 D g tt te vs σ x H' (Pv D (j + 1)))
    (hd : ∀ D H', H D = none → Pv D n H' → Qr D H') :
    ∀ D, H D = none → ∃ W : Nat → Nat → Hp → Prop, (∃ m, W 0 m (upd H D (.lst []))) ∧ ∀ i m H', W i m H' → ((Itr 0 n).stop i H' ∧ Qr D H') ∨ ((Itr 0 n).go i H' ∧ ∃ Nx : Hp → Prop, (∀ H', Nx H' → ∃ m', m' < m ∧ W (i + 1) m' H') ∧ ∀ x H2, (Itr 0 n).yld i H' x H2 → Turn1 D g tt te vs σ x H2 Nx) := by
  intro D hD
  refine ⟨fun j m H' => m = n - j ∧ j ≤ n ∧ Pv D j H', ⟨n, rfl, Nat.zero_le _, h0 D hD⟩, ?_⟩
  rintro j m H' ⟨rfl, hj, p⟩
  by_cases lt : j < n
  · exact .inr ⟨lt, Pv D (j + 1), fun H2 p2 => ⟨n - (j + 1), by omega, rfl, lt, p2⟩, fun x H2 ⟨e, y⟩ => by rw [e]; exact hs D j x H' ⟨lt, y⟩ hD p⟩
  · have e : j = n := by omega
    subst e
    exact .inl ⟨Nat.le_refl _, hd D H' hD p⟩
end
end Sx

/-! SxRev -/
/-! t[::-1] of a pair. -/
namespace Sx
open PySem PySem.Spec PyProof.Rows L2
section
variable {prog : Program} {w : World} {A : Around} {E : Value → Shared → Prop} {s : Shared}
theorem applied_rev {sl : Addr} {vs : Value} {Q : Int × Int × Nat → Shared → Prop} (hs : s.heap.IsSliceOf sl .none .none vs) (ps : IsPart vs (some (-1))) (h : Q ((1 : Int), (-1 : Int), 2) s) :
    wpAny (model prog w) A (Builtin.Slice.sliceApplied (.ref sl) (pure (2 : Int))) Q E s := by
  obtain ⟨os, hos, hcs, hds⟩ := id hs
  unfold Builtin.Slice.sliceApplied Builtin.Slice.sliceFields
  refine wpAny_bind (wpAny_bind (wpAny_field hos hds (x := .none) rfl (wpAny_bind (wpAny_field hos hds (x := .none) rfl (wpAny_bind (wpAny_field hos hds (x := vs) rfl (wpAny_pure ?_)))))))
  refine wpAny_bind (HT.slicePart_ ps ?_)
  show wpAny _ _ (if ((-1 : Int) == 0) = true then _ else _) _ _ s
  rw [if_neg (by decide)]
  refine wpAny_bind (slicePart_none (wpAny_bind (slicePart_none (wpAny_bind (wpAny_pure ?_)))))
  exact wpAny_pure h
theorem getItem_rev {t sl : Addr} {x y vs : Value} {Q : Value → Shared → Prop} (ht : IsTup s.heap t #[x, y]) (hs : s.heap.IsSliceOf sl .none .none vs) (ps : IsPart vs (some (-1)))
    (h : Q (.ref s.heap.objs.size) { s with heap := s.heap.push { cls := .type "tuple", data := .seq #[y, x] } }) : wpAny (model prog w) A (getItem (.ref t) (.ref sl)) Q E s := by
  obtain ⟨os, hos, hcs, hds⟩ := id hs
  have hTs : s.TypeIs (.ref sl) "slice" := ⟨os, hos, hcs⟩
  unfold getItem
  try with_reducible refine wpAny_holding ?_
  first | refine wpAny_bind (wpAny_pure ?_) | skip
  refine wpAny_bind (wpAny_sequenceKey ht.typeIs (by decide) ?_)
  refine wpAny_bind (wpAny_callSpecial?_slot (name := Str.ofString "__getitem__") ht.typeIs PyProof.Rows.slot_tuple_getitem
    (wpAny_call_entry PyProof.Rows.slot_tuple_getitem ht.typeIs entry_tuple_getitem ?_ (args_tuple_getitem _ _)))
  show wpAny _ _ (Builtin.Tuple.tupleItemsOf (.ref t) >>= _) _ _ s
  refine wpAny_bind (tupleItemsOf_ ht ?_)
  refine wpAny_bind (wpAny_typeOf hTs ?_)
  rw [if_pos (by decide)]
  refine wpAny_bind (applied_rev hs ps ?_)
  have hno : ¬ (((1 : Int) == 0 && (-1 : Int) == 1 && 2 == (#[x, y] : Array Value).size) = true) := fun z => by cases z
  have e : ((List.range 2).filterMap fun (m : Nat) => (#[x, y] : Array Value)[((1 : Int) + (m : Int) * -1).toNat]?).toArray = #[y, x] := rfl
  show wpAny _ _ (if ((1 : Int) == 0 && (-1 : Int) == 1 && 2 == (#[x, y] : Array Value).size) = true then _ else _) _ _ s
  rw [if_neg hno, e]
  first
    | exact wpAny_bind (m := Builtin.Tuple.tupleExact _) (wpAny_newObj_type (wpAny_pure ⟨_, rfl, wpAny_pure h⟩) (by show 2 ≤ sizeLine; decide))
    | exact wpAny_bind (m := Builtin.Tuple.tupleExact _) (wpAny_newObj_type (wpAny_bind (wpAny_pure (wpAny_pure ⟨_, rfl, wpAny_pure h⟩))) (by show 2 ≤ sizeLine; decide))
end
def tRev2 (K : PySem.W.Frag) (te : TE) : TE := fun σ H Q => te σ H fun x H1 => ∃ a u v, x = .ref a ∧ SqT K H1 a [u, v] ∧ ∀ p, H1 p = none → Q (.ref p) (upd H1 p (.tup [v, u]))
section
variable {X : Cx}
theorem pe_rev2 {e : Expr} {te : TE} {k : Nat} {p1 p2 p3 pos : Pos} (he : PE X e te) : PE X (.Subscript e (.Slice none none (some (.UnaryOp .USub (.Constant (.int 1) k p1) p2)) p3) pos) (tRev2 X.K te) := by
  refine ⟨fun pins s σ H Q I h => ?_⟩
  refine Subscript_ (thn (he.run pins s σ H _ I h) fun v s1 ⟨x, H1, I1, r1, q1⟩ => ?_)
  obtain ⟨a, u1, v1, ex, hx, q⟩ := q1
  subst ex
  cases r1
  have hst : PO X (some (.UnaryOp .USub (.Constant (.int 1) k p1) p2)) (tPart (tUn (rU fun i => .int (-i)) (tC (.int 1)))) := po_some (pe_un un_neg pe_int)
  refine wpAny_Slice (thn (po_none.run pins s1 σ H1 (fun o H2 => o = none ∧ H2 = H1) I1 ⟨rfl, rfl⟩) fun vl s2 ⟨l, H2, I2, pl, el, e2⟩ => ?_)
  subst el e2
  refine thn (po_none.run pins s2 σ H2 (fun o H3 => o = none ∧ H3 = H2) I2 ⟨rfl, rfl⟩) fun vu s3 ⟨u, H3, I3, pu, eu, e3⟩ => ?_
  subst eu e3
  refine thn (hst.run pins s3 σ H3 (fun o H4 => o = some (-1) ∧ H4 = H3) I3 ⟨1, rfl, -1, rfl, rfl, rfl⟩) fun vs s4 ⟨o, H4, I4, ps, eo, e4⟩ => ?_
  subst eo e4
  have I5 : Inv X pins σ H4 { s4 with heap := s4.heap.push { cls := .type "slice", data := .fields #[vl, vu, vs] } } := I4.kept (t' := s4.toks) fun b ob q => Heap.get?_push_of_some _ q
  obtain ⟨its, r, ht, hz⟩ := I5.tuple hx
  obtain ⟨x1, y1, ei, rx1, ry1⟩ := vals2 r
  subst ei
  cases pl
  cases pu
  show wpAny (model X.prog X.w) X.A (subscriptTail e (.Slice none none (some (.UnaryOp .USub (.Constant (.int 1) k p1) p2)) p3) (.ref a) (.ref s4.heap.objs.size)) (EP X pins σ Q) X.xe { s4 with heap := s4.heap.push { cls := .type "slice", data := .fields #[.none, .none, vs] } }
  refine tail_any (ops := [.ref a, .ref s4.heap.objs.size]) ht.typeIs (PyProof.Rows.slot_tuple_getitem.lookup) ?_ (by with_unfolding_all rfl)
  refine getItem_rev ht (Heap.IsSliceOf.new _ .none .none vs) ps ?_
  refine ⟨.ref _, _, I5.laid (t' := s4.toks) (o := .tup [v1, u1]) (fun b ob q => Heap.get?_push_of_some _ q) (Nat.le_refl _) ?_, rfl, q _ (I5.hok.fresh (Nat.le_refl _))⟩
  exact ⟨by show 2 ≤ sizeLine; decide, _, .cons ry1 (.cons rx1 .nil), IsTup.new _ _⟩
end
end Sx

/-! SxKw -/
/-! A call by one name; slices with a step. -/
namespace Sx
open PySem PySem.Spec PyProof.Rows L2
theorem kb_one {K : PySem.W.Frag} {fd : FuncData} {y : Str} (h1 : ∀ v : Value, bindArgs fd ⟨[v], []⟩ = pure [(y, v)]) (h2 : ∀ v : Value, bindArgs fd ⟨[], [(y, v)]⟩ = pure [(y, v)]) : KBinds K fd [y] [y] (fun us ws => us ++ ws) (fun vs zs => vs ++ zs) where
  to := fun s us ws _ hl => match us, ws, hl with
    | [u], [], _ => .of_eq (h1 u)
    | [], [w], _ => .of_eq (h2 w)
    | u :: u2 :: us, ws, hl => by simp at hl
    | [u], w :: ws, hl => by simp at hl
    | [], [], hl => by simp at hl
    | [], w :: w2 :: ws, hl => by simp at hl
  rel := fun r rz => r.append rz
section
variable {X : Cx} {k : Nat} {f : Addr} {fd : FuncData} {sp : Sp} {E : XK} {x : Str} {ps ks : List Str} {p pos : Pos} {kws : List Keyword} {tk : TA} {CX : CXT} {g : List Value → List Value → List Value} {gV : List V → List V → List V}
/-- f(y=e) -/
theorem pe_callK0 (F : FnOk X.prog X.w X.K X.mg X.base CX k f fd ps sp) (hr : Room k X.A) (hg : Gl X x) (hm : X.mg x = some (.ref f)) (hk : PySem.W.keepIn X.K (.ref f) = true) (hb : KBinds X.K fd ps ks g gV) (hx : Passes CX X E)
    (hkw : PK X kws tk) (hall : (backToKw pos (keywordEach kws X.env)).all (·.1.isSome) = true := by rfl) (hks : (backToKw pos (keywordEach kws X.env)).filterMap (·.1) = ks := by rfl)
    (hdb : (x == ("__debug__" : Str)) = false := by decide) (hpl : ((backTo pos (starEach [] X.env)).any (·.1) || (backToKw pos (keywordEach kws X.env)).any (·.1.isNone)) = false := by rfl) :
    PE X (.Call (.Name x p) [] kws pos) (fun σ H Q => tk σ H fun zs H1 => sp (gV [] zs) H1 Q E) := by
  refine ⟨fun pins s σ H Q I h => ?_⟩
  refine wpAny_Call_Name_kw (ld_glob I hg hm ?_ hdb)
  refine PySem.W.callWith_KW0 (h₀ := X.base) I.ok.mod.kin hk hall (thn (hkw.run pos pins s σ H _ I h) fun ws s2 ⟨zs, H2, I2, rz, q2⟩ => ⟨I2.kIn, ?_⟩) hpl
  rw [hks]
  exact run_fnk F hr hb hx I2 .nil rz q2
end
/-- xs[lo::c] of a list, c written, above 0 -/
def pickV (xs : List V) (lo : Option Int) (c : Int) : List V := (sliceRange (sliceBounds lo none (some c) xs.length).1 (sliceBounds lo none (some c) xs.length).2.1 (sliceBounds lo none (some c) xs.length).2.2).filterMap (xs[·]?)
theorem vals_pick {xs : List V} {its : List Value} (r : Vals xs its) : ∀ js : List Nat, Vals (js.filterMap (xs[·]?)) (js.filterMap (its.toArray[·]?))
  | [] => .nil
  | j :: js => by
    have ih := vals_pick r js
    cases h : xs[j]? with
    | none =>
      have h2 : its.toArray[j]? = none := by
        have l := r.length
        rw [List.getElem?_toArray]
        exact List.getElem?_eq_none (by have := List.getElem?_eq_none_iff.mp h; omega)
      rw [List.filterMap_cons_none h, List.filterMap_cons_none h2]
      exact ih
    | some v =>
      obtain ⟨u, hu, ru⟩ := r.get h
      have h2 : its.toArray[j]? = some u := by rw [List.getElem?_toArray]; exact hu
      rw [List.filterMap_cons_some h, List.filterMap_cons_some h2]
      exact .cons ru ih
def tStep (K : PySem.W.Frag) (te : TE) (tl : TO) (c : Int) : TE := fun σ H Q => te σ H fun x H1 => tl σ H1 fun lo H2 => ∃ a xs, x = .ref a ∧ SqL K H2 a xs ∧ xs.length ≤ sizeLine ∧ (pickV xs lo c).length ≤ sizeLine ∧ ∀ p, H2 p = none → Q (.ref p) (upd H2 p (.lst (pickV xs lo c)))
section
variable {X : Cx}
theorem pe_step {e : Expr} {lo : Option Expr} {te : TE} {tl : TO} {k : Nat} {c : Int} {p1 p3 pos : Pos} (he : PE X e te) (hl : PO X lo tl) (hc : c ≠ 0) : PE X (.Subscript e (.Slice lo none (some (.Constant (.int c) k p1)) p3) pos) (tStep X.K te tl c) := by
  refine ⟨fun pins s σ H Q I h => ?_⟩
  refine Subscript_ (thn (he.run pins s σ H _ I h) fun v s1 ⟨x, H1, I1, r1, q1⟩ => ?_)
  have hst : PO X (some (.Constant (.int c) k p1)) (tPart (tC (.int c))) := po_some pe_int
  refine wpAny_Slice (thn (hl.run pins s1 σ H1 _ I1 q1) fun vl s2 ⟨l, H2, I2, pl, q2⟩ => ?_)
  refine thn (po_none.run pins s2 σ H2 (fun o H3 => o = none ∧ H3 = H2) I2 ⟨rfl, rfl⟩) fun vu s3 ⟨u, H3, I3, pu, eu, e3⟩ => ?_
  subst eu e3
  refine thn (hst.run pins s3 σ H3 (fun o H4 => o = some c ∧ H4 = H3) I3 ⟨_, rfl, rfl, rfl⟩) fun vs s4 ⟨o, H4, I4, ps, eo, e4⟩ => ?_
  subst eo e4
  obtain ⟨a, xs, ex, hx, hz0, hp, q⟩ := q2
  subst ex
  cases r1
  have I5 : Inv X pins σ H4 { s4 with heap := s4.heap.push { cls := .type "slice", data := .fields #[vl, vu, vs] } } := I4.kept (t' := s4.toks) fun b ob q => Heap.get?_push_of_some _ q
  obtain ⟨its, r, ht, hz⟩ := I5.list hx
  have hlen := r.length
  show wpAny (model X.prog X.w) X.A (subscriptTail e (.Slice lo none (some (.Constant (.int c) k p1)) p3) (.ref a) (.ref s4.heap.objs.size)) (EP X pins σ Q) X.xe { s4 with heap := s4.heap.push { cls := .type "slice", data := .fields #[vl, vu, vs] } }
  refine tail_any (ops := [.ref a, .ref s4.heap.objs.size]) ht.isList.typeIs (PySem.slot_list_getitem.lookup) ?_ (by with_unfolding_all rfl)
  refine wpAny_getItem_list_slice ht.isList (Heap.IsSliceOf.new _ vl vu vs) pl pu ps (fun z => hc (Option.some.inj z)) ?_ (by rw [List.size_toArray]; omega)
  have es : slicePick its.toArray l none (some c) = ((sliceRange (sliceBounds l none (some c) xs.length).1 (sliceBounds l none (some c) xs.length).2.1 (sliceBounds l none (some c) xs.length).2.2).filterMap (its.toArray[·]?)).toArray := by
    unfold slicePick
    rw [List.size_toArray, ← hlen]
  rw [es]
  refine ⟨.ref _, _, I5.laid (t' := s4.toks) (o := .lst (pickV xs l c)) (fun b ob q => Heap.get?_push_of_some _ q) (Nat.le_refl _) ?_, rfl, q _ (I5.hok.fresh (Nat.le_refl _))⟩
  exact ⟨hp, _, 0, vals_pick r _, Heap.get?_push_size _ rfl⟩
end
end Sx

/-! SxIt -/
/-! d.items() of a dict with texts or ints for keys; sorted(d.items()) of one with texts for keys and ints for values. -/
namespace Sx
open PySem PySem.Spec PyProof.Rows L2
/-! ### pairs of a text and an int, in order -/
def ltKI (a b : Str × Int) : Bool := if a.1 = b.1 then decide (a.2 < b.2) else ltS a.1 b.1
theorem swo_KI {α : Type} (k : α → Str × Int) : SrtO.Swo fun x y => ltKI (k x) (k y) := by
  have asym : ∀ a b : Str × Int, ltKI a b = true → ltKI b a = false := fun a b h => by
    unfold ltKI at h ⊢
    by_cases e : a.1 = b.1
    · rw [if_pos e] at h
      rw [if_pos e.symm]
      have := of_decide_eq_true h
      exact decide_eq_false (by omega)
    · rw [if_neg e] at h
      rw [if_neg (Ne.symm e)]
      exact ltS_asym h
  have ntr : ∀ a b c : Str × Int, ltKI b a = false → ltKI c b = false → ltKI c a = false := fun a b c h g => by
    unfold ltKI at h g ⊢
    by_cases e1 : b.1 = a.1
    · rw [if_pos e1] at h
      by_cases e2 : c.1 = b.1
      · rw [if_pos e2] at g
        rw [if_pos (e2.trans e1)]
        have h1 := of_decide_eq_false h
        have g1 := of_decide_eq_false g
        exact decide_eq_false (by omega)
      · rw [if_neg e2] at g
        rw [if_neg (by rw [← e1]; exact e2), ← e1]
        exact g
    · rw [if_neg e1] at h
      have ab : ltS a.1 b.1 = true := by
        rcases ltS_tri a.1 b.1 with w | w | w
        · exact w
        · exact absurd w.symm e1
        · rw [w] at h; cases h
      by_cases e2 : c.1 = b.1
      · rw [if_neg (by rw [e2]; exact e1), e2]
        exact h
      · rw [if_neg e2] at g
        have bc : ltS b.1 c.1 = true := by
          rcases ltS_tri b.1 c.1 with w | w | w
          · exact w
          · exact absurd w.symm e2
          · rw [w] at g; cases g
        have ac := ltS_tr ab bc
        rw [if_neg (fun w => by rw [w, ltS_irr] at ac; cases ac)]
        exact ltS_asym ac
  exact ⟨fun x y h => asym _ _ h, fun x y z h g => ntr _ _ _ h g⟩
def IsPI (h : Heap) (v : Value) (z : Str × Int) : Prop := ∃ a o its n, v = .ref a ∧ h.get? a = some o ∧ o.cls = .type "tuple" ∧ o.data = .seq its n ∧ Vals [.str z.1, .int z.2] its.toList
section
variable {prog : Program} {w : World} {A : Around} {E : Value → Shared → Prop} {s : Shared}
theorem kat_KI {fin : Bool} {Q : Bool → Shared → Prop} {a b : Str × Int} {us vs : List Value} (ra : Vals [.str a.1, .int a.2] us) (rb : Vals [.str b.1, .int b.2] vs) (e : fin = false) (h : Q (ltKI a b) s) : PySem.W.KatLex prog w A true fin Q (us.zip vs) 0 s := by
  cases ra with
  | cons ra1 ra =>
    cases ra with
    | cons ra2 ra =>
      cases ra
      cases rb with
      | cons rb1 rb =>
        cases rb with
        | cons rb2 rb =>
          cases rb
          obtain ⟨t1, rfl⟩ := ra1
          obtain ⟨t2, rfl⟩ := ra2
          obtain ⟨t3, rfl⟩ := rb1
          obtain ⟨t4, rfl⟩ := rb2
          unfold ltKI at h
          refine PySem.W.kat_cons (wpAny_eqBool_str (PySem.W.kat_go (fun e1 => ?_) fun e1 => ?_))
          · rw [if_pos (by simpa using e1)] at h
            refine PySem.W.kat_yes (PySem.W.kat_cons (wpAny_eqBool_int (PySem.W.kat_go (fun e2 => ?_) fun e2 => ?_)))
            · have e3 : a.2 = b.2 := by simpa using e2
              rw [decide_eq_false (by omega)] at h
              exact PySem.W.kat_yes (PySem.W.kat_nil (by rw [e]; exact h))
            · refine PySem.W.kat_no ?_
              show wpAny _ _ (oneLt' (true && false) _ _) _ _ _
              exact PySem.W.kat_one _ _ (PyProof.Rows.lt_int h)
          · rw [if_neg (by simpa using e1)] at h
            exact PySem.W.kat_no (oneLt_str h)
theorem ki_cmp {vs : List Value} {k : Value → Str × Int} (hp : ∀ v ∈ vs, IsPI s.heap v (k v)) : SrtO.Cmp prog w A s (tuples' true) (fun p => p.1 ∈ vs) (SrtO.lt2 fun v u => ltKI (k v) (k u)) := by
  intro p q hm hm'
  obtain ⟨a, o, its, n, e, ho, hc, hd, r⟩ := hp _ hm
  obtain ⟨a', o', its', n', e', ho', hc', hd', r'⟩ := hp _ hm'
  show wpAny (model prog w) A (keyLt' (tuples' true) p.1 q.1) (fun r s' => s' = s ∧ r = ltKI (k p.1) (k q.1)) (fun _ _ => False) s
  generalize k p.1 = kp at r ⊢
  generalize k q.1 = kq at r' ⊢
  rw [e, e']
  have l1 : 2 = its.size := by simpa using Paired.length r
  have l2 : 2 = its'.size := by simpa using Paired.length r'
  exact PySem.W.kat_lt ho hd ho' hd' (kat_KI r r' (decide_eq_false (by omega)) ⟨rfl, rfl⟩)
theorem ki_first {h : Heap} : ∀ {vs : List Value}, (∀ v ∈ vs, ∃ k, IsPI h v k) → ∃ fs : List Value, PySem.W.KatTups h vs fs ∧ fs.length = vs.length ∧ ∀ f ∈ fs, ∃ x t, f = Value.str x t
  | [], _ => ⟨[], PySem.W.KatTups.nil, rfl, fun _ hm => nomatch hm⟩
  | v :: vs, hp => by
    obtain ⟨fs, h1, h2, h3⟩ := ki_first (vs := vs) fun u hu => hp u (List.mem_cons_of_mem _ hu)
    obtain ⟨k, a, o, its, n, rfl, ho, hc, hd, r⟩ := hp v List.mem_cons_self
    match its, r, hd with
    | ⟨u :: us⟩, .cons ru _, hd =>
      obtain ⟨t, rfl⟩ := ru
      exact ⟨.str k.1 t :: fs, PySem.W.KatTups.cons ho hc hd rfl h1, by rw [List.length_cons, List.length_cons, h2], fun f hm => (List.mem_cons.mp hm).elim (fun z => ⟨_, t, z⟩) (h3 f)⟩
theorem ki_sortable {a : Addr} {vs : List Value} {k : Value → Str × Int} (h0 : 0 < vs.length) (hp : ∀ v ∈ vs, IsPI s.heap v (k v)) (ha : ∀ o, s.heap.get? a = some o → o.cls ≠ .type "tuple") : SrtO.SortableO prog w A s a vs fun v u => ltKI (k v) (k u) := by
  intro h' keep
  have hp' : ∀ v ∈ vs, IsPI h' v (k v) := fun v hm => by
    obtain ⟨b, o, its, n, e, ho, hc, r⟩ := hp v hm
    exact ⟨b, o, its, n, e, keep b o (fun z => by subst z; exact ha o ho hc) ho, hc, r⟩
  obtain ⟨fs, h1, h2, h3⟩ := ki_first fun v hm => ⟨_, hp' v hm⟩
  refine ⟨tuples' true, fun Q E hq => PySem.W.kat_kind (T := .type "str") h1 (by omega) (fun f hm => ?_) (by rfl) ?_, ki_cmp hp'⟩
  · obtain ⟨x, t, rfl⟩ := h3 f hm
    exact PySem.W.Looks.now
  · have e : (Value.type "str" != Value.type "tuple") = true := by first | decide +kernel | rfl | decide
    rw [e]
    exact hq
end
/-! ### d.items() -/
def rItemsK : V → List V → Hp → VK → Prop := fun x xs H Q => ∃ (a : Addr) (kvs : List (Key × V)), x = .ref a ∧ xs = [] ∧ H a = some (.dK kvs) ∧ ∀ p, H p = none → Q (.ref p) (upd H p (DX.itemsO p a))
theorem mt_itemsK {X : Cx} : MtR X "dict.items" rItemsK := by
  intro pins s σ H x xs v us Q I rx rxs h
  obtain ⟨a, kvs, rfl, rfl, ha, q⟩ := h
  cases rx
  cases rxs
  obtain ⟨z, hd, vs, rel, o, es, ep, ho, hx, hdat, _⟩ := dk_of I.hok ha
  exact DT.callItems (es := es) (ep := ep) hd ⟨o, ho, hx, hdat⟩ ⟨.ref s.heap.objs.size, upd H s.heap.objs.size (DX.itemsO s.heap.objs.size a), I.laid (t' := s.toks) (fun b u e => Heap.get?_push_of_some _ e) (Nat.le_refl _) (DX.itemsO_ok (Heap.get?_push_size _ rfl)), rfl, q _ (I.hok.fresh (Nat.le_refl _))⟩
abbrev kiE (z : Str × Int) : Key × V := (Sum.inr z.1, V.int z.2)
def rSortIt2 : List V → Hp → VK → Prop := fun vs H Q => ∃ (p a : Addr) (rw' : List (Str × Int)), vs = [.ref p] ∧ H p = some (DX.itemsO p a) ∧ H a = some (.dK (rw'.map kiE)) ∧ rw'.length ≤ 10000 ∧
  ∀ (H' : Hp) (l : Addr) (ts : List Addr) (zs : List (Str × Int)), Same H H' → zs.Perm rw' → zs.Pairwise (fun x y => ltKI y x = false) → H' l = some (.lst (ts.map V.ref)) → Paired (fun t (z : Str × Int) => H' t = some (.tup [.str z.1, .int z.2])) ts zs → Q (.ref l) H'
/-- what stands at an address of as -/
def rowAt (as : List Addr) (rs : List (Str × Int)) (v : Value) : Str × Int := match v with
  | .ref b => (((as.zip rs).find? fun z => decide (z.1 = b)).map (·.2)).getD (("" : Str), 0)
  | _ => (("" : Str), 0)
theorem rowAt_is : ∀ {as : List Addr} {rs : List (Str × Int)} {j : Nat} {b : Addr} {z : Str × Int}, as.Nodup → as[j]? = some b → rs[j]? = some z → rowAt as rs (.ref b) = z
  | a :: as, r :: rs, 0, b, z, _, h, g => by
    cases h
    cases g
    show (((((a, r) :: as.zip rs).find? fun z => decide (z.1 = a)).map (·.2)).getD (("" : Str), 0)) = r
    rw [List.find?_cons_of_pos (by exact decide_eq_true rfl)]
    rfl
  | a :: as, r :: rs, j + 1, b, z, nd, h, g => by
    have hb : b ∈ as := List.mem_of_getElem? h
    have ne : a ≠ b := fun e => (List.nodup_cons.mp nd).1 (by rw [e]; exact hb)
    show (((((a, r) :: as.zip rs).find? fun z => decide (z.1 = b)).map (·.2)).getD (("" : Str), 0)) = z
    rw [List.find?_cons_of_neg (by simpa using ne)]
    exact rowAt_is (List.nodup_cons.mp nd).2 h g
theorem perm_refs2 {as : List Addr} {out : List Value} (h : out.Perm (as.map Value.ref)) : ∃ ts : List Addr, out = ts.map Value.ref ∧ ts.Perm as := by
  obtain ⟨ts, e⟩ := refs_all out fun v hv => by
    obtain ⟨a, _, e⟩ := List.mem_map.mp (h.mem_iff.mp hv)
    exact ⟨a, e.symm⟩
  exact ⟨ts, e, perm_refs (by rw [← e]; exact h)⟩
theorem pairs_at {prog : Program} {w : World} : ∀ {es : List DictEntry} {vs : List (Key × Value)} {j : Nat} {e : DictEntry}, Pairs (mixKind prog w) es vs → es[j]? = some e → ∃ z, vs[j]? = some z ∧ (mixKind prog w).is z.1 e.key = true ∧ e.val = z.2
  | _, _, j, e, .nil, h => by simp at h
  | _, _, 0, e, .cons h1 h2 _, h => by
    have h' := Option.some.inj h
    subst h'
    exact ⟨_, rfl, h1, h2⟩
  | _ :: _, _ :: _, j + 1, e, .cons _ _ t, h => pairs_at (j := j) t (by simpa using h)
theorem paired_own {α β : Type} {F : α → β → Prop} {g : α → β} : ∀ l : List α, (∀ t ∈ l, F t (g t)) → Paired F l (l.map g)
  | [], _ => .nil
  | x :: l, h => .cons (h x List.mem_cons_self) (paired_own l fun t ht => h t (List.mem_cons_of_mem _ ht))
theorem cr_sortIt2 {X : Cx} (hc : X.calm = true) : CallR X (.builtin "sorted") rSortIt2 := by
  intro pins s σ H xs us Q I r h
  obtain ⟨p, a, rs, rfl, hp, ha, few, q⟩ := h
  obtain rfl := Vals.ref1 r
  have view : s.heap.IsItemsView p a := (show ObjOk X.prog X.w H s.heap p (DX.itemsO p a) from I.hok p _ hp).1
  obtain ⟨z, hd, vs, rel, o, es, ep, ho, hx, hdat, _, prs, _⟩ := dk_of I.hok ha
  have l1 : rs.length = vs.length := by
    have y := Paired.length rel
    rw [List.length_map] at y
    exact y
  have l2 : es.size = vs.length := by
    have y := prs.length
    rw [Array.length_toList] at y
    exact y
  refine DT.sortedI (es := es) (ep := ep) (I.ok.hd hc) view ⟨o, ho, hx, hdat⟩ (by rw [sizeLine_eq]; omega) fun h' tk as hk hlt hl hG => ?_
  have lak : as.length = rs.length := by omega
  have nd : as.Nodup := List.Pairwise.imp (fun h => Nat.ne_of_lt h) hG.rise
  have pr : ∀ (j : Nat) (b : Addr), as[j]? = some b → ∃ y, rs[j]? = some y ∧ IsPI h' (.ref b) y ∧ ∀ H2, ObjOk X.prog X.w H2 h' b (.tup [.str y.1, .int y.2]) := by
    intro j b hj
    obtain ⟨en, he, hg⟩ := hG.pairs j b hj
    obtain ⟨v, hv, k1, k2⟩ := pairs_at prs (by rw [Array.getElem?_toList]; exact he)
    have jl : j < rs.length := by rw [l1]; exact (List.getElem?_eq_some_iff.mp hv).1
    obtain ⟨v2, hv2, r1, r2⟩ := paired_get rel (x := kiE rs[j]) (by rw [List.getElem?_map, List.getElem?_eq_getElem jl]; rfl)
    rw [hv] at hv2
    cases hv2
    have rk : RelV (.str rs[j].1) en.key := by
      rw [← r1] at k1
      exact keyIs_rel (k := Sum.inr rs[j].1) k1
    have rv : RelV (.int rs[j].2) en.val := by
      rw [k2]
      exact r2
    exact ⟨rs[j], List.getElem?_eq_getElem jl, ⟨b, _, _, 0, rfl, hg, rfl, rfl, .cons rk (.cons rv .nil)⟩, fun H2 => ⟨(by show 2 ≤ sizeLine; decide), [en.key, en.val], .cons rk (.cons rv .nil), ⟨_, hg, rfl, _, rfl⟩⟩⟩
  have hob : (h'.push { cls := .type "list", data := .seq (as.map Value.ref).toArray }).get? h'.objs.size = some (seqObj "list" (as.map Value.ref).toArray 0) := Heap.get?_push_size _ rfl
  have ne0 : ∀ b o, h'.get? b = some o → b ≠ h'.objs.size := fun b o e => Nat.ne_of_lt (Heap.lt_size e)
  have ka : ∀ b o, h'.get? b = some o → (h'.push { cls := .type "list", data := .seq (as.map Value.ref).toArray }).get? b = some o := fun b o e => Heap.get?_push_of_some _ e
  generalize h'.push { cls := .type "list", data := .seq (as.map Value.ref).toArray } = h2 at hob ka ⊢
  have at_ : ∀ v ∈ as.map Value.ref, ∃ (j : Nat) (b : Addr) (y : Str × Int), v = .ref b ∧ as[j]? = some b ∧ rs[j]? = some y ∧ rowAt as rs v = y ∧ IsPI h' v y := by
    intro v hv'
    obtain ⟨b, hb, rfl⟩ := List.mem_map.mp hv'
    obtain ⟨j, hj⟩ := List.mem_iff_getElem?.mp hb
    obtain ⟨y, hy, ip, _⟩ := pr j b hj
    exact ⟨j, b, y, rfl, hj, hy, rowAt_is nd hj hy, ip⟩
  have stay : ∀ {v : Value} {y : Str × Int} {h3 : Heap}, IsPI h' v y → (∀ b o, h'.get? b = some o → h3.get? b = some o) → IsPI h3 v y := fun {v y h3} ip k => by
    obtain ⟨b, o, its, n, e, ho, r⟩ := ip
    exact ⟨b, o, its, n, e, k _ _ ho, r⟩
  refine wpAny_call_entry PyProof.Rows.slot_list_sort ⟨_, hob, rfl⟩ PyProof.Rows.entry_list_sort
    (SrtO.list_sort_ord (s := { s with heap := h2, toks := tk }) (swo_KI (rowAt as rs)) hob (by rw [List.length_map, sizeLine_eq]; omega) (fun h0 => ki_sortable (s := { s with heap := h2, toks := tk }) (by omega) (fun v hv => ?_) fun o' e => ?_) fun out hs hb => ⟨.none, rfl, ?_⟩) (PyProof.Rows.args_list_sort _)
  · obtain ⟨j, b, y, _, _, _, e, ip⟩ := at_ v hv
    rw [e]
    exact stay ip ka
  · have e' : some o' = some (seqObj "list" (as.map Value.ref).toArray 0) := e.symm.trans hob
    cases e'
    intro c
    exact absurd (Value.type.inj c) (by decide)
  · obtain ⟨ts, eo, pm⟩ := perm_refs2 hb.perm
    subst eo
    obtain ⟨e0, hl3⟩ := sortedHeap_at (vs := as.map Value.ref) (out := (ts.map Value.ref).toArray) hob
    have kp : ∀ b o, h'.get? b = some o → (sortedHeap h2 h'.objs.size (as.map Value.ref) (ts.map Value.ref).toArray).get? b = some o := fun b o e => by
      rw [sortedHeap_old (ne0 b o e) (Heap.lt_size (ka b o e))]
      exact ka b o e
    show EP X pins σ Q (.ref h'.objs.size) { s with heap := sortedHeap h2 h'.objs.size (as.map Value.ref) (ts.map Value.ref).toArray, toks := tk }
    generalize sortedHeap h2 h'.objs.size (as.map Value.ref) (ts.map Value.ref).toArray = h3 at hl3 kp
    have lts : ts.length = as.length := pm.length_eq
    have I1 : Inv X pins σ (upd H h'.objs.size (.lst (ts.map V.ref))) { s with heap := h3, toks := tk } := I.laid (t' := tk) (fun b o e => kp b o (hk b o e)) (Nat.le_of_lt hlt) ⟨by rw [List.length_map, sizeLine_eq]; omega, ts.map Value.ref, e0, vals_refs ts, hl3⟩
    obtain ⟨H2, I2, g, atT⟩ := DX.takeT (P := fun b vs => ∃ (j : Nat) (y : Str × Int), as[j]? = some b ∧ rs[j]? = some y ∧ vs = [.str y.1, .int y.2]) I as _ I1 nd fun b hb => by
      obtain ⟨j, hj⟩ := List.mem_iff_getElem?.mp hb
      obtain ⟨y, hy, ip, ok⟩ := pr j b hj
      have bl := hG.there hb
      refine ⟨Nat.le_of_lt (hG.above b hb), ?_, [.str y.1, .int y.2], ⟨j, y, hj, hy, rfl⟩, fun H2 => ?_⟩
      · rw [upd_ne (Nat.ne_of_lt bl)]
        exact I.hok.fresh (Nat.le_of_lt (hG.above b hb))
      · obtain ⟨c1, c2, c3, o', c4, c5⟩ := ok H2
        exact ⟨c1, c2, c3, o', kp _ _ c4, c5⟩
    have newL : H h'.objs.size = none := I.hok.fresh (Nat.le_of_lt hlt)
    have rowsAs : as.map (fun b => rowAt as rs (.ref b)) = rs := by
      refine List.ext_getElem? fun j => ?_
      rw [List.getElem?_map]
      cases hj : as[j]? with
      | none =>
        have : rs[j]? = none := List.getElem?_eq_none (by have := List.getElem?_eq_none_iff.mp hj; omega)
        rw [this]
        rfl
      | some b =>
        obtain ⟨y, hy, _⟩ := pr j b hj
        rw [hy]
        exact congrArg some (rowAt_is nd hj hy)
    refine ⟨.ref h'.objs.size, H2, I2, rfl, q H2 _ ts (ts.map fun b => rowAt as rs (.ref b)) (fun b o e => g b o (by rw [upd_ne (ne_of_none e newL)]; exact e)) ?_ ?_ (g _ _ upd_same) (paired_own ts fun t ht => ?_)⟩
    · have y := pm.map (fun b => rowAt as rs (.ref b))
      rw [rowsAs] at y
      exact y
    · exact List.pairwise_map.mpr (List.pairwise_map.mp hs)
    · obtain ⟨vs', ⟨j, y, hj, hy, rfl⟩, ht2⟩ := atT t (pm.mem_iff.mp ht)
      rw [rowAt_is nd hj hy]
      exact ht2
end Sx

/-! SxIn -/
/-! x in o, o of an own class with __contains__; x in t of data; isinstance of data. -/
namespace Sx
open PySem PySem.Spec PyProof.Rows L2
def rInOwn (C : Addr) (sp : Sp) : R2 := fun x y H Q => ∃ a dx fs, y = .ref a ∧ H a = some (.ins C dx fs) ∧ sp [.ref a, x] H (fun v H2 => ∃ b, v = .bl b ∧ Q (.bl b) H2) E0
theorem op_inOwn {X : Cx} {C : Addr} {k : Nat} {ps : List Str} {sp : Sp} (G : MtG X.prog X.w X.K X.mg X.base C "__contains__" k ps sp) (hr : Room k X.A) : OpR X (compareOp .In) (rInOwn C sp) := by
  intro pins s σ H x y v u Q I rx ry h
  obtain ⟨a, dx, fs, rfl, ha, q⟩ := h
  obtain ⟨f, fd, M, F, b⟩ := G
  obtain rfl : u = Value.ref a := ry
  obtain ⟨mA, O, _, _, _, _⟩ := ins_get I.hok ha
  obtain ⟨od, inst, _⟩ := O.look
  obtain ⟨m, fr⟩ := I.fr
  refine PySem.W.in_K fr I.ok.mod.kin inst M.at_ M.fn (wpAny_mono (run_fn (vs := [.ref a, x]) (us := [.ref a, v]) F hr b .nil pass0 I (.cons rfl (.cons rx .nil)) q) (fun r s' hq => ?_) fun _ _ e => e)
  obtain ⟨z, H2, I2, rz, bb, rfl, q2⟩ := hq
  cases rz
  exact wpAny_truthy_bool ⟨.bl bb, H2, I2, rfl, q2⟩
/-- x in t, t a tuple of data -/
def rInD (K : PySem.W.Frag) : R2 := fun x y H Q => ∃ d ds, Dp K H x d ∧ Dp K H y (.tuple ds) ∧ SeqAt.shaped d = true ∧ SeqAt.shaped (.tuple ds) = true ∧ Q (.bl (ds.any fun z => PyData.eqv z d)) H
theorem op_inD {X : Cx} (hu : X.A.units + 65 < cLine) : OpR X (compareOp .In) (rInD X.K) := by
  intro pins s σ H x y v u Q I rx ry h
  obtain ⟨d, ds, hd, he, sd, se, q⟩ := h
  obtain ⟨as, r1⟩ := Dp.reads I d x v hd rx
  obtain ⟨bs, r2⟩ := Dp.reads I (.tuple ds) y u he ry
  exact SeqAt.in_tuple_reads r2 r1 (SeqAt.canLay_of_shaped se) (SeqAt.canLay_of_shaped sd) (room_in_shaped sd hu) ⟨.bl _, H, I, rfl, q⟩
end Sx

/-! SxPr -/
/-! A target `a, b` for lists or tuples; comprehensions over lists or tuples. -/
namespace Sx
open PySem PySem.Spec PyProof.Rows L2
def gOr (t1 t2 : TG) : TG := fun v σ H Q => t1 v σ H Q ∨ t2 v σ H Q
theorem pg_or {X : Cx} {tg : Expr} {t1 t2 : TG} (h1 : PG X tg t1) (h2 : PG X tg t2) : PG X tg (gOr t1 t2) :=
  ⟨fun pins s σ H v u Q I r h => h.elim (h1.run pins s σ H v u Q I r) (h2.run pins s σ H v u Q I r)⟩
abbrev gSq (K : PySem.W.Frag) (n : Nat) (t : TGs) : TG := gOr (gTup K n t) (gLst K n t)
theorem pg_sq {X : Cx} {es : List Expr} {k : Nat} {t : TGs} {n : Nat} {pos : Pos} (hc : X.calm = true) (h : PGs X es t)
    (hn : (assignEach es X.env).length = n := by rfl) (hst : (assignEach es X.env).findIdx? (·.1) = none := by rfl) : PG X (.Tuple es k pos) (gSq X.K n t) :=
  pg_or (pg_tup hc h hn hst) (pg_lst hc h hn hst)
abbrev g2 (i j : Nat) : TGs := gCons (gName i) (gCons (gName j) gNil)
theorem gSq_of {K : PySem.W.Frag} {i j : Nat} {t : Addr} {x y : V} {σ : L2.St} {H : Hp} {Q : L2.St → Hp → Prop} (h : Sq K H t [x, y]) (q : Q ((σ.set i (some x)).set j (some y)) H) : gSq K 2 (g2 i j) (.ref t) σ H Q := by
  rcases h with h | h
  · exact .inr ⟨t, _, rfl, h, rfl, x, _, rfl, y, _, rfl, rfl, q⟩
  · exact .inl ⟨t, _, rfl, h, rfl, x, _, rfl, y, _, rfl, rfl, q⟩
theorem sq_stay {K : PySem.W.Frag} {H H' : Hp} {a : Addr} {xs : List V} (s : Same H H') (h : Sq K H a xs) : Sq K H' a xs := Sq.same s h
/-- {k: v for .. in xs} -/
theorem dc_sq {K : PySem.W.Frag} {i : Nat} {a : Addr} {xs : List V} {g : TG} {tt : TT} {tk tv : TE} {vs : List Nat} {σ : L2.St} {H Hx : Hp} {Q : VK} (hv : σ[i]? = some (some (.ref a))) (hx : Sq K Hx a xs) (hH : Same Hx H) (Pv : Addr → Nat → Hp → Prop)
    (h0 : ∀ D, H D = none → Pv D 0 (upd H D (.dK []))) (hl : ∀ D j H', Pv D j H' → Same Hx H')
    (hs : ∀ D j x H', xs[j]? = some x → Pv D j H' → g x (wipe σ vs) H' fun σ2 H2 => wipe σ2 vs = wipe σ vs ∧ tt σ2 H2 fun b H3 =>
      if b = true then tk σ2 H3 fun y H4 => tv σ2 H4 fun z H5 => ∃ kvs k, y = kV k ∧ H5 D = some (.dK kvs) ∧ kvs.length < sizeLine ∧ Pv D (j + 1) (upd H5 D (.dK (putK kvs k z))) else Pv D (j + 1) H3)
    (hd : ∀ D H', H D = none → Pv D xs.length H' → Q (.ref D) H') : tDc (iSq K (tVar i)) g tt tk tv vs σ H Q := by
  rcases hx with hx | hx
  · refine .inl ⟨_, hv, a, rfl, ⟨xs, Same.seq hH hx⟩, fun D hD => ⟨fun j m H' => m = xs.length - j ∧ j ≤ xs.length ∧ Pv D j H', ⟨xs.length, rfl, Nat.zero_le _, h0 D hD⟩, ?_⟩⟩
    rintro j m H' ⟨rfl, hj, p⟩
    have sq := Same.seq (hl D j H' p) hx
    rcases Nat.lt_or_ge j xs.length with lt | ge
    · exact .inr ⟨⟨xs, xs[j], sq, List.getElem?_eq_getElem lt⟩, Pv D (j + 1), fun H2 p2 => ⟨xs.length - (j + 1), by omega, rfl, lt, p2⟩, fun x H2 ⟨e, y⟩ => by rw [e]; exact hs D j x H' (y xs sq) p⟩
    · have e : j = xs.length := Nat.le_antisymm hj ge
      subst e
      exact .inl ⟨⟨xs, sq, Nat.le_refl _⟩, hd D H' hD p⟩
  · refine .inr ⟨_, hv, a, rfl, ⟨xs, sqT_same hH hx⟩, fun D hD => ⟨fun j m H' => m = xs.length - j ∧ j ≤ xs.length ∧ Pv D j H', ⟨xs.length, rfl, Nat.zero_le _, h0 D hD⟩, ?_⟩⟩
    rintro j m H' ⟨rfl, hj, p⟩
    have sq := sqT_same (hl D j H' p) hx
    rcases Nat.lt_or_ge j xs.length with lt | ge
    · exact .inr ⟨⟨xs, xs[j], sq, List.getElem?_eq_getElem lt⟩, Pv D (j + 1), fun H2 p2 => ⟨xs.length - (j + 1), by omega, rfl, lt, p2⟩, fun x H2 ⟨e, y⟩ => by rw [e]; exact hs D j x H' (y xs sq) p⟩
    · have e : j = xs.length := Nat.le_antisymm hj ge
      subst e
      exact .inl ⟨⟨xs, sq, Nat.le_refl _⟩, hd D H' hD p⟩
/-- [f x for x in xs if c x], xs a list or a tuple, all values -/
theorem lc_valsS {K : PySem.W.Frag} {i : Nat} {a : Addr} {xs : List V} {g : TG} {tt : TT} {te : TE} {vs : List Nat} {σ : L2.St} {H : Hp} {Q : VK} {α : Type} {zs : List α} {R : V → α → Prop} (hv : σ[i]? = some (some (.ref a))) (f : α → V) (c : α → Bool) (hx : Sq K H a xs) (hp : Paired R xs zs) (hz : xs.length ≤ 10000)
    (ht : ∀ x z, z ∈ zs → R x z → ∀ H', Same H H' → Tst g tt te vs σ x H' (c z) fun te σ H => Gv te σ H (f z)) (q : ∀ D H', H D = none → Same H H' → H' D = some (.lst ((zs.filter c).map f)) → Q (.ref D) H') : tLc (iSq K (tVar i)) g tt te vs σ H Q := by
  rcases hx with hx | hx
  · exact .inl ⟨_, hv, a, rfl, ⟨_, hx⟩, lc_valsL f c hx hp hz ht q⟩
  · exact .inr ⟨_, hv, a, rfl, ⟨_, hx⟩, lc_valsT f c hx hp hz ht q⟩
/-- a row of pairs: each a list or a tuple -/
def PrAt {α : Type} (K : PySem.W.Frag) (H : Hp) (a : Addr) (f : α → V × V) (zs : List α) : Prop := ∃ ts : List Addr, Sq K H a (ts.map V.ref) ∧ Paired (fun t z => Sq K H t [(f z).1, (f z).2]) ts zs
theorem PrAt.same {α : Type} {K : PySem.W.Frag} {H H' : Hp} {a : Addr} {f : α → V × V} {zs : List α} (s : Same H H') (h : PrAt K H a f zs) : PrAt K H' a f zs := by
  obtain ⟨ts, h1, h2⟩ := h
  exact ⟨ts, Sq.same s h1, paired_imp (fun _ _ z => Sq.same s z) h2⟩
end Sx

/-! SxDc -/
/-! y = {k: v for ..} on one row, y a name of the function. -/
namespace Sx
open PySem PySem.Spec PyProof.Rows L2
theorem swD {kx vx : Expr} {gs : List Comprehension} {scope : Scope} {pos py : Pos} {y : Str} {l : Nat} {env : Env} (hk : env.scope.kind = .function) (hy : env.scope.names.lookup y = some .local) (hl : (py.line == pos.line) = true)
    (ha : (scope.names.any fun (n, k) => n == y && (k == .local || k == .cell)) = false) : swapsWith (.DictComp kx vx gs scope pos) (some (.Name y py)) l env = pure true := by
  have k1 : env.kindOf y = some .local := hy
  have k2 : env.blockKind = .function := by unfold Env.blockKind; rw [hk]; rfl
  unfold swapsWith; simp only [k2, k1, ha, Expr.pos, hl]; rfl
theorem ps_setDc {X : Cx} {i : Nat} {y : Str} {py : Pos} {kx vx tg iter : Expr} {ifs : List Expr} {scope : Scope} {own : List (Str × Nat)} {pos spos : Pos} {wi : TI} {g : TG} {tt : TT} {tk tv : TE}
    (hc : X.calm = true) (hN : X.N.Nodup) (hy : X.N[i]? = some y) (hyl : X.env.scope.names.lookup y = some .local) (hsw : swapsWith (.DictComp kx vx [⟨tg, iter, ifs, 0⟩] scope pos) (some (.Name y py)) spos.line X.env = pure true)
    (hi : PI X tg iter wi) (ok : BlkOk X.N X.env.scope scope own) (hg : ∀ (s : Shared) (H : Hp) (C : Addr) (cl : List (Str × Addr)) (fp : List Addr), PG (X.blk s H scope (compEnvC scope cl C X.env) fp) tg g)
    (ht : ∀ (s : Shared) (H : Hp) (C : Addr) (cl : List (Str × Addr)) (fp : List Addr), PTs (X.blk s H scope (compEnvC scope cl C X.env) fp) ifs tt) (hk : ∀ (s : Shared) (H : Hp) (C : Addr) (cl : List (Str × Addr)) (fp : List Addr), PE (X.blk s H scope (compEnvC scope cl C X.env) fp) kx tk)
    (he : ∀ (s : Shared) (H : Hp) (C : Addr) (cl : List (Str × Addr)) (fp : List Addr), PE (X.blk s H scope (compEnvC scope cl C X.env) fp) vx tv) (hs : ∀ x, foldedSetIterable iter X.env x = pure x := by intro _; rfl) :
    PS X (.Assign [.Name y py] (.DictComp kx vx [⟨tg, iter, ifs, 0⟩] scope pos) spos) (tAsg (tDc wi g tt tk tv (own.map (·.2))) (gName i)) := by
  refine ⟨fun pins s σ H D I h => ?_⟩
  rw [exec_Assign_Name_used _ _ _ _ hsw]
  refine wpAny_bind (wpAny_standAt (wpAny_bind ?_))
  show wpAny _ X.A (do let _ ← comprehension (.DictComp kx vx [⟨tg, iter, ifs, 0⟩] scope pos) scope X.env (firstIterPos [⟨tg, iter, ifs, 0⟩] pos) newDict false (eval iter X.env) (some (assign (.Name y py) X.env))) _ _ s
  have h' : tDc wi g tt tk tv (own.map (·.2)) σ H (fun x H1 => gName i x σ H1 D.nx) := h
  refine wpAny_bind (thn (dc_core (Qf := fun _ s' => SP X pins D .next s') hc hN I hi ok hg ht hk he hs h' fun L C s' m H' I' q hn f => ?_) fun _ s' hq => wpAny_pure (wpAny_pure hq))
  show wpAny _ _ (assign (.Name y py) X.env (.ref L)) _ _ _
  refine wpAny_assign_Name (store_ok2 (v := V.ref L) I' hN hy (.inl hyl) rfl (fun s2 I2 ⟨a, sb, ha⟩ => ?_) (.inr hyl))
  obtain ⟨f0, f1, f2, f3, f4, f5⟩ := f
  have ne : C ≠ a := ha.elim (fun z => by rw [z]; exact f1) fun z e => f4 y a z e.symm
  exact ⟨m, hn.sameBut sb ne, fun h3 sb3 => ⟨_, H', I2.turned (t' := s2.toks) (fun b o hb e => (sb3.2 b hb).trans e) f0 f1 f3 f4 f5, q⟩⟩
end Sx

/-! SxSt -/
/-! set(xs) of a list of texts; sorted of such a set. -/
namespace Sx
open PySem PySem.Spec PyProof.Rows L2
def txOf (e : Int × Value) : Str := match e.2 with
  | .str x _ => x
  | _ => ""
def TxE (w : World) (e : Int × Value) : Prop := ∃ x t, e.2 = Value.str x t ∧ e.1 = hashStr w x
/-- the set of texts at a: its members M -/
def SetS (w : World) (h : Heap) (a : Addr) (M : Str → Prop) (n : Nat) : Prop := ∃ o es ep t, h.get? a = some o ∧ o.ExactSet ∧ o.data = .set es ep t ∧ (∀ e ∈ es.toList, TxE w e) ∧ (es.toList.map txOf).Nodup ∧
  (∀ k, M k ↔ k ∈ es.toList.map txOf) ∧ es.size < scanBound ∧ t.fits es.size = true ∧ es.size = n ∧ Ris t.place.toList ∧ (w.params.followText "set-order" = true ∨ t.led = true)
theorem SetS.at {w : World} {h h' : Heap} {a : Addr} {M : Str → Prop} {n : Nat} (R : SetS w h a M n) (k : ∀ o, h.get? a = some o → h'.get? a = some o) : SetS w h' a M n := by
  obtain ⟨o, es, ep, t, e, r⟩ := R
  exact ⟨o, es, ep, t, k o e, r⟩
theorem SetS.eqv {w : World} {h : Heap} {a : Addr} {M M' : Str → Prop} {n : Nat} (R : SetS w h a M n) (e : ∀ k, M' k ↔ M k) : SetS w h a M' n := by
  obtain ⟨o, es, ep, t, h1, h2, h3, h4, h5, h6, r⟩ := R
  exact ⟨o, es, ep, t, h1, h2, h3, h4, h5, fun k => (e k).trans (h6 k), r⟩
section
variable {P : Program} {w : World} {A : Around} {E : Value → Shared → Prop} {s : Shared} {a : Addr} {M : Str → Prop} {n : Nat}
theorem is_tx (k : Str) (u : Tok) : (strKind P w).is k (Value.str k u) = true := by
  show Value.isStrOf k (Value.str k u) = true
  simp [Value.isStrOf]
theorem tx_elems {l : List (Int × Value)} (g : ∀ e ∈ l, TxE w e) : ElemsOf (strKind P w) l := by
  intro e he
  obtain ⟨x, t, e1, e2⟩ := g e he
  refine ⟨⟨x, ?_, e2⟩, ?_⟩
  · rw [e1]; exact is_tx x t
  · rw [e1]; rfl
theorem tx_is {e : Int × Value} (g : TxE w e) (k : Str) : (strKind P w).is k e.2 = true ↔ txOf e = k := by
  obtain ⟨x, t, e1, _⟩ := g
  unfold txOf
  rw [e1]
  constructor
  · intro h
    have h2 : Value.isStrOf k (Value.str x t) = true := h
    obtain ⟨u, hu⟩ := Value.isStrOf_shape h2
    injection hu with h1
  · intro h
    rw [← h]
    exact is_tx x t
theorem tx_mem {l : List (Int × Value)} (g : ∀ e ∈ l, TxE w e) (k : Str) : k ∈ l.map txOf ↔ ∃ e ∈ l, (strKind P w).is k e.2 = true := by
  rw [List.mem_map]
  exact ⟨fun ⟨e, he, q⟩ => ⟨e, he, (tx_is (g e he) k).mpr q⟩, fun ⟨e, he, q⟩ => ⟨e, he, (tx_is (g e he) k).mp q⟩⟩
theorem setS_tail {g : Bool → Sem Unit} (hg : ∀ (b : Bool) (u : Shared) (Z : Unit → Shared → Prop), Z () u → wpAny (model P w) A (g b) Z E u) {o : Obj} {es ds : Array (Int × Value)} {ep : Nat} {t t2 : SetTable} (ho : s.heap.get? a = some o)
    (hex : o.ExactSet) (hd : o.data = .set es ep t) (g1 : ∀ e ∈ ds.toList, TxE w e) (nd1 : (ds.toList.map txOf).Nodup) (m1 : ∀ k, M k ↔ k ∈ ds.toList.map txOf) (hb1 : ds.size < scanBound) (hf2 : t2.fits ds.size = true) (hr : Ris t2.place.toList)
    (hl : w.params.followText "set-order" = true ∨ t2.led = true) {dm : Bool} {Z : Option Bool → Shared → Prop} (hZ : ∀ h', Heap.SameBut a s.heap h' → SetS w h' a M ds.size → Z (some true) { s with heap := h' }) :
    wpAny (model P w) A (do
        storeSet a ds t2
        if (!dm && t2.tooFull) = true then do
            g (relayAll t2 ds (SetTable.grown ds.size)).2.2
            storeSet a (relayAll t2 ds (SetTable.grown ds.size)).1 (relayAll t2 ds (SetTable.grown ds.size)).2.1
            pure (some true)
          else pure (some true)) Z E s := by
  refine wpAny_bind (wpAny_storeSet_of ho hd ?_ (fits_of_scanBound hb1))
  have at1 := store_at (es' := ds) (t' := t2) ho hd
  have sb := Heap.SameBut.update s.heap a (Obj.putSet ds t2)
  split
  · have c1 := relayAll_perm t2 ds (SetTable.grown ds.size)
    have c2 := relayAll_fits t2 ds (SetTable.grown ds.size)
    have c3 := relayAll_ris t2 ds (SetTable.grown ds.size)
    have c4 := relayAll_led t2 ds (SetTable.grown ds.size)
    generalize relayAll t2 ds (SetTable.grown ds.size) = W at c1 c2 c3 c4 ⊢
    obtain ⟨fs, t3, gv⟩ := W
    dsimp only at c1 c2 c3 c4 ⊢
    have sz : fs.size = ds.size := by rw [← Array.length_toList, c1.length_eq, Array.length_toList]
    refine wpAny_bind (hg _ _ _ (wpAny_bind (wpAny_storeSet_of at1 rfl ?_ (fits_of_scanBound (by rw [sz]; exact hb1)))))
    have at2 := store_at (es' := fs) (t' := t3) at1 rfl
    refine wpAny_pure (hZ _ (sb.trans (Heap.SameBut.update _ a _)) ⟨_, fs, _, t3, at2, hex, rfl, fun e he => g1 e (c1.mem_iff.mp he), (c1.map txOf).nodup_iff.mpr nd1, fun k => (m1 k).trans (c1.map txOf).mem_iff.symm, ?_, c2, sz, c3, ?_⟩)
    · rw [sz]; exact hb1
    · rcases hl with z | z
      · exact .inl z
      · exact .inr (by rw [c4]; exact z)
  · exact wpAny_pure (hZ _ sb ⟨_, ds, _, t2, at1, hex, rfl, g1, nd1, m1, hb1, hf2, rfl, hr, hl⟩)
theorem setS_add {k : Str} {tk : Tok} {Z : Bool → Shared → Prop} (R : SetS w s.heap a M n) (room : n + 1 < scanBound)
    (hZ : ∀ b h' m, Heap.SameBut a s.heap h' → m ≤ n + 1 → SetS w h' a (fun j => M j ∨ j = k) m → Z b { s with heap := h' }) : wpAny (model P w) A (setAddHashed a (.str k tk) ((strKind P w).hash k)) Z E s := by
  obtain ⟨o, es, ep, t, ho, hex, hd, g, nd, hm, hb, hf, hn, hr, hl⟩ := R
  have isk : (strKind P w).is k (.str k tk) = true := is_tx k tk
  have sc : (Value.str k tk).scannable = true := rfl
  have el : ElemsOf (strKind P w) es.toList := tx_elems g
  unfold setAddHashed setAddHashedIn
  refine wpAny_holding (wpAny_bind (wpAny_setState_of ho hd hf ?_))
  dsimp only
  rw [byScan_of sc hb el]
  simp only [↓reduceIte]
  unfold setAddByScan
  refine wpAny_bind (wpAny_bind (wpAny_rule (wpAny_bind (wpAny_setScan_of isk ho hd hf el ?_))))
  cases hfi : List.findIdx? (fun e => (strKind P w).is k e.2) es.toList with
  | some j =>
    dsimp only
    obtain ⟨hj, pj, _⟩ := List.findIdx?_eq_some_iff_getElem.mp hfi
    have inM : M k := (hm k).mpr ((tx_mem (P := P) g k).mpr ⟨_, List.getElem_mem hj, pj⟩)
    refine wpAny_pure (wpAny_pure (hZ _ s.heap n (Heap.SameBut.refl a s.heap) (Nat.le_succ n) ⟨o, es, ep, t, ho, hex, hd, g, nd, fun i => ?_, hb, hf, hn, hr, hl⟩))
    rw [← hm i]
    exact ⟨fun z => z.elim id fun e => by rw [e]; exact inM, .inl⟩
  | none =>
    dsimp only
    have out : k ∉ es.toList.map txOf := by
      intro z
      obtain ⟨e, he, q⟩ := (tx_mem (P := P) g k).mp z
      have c := List.findIdx?_eq_none_iff.mp hfi e he
      rw [q] at c
      cases c
    have gw : ∀ (b : Bool) {u : Shared} {Y : Unit → Shared → Prop}, Y () u → wpAny (model P w) A (match b with | true => rule "set.scan.the-table-gave-way" | false => pure ()) Y E u := by
      intro b u Y q
      cases b
      · exact wpAny_pure q
      · exact wpAny_rule q
    have c1 := layNew_perm t es ((strKind P w).hash k) (.str k tk)
    have c2 := layNew_fits t es ((strKind P w).hash k) (.str k tk)
    have c3 := layNew_ris t es ((strKind P w).hash k) (.str k tk) hr
    have c4 := layNew_led t es ((strKind P w).hash k) (.str k tk)
    generalize layNew t es ((strKind P w).hash k) (.str k tk) = W at c1 c2 c3 c4 ⊢
    obtain ⟨ds, t1, dm, gv⟩ := W
    dsimp only at c1 c2 c3 c4 ⊢
    rw [Array.toList_push] at c1
    have pc : ds.toList.Perm (((strKind P w).hash k, Value.str k tk) :: es.toList) := c1.trans (List.perm_append_singleton _ _)
    have pk : (ds.toList.map txOf).Perm (k :: es.toList.map txOf) := pc.map txOf
    have g1 : ∀ e ∈ ds.toList, TxE w e := by
      intro e he
      rcases List.mem_cons.mp (pc.mem_iff.mp he) with z | z
      · rw [z]; exact ⟨k, tk, rfl, rfl⟩
      · exact g e z
    have n1 : (ds.toList.map txOf).Nodup := pk.nodup_iff.mpr (List.nodup_cons.mpr ⟨out, nd⟩)
    have m1 : ∀ i, (M i ∨ i = k) ↔ i ∈ ds.toList.map txOf := by
      intro i
      rw [hm i, pk.mem_iff, List.mem_cons]
      exact Or.comm
    have sz : ds.size = n + 1 := by rw [← Array.length_toList, pc.length_eq, List.length_cons, Array.length_toList, hn]
    have b1 : ds.size < scanBound := by rw [sz]; exact room
    have ld : w.params.followText "set-order" = true ∨ t1.led = true := by
      rcases hl with z | z
      · exact .inl z
      · exact .inr (by rw [c4]; exact z)
    have fin : ∀ h', Heap.SameBut a s.heap h' → SetS w h' a (fun j => M j ∨ j = k) ds.size → Z true { s with heap := h' } := fun h' sb r => hZ true h' _ sb (by omega) r
    refine wpAny_bind (gw _ ?_)
    split
    · refine wpAny_bind ?_
      rw [hashByValue_scannable 8 sc]
      refine wpAny_pure ?_
      refine setS_tail ?_ ho hex hd g1 n1 m1 b1 ?_ ?_ ?_ ?_
      · intro b u Y q
        cases b
        · exact wpAny_pure q
        · exact wpAny_rule q
      · first | (split <;> first | exact c2 | exact SetTable.fits_plain_off c2) | exact c2
      · first | (split <;> exact c3) | exact c3
      · first | (split <;> exact ld) | exact ld
      · intro h' sb r; dsimp only; exact wpAny_pure (fin h' sb r)
    · refine wpAny_bind (wpAny_pure ?_)
      simp only [↓reduceIte]
      refine setS_tail ?_ ho hex hd g1 n1 m1 b1 c2 c3 ld ?_
      · intro b u Y q
        cases b
        · exact wpAny_pure q
        · exact wpAny_rule q
      · intro h' sb r; dsimp only; exact wpAny_pure (fin h' sb r)
end
end Sx

/-! SxSu -/
namespace Sx
open PySem PySem.Spec PyProof.Rows L2
def SetM (w : World) (a : Addr) (M : Str → Prop) : HO := .ext fun h => ∃ n, n ≤ 2000 ∧ SetS w h a M n
theorem setM_ok {P : Program} {w : World} {H : Hp} {h : Heap} {a : Addr} {M : Str → Prop} {n : Nat} (R : SetS w h a M n) (hn : n ≤ 2000) : ObjOk P w H h a (SetM w a M) := by
  refine ⟨⟨n, hn, R⟩, ?_, fun h1 h2 p k => ?_⟩
  · obtain ⟨o, es, ep, t, ho, _⟩ := R
    exact ⟨o, ho⟩
  · obtain ⟨m, hm, R1⟩ := p
    exact ⟨m, hm, R1.at k⟩
section
variable {P : Program} {w : World} {A : Around} {E : Value → Shared → Prop} {s : Shared}
/-- the set is made, empty -/
theorem new1 (a : Value) {Z : Value → Shared → Prop} (h : Z (.ref s.heap.objs.size) { s with heap := s.heap.push { cls := .type "set", dict := none, data := .set #[] 0 (.fresh 0 0 (!w.params.followText "set-order")) } }) :
    codeAny (model P w) A (.call (.builtin "set.__new__") ⟨[.type "set", a], []⟩) (wants Z E) s := by
  refine codeAny_of_tree ?_
  show wpAny _ A.in1 (checkBuiltinCall "set.__new__" ⟨[.type "set", a], []⟩ >>= fun _ => again (.builtin "set.__new__" ⟨[.type "set", a], []⟩)) _ _ s
  refine wpAny_bind (wpAny_of_eq (F.newCall_set_1 a) (wpAny_pure ⟨plainId_quiet F.plain_set_new _, codeAny_builtin F.entry_set_new ?_⟩))
  rw [Around.under_plainId F.plain_set_new _]
  unfold Builtin.«set.__new__» Builtin.Frozenset.newClass
  have sub := sub_set_self
  obtain ⟨x1, x2, x3, x4, x5⟩ := s
  dsimp only
  wp_walk
  refine wpAny_askSetting (wpAny_pure ?_)
  dsimp only
  simp only [newObj]
  exact wpAny_bind (wpAny_alloc (wpAny_pure (wpAny_pure h)))
theorem fresh0 {h : Heap} (w : World) : SetS w (h.push { cls := .type "set", dict := none, data := .set #[] 0 (.fresh 0 0 (!w.params.followText "set-order")) }) h.objs.size (fun _ => False) 0 := by
  refine ⟨_, #[], 0, _, Heap.get?_push_size _ rfl, ⟨rfl, rfl, rfl⟩, rfl, fun e he => by simp at he, by simp, fun k => by simp, by decide, by rfl, rfl, List.Pairwise.nil, ?_⟩
  show _ ∨ (!w.params.followText "set-order") = true
  cases w.params.followText "set-order" with
  | true => exact .inl rfl
  | false => exact .inr rfl
theorem up_loop {R : Result → Shared → Prop} {I : Addr} {fp wr : List Addr} {G : Array GenState → Array GenState → Prop} {n : Nat} {Pv : Nat → Value → Prop} {St : Nat → Shared → Prop} (W : WalksS P w A.in1 I fp wr G n Pv St) (S : Addr) (hSf : S ∉ fp)
    (val : Nat → Str) (hval : ∀ i v, Pv i v → ∃ t, v = .str (val i) t) (hb : n + 1 < scanBound) : ∀ (k i : Nat) (s : Shared), n - i = k → i ≤ n → St i s → (∃ m, m ≤ i ∧ SetS w s.heap S (fun z => ∃ j, j < i ∧ val j = z) m) →
      (∀ s', Moved (S :: wr) G s s' → (∃ m, m ≤ n ∧ SetS w s'.heap S (fun z => ∃ j, j < n ∧ val j = z) m) → R (.ok (.ret .none)) s') → codeAny (model P w) A (.builtin "set.update.loop" ⟨[.ref S, .ref I], []⟩) R s := by
  have nw : S ∉ wr := fun h => hSf (W.sub _ h)
  have more : ∀ b ∈ wr, b ∈ S :: wr := fun b hb => List.mem_cons_of_mem _ hb
  intro k
  induction k with
  | zero =>
    intro i s hk hi st hS hR
    obtain rfl : i = n := by omega
    refine codeAny_builtin F.entry_set_update_loop ?_
    rw [Around.under_plainId F.plain_set_update_loop _]
    show wpAny _ A.in1 (pyNext (.ref I) >>= _) _ _ s
    refine wpAny_bind (W.done s _ _ st fun s' hm => ?_)
    show wpAny _ A.in1 (ret Value.none) _ _ s'
    obtain ⟨m, hm2, hS⟩ := hS
    exact wpAny_pure (hR s' (hm.mono more) ⟨m, hm2, hS.at fun o e => hm.heap S o nw e⟩)
  | succ k ih =>
    intro i s hk hi st hS hR
    have lt : i < n := by omega
    refine codeAny_builtin F.entry_set_update_loop ?_
    rw [Around.under_plainId F.plain_set_update_loop _]
    show wpAny _ A.in1 (pyNext (.ref I) >>= _) _ _ s
    refine wpAny_bind (W.item i s _ _ lt st fun v s' hP st' hm => ?_)
    obtain ⟨t, rfl⟩ := hval i v hP
    obtain ⟨m, hm2, hS⟩ := hS
    have hS' := hS.at (h' := s'.heap) fun o e => hm.heap S o nw e
    show wpAny _ A.in1 (holding [Value.str (val i) t] (setAdd S (.str (val i) t)) >>= _) _ _ s'
    refine wpAny_bind (wpAny_holding ?_)
    unfold setAdd
    refine wpAny_holding (wpAny_bind ((PySem.strKind P w).pyHash (k := val i) (is_tx _ _) ?_))
    refine setS_add (s := { s' with toks := s'.toks + 1 }) hS' (by omega) fun b h' m' sb lm R2 => ?_
    have R3 : SetS w h' S (fun z => ∃ j, j < i + 1 ∧ val j = z) m' := R2.eqv fun z => by
      constructor
      · rintro ⟨j, hj, e⟩
        rcases Nat.lt_or_ge j i with l | g
        · exact .inl ⟨j, l, e⟩
        · exact .inr (by rw [← e, show j = i by omega])
      · rintro (⟨j, hj, e⟩ | e)
        · exact ⟨j, by omega, e⟩
        · exact ⟨i, by omega, e.symm⟩
    refine wpAny_pure ⟨plainId_quiet F.plain_set_update_loop _, ih (i + 1) _ (by omega) lt (W.frame _ s' _ _ st' (Nat.le_succ _) fun c hc o e => ?_) ⟨m', by omega, R3⟩ fun s2 hm3 hS3 => hR s2 (Moved.trans W.gtrans ((hm.mono more).then_heap (Nat.le_succ _) fun c o hc e => ?_) hm3) hS3⟩
    · rw [sb.2 c (fun h : c = S => hSf (by rw [← h]; exact hc))]; exact e
    · rw [sb.2 c (fun h : c = S => hc (by rw [h]; exact List.mem_cons_self))]; exact e
/-- set(l) -/
theorem setTxt_list {l : Addr} {items : Array Value} {ns : List Str} {Q : Value → Shared → Prop} (hh : A.handled = none) (hl : s.heap.IsList l items) (hi : ∀ (i : Nat) v, items[i]? = some v → ∃ t, v = .str (ns.getD i "") t) (len : items.size = ns.length) (hb : items.size ≤ 2000)
    (h : ∀ (h' : Heap) (tk : Nat), (∃ m, m ≤ 2000 ∧ SetS w h' s.heap.objs.size (fun z => z ∈ ns) m) → (∀ b o, b < s.heap.objs.size → s.heap.get? b = some o → h'.get? b = some o) → Q (.ref s.heap.objs.size) { s with heap := h', toks := tk }) :
    wpAny (model P w) A (call (.type "set") [.ref l]) Q E s := by
  obtain ⟨c, tl, mro⟩ := F.called_set.mro
  have made := F.called_set.made
  have sub := F.called_set.sub
  refine wpAny_call (codeAny_of_tree ?_)
  show wpAny _ _ (callAny (.type "set") _) _ _ _
  refine wpAny_pure ⟨Code.quiet_builtin _ (by decide +kernel), codeAny_builtin F.entry_type_call ?_⟩
  rw [Around.under_plain (weight_type_call_type "set" [.ref l] []) rfl]
  have c1 := F.called_set.notType
  have c2 := F.called_set.canCreate
  have c3 := F.typeCall_set_1 (.ref l)
  repeat (any_goals (first | assumption | wp_step))
  refine codeAny_mono (new1 (.ref l) (E := E) (Z := fun obj u => obj = .ref s.heap.objs.size ∧ u = { s with heap := s.heap.push { cls := .type "set", dict := none, data := .set #[] 0 (.fresh 0 0 (!w.params.followText "set-order")) } }) ⟨rfl, rfl⟩) fun r u hr => ?_
  cases r with
  | error e => exact hr
  | ok fl =>
    cases fl with
    | ret obj =>
      obtain ⟨rfl, rfl⟩ := hr
      have R0 := fresh0 (h := s.heap) w
      have hS : (s.heap.push { cls := .type "set", dict := none, data := .set #[] 0 (.fresh 0 0 (!w.params.followText "set-order")) }).get? s.heap.objs.size = some { cls := .type "set", dict := none, data := .set #[] 0 (.fresh 0 0 (!w.params.followText "set-order")) } := Heap.get?_push_size _ rfl
      have hT : Shared.TypeIs { s with heap := s.heap.push { cls := .type "set", dict := none, data := .set #[] 0 (.fresh 0 0 (!w.params.followText "set-order")) } } (.ref s.heap.objs.size) "set" := ⟨_, hS, rfl⟩
      have i1 := F.called_set.init.lookup
      have i2 := F.called_set.init.bind (.ref s.heap.objs.size)
      have sz : (s.heap.push { cls := .type "set", dict := none, data := .set #[] 0 (.fresh 0 0 (!w.params.followText "set-order")) }).objs.size = s.heap.objs.size + 1 := Heap.size_push _ _
      have old : ∀ b o, s.heap.get? b = some o → (s.heap.push { cls := .type "set", dict := none, data := .set #[] 0 (.fresh 0 0 (!w.params.followText "set-order")) }).get? b = some o := fun b o e => Heap.get?_push_of_some _ e
      generalize s.heap.push { cls := .type "set", dict := none, data := .set #[] 0 (.fresh 0 0 (!w.params.followText "set-order")) } = h1 at R0 hS hT sz old ⊢
      repeat (any_goals (first | assumption | wp_step))
      refine codeAny_mono (codeAny_call_builtin (R := wants (fun r s₂ => r = .none ∧ ∃ h' tk, s₂ = { s with heap := h', toks := tk } ∧ (∃ m, m ≤ 2000 ∧ SetS w h' s.heap.objs.size (fun z => z ∈ ns) m) ∧
          (∀ b o, b < s.heap.objs.size → s.heap.get? b = some o → h'.get? b = some o)) E) F.called_set.init.plain F.entry_set_init (check_set_init_1 hT ?_)) fun r₂ s₂ hr₂ => ?_
      · obtain ⟨ol, hol, hcl, nl, hdl⟩ := hl
        obtain ⟨ocls, odict, odata, oslots⟩ := ol
        simp only at hcl hdl
        subst hcl
        subst hdl
        have hol' := old _ _ hol
        have s1 := F.sub_list_set
        have s2 := F.sub_list_frozenset
        have ne : (Value.type "list" == Value.type "dict") = false := by decide
        have hl1 : h1.IsList l items := ⟨_, hol', rfl, nl, rfl⟩
        unfold Builtin.«set.__init__» noKeywords Builtin.Frozenset.updateFrom
        generalize hPI : pyIter = PI
        wp_walk
        subst hPI
        refine wpAny_pyIter_list hl1 ?_
        refine wpAny_bind (wpAny_runValue ?_)
        have lS : l < s.heap.objs.size := Heap.lt_size hol
        have h3 : A.in1.in1.in1.handled = none := by simp [hh]
        have neI : l ≠ h1.objs.size := by rw [sz]; exact Nat.ne_of_lt (Nat.lt_succ_of_lt lS)
        have nf : s.heap.objs.size ∉ [h1.objs.size, l] := by
          rw [sz]
          simp only [List.mem_cons, List.mem_singleton, List.not_mem_nil, or_false, not_or]
          exact ⟨Nat.ne_of_lt (Nat.lt_succ_self _), Nat.ne_of_gt lS⟩
        refine up_loop ((Walks.list h3 _ l neI items).toS) s.heap.objs.size nf (fun i => ns.getD i "") hi (by unfold scanBound; omega) (items.size - 0) 0 _ (by omega) (Nat.zero_le _) ⟨⟨_, Heap.get?_push_size _ rfl, rfl, rfl⟩, (hl1.push _)⟩ ⟨0, Nat.le_refl _, ?_⟩ ?_
        · exact (R0.at fun o e => Heap.get?_push_of_some _ e).eqv fun k => ⟨fun ⟨j, hj, _⟩ => absurd hj (Nat.not_lt_zero _), False.elim⟩
        · intro s' hm ⟨m, lm, hS'⟩
          obtain ⟨h', g', d', tk', os'⟩ := s'
          have eg : g' = s.gens := hm.gens
          have ed : d' = s.drawn := hm.drawn
          have eo : os' = s.os := hm.os
          subst eg
          subst ed
          subst eo
          show wpAny _ _ _ _ _ _
          refine wpAny_pure ?_
          show wpAny _ _ (ret Value.none) _ _ _
          refine wpAny_pure ⟨rfl, h', tk', rfl, ⟨m, by omega, hS'.eqv fun k => ?_⟩, fun b o hb e => ?_⟩
          · rw [len]
            constructor
            · intro hk
              obtain ⟨j, hj, e⟩ := List.getElem_of_mem hk
              exact ⟨j, hj, by rw [← e, List.getD_eq_getElem?_getD, List.getElem?_eq_getElem hj]; rfl⟩
            · rintro ⟨j, hj, e⟩
              rw [← e, List.getD_eq_getElem?_getD, List.getElem?_eq_getElem hj]
              exact List.getElem_mem hj
          · refine hm.heap b o ?_ (Heap.get?_push_of_some _ (old _ _ e))
            simp only [List.mem_cons, List.mem_singleton, List.not_mem_nil, or_false, not_or]
            rw [sz]
            exact ⟨Nat.ne_of_lt hb, Nat.ne_of_lt (Nat.lt_succ_of_lt hb)⟩
      · cases r₂ with
        | error e => exact hr₂
        | ok fl₂ =>
          cases fl₂ with
          | ret r =>
            obtain ⟨rfl, h', tk, rfl, hS', hk'⟩ := hr₂
            repeat (any_goals (first | assumption | wp_step))
            exact h _ _ hS' hk'
          | _ => exact hr₂.elim
    | _ => exact hr.elim
end
section
variable {X : Cx}
/-- set(xs), xs a list of texts -/
def rSetT (K : PySem.W.Frag) (w : World) : List V → Hp → VK → Prop := fun vs H Q => ∃ (l : Addr) (xs : List Str), vs = [.ref l] ∧ SqL K H l (xs.map V.str) ∧ xs.length ≤ 2000 ∧ ∀ p, H p = none → Q (.ref p) (upd H p (SetM w p (· ∈ xs)))
theorem cr_setT (hc : X.calm = true) : CallR X (.type "set") (rSetT X.K X.w) := by
  intro pins s σ H vs us Q I r h
  obtain ⟨l, xs, rfl, hs, len, q⟩ := h
  rw [Vals.ref1 r]
  obtain ⟨its, rv, hl, hz⟩ := I.list hs
  have ln : its.length = xs.length := by rw [← rv.length, List.length_map]
  refine setTxt_list (ns := xs) (I.ok.hd hc) hl.isList (fun i v hv => ?_) (by rw [List.size_toArray]; exact ln) (by rw [List.size_toArray]; omega) fun h' tk ⟨m, lm, R⟩ kp => ?_
  · have hv' : its[i]? = some v := by simpa using hv
    have il : i < xs.length := by
      have := (List.getElem?_eq_some_iff.mp hv').1
      omega
    obtain ⟨y, hy, ry⟩ := Sx.paired_get rv (i := i) (x := V.str xs[i]) (by rw [List.getElem?_map, List.getElem?_eq_getElem il]; rfl)
    rw [hv'] at hy
    cases hy
    obtain ⟨t, e⟩ := ry
    refine ⟨t, ?_⟩
    rw [e, List.getD_eq_getElem?_getD, List.getElem?_eq_getElem il]
    rfl
  · exact ⟨.ref s.heap.objs.size, _, I.laid (t' := tk) (fun b o e => kp b o (Heap.lt_size e) e) (Nat.le_refl _) (setM_ok R lm), rfl, q _ (I.hok.fresh (Nat.le_refl _))⟩
/-- sorted of it -/
def rSortM (w : World) : List V → Hp → VK → Prop := fun vs H Q => ∃ (a : Addr) (M : Str → Prop), vs = [.ref a] ∧ H a = some (SetM w a M) ∧ ∀ (ys : List Str) (p : Addr), Up ltS ys → (∀ k, k ∈ ys ↔ M k) → H p = none → Q (.ref p) (upd H p (.lst (ys.map V.str)))
theorem cr_sortM (hc : X.calm = true) : CallR X (.builtin "sorted") (rSortM X.w) := by
  intro pins s σ H vs us Q I r h
  obtain ⟨a, M, rfl, ha, q⟩ := h
  obtain ⟨n, hn2, o, es, ep, t, ho, hex, hd, g, nd, hm, hb, hf, hn, hr, hl⟩ := (show ObjOk X.prog X.w H s.heap a (SetM X.w a M) from I.hok a _ ha).1
  rw [Vals.ref1 r]
  refine Calls.call_function_entry kind_sorted plain_sorted entry_sorted (args_sorted1 _) ?_
  unfold Builtin.«sorted»
  refine wpAny_bind (m := checkCount "sorted" 1 1 _) (wpAny_pure ?_)
  refine wpAny_bind (collect_set (A := X.A.in1) (I.ok.hd hc) ⟨o, ho, hex.1, hd⟩ hf hb hr hl fun s1 vs k1 hz g1 o1 pm => ?_)
  have tx : ∀ u ∈ vs, ∃ t, u = .str (sv u) t := fun u hu => by
    obtain ⟨e, he, eu⟩ := List.mem_map.mp (pm.mem_iff.mp hu)
    obtain ⟨x, t, e1, _⟩ := g e he
    refine ⟨t, ?_⟩
    rw [← eu, e1]
    rfl
  have svt : (es.toList.map (·.2)).map sv = es.toList.map txOf := by
    rw [List.map_map]
    refine List.map_congr_left fun e he => ?_
    obtain ⟨x, t, e1, _⟩ := g e he
    show sv e.2 = txOf e
    unfold txOf
    rw [e1]
    rfl
  have len : vs.length ≤ sizeLine := by
    rw [pm.length_eq, List.length_map, Array.length_toList, sizeLine_eq]
    omega
  refine wpAny_bind (wpAny_newList ?_ len)
  have hoL : (s1.heap.push (seqObj "list" vs.toArray 0)).get? s1.heap.objs.size = some (seqObj "list" vs.toArray 0) := Heap.get?_push_size _ rfl
  refine wpAny_bind (wpAny_holding (wpAny_call_entry slot_list_sort ⟨_, hoL, rfl⟩ entry_list_sort (SrtO.list_sort_ord (s := { s1 with heap := s1.heap.push (seqObj "list" vs.toArray 0) }) (swo_S sv) hoL len (fun h2 => txt_sortable h2 tx) fun out hs hb => ⟨_, rfl, ?_⟩) (args_list_sort _)))
  obtain ⟨c, hc'⟩ := sortedHeap_at (vs := vs) (out := out.toArray) hoL
  have po := hb.perm
  have e3 : ∀ u ∈ out, ∃ t, u = .str (sv u) t := fun u hu => tx u (po.mem_iff.mp hu)
  have pm2 : (out.map sv).Perm (es.toList.map txOf) := by
    rw [← svt]
    exact (po.trans pm).map sv
  have hn0 : H s1.heap.objs.size = none := I.hok.fresh hz
  have kk : ∀ b u, s.heap.get? b = some u → (sortedHeap (s1.heap.push (seqObj "list" vs.toArray 0)) s1.heap.objs.size vs out.toArray).get? b = some u := fun b u e => by
    have z := k1 b u e
    have lt := Heap.lt_size z
    rw [sortedHeap_old (Nat.ne_of_lt lt) (by rw [size_push']; exact Nat.lt_succ_of_lt lt)]
    exact Heap.get?_push_of_some _ z
  have blen : ((out.map sv).map V.str).length ≤ sizeLine := by
    rw [List.length_map, List.length_map, po.length_eq]
    exact len
  have back : Vals ((out.map sv).map V.str) out := by
    clear hs hb po pm2 kk blen hc'
    revert e3
    induction out with
    | nil => exact fun _ => .nil
    | cons u out ih =>
      intro e3
      refine .cons (e3 u List.mem_cons_self) (ih fun z hz => e3 z (List.mem_cons_of_mem _ hz))
  have J := I.call' (s' := { s1 with heap := sortedHeap (s1.heap.push (seqObj "list" vs.toArray 0)) s1.heap.objs.size vs out.toArray }) (ch := []) o1 (Un.laid kk hz hn0)
    (HOk.laid (o := .lst ((out.map sv).map V.str)) I.hok kk hz ⟨blen, out, c, back, by simpa using hc'⟩) (by rw [g1]; exact I.bare) (fun _ z => nomatch z)
  refine wpAny_pure ⟨_, rfl, .ref s1.heap.objs.size, _, J, rfl, q (out.map sv) s1.heap.objs.size (up_of totS (pm2.nodup_iff.mpr nd) (List.pairwise_map.mpr hs)) (fun k => ?_) hn0⟩
  rw [hm k, pm2.mem_iff]
end
end Sx

/-! SxTr -/
/-! t[::-1] of any tuple. -/
namespace Sx
open PySem PySem.Spec PyProof.Rows L2
theorem pick_all {α : Type} (L : List α) : ∀ n, n ≤ L.length → (List.range n).filterMap (fun i => L[i]?) = L.take n := by
  intro n
  induction n with
  | zero => exact fun _ => rfl
  | succ n ih =>
    intro hn
    rw [List.range_succ, List.filterMap_append, ih (Nat.le_of_lt hn), List.take_succ, List.getElem?_eq_getElem hn, List.filterMap_cons_some (List.getElem?_eq_getElem hn)]
    rfl
theorem fm_congr {α β : Type} {f g : α → Option β} : ∀ {l : List α}, (∀ m ∈ l, f m = g m) → l.filterMap f = l.filterMap g
  | [], _ => rfl
  | x :: l, h => by
    rw [List.filterMap_cons, List.filterMap_cons, h x List.mem_cons_self, fm_congr fun m hm => h m (List.mem_cons_of_mem _ hm)]
theorem pick_rev (its : List Value) : (List.range its.length).filterMap (fun (m : Nat) => its.toArray[((its.length : Int) - 1 + (m : Int) * -1).toNat]?) = its.reverse := by
  have e : (List.range its.length).filterMap (fun (m : Nat) => its.toArray[((its.length : Int) - 1 + (m : Int) * -1).toNat]?) = (List.range its.length).filterMap fun i => its.reverse[i]? := by
    refine fm_congr fun m hm => ?_
    have lt := List.mem_range.mp hm
    have i1 : ((its.length : Int) - 1 + (m : Int) * -1).toNat = its.length - 1 - m := by omega
    rw [i1, List.getElem?_toArray, List.getElem?_reverse lt]
  have l : its.length = its.reverse.length := List.length_reverse.symm
  rw [e, pick_all its.reverse its.length (by omega), l, List.take_length]
section
variable {prog : Program} {w : World} {A : Around} {E : Value → Shared → Prop} {s : Shared}
theorem applied_revN {sl : Addr} {vs : Value} {n : Nat} {Q : Int × Int × Nat → Shared → Prop} (hs : s.heap.IsSliceOf sl .none .none vs) (ps : IsPart vs (some (-1))) (h : Q ((n : Int) - 1, (-1 : Int), n) s) :
    wpAny (model prog w) A (Builtin.Slice.sliceApplied (.ref sl) (pure (n : Int))) Q E s := by
  obtain ⟨os, hos, hcs, hds⟩ := id hs
  unfold Builtin.Slice.sliceApplied Builtin.Slice.sliceFields
  refine wpAny_bind (wpAny_bind (wpAny_field hos hds (x := .none) rfl (wpAny_bind (wpAny_field hos hds (x := .none) rfl (wpAny_bind (wpAny_field hos hds (x := vs) rfl (wpAny_pure ?_)))))))
  refine wpAny_bind (HT.slicePart_ ps ?_)
  show wpAny _ _ (if ((-1 : Int) == 0) = true then _ else _) _ _ s
  rw [if_neg (by decide)]
  refine wpAny_bind (slicePart_none (wpAny_bind (slicePart_none (wpAny_bind (wpAny_pure ?_)))))
  refine wpAny_pure ?_
  have e : Builtin.Slice.slicePlaces ((n : Int) - 1) (-1) (-1) = n := by
    unfold Builtin.Slice.slicePlaces
    rw [if_neg (by decide)]
    by_cases h0 : (n : Int) - 1 > -1
    · rw [if_pos h0]
      have : (n : Int) - 1 - -1 - 1 = (n : Int) - 1 := by omega
      rw [this, show (-(-1 : Int)) = 1 from rfl, Int.ediv_one]
      omega
    · rw [if_neg h0]
      omega
  show Q ((n : Int) - 1, (-1 : Int), Builtin.Slice.slicePlaces ((n : Int) - 1) (-1) (-1)) s
  rw [e]
  exact h
theorem getItem_revN {t sl : Addr} {its : List Value} {vs : Value} {Q : Value → Shared → Prop} (ht : IsTup s.heap t its.toArray) (hz : its.length ≤ sizeLine) (hs : s.heap.IsSliceOf sl .none .none vs) (ps : IsPart vs (some (-1)))
    (h : Q (.ref s.heap.objs.size) { s with heap := s.heap.push { cls := .type "tuple", data := .seq its.reverse.toArray } }) : wpAny (model prog w) A (getItem (.ref t) (.ref sl)) Q E s := by
  obtain ⟨os, hos, hcs, hds⟩ := id hs
  have hTs : s.TypeIs (.ref sl) "slice" := ⟨os, hos, hcs⟩
  unfold getItem
  try with_reducible refine wpAny_holding ?_
  first | refine wpAny_bind (wpAny_pure ?_) | skip
  refine wpAny_bind (wpAny_sequenceKey ht.typeIs (by decide) ?_)
  refine wpAny_bind (wpAny_callSpecial?_slot (name := Str.ofString "__getitem__") ht.typeIs PyProof.Rows.slot_tuple_getitem
    (wpAny_call_entry PyProof.Rows.slot_tuple_getitem ht.typeIs entry_tuple_getitem ?_ (args_tuple_getitem _ _)))
  show wpAny _ _ (Builtin.Tuple.tupleItemsOf (.ref t) >>= _) _ _ s
  refine wpAny_bind (tupleItemsOf_ ht ?_)
  refine wpAny_bind (wpAny_typeOf hTs ?_)
  rw [if_pos (by decide)]
  have sz : its.toArray.size = its.length := List.size_toArray
  rw [sz]
  refine wpAny_bind (applied_revN hs ps ?_)
  have hno : ¬ (((its.length : Int) - 1 == 0 && (-1 : Int) == 1 && its.length == its.length) = true) := fun z => by
    have : ((-1 : Int) == 1) = false := by decide
    rw [this, Bool.and_false, Bool.false_and] at z
    cases z
  show wpAny _ _ (if (((its.length : Int) - 1 == 0 && (-1 : Int) == 1 && its.length == its.length) = true) then _ else _) _ _ s
  rw [if_neg hno, pick_rev]
  have hz2 : its.reverse.toArray.size ≤ sizeLine := by rw [List.size_toArray, List.length_reverse]; exact hz
  first
    | exact wpAny_bind (m := Builtin.Tuple.tupleExact _) (wpAny_newObj_type (wpAny_pure ⟨_, rfl, wpAny_pure h⟩) hz2)
    | exact wpAny_bind (m := Builtin.Tuple.tupleExact _) (wpAny_newObj_type (wpAny_bind (wpAny_pure (wpAny_pure ⟨_, rfl, wpAny_pure h⟩))) hz2)
end
def tRevN (K : PySem.W.Frag) (te : TE) : TE := fun σ H Q => te σ H fun x H1 => ∃ a xs, x = .ref a ∧ SqT K H1 a xs ∧ ∀ p, H1 p = none → Q (.ref p) (upd H1 p (.tup xs.reverse))
theorem vals_back2 {xs : List V} {its : List Value} (r : Vals xs its) : Vals xs.reverse its.reverse := by
  induction r with
  | nil => exact .nil
  | cons h _ ih =>
    rw [List.reverse_cons, List.reverse_cons]
    exact paired_snoc ih h
section
variable {X : Cx}
theorem pe_revN {e : Expr} {te : TE} {k : Nat} {p1 p2 p3 pos : Pos} (he : PE X e te) : PE X (.Subscript e (.Slice none none (some (.UnaryOp .USub (.Constant (.int 1) k p1) p2)) p3) pos) (tRevN X.K te) := by
  refine ⟨fun pins s σ H Q I h => ?_⟩
  refine Subscript_ (thn (he.run pins s σ H _ I h) fun v s1 ⟨x, H1, I1, r1, q1⟩ => ?_)
  obtain ⟨a, xs, ex, hx, q⟩ := q1
  subst ex
  cases r1
  have hst : PO X (some (.UnaryOp .USub (.Constant (.int 1) k p1) p2)) (tPart (tUn (rU fun i => .int (-i)) (tC (.int 1)))) := po_some (pe_un un_neg pe_int)
  refine wpAny_Slice (thn (po_none.run pins s1 σ H1 (fun o H2 => o = none ∧ H2 = H1) I1 ⟨rfl, rfl⟩) fun vl s2 ⟨l, H2, I2, pl, el, e2⟩ => ?_)
  subst el e2
  refine thn (po_none.run pins s2 σ H2 (fun o H3 => o = none ∧ H3 = H2) I2 ⟨rfl, rfl⟩) fun vu s3 ⟨u, H3, I3, pu, eu, e3⟩ => ?_
  subst eu e3
  refine thn (hst.run pins s3 σ H3 (fun o H4 => o = some (-1) ∧ H4 = H3) I3 ⟨1, rfl, -1, rfl, rfl, rfl⟩) fun vs s4 ⟨o, H4, I4, ps, eo, e4⟩ => ?_
  subst eo e4
  have I5 : Inv X pins σ H4 { s4 with heap := s4.heap.push { cls := .type "slice", data := .fields #[vl, vu, vs] } } := I4.kept (t' := s4.toks) fun b ob q => Heap.get?_push_of_some _ q
  obtain ⟨its, r, ht, hz⟩ := I5.tuple hx
  cases pl
  cases pu
  have hlen := r.length
  show wpAny (model X.prog X.w) X.A (subscriptTail e (.Slice none none (some (.UnaryOp .USub (.Constant (.int 1) k p1) p2)) p3) (.ref a) (.ref s4.heap.objs.size)) (EP X pins σ Q) X.xe { s4 with heap := s4.heap.push { cls := .type "slice", data := .fields #[.none, .none, vs] } }
  refine tail_any (ops := [.ref a, .ref s4.heap.objs.size]) ht.typeIs (PyProof.Rows.slot_tuple_getitem.lookup) ?_ (by with_unfolding_all rfl)
  refine getItem_revN ht (by rw [← hlen]; exact hz) (Heap.IsSliceOf.new _ .none .none vs) ps ?_
  refine ⟨.ref _, _, I5.laid (t' := s4.toks) (o := .tup xs.reverse) (fun b ob q => Heap.get?_push_of_some _ q) (Nat.le_refl _) ?_, rfl, q _ (I5.hok.fresh (Nat.le_refl _))⟩
  exact ⟨by rw [List.length_reverse]; exact hz, _, vals_back2 r, IsTup.new _ _⟩
end
end Sx

/-! CrA -/
namespace Sx
open PySem PySem.Spec PyProof.Rows L2
/-! ### numbers by texts -/
abbrev NRow := Str × Int
/-- the number that stands at k, 0 if none does -/
def getI : List NRow → Str → Int
  | [], _ => 0
  | z :: rs, k => if z.1 = k then z.2 else getI rs k
/-- n more at k -/
def addI (rs : List NRow) (k : Str) (n : Int) : List NRow :=
  if rs.any (fun z => decide (z.1 = k)) = true then rs.map fun z => if z.1 = k then (z.1, getI rs k + n) else z else rs ++ [(k, getI rs k + n)]
theorem getI_none {k : Str} : ∀ {rs : List NRow}, k ∉ rs.map (·.1) → getI rs k = 0
  | [], _ => rfl
  | z :: rs, h => by
    rw [List.map_cons, List.mem_cons, not_or] at h
    unfold getI
    rw [if_neg (Ne.symm h.1), getI_none h.2]
theorem getI_mem {k : Str} {n : Int} : ∀ {rs : List NRow}, (rs.map (·.1)).Nodup → (k, n) ∈ rs → getI rs k = n
  | z :: rs, nd, h => by
    rw [List.map_cons, List.nodup_cons] at nd
    unfold getI
    rcases List.mem_cons.mp h with e | m
    · rw [← e, if_pos rfl]
    · rw [if_neg (fun e => nd.1 (by rw [e]; exact List.mem_map.mpr ⟨_, m, rfl⟩))]
      exact getI_mem nd.2 m
theorem any_key {rs : List NRow} {k : Str} : rs.any (fun z => decide (z.1 = k)) = true ↔ k ∈ rs.map (·.1) := by
  rw [List.any_eq_true, List.mem_map]
  constructor
  · rintro ⟨z, h, e⟩
    exact ⟨z, h, of_decide_eq_true e⟩
  · rintro ⟨z, h, e⟩
    exact ⟨z, h, decide_eq_true e⟩
theorem addI_keys {rs : List NRow} {k : Str} {n : Int} : (addI rs k n).map (·.1) = if k ∈ rs.map (·.1) then rs.map (·.1) else rs.map (·.1) ++ [k] := by
  unfold addI
  by_cases h : k ∈ rs.map (·.1)
  · rw [if_pos (any_key.mpr h), if_pos h, List.map_map]
    refine List.map_congr_left fun z _ => ?_
    show (if z.1 = k then (z.1, getI rs k + n) else z).1 = z.1
    split <;> rfl
  · rw [if_neg (fun e => h (any_key.mp e)), if_neg h, List.map_append]
    rfl
theorem getI_app {k : Str} {m : NRow} : ∀ {rs : List NRow}, k ∉ rs.map (·.1) → getI (rs ++ [m]) k = if m.1 = k then m.2 else 0
  | [], _ => rfl
  | z :: rs, h => by
    rw [List.map_cons, List.mem_cons, not_or] at h
    show getI (z :: (rs ++ [m])) k = _
    unfold getI
    rw [if_neg (Ne.symm h.1)]
    exact getI_app h.2
theorem getI_app2 {k : Str} {m : NRow} (ne : m.1 ≠ k) : ∀ {rs : List NRow}, getI (rs ++ [m]) k = getI rs k
  | [] => by
    show (if m.1 = k then m.2 else 0) = 0
    rw [if_neg ne]
  | z :: rs => by
    show getI (z :: (rs ++ [m])) k = getI (z :: rs) k
    unfold getI
    split
    · rfl
    · exact getI_app2 ne
theorem getI_map {k j : Str} {c : Int} : ∀ {rs : List NRow}, getI (rs.map fun z => if z.1 = k then (z.1, c) else z) j = if j = k ∧ k ∈ rs.map (·.1) then c else getI rs j
  | [] => by simp [getI]
  | z :: rs => by
    have ih := getI_map (k := k) (j := j) (c := c) (rs := rs)
    rw [List.map_cons, List.map_cons]
    unfold getI
    by_cases e : z.1 = k
    · rw [if_pos e]
      by_cases f : z.1 = j
      · rw [if_pos f, if_pos ⟨f.symm.trans e, by rw [e]; exact List.mem_cons_self⟩]
      · rw [if_neg f, if_neg f, ih, if_neg (fun w => f (e.trans w.1.symm)), if_neg (fun w => f (e.trans w.1.symm))]
    · rw [if_neg e]
      by_cases f : z.1 = j
      · rw [if_pos f, if_pos f, if_neg (fun w => e (f.trans w.1))]
      · rw [if_neg f, if_neg f, ih]
        by_cases g : j = k ∧ k ∈ rs.map (·.1)
        · rw [if_pos g, if_pos ⟨g.1, List.mem_cons_of_mem _ g.2⟩]
        · rw [if_neg g, if_neg (fun w => g ⟨w.1, (List.mem_cons.mp w.2).elim (fun q => absurd q.symm e) id⟩)]
theorem getI_add {rs : List NRow} {k j : Str} {n : Int} : getI (addI rs k n) j = getI rs j + if j = k then n else 0 := by
  unfold addI
  by_cases h : k ∈ rs.map (·.1)
  · rw [if_pos (any_key.mpr h), getI_map]
    by_cases e : j = k
    · rw [if_pos ⟨e, h⟩, if_pos e, e]
    · rw [if_neg (fun w => e w.1), if_neg e, Int.add_zero]
  · rw [if_neg (fun e => h (any_key.mp e))]
    by_cases e : j = k
    · rw [e, getI_app h, if_pos rfl, if_pos rfl]
    · rw [getI_app2 (Ne.symm e), if_neg e, Int.add_zero]
theorem addI_nodup {rs : List NRow} {k : Str} {n : Int} (h : (rs.map (·.1)).Nodup) : ((addI rs k n).map (·.1)).Nodup := by
  rw [addI_keys]
  split
  · exact h
  · rename_i hk
    refine List.nodup_append.mpr ⟨h, by simp, fun a ha b hb => ?_⟩
    rw [List.mem_singleton.mp hb]
    intro e
    exact hk (by rw [← e]; exact ha)
theorem addI_mem {rs : List NRow} {k j : Str} {n : Int} : j ∈ (addI rs k n).map (·.1) ↔ j ∈ rs.map (·.1) ∨ j = k := by
  rw [addI_keys]
  split
  · rename_i hk
    exact ⟨.inl, fun h => h.elim id fun e => by rw [e]; exact hk⟩
  · rw [List.mem_append, List.mem_singleton]
theorem addI_len {rs : List NRow} {k : Str} {n : Int} : (addI rs k n).length ≤ rs.length + 1 := by
  have e := congrArg List.length (addI_keys (rs := rs) (k := k) (n := n))
  rw [List.length_map] at e
  rw [e]
  split
  · rw [List.length_map]; omega
  · rw [List.length_append, List.length_map]; exact Nat.le_refl _
/-- all of ms more -/
def addAll (rs ms : List NRow) : List NRow := ms.foldl (fun rs m => addI rs m.1 m.2) rs
theorem addAll_snoc (rs ms : List NRow) (m : NRow) : addAll rs (ms ++ [m]) = addI (addAll rs ms) m.1 m.2 := by
  unfold addAll
  rw [List.foldl_append]
  rfl
theorem addAll_nodup {rs : List NRow} (h : (rs.map (·.1)).Nodup) : ∀ ms : List NRow, ((addAll rs ms).map (·.1)).Nodup := fun ms => by
  induction ms generalizing rs with
  | nil => exact h
  | cons m ms ih => exact ih (addI_nodup h)
theorem addAll_mem {j : Str} : ∀ {ms rs : List NRow}, j ∈ (addAll rs ms).map (·.1) ↔ j ∈ rs.map (·.1) ∨ j ∈ ms.map (·.1)
  | [], rs => by simp [addAll]
  | m :: ms, rs => by
    show j ∈ (addAll (addI rs m.1 m.2) ms).map (·.1) ↔ _
    rw [addAll_mem, addI_mem, List.map_cons, List.mem_cons, or_assoc]
theorem addAll_len {rs : List NRow} : ∀ {ms : List NRow}, (addAll rs ms).length ≤ rs.length + ms.length := fun {ms} => by
  induction ms generalizing rs with
  | nil => exact Nat.le_refl _
  | cons m ms ih =>
    have a := ih (rs := addI rs m.1 m.2)
    have b := addI_len (rs := rs) (k := m.1) (n := m.2)
    show (addAll (addI rs m.1 m.2) ms).length ≤ _
    rw [List.length_cons]
    omega
def sumAt (ms : List NRow) (j : Str) : Int := (ms.map fun m => if m.1 = j then m.2 else 0).sum
theorem getI_addAll {j : Str} : ∀ {ms rs : List NRow}, getI (addAll rs ms) j = getI rs j + sumAt ms j
  | [], rs => by simp [addAll, sumAt]
  | m :: ms, rs => by
    show getI (addAll (addI rs m.1 m.2) ms) j = _
    rw [getI_addAll, getI_add]
    have e : sumAt (m :: ms) j = (if m.1 = j then m.2 else 0) + sumAt ms j := by
      unfold sumAt
      rw [List.map_cons, List.sum_cons]
    rw [e, Int.add_assoc]
    congr 1
    congr 1
    by_cases h : j = m.1
    · rw [if_pos h, if_pos h.symm]
    · rw [if_neg h, if_neg (Ne.symm h)]
/-- a crowd: the keys of rs, ascending, each with its number -/
def crowdM (rs : List NRow) : List NRow := (srt ltS (rs.map (·.1))).map fun k => (k, getI rs k)
theorem crowd_is {rs zs : List NRow} (nd : (rs.map (·.1)).Nodup) (pm : zs.Perm rs) (pw : zs.Pairwise fun x y => ltKI y x = false) : zs = crowdM rs := by
  have ndz : (zs.map (·.1)).Nodup := ((pm.map (·.1)).nodup_iff).mpr nd
  have up : Up ltS (zs.map (·.1)) := by
    refine List.pairwise_map.mpr ?_
    have nz : zs.Pairwise fun x y => x.1 ≠ y.1 := List.pairwise_map.mp ndz
    refine (List.pairwise_and_iff.mpr ⟨pw, nz⟩).imp fun {x y} h => ?_
    obtain ⟨h1, h2⟩ := h
    unfold ltKI at h1
    rw [if_neg (Ne.symm h2)] at h1
    rcases ltS_tri x.1 y.1 with a | a | a
    · exact a
    · exact absurd a h2
    · rw [a] at h1; cases h1
  have ek : zs.map (·.1) = srt ltS (rs.map (·.1)) := up_one totS up (up_srt totS _) fun z => by rw [mem_srt totS, (pm.map (·.1)).mem_iff]
  unfold crowdM
  rw [← ek, List.map_map]
  have all : ∀ z ∈ zs, z = (z.1, getI rs z.1) := fun z hz => by
    have m : (z.1, z.2) ∈ rs := pm.mem_iff.mp hz
    rw [getI_mem nd m]
  exact (List.map_id zs).symm.trans (List.map_congr_left fun z hz => all z hz)
/-! the dict of them -/
theorem val_ki {k : Str} : ∀ {rs : List NRow}, (valV (rs.map kiE) (Sum.inr k)).getD (.int 0) = .int (getI rs k)
  | [] => rfl
  | z :: rs => by
    have ih := val_ki (k := k) (rs := rs)
    unfold valV at ih ⊢
    rw [List.map_cons]
    unfold getI
    by_cases e : z.1 = k
    · rw [if_pos e]
      have f : (kiE z).1 = Sum.inr k := congrArg Sum.inr e
      rw [List.find?_cons_of_pos (by exact decide_eq_true f)]
      rfl
    · rw [if_neg e]
      have f : ¬ (kiE z).1 = Sum.inr k := fun w => e (Sum.inr.inj w)
      rw [List.find?_cons_of_neg (by simpa using f)]
      exact ih
theorem put_ki {rs : List NRow} {k : Str} {n : Int} : putK (rs.map kiE) (Sum.inr k) (.int (getI rs k + n)) = (addI rs k n).map kiE := by
  unfold putK addI
  have e : ((rs.map kiE).any fun kv => decide (kv.1 = (Sum.inr k : Key))) = rs.any fun z => decide (z.1 = k) := by
    rw [List.any_map]
    congr 1
    funext z
    show decide ((Sum.inr z.1 : Key) = Sum.inr k) = decide (z.1 = k)
    exact decide_eq_decide.mpr ⟨fun h => Sum.inr.inj h, fun h => congrArg Sum.inr h⟩
  rw [e]
  split
  · rw [List.map_map, List.map_map]
    refine List.map_congr_left fun z _ => ?_
    show (if (Sum.inr z.1 : Key) = Sum.inr k then ((Sum.inr z.1 : Key), V.int (getI rs k + n)) else kiE z) = kiE (if z.1 = k then (z.1, getI rs k + n) else z)
    by_cases h : z.1 = k
    · rw [if_pos h, if_pos (congrArg Sum.inr h)]
    · rw [if_neg h, if_neg fun w => h (Sum.inr.inj w)]
  · rw [List.map_append]
    rfl
/-- a crowd stands at t: a tuple of pairs -/
def CwAt (K : PySem.W.Frag) (H : Hp) (t : Addr) (zs : List NRow) : Prop := ∃ ts : List Addr, SqT K H t (ts.map V.ref) ∧ Paired (fun u (z : NRow) => SqT K H u [.str z.1, .int z.2]) ts zs
theorem CwAt.same {K : PySem.W.Frag} {H H' : Hp} {t : Addr} {zs : List NRow} (s : Same H H') : CwAt K H t zs → CwAt K H' t zs := fun ⟨ts, h1, h2⟩ => ⟨ts, sqT_same s h1, paired_imp (fun _ _ h => sqT_same s h) h2⟩
def onesOf (L : List Str) : List NRow := L.map fun k => (k, 1)
def spCrowdOf (K : PySem.W.Frag) : Sp := fun vs H Q _ => ∃ (a : Addr) (L : List Str), vs = [.ref a] ∧ Sq K H a (L.map V.str) ∧ L.length ≤ 1000 ∧ ∀ t H', Same H H' → CwAt K H' t (crowdM (addAll [] (onesOf L))) → Q (.ref t) H'
section
variable {P : Program} {w : World} {K : PySem.W.Frag} {mg : Str → Option Value} {base : Heap}
abbrev sCrowdOf : Stmt := top 14
abbrev nCrowdOf : List Str := ["kinds", "found", "kind"]
theorem scCrowdOf : FnScope nCrowdOf ["kinds"] (defScope sCrowdOf) := ⟨rfl, rfl, rfl, by decide +kernel, rfl, by decide +kernel, by decide +kernel⟩
theorem ok_crowdOf {f : Addr} {fd : FuncData} {dvs : List V} (F : FunD K "crowd_of" "crowd_of" (defArgs sCrowdOf) (defBody sCrowdOf) (defScope sCrowdOf) dvs [] f fd) (B : Blt mg) : FnOk P w K mg base CX0 1 f fd ["kinds"] (spCrowdOf K) := by
  refine F.ok scCrowdOf (fun vs H Q E h => ?_) (fun cdv A outer s H vs Q E hr h => ?_)
  · obtain ⟨a, L, rfl, _⟩ := h
    rfl
  · obtain ⟨a, L, rfl, hx, l1, q⟩ := h
    have hu := hu_of hr
    refine ⟨_, (pss_cons (ps_set (i := 1) scCrowdOf.nd rfl (Or.inl rfl) pe_dnewK)
      (Evl.pss_cut (ps_for PassesOwn.never rfl (pi_sq (pv 0)) (pg_name (i := 2) scCrowdOf.nd rfl (Or.inl rfl))
        (pss_one (ps_dput hu (pv 1) (pv 2) (pe_op op_add (pe_dget2 hu (pv 1) (pv 2) pe_int ⟨rfl, rfl, rfl, rfl⟩) pe_int) rfl)))
      (pss_one (ps_ret (pe_callTy (r := rTupOf K) cr_tupOf (by rfl) B.tuple bt_tuple (pa_cons (pe_callB (cr_sortIt2 rfl) (by rfl) B.sorted bt_sorted (pa_cons (pe_bm0 PySem.F.plainAttrs_dict PySem.F.slot_dict_items PySem.F.type_dict_items mt_itemsK (pv 1)) pa_nil)) pa_nil)))))).nox, ?_⟩
    intro d hd
    refine ⟨fun σ' H' => ∃ v2, σ' = [some (.ref a), some (.ref d), v2] ∧ Same H H' ∧ H' d = some (.dK ((addAll [] (onesOf L)).map kiE)), ?_, ?_⟩
    · refine for_sq (i := 0) (Hx := H) rfl hx (fun i σ' H' => ∃ v2, σ' = [some (.ref a), some (.ref d), v2] ∧ Same H H' ∧ H' d = some (.dK ((addAll [] (onesOf (L.take i))).map kiE)))
        ⟨none, rfl, Sx.Same.new hd, upd_same⟩ (fun i σ' H' ⟨_, _, S, _⟩ => S) ?_ ?_
      · rintro i x σ' H' hi ⟨v2, rfl, S, hd'⟩
        rw [List.getElem?_map] at hi
        obtain ⟨k, hk, rfl⟩ := Option.map_eq_some_iff.mp hi
        have e : addAll [] (onesOf (L.take (i + 1))) = addI (addAll [] (onesOf (L.take i))) k 1 := by
          rw [take_snoc hk]
          unfold onesOf
          rw [List.map_append]
          exact addAll_snoc _ _ (k, 1)
        have len : (addAll [] (onesOf (L.take i))).length ≤ 1000 := by
          refine Nat.le_trans addAll_len ?_
          unfold onesOf
          rw [List.length_map, List.length_take, List.length_nil]
          omega
        refine ⟨_, rfl, d, rfl, .inl ⟨_, .inl hd'⟩, _, rfl, _, DGet.k (k := Sum.inr k) hd', ?_⟩
        rw [val_ki]
        refine ⟨_, _, rfl, rfl, _, rfl, _, rfl, d, _, rfl, DPut.k (k := Sum.inr k) hd' (by rw [List.length_map, sizeLine_eq]; omega), ?_⟩
        refine ⟨_, rfl, Sx.Same.mut S hd, ?_⟩
        rw [upd_same, e, put_ki]
      · rintro σ' H' ⟨v2, rfl, S, hd'⟩
        rw [List.length_map, List.take_length] at hd'
        exact ⟨v2, rfl, S, hd'⟩
    rintro σ' H' ⟨v2, rfl, S, hd'⟩
    have len : (addAll [] (onesOf L)).length ≤ 1000 := by
      refine Nat.le_trans addAll_len ?_
      unfold onesOf
      rw [List.length_map, List.length_nil]
      omega
    refine ⟨_, rfl, .inr (.inr (.inl ⟨rfl, .inl ⟨_, hd'⟩⟩)), d, _, rfl, rfl, hd', fun p hp => ?_⟩
    have S1 : Same H' (upd H' p (DX.itemsO p d)) := Sx.Same.new hp
    refine ⟨p, d, _, rfl, upd_same, S1 _ _ hd', by omega, fun H2 l ts zs S2 pm pw hl hz => ?_⟩
    refine ⟨l, _, rfl, .inl ⟨SqL.of hl, fun t ht => ?_⟩⟩
    have S3 : Same H2 (upd H2 t (.tup (ts.map V.ref))) := Sx.Same.new ht
    refine q t _ (S.trans (S1.trans (S2.trans S3))) ⟨ts, SqT.of upd_same, ?_⟩
    rw [← crowd_is (addAll_nodup (rs := []) List.nodup_nil _) pm pw]
    exact paired_imp (fun u z h => SqT.of (S3 _ _ h)) hz
end
end Sx

/-! CrB -/
namespace Sx
open PySem PySem.Spec PyProof.Rows L2
abbrev kiV (z : NRow) : V × V := (.str z.1, .int z.2)
theorem CwAt.pr {K : PySem.W.Frag} {H : Hp} {t : Addr} {zs : List NRow} (h : CwAt K H t zs) : PrAt K H t kiV zs := by
  obtain ⟨ts, h1, h2⟩ := h
  exact ⟨ts, .inr h1, paired_imp (fun _ _ z => .inr z) h2⟩
theorem put_new {rs : List NRow} {k : Str} {n : Int} (h : k ∉ rs.map (·.1)) : putK (rs.map kiE) (Sum.inr k) (.int n) = (rs ++ [(k, n)]).map kiE := by
  have e := put_ki (rs := rs) (k := k) (n := n)
  rw [getI_none h, Int.zero_add] at e
  rw [e]
  unfold addI
  rw [if_neg (fun w => h (any_key.mp w)), getI_none h, Int.zero_add]
theorem new_at {rs : List NRow} (nd : (rs.map (·.1)).Nodup) {i : Nat} {z : NRow} (h : rs[i]? = some z) : z.1 ∉ (rs.take i).map (·.1) := by
  intro m
  obtain ⟨y, hy, e⟩ := List.mem_map.mp m
  obtain ⟨j, hj⟩ := List.mem_iff_getElem?.mp hy
  have jl : j < (rs.take i).length := (List.getElem?_eq_some_iff.mp hj).1
  rw [List.length_take] at jl
  have hj2 : rs[j]? = some y := by
    rw [List.getElem?_take_of_lt (by omega)] at hj
    exact hj
  have a : (rs.map (·.1))[j]? = some z.1 := by rw [List.getElem?_map, hj2]; exact congrArg some e
  have b : (rs.map (·.1))[i]? = some z.1 := by rw [List.getElem?_map, h]; rfl
  have := nd_ix nd a b
  omega
def spTogether (K : PySem.W.Frag) : Sp := fun vs H Q _ => ∃ (a b : Addr) (xs ys : List NRow), vs = [.ref a, .ref b] ∧ PrAt K H a kiV xs ∧ PrAt K H b kiV ys ∧ (xs.map (·.1)).Nodup ∧ xs.length ≤ 1000 ∧ ys.length ≤ 1000 ∧
  ∀ t H', Same H H' → CwAt K H' t (crowdM (addAll xs ys)) → Q (.ref t) H'
def spJobs (K : PySem.W.Frag) : Sp := fun vs H Q _ => ∃ (a : Addr) (xs : List NRow), vs = [.ref a] ∧ PrAt K H a kiV xs ∧ xs.length ≤ 1000 ∧ ∀ H', Same H H' → Q (.int (xs.map (·.2)).sum) H'
section
variable {P : Program} {w : World} {K : PySem.W.Frag} {mg : Str → Option Value} {base : Heap}
abbrev sTogether : Stmt := top 15
abbrev nTogether : List Str := ["one", "other", "found", "kind", "number"]
theorem scTogether : FnScope nTogether ["one", "other"] (defScope sTogether) := ⟨rfl, rfl, rfl, by decide +kernel, rfl, by decide +kernel, by decide +kernel⟩
theorem ok_together {f : Addr} {fd : FuncData} {dvs : List V} (F : FunD K "together" "together" (defArgs sTogether) (defBody sTogether) (defScope sTogether) dvs [] f fd) (B : Blt mg) : FnOk P w K mg base CX0 1 f fd ["one", "other"] (spTogether K) := by
  refine F.ok scTogether (fun vs H Q E h => ?_) (fun cdv A outer s H vs Q E hr h => ?_)
  · obtain ⟨a, b, xs, ys, rfl, _⟩ := h
    rfl
  · obtain ⟨a, b, xs, ys, rfl, hx, hy, nd, lx, ly, q⟩ := h
    have hu := hu_of hr
    refine ⟨_, (pss_cons (ps_setDc (i := 2) (own := [("kind", 3), ("number", 4)]) (g := gSq K 2 (g2 3 4)) (tt := tYes) rfl scTogether.nd rfl rfl (swD rfl rfl rfl (by decide +kernel)) (pi_sq (pv 0)) (blkOk_by (N := nTogether) (sc := defScope sTogether) (by decide +kernel))
          (fun _ _ _ _ _ => pg_sq rfl (pgs_cons (pg_name (i := 3) scTogether.nd rfl (Or.inl rfl)) (pgs_cons (pg_name (i := 4) scTogether.nd rfl (Or.inl rfl)) pgs_nil))) (fun _ _ _ _ _ => pts_nil) (fun _ _ _ _ _ => pv 3) (fun _ _ _ _ _ => pv 4))
      (Evl.pss_cut (ps_for PassesOwn.never rfl (pi_sq (pv 1)) (pg_sq (n := 2) rfl (pgs_cons (pg_name (i := 3) scTogether.nd rfl (Or.inl rfl)) (pgs_cons (pg_name (i := 4) scTogether.nd rfl (Or.inl rfl)) pgs_nil)))
        (pss_one (ps_dput hu (pv 2) (pv 3) (pe_op op_add (pe_dget2 hu (pv 2) (pv 3) pe_int ⟨rfl, rfl, rfl, rfl⟩) (pv 4)) rfl)))
      (pss_one (ps_ret (pe_callTy (r := rTupOf K) cr_tupOf (by rfl) B.tuple bt_tuple (pa_cons (pe_callB (cr_sortIt2 rfl) (by rfl) B.sorted bt_sorted (pa_cons (pe_bm0 PySem.F.plainAttrs_dict PySem.F.slot_dict_items PySem.F.type_dict_items mt_itemsK (pv 2)) pa_nil)) pa_nil)))))).nox, ?_⟩
    obtain ⟨tx, hx1, hx2⟩ := hx
    obtain ⟨ty, hy1, hy2⟩ := hy
    unfold tSeq tAsg
    show tDc _ _ _ _ _ _ _ _ _
    refine dc_sq (i := 0) (Hx := H) rfl hx1 Sx.same_id (fun D j H' => H D = none ∧ Same H H' ∧ H' D = some (.dK ((xs.take j).map kiE))) (fun D hD => ⟨hD, Sx.Same.new hD, upd_same⟩) (fun D j H' h => h.2.1) ?_ ?_
    · rintro D j x H' hj ⟨hD, S, hd⟩
      rw [List.getElem?_map] at hj
      obtain ⟨t, ht, rfl⟩ := Option.map_eq_some_iff.mp hj
      obtain ⟨z, hz, hp⟩ := paired_get hx2 ht
      refine gSq_of (Sq.same S hp) ⟨rfl, ?_⟩
      refine ⟨_, rfl, _, rfl, _, Sum.inr z.1, rfl, hd, ?_, hD, Sx.Same.mut S hD, ?_⟩
      · rw [List.length_map, List.length_take, sizeLine_eq]; omega
      · rw [upd_same, put_new (new_at nd hz), take_snoc hz]
    · rintro d H1 hd ⟨_, S1, hd1⟩
      have lxx : tx.length = xs.length := Paired.length hx2
      rw [List.length_map, lxx, List.take_length] at hd1
      refine ⟨fun σ' H' => ∃ v3 v4, σ' = [some (.ref a), some (.ref b), some (.ref d), v3, v4] ∧ Same H H' ∧ H' d = some (.dK ((addAll xs ys).map kiE)), ?_, ?_⟩
      · refine for_sq (i := 1) (Hx := H) rfl hy1 (fun i σ' H' => ∃ v3 v4, σ' = [some (.ref a), some (.ref b), some (.ref d), v3, v4] ∧ Same H H' ∧ H' d = some (.dK ((addAll xs (ys.take i)).map kiE)))
          ⟨none, none, rfl, S1, hd1⟩ (fun i σ' H' ⟨_, _, _, S, _⟩ => S) ?_ ?_
        · rintro i x σ' H' hi ⟨v3, v4, rfl, S, hd'⟩
          rw [List.getElem?_map] at hi
          obtain ⟨t, ht, rfl⟩ := Option.map_eq_some_iff.mp hi
          obtain ⟨z, hz, hp⟩ := paired_get hy2 ht
          have e : addAll xs (ys.take (i + 1)) = addI (addAll xs (ys.take i)) z.1 z.2 := by
            rw [take_snoc hz]
            exact addAll_snoc _ _ z
          have len : (addAll xs (ys.take i)).length ≤ 2000 := by
            refine Nat.le_trans addAll_len ?_
            rw [List.length_take]
            omega
          refine gSq_of (Sq.same S hp) ⟨_, rfl, d, rfl, .inl ⟨_, .inl hd'⟩, _, rfl, _, DGet.k (k := Sum.inr z.1) hd', ?_⟩
          rw [val_ki]
          refine ⟨_, rfl, _, _, rfl, rfl, _, rfl, _, rfl, d, _, rfl, DPut.k (k := Sum.inr z.1) hd' (by rw [List.length_map, sizeLine_eq]; omega), ?_⟩
          refine ⟨_, _, rfl, Sx.Same.mut S hd, ?_⟩
          rw [upd_same, e, put_ki]
        · rintro σ' H' ⟨v3, v4, rfl, S, hd'⟩
          rw [List.length_map, Paired.length hy2, List.take_length] at hd'
          exact ⟨v3, v4, rfl, S, hd'⟩
      rintro σ' H' ⟨v3, v4, rfl, S, hd'⟩
      have len : (addAll xs ys).length ≤ 2000 := Nat.le_trans addAll_len (by omega)
      refine ⟨_, rfl, .inr (.inr (.inl ⟨rfl, .inl ⟨_, hd'⟩⟩)), d, _, rfl, rfl, hd', fun p hp => ?_⟩
      have S1 : Same H' (upd H' p (DX.itemsO p d)) := Sx.Same.new hp
      refine ⟨p, d, _, rfl, upd_same, S1 _ _ hd', by omega, fun H2 l ts zs S2 pm pw hl hz => ?_⟩
      refine ⟨l, _, rfl, .inl ⟨SqL.of hl, fun t ht => ?_⟩⟩
      have S3 : Same H2 (upd H2 t (.tup (ts.map V.ref))) := Sx.Same.new ht
      refine q t _ (S.trans (S1.trans (S2.trans S3))) ⟨ts, SqT.of upd_same, ?_⟩
      rw [← crowd_is (addAll_nodup nd _) pm pw]
      exact paired_imp (fun u z h => SqT.of (S3 _ _ h)) hz
abbrev sJobs : Stmt := top 16
abbrev nJobs : List Str := ["crowd", "_", "number"]
theorem scJobs : FnScope nJobs ["crowd"] (defScope sJobs) := ⟨rfl, rfl, rfl, by decide +kernel, rfl, by decide +kernel, by decide +kernel⟩
theorem ok_jobs {f : Addr} {fd : FuncData} {dvs : List V} (F : FunD K "jobs_in" "jobs_in" (defArgs sJobs) (defBody sJobs) (defScope sJobs) dvs [] f fd) (B : Blt mg) (ms : mg "sum" = none) : FnOk P w K mg base CX0 1 f fd ["crowd"] (spJobs K) := by
  refine F.ok scJobs (fun vs H Q E h => ?_) (fun cdv A outer s H vs Q E hr h => ?_)
  · obtain ⟨a, xs, rfl, _⟩ := h
    rfl
  · obtain ⟨a, xs, rfl, hx, lx, q⟩ := h
    refine ⟨_, (pss_one (ps_ret (pe_callB (r := rSum K) (cr_sum rfl) (by rfl) ms (by decide +kernel) (pa_cons (pe_lc (own := [("_", 1), ("number", 2)]) (g := gSq K 2 (g2 1 2)) (tt := tYes) rfl scJobs.nd (pi_sq (pv 0)) (blkOk_by (N := nJobs) (sc := defScope sJobs) (by decide +kernel))
          (fun _ _ _ _ _ => pg_sq rfl (pgs_cons (pg_name (i := 1) scJobs.nd rfl (Or.inl rfl)) (pgs_cons (pg_name (i := 2) scJobs.nd rfl (Or.inl rfl)) pgs_nil))) (fun _ _ _ _ _ => pts_nil) (fun _ _ _ _ _ => pv 2)) pa_nil)))).nox, ?_⟩
    obtain ⟨tx, hx1, hx2⟩ := hx
    unfold tRet tCB tCons
    show tLc _ _ _ _ _ _ _ _
    refine lc_valsS (i := 0) rfl (fun z : NRow => V.int z.2) (fun _ => true) hx1 (paired_refs hx2) (by rw [List.length_map, Paired.length hx2]; omega) (fun x z hz ⟨t, ex, hp⟩ H' S => ?_) (fun D H' hD S hl => ?_)
    · subst ex
      exact ⟨[some (.ref a), some (.str z.1), some (.int z.2)], rfl, fun Q h => h _ Sx.same_id, fun _ H2 S2 Q h => ⟨_, rfl, h _ Sx.same_id⟩, fun k h => gSq_of (Sq.same S hp) h⟩
    · have e : (xs.filter fun _ => true) = xs := List.filter_eq_self.mpr fun _ _ => rfl
      rw [e] at hl
      refine ⟨D, xs.map (·.2), rfl, SqL.of (by rw [hl, List.map_map]; rfl), q _ S⟩
end
end Sx

/-! CrC -/
namespace Sx
open PySem PySem.Spec PyProof.Rows L2
/-! ### what a datum is -/
def tyD : PyData → String
  | .none => "NoneType"
  | .bool _ => "bool"
  | .int _ => "int"
  | .str _ => "str"
  | .list _ => "list"
  | .tuple _ => "tuple"
  | .dict _ => "dict"
def isTup : PyData → Bool
  | .tuple _ => true
  | _ => false
def isNum : PyData → Bool
  | .int _ => true
  | _ => false
theorem tyx_dp {K : PySem.W.Frag} {H : Hp} {x : V} {d : PyData} (h : Dp K H x d) : TyX K H x (.type (tyD d)) := by
  cases h with
  | non => exact .base .non
  | bl b => exact .base (.bl b)
  | int i => exact .base (.int i)
  | str x => exact .base (.str x)
  | lst h _ => exact tyx_list h
  | tup h _ => exact tyx_tup h
theorem kit_tup : ∀ d : PyData, kitB (tyD d) "tuple" = some (isTup d)
  | .none => by show kitB "NoneType" "tuple" = some false; decide +kernel
  | .bool _ => by show kitB "bool" "tuple" = some false; decide +kernel
  | .int _ => by show kitB "int" "tuple" = some false; decide +kernel
  | .str _ => by show kitB "str" "tuple" = some false; decide +kernel
  | .list _ => by show kitB "list" "tuple" = some false; decide +kernel
  | .tuple _ => by show kitB "tuple" "tuple" = some true; decide +kernel
  | .dict _ => by show kitB "dict" "tuple" = some false; decide +kernel
def isInt : PyData → Bool
  | .int _ => true
  | .bool _ => true
  | _ => false
def isBool : PyData → Bool
  | .bool _ => true
  | _ => false
theorem kit_int : ∀ d : PyData, kitB (tyD d) "int" = some (isInt d)
  | .none => by show kitB "NoneType" "int" = some false; decide +kernel
  | .bool _ => by show kitB "bool" "int" = some true; decide +kernel
  | .int _ => by show kitB "int" "int" = some true; decide +kernel
  | .str _ => by show kitB "str" "int" = some false; decide +kernel
  | .list _ => by show kitB "list" "int" = some false; decide +kernel
  | .tuple _ => by show kitB "tuple" "int" = some false; decide +kernel
  | .dict _ => by show kitB "dict" "int" = some false; decide +kernel
theorem kit_bool : ∀ d : PyData, kitB (tyD d) "bool" = some (isBool d)
  | .none => by show kitB "NoneType" "bool" = some false; decide +kernel
  | .bool _ => by show kitB "bool" "bool" = some true; decide +kernel
  | .int _ => by show kitB "int" "bool" = some false; decide +kernel
  | .str _ => by show kitB "str" "bool" = some false; decide +kernel
  | .list _ => by show kitB "list" "bool" = some false; decide +kernel
  | .tuple _ => by show kitB "tuple" "bool" = some false; decide +kernel
  | .dict _ => by show kitB "dict" "bool" = some false; decide +kernel
theorem isi_dp {K : PySem.W.Frag} {H : Hp} {x : V} {d : PyData} {T : String} {b : Bool} {Q : VK} (h : Dp K H x d) (k : kitB (tyD d) T = some b) (q : Q (.bl b) H) : rIsi K [x, .ty T] H Q := ⟨x, .ty T, .type (tyD d), .type T, b, rfl, .ty T, tyx_dp h, kit_ty k, q⟩
/-! ### which data are crowds -/
def isPr : PyData → Bool
  | .tuple [_, _] => true
  | _ => false
def goodP (ks : List Str) : PyData → Bool
  | .tuple [.str k, .int n] => decide (k ∈ ks) && decide (0 < n)
  | _ => false
def keyD : PyData → Str
  | .tuple (.str k :: _) => k
  | _ => ""
def risesM : List Str → Bool
  | x :: y :: r => ltS x y && risesM (y :: r)
  | _ => true
def crowdD (ks : List Str) : PyData → Bool
  | .tuple ds => ds.all (goodP ks) && risesM (ds.map keyD)
  | _ => false
theorem rises_at : ∀ L : List Str, risesM L = (List.range (L.length - 1)).all fun i => ltS (L.getD i "") (L.getD (i + 1) "")
  | [] => rfl
  | [x] => rfl
  | x :: y :: r => by
    show (ltS x y && risesM (y :: r)) = _
    rw [rises_at (y :: r)]
    show _ = (List.range (r.length + 1)).all _
    rw [List.range_succ_eq_map, List.all_cons, List.all_map]
    rfl
theorem good_pr {ks : List Str} {d : PyData} (h : goodP ks d = true) : isPr d = true := by
  unfold goodP at h
  split at h
  · rfl
  · cases h
def spNum (K : PySem.W.Frag) : Sp := fun vs H Q _ => ∃ (x : V) (d : PyData), vs = [x] ∧ Dp K H x d ∧ Q (.bl (isNum d)) H
def spRises (K : PySem.W.Frag) : Sp := fun vs H Q _ => ∃ (a : Addr) (L : List Str), vs = [.ref a] ∧ SqL K H a (L.map V.str) ∧ L.length ≤ 1000 ∧ ∀ H', Same H H' → Q (.bl (risesM L)) H'
def inD (ks : List Str) : PyData → Bool
  | .str k => decide (k ∈ ks)
  | _ => false
theorem inD_is (ks : List Str) (d : PyData) : ((ks.map sD).any fun z => PyData.eqv z d) = inD ks d := by
  induction ks with
  | nil => cases d <;> simp [inD]
  | cons k ks ih =>
    rw [List.map_cons, List.any_cons, ih]
    cases d with
    | str x =>
      have e : PyData.eqv (sD k) (.str x) = (k == x) := by simp only [sD, PyData.eqv]
      rw [e]
      simp only [inD]
      by_cases h : k = x
      · subst h; simp
      · have h2 : ¬ x = k := fun z => h z.symm
        simp [h, h2]
    | _ => simp [inD, sD, PyData.eqv]
def spIn (K : PySem.W.Frag) (C : Addr) : Sp := fun vs H Q _ => ∃ (p : Addr) (x : V) (ks : List Str) (cs : List (Str × Str)) (d : PyData), vs = [.ref p, x] ∧ BookAt K C H p ks cs ∧ Oks ks ∧ Dp K H x d ∧ SeqAt.shaped d = true ∧ Q (.bl (inD ks d)) H
section
variable {P : Program} {w : World} {K : PySem.W.Frag} {mg : Str → Option Value} {base : Heap}
abbrev sNum : Stmt := top 4
theorem scNum : FnScope ["thing"] ["thing"] (defScope sNum) := ⟨rfl, rfl, rfl, by decide +kernel, rfl, by decide +kernel, by decide +kernel⟩
theorem ok_num {f : Addr} {fd : FuncData} {dvs : List V} (F : FunD K "is_number" "is_number" (defArgs sNum) (defBody sNum) (defScope sNum) dvs [] f fd) (B : Blt mg) : FnOk P w K mg base CX0 1 f fd ["thing"] (spNum K) := by
  refine F.ok scNum (fun vs H Q E h => ?_) (fun cdv A outer s H vs Q E hr h => ?_)
  · obtain ⟨x, d, rfl, _⟩ := h
    rfl
  · obtain ⟨x, d, rfl, hx, q⟩ := h
    refine ⟨_, (pss_one (ps_ret (pe_and (pe_callB call_isi (by rfl) B.isinstance bt_isinstance (pa_cons (pv 0) (pa_cons (pe_bltn (v := .ty "int") (by rfl) B.int bt_int rfl) pa_nil))) (pe_one (pe_not (pe_callB call_isi (by rfl) B.isinstance bt_isinstance (pa_cons (pv 0) (pa_cons (pe_bltn (v := .ty "bool") (by rfl) B.bool bt_bool rfl) pa_nil)))))))).nox, ?_⟩
    refine ⟨x, rfl, x, .ty "int", .type (tyD d), .type "int", _, rfl, .ty "int", tyx_dp hx, kit_ty (kit_int d), _, rfl, ?_⟩
    cases d with
    | int i => exact iteT ⟨x, rfl, x, .ty "bool", .type "int", .type "bool", _, rfl, .ty "bool", tyx_dp hx, kit_ty (kit_bool (.int i)), _, rfl, q⟩
    | bool b => exact iteT ⟨x, rfl, x, .ty "bool", .type "bool", .type "bool", _, rfl, .ty "bool", tyx_dp hx, kit_ty (kit_bool (.bool b)), _, rfl, q⟩
    | _ => exact iteF q
abbrev sIn : Stmt := inClass cBook 7
theorem scIn : FnScope ["self", "kind"] ["self", "kind"] (defScope sIn) := ⟨rfl, rfl, rfl, by decide +kernel, rfl, by decide +kernel, by decide +kernel⟩
theorem ok_in {f C : Addr} {fd : FuncData} {dvs : List V} (F : FunD K "__contains__" "Book.__contains__" (defArgs sIn) (defBody sIn) (defScope sIn) dvs [] f fd) (T : TB K mg C) : FnOk P w K mg base CX0 1 f fd ["self", "kind"] (spIn K C) := by
  refine F.ok scIn (fun vs H Q E h => ?_) (fun cdv A outer s H vs Q E hr h => ?_)
  · obtain ⟨p, x, ks, cs, d, rfl, _⟩ := h
    rfl
  · obtain ⟨p, x, ks, cs, d, rfl, ⟨dx, ak, ac, an, kvs, ts, hp, hak, hac, hts, han, hin, hout⟩, ok, hd, sd, q⟩ := h
    have hu : (A.deeper (envOfC "Book.__contains__" (defScope sIn) s.heap.objs.size f cdv)).units + 65 < cLine := by have := hr.un; omega
    refine ⟨_, (pss_one (ps_ret (pe_cmpR (r := rInD K) (op_inD hu) (pv 1) (pe_fld (pv 0) rfl) (by rfl)))).nox, ?_⟩
    refine ⟨x, rfl, _, rfl, p, C, dx, _, _, rfl, hp, T.cl, T.nK, bkF_kinds _ _ _, d, ks.map sD, hd, dp_tup hak, sd, shp_t ks ok, ?_⟩
    rw [inD_is]
    exact q
abbrev sRises : Stmt := top 13
abbrev nRises : List Str := ["rows", "at"]
theorem scRises : FnScope nRises ["rows"] (defScope sRises) := ⟨rfl, rfl, rfl, by decide +kernel, rfl, by decide +kernel, by decide +kernel⟩
theorem ok_rises {f : Addr} {fd : FuncData} {dvs : List V} (F : FunD K "_rises" "_rises" (defArgs sRises) (defBody sRises) (defScope sRises) dvs [] f fd) (B : Blt mg) : FnOk P w K mg base CX0 1 f fd ["rows"] (spRises K) := by
  refine F.ok scRises (fun vs H Q E h => ?_) (fun cdv A outer s H vs Q E hr h => ?_)
  · obtain ⟨a, L, rfl, _⟩ := h
    rfl
  · obtain ⟨a, L, rfl, hx, lx, q⟩ := h
    refine ⟨_, (pss_one (ps_ret (pe_callB (cr_all rfl) (by rfl) B.all bt_all (pa_cons (pe_lc (own := [("at", 1)]) (g := gName 1) (tt := tYes) rfl scRises.nd (pi_range1 (by rfl) B.range (pa_cons (pe_op op_sub (pe_callB call_len_seq (by rfl) B.len PySem.boot_len (pa_cons (pv 0) pa_nil)) pe_int) pa_nil)) (blkOk_by (N := nRises) (sc := defScope sRises) (by decide +kernel)) (fun _ _ _ _ _ => pg_name (i := 1) scRises.nd rfl (Or.inl rfl)) (fun _ _ _ _ _ => pts_nil)
      (fun _ _ _ _ _ => pe_cmpR op_lt_str (pe_ix (r := rIxL K) ix_list (pv 0) (pv 1) (fun _ _ => rfl)) (pe_ix (r := rIxL K) ix_list (pv 0) (pe_op op_add (pv 1) pe_int) (fun _ _ => rfl)) (nomark _))) pa_nil)))).nox, ?_⟩
    refine ⟨_, rfl, a, _, rfl, .inl hx, _, _, rfl, rfl, _, rfl, ?_⟩
    rw [List.length_map]
    refine ⟨by omega, by omega, ?_⟩
    have e : ((L.length : Int) - 1).toNat = L.length - 1 := by omega
    rw [e]
    let bs : List Bool := (List.range (L.length - 1)).map fun i => ltS (L.getD i "") (L.getD (i + 1) "")
    refine lc_walkR (n := L.length - 1) (vs := [1]) (σ := [some (.ref a), none]) (fun D i H' => Same H H' ∧ H' D = some (.lst (((List.range i).map fun i => ltS (L.getD i "") (L.getD (i + 1) "")).map V.bl))) (fun D hD => ⟨Sx.Same.new hD, upd_same⟩) ?_ ?_
    · rintro D i x H' ⟨hi, rfl⟩ hD ⟨s, hd⟩
      have at_ : ∀ j, j < L.length → atI (L.map V.str) ((j : Nat) : Int) = some (.str (L.getD j "")) := fun j hj => by
        refine atI_nat ?_
        rw [List.getElem?_map, List.getElem?_eq_getElem hj, List.getD_eq_getElem?_getD, List.getElem?_eq_getElem hj]
        rfl
      have a1 := at_ i (by omega)
      have a2 := at_ (i + 1) (by omega)
      refine ⟨rfl, _, rfl, _, rfl, a, _, _, _, rfl, rfl, Same.seq s hx, by rw [Int.zero_add]; exact a1, _, rfl, _, rfl, _, _, rfl, rfl, a, _, _, _, rfl, rfl, Same.seq s hx, by rw [Int.zero_add]; exact a2, _, _, rfl, rfl, _, hd, ?_, Sx.Same.mut s hD, ?_⟩
      · rw [List.length_map, List.length_map, List.length_range, sizeLine_eq]
        omega
      · rw [upd_same, List.range_succ, List.map_append, List.map_append]
        rfl
    · rintro D H' hD ⟨s, hd⟩
      refine ⟨D, bs, rfl, SqL.of hd, ?_⟩
      have ea : bs.all id = risesM L := by
        rw [rises_at, List.all_map]
        rfl
      rw [ea]
      exact q _ s
end
end Sx

/-! CrD -/
namespace Sx
open PySem PySem.Spec PyProof.Rows L2
theorem dps_pair {K : PySem.W.Frag} {H : Hp} : ∀ {xs : List V} {ds : List PyData}, DpAll K H xs ds → Paired (fun x z => Dp K H x z) xs ds
  | _, _, .nil => .nil
  | _, _, .cons h t => .cons h (dps_pair t)
theorem lay_mem2 : ∀ {ds : List PyData} {d : PyData}, PyData.canLayAll0 ds = true → d ∈ ds → d.canLay0 = true ∧ d.depth ≤ PyData.depthAll ds
  | x :: ds, d, a, h => by
    simp only [PyData.canLayAll0, Bool.and_eq_true] at a
    simp only [PyData.depthAll]
    rcases List.mem_cons.mp h with e | e
    · rw [e]; exact ⟨a.1, by omega⟩
    · have := lay_mem2 a.2 e
      exact ⟨this.1, by omega⟩
/-- laid, not deep, not wide -/
structure Fit (d : PyData) : Prop where
  lay : d.canLay0 = true
  deep : d.depth ≤ 60
theorem Fit.tup {ds : List PyData} (h : Fit (.tuple ds)) : ∀ z ∈ ds, Fit z := fun z hz => by
  have a := h.lay
  have b := h.deep
  simp only [PyData.canLay0] at a
  simp only [PyData.depth] at b
  have := lay_mem2 a hz
  exact ⟨this.1, by omega⟩
theorem Fit.shp {d : PyData} (h : Fit d) : SeqAt.shaped d = true := Sx.shp h.lay (by have := h.deep; omega)
def rLn (K : PySem.W.Frag) : List V → Hp → VK → Prop := fun xs H Q => ∃ p ys, xs = [.ref p] ∧ (SqL K H p ys ∨ SqT K H p ys) ∧ Q (.int ys.length) H
theorem cr_ln {X : Cx} : CallR X (.builtin "len") (rLn X.K) := call_len_seq
def spIsCrowd (K : PySem.W.Frag) (C : Addr) : Sp := fun vs H Q _ => ∃ (p : Addr) (x : V) (ks : List Str) (cs : List (Str × Str)) (d : PyData), vs = [.ref p, x] ∧ BookAt K C H p ks cs ∧ Oks ks ∧ Dp K H x d ∧ Fit d ∧ (∀ ds, d = .tuple ds → ds.length ≤ 1000) ∧ ∀ H', Same H H' → Q (.bl (crowdD ks d)) H'
theorem inD_key {ks : List Str} {k n : PyData} : (inD ks k && (isNum n && (match n with | .int i => decide (0 < i) | _ => false))) = goodP ks (.tuple [k, n]) := by
  cases k <;> cases n <;> simp [inD, isNum, goodP]
section
variable {P : Program} {w : World} {K : PySem.W.Frag} {mg : Str → Option Value} {base : Heap}
abbrev sIsCrowd : Stmt := top 12
abbrev nIsCrowd : List Str := ["book", "thing", "pair", "kind", "number", "_"]
theorem scIsCrowd : FnScope nIsCrowd ["book", "thing"] (defScope sIsCrowd) := ⟨rfl, rfl, rfl, by decide +kernel, rfl, by decide +kernel, by decide +kernel⟩
theorem ok_isCrowd {f C : Addr} {fd : FuncData} {dvs : List V} (F : FunD K "is_crowd" "is_crowd" (defArgs sIsCrowd) (defBody sIsCrowd) (defScope sIsCrowd) dvs [] f fd) (B : Blt mg) (GN : FnG P w K mg base "is_number" 1 ["thing"] (spNum K)) (GR : FnG P w K mg base "_rises" 1 ["rows"] (spRises K))
    (GI : MtG P w K mg base C "__contains__" 1 ["self", "kind"] (spIn K C)) : FnOk P w K mg base CX0 2 f fd ["book", "thing"] (spIsCrowd K C) := by
  refine F.ok scIsCrowd (fun vs H Q E h => ?_) (fun cdv A outer s H vs Q E hr h => ?_)
  · obtain ⟨p, x, ks, cs, d, rfl, _⟩ := h
    rfl
  · obtain ⟨p, x, ks, cs, d, rfl, Bk, ok, hd, ft, len, q⟩ := h
    have hr1 : Room 1 (A.deeper (envOfC "is_crowd" (defScope sIsCrowd) s.heap.objs.size f cdv)) := hr.mono (by decide)
    refine ⟨_, (pss_cons (ps_if (PW.pt (pw_or (pt_not (pt_val (pe_callB call_isi (by rfl) B.isinstance bt_isinstance (pa_cons (pv 1) (pa_cons (pe_bltn (v := .ty "tuple") (by rfl) B.tuple bt_tuple rfl) pa_nil)))))
          (pw_or1 (pt_not (pt_val (pe_callB (cr_all rfl) (by rfl) B.all bt_all (pa_cons (pe_lc (own := [("pair", 2)]) (g := gName 2) (tt := tYes) rfl scIsCrowd.nd (pi_tup (pv 1)) (blkOk_by (N := nIsCrowd) (sc := defScope sIsCrowd) (by decide +kernel)) (fun _ _ _ _ _ => pg_name (i := 2) scIsCrowd.nd rfl (Or.inl rfl)) (fun _ _ _ _ _ => pts_nil)
            (fun _ _ _ _ _ => pe_and (pe_callB (r := rIsi K) call_isi (by rfl) B.isinstance bt_isinstance (pa_cons (pv 2) (pa_cons (pe_bltn (v := .ty "tuple") (by rfl) B.tuple bt_tuple rfl) pa_nil))) (pe_one (pe_cmpR op_eq (pe_callB (r := rLn K) cr_ln (by rfl) B.len PySem.boot_len (pa_cons (pv 2) pa_nil)) pe_int (nomark _))))) pa_nil)))))))
        (pss_one (ps_ret pe_bl)) pss_nil)
      (pss_cons (ps_if (pt_not (pt_val (pe_callB (cr_all rfl) (by rfl) B.all bt_all (pa_cons (pe_lc (own := [("kind", 3), ("number", 4)]) (g := gTup K 2 (g2 3 4)) (tt := tYes) rfl scIsCrowd.nd (pi_tup (pv 1)) (blkOk_by (N := nIsCrowd) (sc := defScope sIsCrowd) (by decide +kernel)) (fun _ _ _ _ _ => pg_tup rfl (pgs_cons (pg_name (i := 3) scIsCrowd.nd rfl (Or.inl rfl)) (pgs_cons (pg_name (i := 4) scIsCrowd.nd rfl (Or.inl rfl)) pgs_nil))) (fun _ _ _ _ _ => pts_nil)
            (fun _ _ _ _ _ => pe_and (pe_cmpR (r := rInOwn C (spIn K C)) (op_inOwn GI hr1) (pv 3) (pv 0) (by rfl)) (pe_and (pe_g GN hr1 (pa_cons (pv 4) pa_nil)) (pe_one (pe_cmpR op_gt (pv 4) pe_int (nomark _)))))) pa_nil))))
        (pss_one (ps_ret pe_bl)) pss_nil)
      (pss_one (ps_ret (pe_g GR hr1 (pa_cons (pe_lc (own := [("kind", 3), ("_", 5)]) (g := gTup K 2 (g2 3 5)) (tt := tYes) rfl scIsCrowd.nd (pi_tup (pv 1)) (blkOk_by (N := nIsCrowd) (sc := defScope sIsCrowd) (by decide +kernel)) (fun _ _ _ _ _ => pg_tup rfl (pgs_cons (pg_name (i := 3) scIsCrowd.nd rfl (Or.inl rfl)) (pgs_cons (pg_name (i := 5) scIsCrowd.nd rfl (Or.inl rfl)) pgs_nil))) (fun _ _ _ _ _ => pts_nil)
            (fun _ _ _ _ _ => pv 3)) pa_nil)))))).nox, ?_⟩
    refine ⟨x, rfl, x, .ty "tuple", .type (tyD d), .type "tuple", _, rfl, .ty "tuple", tyx_dp hd, kit_ty (kit_tup d), _, rfl, ?_⟩
    cases hd with
    | @tup a xs ds hsq hds =>
      have lz : xs.length ≤ 1000 := by rw [dps_len hds]; exact len ds rfl
      have pr := dps_pair hds
      have allT : ∀ (zs : List PyData), (zs.filter fun _ => true) = zs := fun zs => List.filter_eq_self.mpr fun _ _ => rfl
      refine iteF ?_
      refine ⟨_, rfl, a, rfl, ⟨_, hsq⟩, ?_⟩
      refine lc_valsT (f := fun z => V.bl (isPr z)) (c := fun _ => true) hsq pr (by omega) (fun y z hz hy H' S => ?_) (fun D H1 hD S1 hl => ?_)
      · refine ⟨[some (.ref p), some (.ref a), some y, none, none, none], rfl, fun Q h => h _ Sx.same_id, fun _ H2 S2 Q h => ?_, fun k h => h⟩
        have hy2 : Dp K H2 y z := dp_same (S.trans S2) z hy
        refine ⟨y, rfl, y, .ty "tuple", .type (tyD z), .type "tuple", _, rfl, .ty "tuple", tyx_dp hy2, kit_ty (kit_tup z), _, rfl, ?_⟩
        have h2 := h H2 Sx.same_id
        cases hy2 with
        | @tup b ys es hs he =>
          refine iteT ⟨_, rfl, b, ys, rfl, .inr hs, rfl, ?_⟩
          have e : decide (V.int (ys.length : Int) = V.int 2) = isPr (.tuple es) := by
            rw [dec_int, dps_len he]
            match es with
            | [] => rfl
            | [_] => rfl
            | [_, _] => rfl
            | _ :: _ :: _ :: r =>
              show _ = false
              rw [beq_eq_false_iff_ne]
              simp only [List.length_cons]
              omega
          rw [e]
          exact h2
        | _ => exact iteF h2
      rw [allT] at hl
      refine ⟨D, ds.map isPr, rfl, SqL.of (by rw [hl, List.map_map]; rfl), _, rfl, ?_⟩
      have e1 : (ds.map isPr).all id = ds.all isPr := by rw [List.all_map]; rfl
      rw [e1]
      cases hp : ds.all isPr with
      | false =>
        have e : crowdD ks (.tuple ds) = false := by
          show (ds.all (goodP ks) && risesM (ds.map keyD)) = _
          cases hg : ds.all (goodP ks) with
          | false => rfl
          | true =>
            rw [List.all_eq_true] at hg
            have : ds.all isPr = true := by
              rw [List.all_eq_true]
              exact fun z hz => good_pr (hg z hz)
            rw [this] at hp
            cases hp
        rw [e] at q
        exact iteT (q _ S1)
      | true =>
        refine iteF ?_
        have pr2 : ∀ z ∈ ds, ∃ k n, z = .tuple [k, n] := fun z hz => by
          have := (List.all_eq_true.mp hp) z hz
          unfold isPr at this
          split at this
          · exact ⟨_, _, rfl⟩
          · cases this
        refine ⟨_, rfl, a, rfl, ⟨_, sqT_same S1 hsq⟩, ?_⟩
        refine lc_valsT (f := fun z => V.bl (goodP ks z)) (c := fun _ => true) (sqT_same S1 hsq) pr (by omega) (fun y z hz hy H' S => ?_) (fun D2 H2 hD2 S2 hl2 => ?_)
        · obtain ⟨kd, nd, rfl⟩ := pr2 z hz
          obtain ⟨b, u, v, rfl, hs, hu, hv⟩ : ∃ b u v, y = V.ref b ∧ SqT K H b [u, v] ∧ Dp K H u kd ∧ Dp K H v nd := by
            cases hy with
            | @tup b ys es hs he =>
              cases he with
              | cons h1 he =>
                cases he with
                | cons h2 he =>
                  cases he
                  exact ⟨_, _, _, rfl, hs, h1, h2⟩
          refine ⟨[some (.ref p), some (.ref a), none, some u, some v, none], rfl, fun Q h => h _ Sx.same_id, fun _ H3 S3 Q h => ?_, fun k h => ⟨b, _, rfl, sqT_same (S1.trans S) hs, rfl, u, _, rfl, v, _, rfl, rfl, h⟩⟩
          have S4 := S1.trans (S.trans S3)
          have sk : SeqAt.shaped kd = true := ((ft.tup _ hz).tup kd (by simp)).shp
          obtain ⟨dx, Bk'⟩ : ∃ dx, ∃ ak ac an, H3 p = some (.ins C dx (bkF ak ac an)) := by
            obtain ⟨dx, ak, ac, an, kvs, ts, hp, _⟩ := Bk
            exact ⟨dx, ak, ac, an, S4 _ _ hp⟩
          obtain ⟨ak, ac, an, hpp⟩ := Bk'
          refine ⟨u, rfl, _, rfl, p, dx, _, rfl, hpp, p, u, ks, cs, kd, rfl, Bk.same S4, ok, dp_same S4 kd hu, sk, _, rfl, _, rfl, ?_⟩
          have hq := h H3 Sx.same_id
          rw [← inD_key] at hq
          cases hi : inD ks kd with
          | false =>
            rw [hi] at hq
            exact iteF hq
          | true =>
            rw [hi] at hq
            refine iteT ⟨v, rfl, v, nd, rfl, dp_same S4 nd hv, _, rfl, ?_⟩
            cases hv with
            | int i => exact iteT ⟨_, rfl, _, _, rfl, rfl, hq⟩
            | _ => exact iteF hq
        rw [allT] at hl2
        refine ⟨D2, ds.map (goodP ks), rfl, SqL.of (by rw [hl2, List.map_map]; rfl), _, rfl, ?_⟩
        have e2 : (ds.map (goodP ks)).all id = ds.all (goodP ks) := by rw [List.all_map]; rfl
        rw [e2]
        cases hg : ds.all (goodP ks) with
        | false =>
          have e : crowdD ks (.tuple ds) = false := by
            show (ds.all (goodP ks) && risesM (ds.map keyD)) = _
            rw [hg]
            rfl
          rw [e] at q
          exact iteT (q _ (S1.trans S2))
        | true =>
          refine iteF ?_
          have S12 := S1.trans S2
          have gd : ∀ z ∈ ds, ∃ k n, z = .tuple [.str k, .int n] := fun z hz => by
            have := (List.all_eq_true.mp hg) z hz
            unfold goodP at this
            split at this
            · exact ⟨_, _, rfl⟩
            · cases this
          refine ⟨_, rfl, a, rfl, ⟨_, sqT_same S12 hsq⟩, ?_⟩
          refine lc_valsT (f := fun z => V.str (keyD z)) (c := fun _ => true) (sqT_same S12 hsq) pr (by omega) (fun y z hz hy H' S => ?_) (fun D3 H3 hD3 S3 hl3 => ?_)
          · obtain ⟨kd, nd, rfl⟩ := gd z hz
            obtain ⟨b, rfl, hs⟩ : ∃ b, y = V.ref b ∧ SqT K H b [.str kd, .int nd] := by
              cases hy with
              | @tup b ys es hs he =>
                cases he with
                | cons h1 he =>
                  cases he with
                  | cons h2 he =>
                    cases he
                    cases h1
                    cases h2
                    exact ⟨_, rfl, hs⟩
            exact ⟨[some (.ref p), some (.ref a), none, some (.str kd), none, some (.int nd)], rfl, fun Q h => h _ Sx.same_id, fun _ H4 S4 Q h => ⟨_, rfl, h _ Sx.same_id⟩, fun k h => ⟨b, _, rfl, sqT_same (S12.trans S) hs, rfl, _, _, rfl, _, _, rfl, rfl, h⟩⟩
          rw [allT] at hl3
          have e : crowdD ks (.tuple ds) = risesM (ds.map keyD) := by
            show (ds.all (goodP ks) && risesM (ds.map keyD)) = _
            rw [hg]
            rfl
          rw [e] at q
          refine ⟨D3, ds.map keyD, rfl, SqL.of (by rw [hl3, List.map_map]; rfl), by rw [List.length_map, ← dps_len hds]; omega, fun H4 S4 => q _ (S12.trans (S3.trans S4))⟩
    | _ => exact iteT (q _ Sx.same_id)
end
end Sx

/-! LbB -/
namespace Sx
open PySem PySem.Spec PyProof.Rows L2
abbrev sLOf : Stmt := top 20
abbrev sMixed : Stmt := top 21
/-- all but what stands at u stays -/
def SameU (u : Addr) (H H' : Hp) : Prop := ∀ b o, H b = some o → b ≠ u → H' b = some o
theorem SameU.trans {u : Addr} {H H' H2 : Hp} (a : SameU u H H') (b : SameU u H' H2) : SameU u H H2 := fun c o e n => b c o (a c o e n) n
theorem SameU.id {u : Addr} {H : Hp} : SameU u H H := fun _ _ e _ => e
theorem SameU.of {u : Addr} {H H' : Hp} (s : Same H H') : SameU u H H' := fun b o e _ => s b o e
theorem SameU.but {u : Addr} {H H' : Hp} (s : ∀ b, b ≠ u → H' b = H b) : SameU u H H' := fun b o e n => by rw [s b n]; exact e
theorem SameU.mut {u : Addr} {H H' : Hp} {p : Addr} {o : HO} (e : SameU u H H') (h : H p = none) : SameU u H (upd H' p o) := fun b x q n => by
  rw [upd_ne (ne_of_none q h)]
  exact e b x q n
theorem SameU.sqL {K : PySem.W.Frag} {u a : Addr} {H H' : Hp} {xs : List V} (s : SameU u H H') (h : SqL K H a xs) (n : a ≠ u) : SqL K H' a xs := by
  rcases h with (h | ⟨o, h⟩) | h
  · exact .inl (.inl (s _ _ h n))
  · exact .inl (.inr ⟨o, s _ _ h n⟩)
  · exact .inr h
theorem Urn.is {H : Hp} {u : Addr} {n : Nat} (U : Urn H u n) : ∃ o, H u = some (.lst o) := let ⟨_, _, _, h, _⟩ := U.ex; ⟨_, h⟩
theorem Urn.ne {H : Hp} {u p : Addr} {n : Nat} {o : HO} (U : Urn H u n) (h : H p = some o) (k : ∀ xs, o ≠ .lst xs) : p ≠ u := fun z => by
  obtain ⟨x, e⟩ := U.is
  rw [z, e] at h
  cases h
  exact k _ rfl
theorem SameU.sqT {K : PySem.W.Frag} {u a : Addr} {n : Nat} {H H' : Hp} {xs : List V} (s : SameU u H H') (U : Urn H u n) (h : SqT K H a xs) : SqT K H' a xs := by
  rcases h with (h | ⟨o, h⟩) | h
  · exact .inl (.inl (s _ _ h (U.ne h fun _ z => nomatch z)))
  · exact .inl (.inr ⟨o, s _ _ h (U.ne h fun _ z => nomatch z)⟩)
  · exact .inr h
theorem Urn.same {H H' : Hp} {u : Addr} {n : Nat} (U : Urn H u n) (s : Same H H') : Urn H' u n := by
  obtain ⟨a, b, c, h, r⟩ := U.ex
  exact ⟨a, b, c, s _ _ h, r⟩
theorem Urn.upd {H : Hp} {u p : Addr} {n : Nat} {o : HO} (U : Urn H u n) (h : p ≠ u) : Urn (upd H p o) u n := by
  obtain ⟨a, b, c, e, r⟩ := U.ex
  exact ⟨a, b, c, by rw [upd_ne h.symm]; exact e, r⟩
def spLOf (K : PySem.W.Frag) : Sp := fun vs H Q _ => ∃ (u p : Addr) (n : Nat) (xs : List V), vs = [.ref u, .ref p] ∧ Urn H u n ∧ n < 2 ^ 40 ∧ SqT K H p xs ∧ 0 < xs.length ∧ xs.length < 1000000 ∧
  ∀ (k : Nat) v H', xs[k]? = some v → Urn H' u (n + 1) → SameU u H H' → Q v H'
def spMixed (K : PySem.W.Frag) : Sp := fun vs H Q _ => ∃ (u p : Addr) (n : Nat) (xs : List V), vs = [.ref u, .ref p] ∧ Urn H u n ∧ n + xs.length < 2 ^ 40 ∧ Sq K H p xs ∧ p ≠ u ∧ xs.length < 100000 ∧
  ∀ t (ys : List V) H', ys.Perm xs → SqT K H' t ys → Urn H' u (n + xs.length) → SameU u H H' → Q (.ref t) H'
theorem perm_erase {α : Type} : ∀ (l : List α) (k : Nat) (h : k < l.length), (l[k] :: l.eraseIdx k).Perm l
  | x :: l, 0, _ => List.Perm.refl _
  | x :: l, k + 1, h => by
    show (l[k]'(by simpa using h) :: x :: l.eraseIdx k).Perm (x :: l)
    exact (List.Perm.swap _ _ _).trans ((perm_erase l k (by simpa using h)).cons x)
theorem paired_app {α β : Type} {F : α → β → Prop} {as bs : List α} {ys zs : List β} (h : Paired F as ys) (g : Paired F bs zs) : Paired F (as ++ bs) (ys ++ zs) := by
  induction h with
  | nil => exact g
  | cons r _ ih => exact .cons r ih
theorem seqIx {k n : Nat} (h : k < n) : seqIndex? (k : Int) n = some k := by
  unfold seqIndex?
  have h1 : ¬ ((k : Int) < 0) := by omega
  have h2 : (decide ((0 : Int) ≤ k) && decide ((k : Int) < n)) = true := by
    rw [Bool.and_eq_true, decide_eq_true_eq, decide_eq_true_eq]
    omega
  simp only [if_neg h1, h2, if_true, Int.toNat_natCast]
section
variable {P : Program} {w : World} {K : PySem.W.Frag} {mg : Str → Option Value} {base : Heap}
abbrev nLOf : List Str := ["_law_urn", "_law_some_so"]
theorem scLOf : FnScope nLOf ["_law_urn", "_law_some_so"] (defScope sLOf) := ⟨rfl, rfl, rfl, by decide +kernel, rfl, by decide +kernel, by decide +kernel⟩
abbrev TakeG (P : Program) (w : World) (K : PySem.W.Frag) (mg : Str → Option Value) (base : Heap) : Prop := FnG P w K mg base "_law_take" 1 ["_law_urn", "_law_low_so"] spTake
theorem ok_lof {f : Addr} {fd : FuncData} {dvs : List V} (F : FunD K "_law_of" "_law_of" (defArgs sLOf) (defBody sLOf) (defScope sLOf) dvs [] f fd) (B : Blt mg) (GT : TakeG P w K mg base) : FnOk P w K mg base CX0 2 f fd ["_law_urn", "_law_some_so"] (spLOf K) := by
  refine F.ok scLOf (fun vs H Q E h => ?_) (fun cdv A outer s H vs Q E hr h => ?_)
  · obtain ⟨u, p, n, xs, rfl, _⟩ := h
    rfl
  · obtain ⟨u, p, n, xs, rfl, U, hn, hx, l0, l1, q⟩ := h
    refine ⟨_, (pss_one (ps_ret (pe_ix ix_tup (pv 1) (pe_g GT hr (pa_cons (pv 0) (pa_cons (pe_callB call_len_seq (by rfl) B.len PySem.boot_len (pa_cons (pv 1) pa_nil)) pa_nil))) (fun _ _ => rfl)))).nox, ?_⟩
    refine ⟨_, rfl, _, rfl, _, rfl, p, xs, rfl, .inr hx, u, n, xs.length, rfl, U, hn, l0, l1, fun k H' lt U' k' => ?_⟩
    have S : SameU u H H' := SameU.but k'
    exact ⟨p, xs, _, xs[k], rfl, rfl, S.sqT U hx, atI_nat (j := k) (List.getElem?_eq_getElem lt), q k _ H' (List.getElem?_eq_getElem lt) U' S⟩
abbrev nMixed : List Str := ["_law_urn", "_law_pool", "_law_left", "_law_found", "_law_turn"]
theorem scMixed : FnScope nMixed ["_law_urn", "_law_pool"] (defScope sMixed) := ⟨rfl, rfl, rfl, by decide +kernel, rfl, by decide +kernel, by decide +kernel⟩
theorem ok_mixed {f : Addr} {fd : FuncData} {dvs : List V} (F : FunD K "_law_mixed" "_law_mixed" (defArgs sMixed) (defBody sMixed) (defScope sMixed) dvs [] f fd) (B : Blt mg) (GT : TakeG P w K mg base) : FnOk P w K mg base CX0 2 f fd ["_law_urn", "_law_pool"] (spMixed K) := by
  refine F.ok scMixed (fun vs H Q E h => ?_) (fun cdv A outer s H vs Q E hr h => ?_)
  · obtain ⟨u, p, n, xs, rfl, _⟩ := h
    rfl
  · obtain ⟨u, p, n, xs, rfl, U, hn, hx, ne, l1, q⟩ := h
    refine ⟨_, (pss_cons (ps_par (i := 2) (j := 3) (by rfl) scMixed.nd rfl rfl (by decide) rfl rfl (pa_cons (pe_callTy (r := fun xs H Q => ∃ p ys, xs = [.ref p] ∧ (SqL K H p ys ∨ SqT K H p ys) ∧ ∀ l, H l = none → Q (.ref l) (upd H l (.lst ys))) call_list_of (by rfl) B.list bt_list (pa_cons (pv 1) pa_nil)) (pa_cons (pe_lst pa_nil) pa_nil)) (by rfl))
      (Evl.pss_cut (ps_for PassesOwn.never rfl (pi_range1 (by rfl) B.range (pa_cons (pe_callB call_len_seq (by rfl) B.len PySem.boot_len (pa_cons (pv 1) pa_nil)) pa_nil)) (pg_name (i := 4) scMixed.nd rfl (Or.inl rfl))
        (pss_one (ps_expr (pe_bm PySem.F.plainAttrs_list PySem.F.slot_list_append PySem.F.type_list_append mt_append (pv 3) (pa_cons (pe_bm PySem.F.plainAttrs_list PySem.F.slot_list_pop PySem.F.type_list_pop mt_popAt (pv 2) (pa_cons (pe_g GT hr (pa_cons (pv 0) (pa_cons (pe_callB call_len_seq (by rfl) B.len PySem.boot_len (pa_cons (pv 2) pa_nil)) pa_nil))) pa_nil)) pa_nil)))))
      (pss_one (ps_ret (pe_callTy (r := rTupOf K) cr_tupOf (by rfl) B.tuple bt_tuple (pa_cons (pv 3) pa_nil)))))).nox, ?_⟩
    refine ⟨_, rfl, p, xs, rfl, hx, fun r hr0 => ⟨Nat.zero_le _, fun l hl => ⟨_, _, rfl, ?_⟩⟩⟩
    have rl : r ≠ l := fun e => by rw [← e, upd_same] at hl; cases hl
    have hl0 : H l = none := by rw [upd_ne rl.symm] at hl; exact hl
    obtain ⟨ou, hou⟩ := U.is
    have ru : r ≠ u := fun e => by rw [e, hou] at hr0; cases hr0
    have lu : l ≠ u := fun e => by rw [e, hou] at hl0; cases hl0
    have S1 : Same H (upd (upd H r (.lst xs)) l (.lst [])) := (Sx.Same.new hr0).trans (Sx.Same.new hl)
    have h1r : (upd (upd H r (.lst xs)) l (.lst [])) r = some (.lst xs) := by rw [upd_ne rl, upd_same]
    have h1l : (upd (upd H r (.lst xs)) l (.lst [])) l = some (.lst []) := upd_same
    generalize upd (upd H r (.lst xs)) l (.lst []) = H1 at S1 h1r h1l
    refine ⟨fun σ' H' => ∃ v4 ys, σ' = [some (.ref u), some (.ref p), some (.ref r), some (.ref l), v4] ∧ SameU u H H' ∧ Urn H' u (n + xs.length) ∧ H' l = some (.lst ys) ∧ ys.Perm xs, ?_, ?_⟩
    · have big : xs.length < 2 ^ 62 := by omega
      refine ⟨_, rfl, p, xs, rfl, hx.imp (Same.seq S1) (sqT_same S1), xs.length, rfl, by omega, by omega, ?_⟩
      refine for_range (lo := 0) (n := xs.length) (fun i σ' H' => ∃ v4 rs ys, σ' = [some (.ref u), some (.ref p), some (.ref r), some (.ref l), v4] ∧ SameU u H H' ∧ Urn H' u (n + i) ∧ H' r = some (.lst rs) ∧ H' l = some (.lst ys) ∧ (ys ++ rs).Perm xs ∧ rs.length + i = xs.length)
        ⟨none, xs, [], rfl, SameU.of S1, U.same S1, h1r, h1l, List.Perm.refl _, rfl⟩ ?_ ?_
      · rintro i σ' H' hi ⟨v4, rs, ys, rfl, S, U', hr', hl', pm, len⟩
        refine ⟨_, rfl, .inl ⟨rfl, _, SqL.of hl'⟩, _, rfl, .inl ⟨rfl, _, SqL.of hr'⟩, ?_⟩
        refine ⟨_, rfl, _, rfl, r, rs, rfl, .inl (SqL.of hr'), u, n + i, rs.length, rfl, U', by omega, by omega, by omega, fun k H2 hk U2 k2 => ?_⟩
        have hr2 : H2 r = some (.lst rs) := by rw [k2 r ru]; exact hr'
        have hl2 : H2 l = some (.lst ys) := by rw [k2 l lu]; exact hl'
        refine ⟨r, rs, k, k, rs[k], rfl, rfl, hr2, by omega, by omega, seqIx hk, List.getElem?_eq_getElem hk, ?_⟩
        have pml := pm.length_eq
        rw [List.length_append] at pml
        refine ⟨l, ys, _, rfl, rfl, by rw [upd_ne rl.symm]; exact hl2, by rw [sizeLine_eq]; omega, ?_⟩
        refine ⟨_, rs.eraseIdx k, ys ++ [rs[k]], rfl, ((S.trans (SameU.but k2)).mut hr0).mut hl0, (U2.upd ru).upd lu, by rw [upd_ne rl, upd_same], upd_same, ?_, ?_⟩
        · rw [List.append_assoc, List.singleton_append]
          exact ((perm_erase rs k hk).append_left ys).trans pm
        · rw [List.length_eraseIdx_of_lt hk]
          omega
      · rintro σ' H' ⟨v4, rs, ys, rfl, S, U', hr', hl', pm, len⟩
        have e : rs = [] := List.length_eq_zero_iff.mp (by omega)
        rw [e, List.append_nil] at pm
        exact ⟨v4, ys, rfl, S, U', hl', pm⟩
    rintro σ' H' ⟨v4, ys, rfl, S, U', hl', pm⟩
    refine ⟨_, rfl, l, ys, rfl, .inl ⟨SqL.of hl', fun t ht => ?_⟩⟩
    have S1 : Same H' (upd H' t (.tup ys)) := Sx.Same.new ht
    exact q t ys _ pm (SqT.of upd_same) (U'.same S1) (S.trans (SameU.of S1))
end
end Sx

/-! LbE -/
namespace Sx
open PySem PySem.Spec PyProof.Rows L2
abbrev sBox : Stmt := top 18
abbrev sCells : Stmt := top 19
def spBox (K : PySem.W.Frag) : Sp := fun vs H Q _ => ∃ (a : Addr) (k : Nat) (ns : List Int), vs = [.ref a, .int k] ∧ SqL K H a (ns.map V.int) ∧ k < ns.length ∧ ns.length ≤ 3 ∧ ∀ l H', Same H H' → H l = none → Urn H' l 0 → Q (.ref l) H'
def spCells (K : PySem.W.Frag) : Sp := fun vs H Q _ => ∃ (a : Addr) (ns : List Int), vs = [.ref a, .int 3] ∧ SqL K H a (ns.map V.int) ∧ ns.length ≤ 63 ∧ ∀ l (ms : List Int) H', Same H H' → H' l = some (.lst (ms.map V.int)) → ms.length ≤ 3 → Q (.ref l) H'
theorem b01 : ∀ b : Bool, -(2 ^ 64) < (if b = true then (1 : Int) else 0) ∧ (if b = true then (1 : Int) else 0) < 2 ^ 64
  | true => by decide
  | false => by decide
section
variable {P : Program} {w : World} {K : PySem.W.Frag} {mg : Str → Option Value} {base : Heap}
/-- for i, x in enumerate(xs) -/
theorem for_enum {a : Addr} {xs : List V} {tb : TS} {D : Ends} {σ : L2.St} {H : Hp} {j1 j2 : Nat} (hx : SqL K H a xs) (Pv : Nat → L2.St → Hp → Prop) (h0 : Pv 0 σ H) (hl : ∀ i σ' H', Pv i σ' H' → SqL K H' a xs) (hk : ∀ i σ' H' H2, Pv i σ' H' → Same H' H2 → Pv i σ' H2)
    (hs : ∀ (i : Nat) x σ' H', xs[i]? = some x → Pv i σ' H' → tb { D with nx := Pv (i + 1), ct := Pv (i + 1), bk := D.nx } ((σ'.set j1 (some (.int (i : Nat)))).set j2 (some x)) H') (hq : ∀ σ' H', Pv xs.length σ' H' → D.nx σ' H') :
    ∃ W : Nat → Nat → L2.St → Hp → Prop, (∃ m, W 0 m σ H) ∧ ∀ i m σ H, W i m σ H → ((Ite K a).stop i H ∧ D.nx σ H) ∨ ((Ite K a).go i H ∧ ∃ N : L2.St → Hp → Prop, (∀ σ' H', N σ' H' → ∃ m', m' < m ∧ W (i + 1) m' σ' H') ∧ ∀ x H', (Ite K a).yld i H x H' → gTup K 2 (gCons (gName j1) (gCons (gName j2) gNil)) x σ H' fun σ2 H2 => tb { D with nx := N, ct := N, bk := D.nx } σ2 H2) := by
  refine ⟨fun i m σ' H' => m = xs.length - i ∧ i ≤ xs.length ∧ Pv i σ' H', ⟨xs.length, rfl, Nat.zero_le _, h0⟩, ?_⟩
  rintro i m σ' H' ⟨rfl, hi, p⟩
  have sq := hl i σ' H' p
  rcases Nat.lt_or_ge i xs.length with lt | ge
  · refine .inr ⟨⟨xs, xs[i], sq, List.getElem?_eq_getElem lt⟩, Pv (i + 1), fun σ2 H2 p2 => ⟨xs.length - (i + 1), by omega, rfl, lt, p2⟩, fun v H2 ⟨T, x, ev, hT, eH, y⟩ => ?_⟩
    subst ev
    have s2 : Same H' H2 := by rw [eH]; exact Sx.Same.new hT
    have hT2 : H2 T = some (.tup [.int (i : Nat), x]) := by rw [eH]; exact upd_same
    exact ⟨T, _, rfl, SqT.of hT2, rfl, _, _, rfl, _, _, rfl, rfl, hs i x σ' H2 (y xs sq) (hk _ _ _ _ p s2)⟩
  · have e : i = xs.length := Nat.le_antisymm hi ge
    subst e
    exact .inl ⟨⟨xs, sq, Nat.le_refl _⟩, hq σ' H' p⟩
abbrev nBox : List Str := ["_law_script", "_law_k", "_law_cell"]
theorem scBox : FnScope nBox ["_law_script", "_law_k"] (defScope sBox) := ⟨rfl, rfl, rfl, by decide +kernel, rfl, by decide +kernel, by decide +kernel⟩
theorem ok_box {f : Addr} {fd : FuncData} {dvs : List V} (F : FunD K "_law_box" "_law_box" (defArgs sBox) (defBody sBox) (defScope sBox) dvs [] f fd) (B : Blt mg) : FnOk P w K mg base CX0 1 f fd ["_law_script", "_law_k"] (spBox K) := by
  refine F.ok scBox (fun vs H Q E h => ?_) (fun cdv A outer s H vs Q E hr h => ?_)
  · obtain ⟨a, k, ns, rfl, _⟩ := h
    rfl
  · obtain ⟨a, k, ns, rfl, hx, hk, l3, q⟩ := h
    refine ⟨_, (pss_cons (ps_set (i := 2) scBox.nd rfl (Or.inl rfl) (pe_ifExp (pt_cmpR op_lt (pv 1) (pe_callB call_len_seq (by rfl) B.len PySem.boot_len (pa_cons (pv 0) pa_nil)) (nomark _)) (pe_ix ix_list (pv 0) (pv 1) (fun _ _ => rfl)) pe_int))
      (pss_one (ps_ret (pe_lst (pa_cons (pe_op op_mul (pe_callB call_abs (by rfl) B.abs bt_abs (pa_cons (pv 2) pa_nil)) (pe_callTy call_int1 (by rfl) B.int bt_int (pa_cons (pe_cmpR op_ge (pe_callB call_abs (by rfl) B.abs bt_abs (pa_cons (pv 2) pa_nil)) (pe_op op_pow pe_int pe_int) (nomark _)) pa_nil)))
        (pa_cons (pe_op op_add (pe_op op_add (pe_op op_modN (pe_callTy call_int1 (by rfl) B.int bt_int (pa_cons (pv 2) pa_nil)) pe_int) (pe_op op_mul pe_int (pv 1))) pe_int) (pa_cons pe_int pa_nil))))))).nox, ?_⟩
    refine ⟨_, rfl, _, rfl, a, _, rfl, .inl hx, _, _, rfl, rfl, _, rfl, ?_⟩
    rw [List.length_map, decide_eq_true (show (k : Int) < (ns.length : Nat) by omega)]
    refine iteT ⟨_, rfl, _, rfl, a, _, _, .int ns[k], rfl, rfl, hx, atI_nat (j := k) (by rw [List.getElem?_map, List.getElem?_eq_getElem hk]; rfl), ?_⟩
    generalize ns[k] = c
    refine ⟨_, rfl, c, rfl, _, rfl, c, rfl, _, _, rfl, rfl, ⟨by decide, by decide, by decide⟩, _, _, rfl, rfl, .inr ⟨_, rfl, _, _, rfl, rfl, .inr ?_, ?_⟩⟩
    · exact b01 _
    refine ⟨_, rfl, .inl ⟨_, rfl, _, _, rfl, rfl, (show (2305843009213693951 : Int) ≠ 0 by decide), _, rfl, _, _, rfl, rfl, .inl ⟨by decide, by decide⟩, _, _, rfl, rfl, _, _, rfl, rfl, ?_⟩⟩
    refine ⟨(by show 3 ≤ sizeLine; decide), fun l hl => q l _ (Sx.Same.new hl) hl ⟨_, _, 0, upd_same, ?_, ?_, Int.le_refl _, Int.le_refl _⟩⟩
    · have f := fm (x := c) (l := 2305843009213693951) (by decide)
      show -(2 ^ 62) < Int.fmod c 2305843009213693951 + 39373 * (k : Int) + 618039
      omega
    · have f := fm (x := c) (l := 2305843009213693951) (by decide)
      show Int.fmod c 2305843009213693951 + 39373 * (k : Int) + 618039 < 2 ^ 62
      omega
abbrev nCells : List Str := ["_law_script", "_law_top", "_law_cells_so", "_law_k", "_law_cell", "_law_at_so"]
theorem scCells : FnScope nCells ["_law_script", "_law_top"] (defScope sCells) := ⟨rfl, rfl, rfl, by decide +kernel, rfl, by decide +kernel, by decide +kernel⟩
theorem cutV_map (ns : List Int) (lo hi : Option Int) : ∃ ms : List Int, cutV (ns.map V.int) lo hi = ms.map V.int ∧ ms.length = (cutV (ns.map V.int) lo hi).length := by
  refine ⟨(ns.drop (HT.sIx (ns.map V.int).length 0 lo)).take (HT.sIx (ns.map V.int).length (ns.map V.int).length hi - HT.sIx (ns.map V.int).length 0 lo), ?_, ?_⟩
  · unfold cutV
    rw [← List.map_drop, ← List.map_take]
  · unfold cutV
    rw [List.length_take, List.length_take, List.length_drop, List.length_drop, List.length_map]
theorem ok_cells {f : Addr} {fd : FuncData} {dvs : List V} (F : FunD K "_law_cells" "_law_cells" (defArgs sCells) (defBody sCells) (defScope sCells) dvs [] f fd) (B : Blt mg) : FnOk P w K mg base CX0 1 f fd ["_law_script", "_law_top"] (spCells K) := by
  refine F.ok scCells (fun vs H Q E h => ?_) (fun cdv A outer s H vs Q E hr h => ?_)
  · obtain ⟨a, ns, rfl, _⟩ := h
    rfl
  · obtain ⟨a, ns, rfl, hx, l63, q⟩ := h
    refine ⟨_, (Evl.pss_cut (ps_set (i := 2) scCells.nd rfl (Or.inl rfl) (pe_orT (pe_callTy call_list_of (by rfl) B.list bt_list (pa_cons (pe_slice sl_list (pv 0) po_none (po_some (pv 1))) pa_nil)) (pe_one (pe_lst (pa_cons pe_int pa_nil)))))
      (Evl.pss_cut (ps_for PassesOwn.never rfl (pi_enum (by rfl) B.enumerate (pa_cons (pe_slice sl_list (pv 0) (po_some (pv 1)) (po_some pe_int)) pa_nil)) (pg_tup rfl (pgs_cons (pg_name (i := 3) scCells.nd rfl (Or.inl rfl)) (pgs_cons (pg_name (i := 4) scCells.nd rfl (Or.inl rfl)) pgs_nil)))
        (pss_cons (ps_set (i := 5) scCells.nd rfl (Or.inl rfl) (pe_op op_modN (pe_callTy call_int1 (by rfl) B.int bt_int (pa_cons (pv 3) pa_nil)) (pv 1)))
        (pss_one (ps_asg (pe_op op_add (pe_ix ix_list (pv 2) (pv 5) (fun _ _ => rfl)) (pe_op op_mul (pv 4) (pe_op op_add (pv 3) pe_int))) (pg_sub (pv 2) (pv 5) set_list)))))
      (pss_one (ps_ret (pv 2))))).nox, ?_⟩
    obtain ⟨ms, em, lm⟩ := cutV_map ns none (some ((3 : Nat) : Int))
    obtain ⟨cs, ec, lc⟩ := cutV_map ns (some ((3 : Nat) : Int)) (some ((63 : Nat) : Int))
    have nl : (ns.map V.int).length = ns.length := List.length_map _
    have lm2 : ms.length = min 3 ns.length := by
      rw [lm]
      unfold cutV
      rw [List.length_take, List.length_drop, HT.sIx_none, HT.sIx_nat, nl]
      omega
    have lc2 : cs.length = ns.length - 3 := by
      rw [lc]
      unfold cutV
      rw [List.length_take, List.length_drop, HT.sIx_nat, HT.sIx_nat, nl]
      omega
    refine ⟨fun σ' H' => ∃ (l : Addr) (ds : List Int), σ' = [some (.ref a), some (.int 3), some (.ref l), none, none, none] ∧ Same H H' ∧ H l = none ∧ H' l = some (.lst (ds.map V.int)) ∧ (ds.length = min 3 ns.length ∨ (ds.length = 1 ∧ ns.length = 0)), ?_, ?_⟩
    · refine ⟨_, rfl, _, rfl, _, rfl, a, _, rfl, hx, fun p hp => ?_⟩
      have em' : cutV (ns.map V.int) none (some 3) = ms.map V.int := em
      rw [em']
      have S1 : Same H (upd H p (.lst (ms.map V.int))) := Sx.Same.new hp
      refine ⟨p, _, rfl, .inl (SqL.of upd_same), fun l hl => ?_⟩
      have S2 : Same (upd H p (.lst (ms.map V.int))) (upd (upd H p (.lst (ms.map V.int))) l (.lst (ms.map V.int))) := Sx.Same.new hl
      have fresh : ∀ {q : Addr}, (upd H p (.lst (ms.map V.int))) q = none → H q = none := fun {q} hq => by
        cases z : H q with
        | none => rfl
        | some o => rw [S1 _ _ z] at hq; cases hq
      refine ⟨_, .inl ⟨_, SqL.of upd_same, rfl⟩, ?_⟩
      cases ms with
      | nil =>
        refine iteF ⟨(by show 1 ≤ sizeLine; decide), fun l2 hl2 => ?_⟩
        have e0 : ns.length = 0 := by rw [List.length_nil] at lm2; omega
        have l2p : H l2 = none := by
          cases z : H l2 with
          | none => rfl
          | some o => rw [S2 _ _ (S1 _ _ z)] at hl2; cases hl2
        exact ⟨l2, [0], rfl, S1.trans (S2.trans (Sx.Same.new hl2)), l2p, by rw [upd_same]; rfl, .inr ⟨rfl, e0⟩⟩
      | cons m ms =>
        refine iteT ⟨l, m :: ms, rfl, S1.trans S2, fresh hl, upd_same, .inl lm2⟩
    rintro σ1 H1 ⟨l, ds, rfl, S1, lH, hl, dl⟩
    have d3 : ds.length ≤ 3 := by omega
    refine ⟨fun σ' H' => ∃ v3 v4 v5 ds', σ' = [some (.ref a), some (.int 3), some (.ref l), v3, v4, v5] ∧ Same H H' ∧ H' l = some (.lst (List.map V.int ds')) ∧ ds'.length ≤ 3, ?_, ?_⟩
    · refine ⟨_, rfl, _, rfl, _, rfl, _, rfl, a, _, rfl, same_sqL S1 hx, fun p hp => ?_⟩
      have ec' : cutV (ns.map V.int) (some 3) (some 63) = cs.map V.int := ec
      rw [ec']
      have S2 : Same H1 (upd H1 p (.lst (cs.map V.int))) := Sx.Same.new hp
      have lp : l ≠ p := ne_of_none hl hp
      refine ⟨p, _, rfl, SqL.of upd_same, ?_⟩
      refine for_enum (xs := cs.map V.int) (SqL.of upd_same) (fun i σ' H' => ∃ v3 v4 v5 ds', σ' = [some (.ref a), some (.int 3), some (.ref l), v3, v4, v5] ∧ Same H H' ∧ H' l = some (.lst (List.map V.int ds')) ∧ ds'.length = ds.length ∧ H' p = some (.lst (cs.map V.int)))
        ⟨none, none, none, ds, rfl, S1.trans S2, S2 _ _ hl, rfl, upd_same⟩ (fun i σ' H' ⟨_, _, _, _, _, _, _, _, h⟩ => SqL.of h) (fun i σ' H' H2 ⟨v3, v4, v5, ds', e, s, h1, h2, h3⟩ s2 => ⟨v3, v4, v5, ds', e, s.trans s2, s2 _ _ h1, h2, s2 _ _ h3⟩) ?_ ?_
      · rintro i x σ' H' hi ⟨v3, v4, v5, ds', rfl, s, h1, h2, h3⟩
        rw [List.getElem?_map] at hi
        obtain ⟨c, hc, rfl⟩ := Option.map_eq_some_iff.mp hi
        have il := (List.getElem?_eq_some_iff.mp hc).1
        have dl3 : ds'.length = 3 := by omega
        have e : Int.fmod (i : Int) 3 = ((i % 3 : Nat) : Int) := by
          rw [Int.fmod_eq_emod_of_nonneg _ (by decide)]
          omega
        have lt3 : i % 3 < ds'.length := by omega
        refine ⟨_, rfl, .inl ⟨_, rfl, _, rfl, _, _, rfl, rfl, (show (3 : Int) ≠ 0 by decide), ?_⟩⟩
        refine ⟨_, rfl, _, rfl, l, _, _, .int ds'[i % 3], rfl, rfl, SqL.of h1, ?_, _, rfl, _, rfl, _, _, rfl, rfl, _, _, rfl, rfl, .inr ⟨by omega, by omega⟩, _, _, rfl, rfl, _, rfl, _, rfl, l, _, _, i % 3, rfl, rfl, h1, ?_, ?_⟩
        · show atI (ds'.map V.int) (Int.fmod (i : Int) 3) = _
          rw [e]
          exact atI_nat (j := i % 3) (by rw [List.getElem?_map, List.getElem?_eq_getElem lt3]; rfl)
        · show ixN (ds'.map V.int).length (Int.fmod (i : Int) 3) = _
          rw [e]
          unfold ixN
          rw [if_pos (by omega), if_pos (by rw [List.length_map]; omega), Int.toNat_natCast]
        · refine ⟨_, _, _, ds'.set (i % 3) (ds'[i % 3] + c * ((i : Int) + 2)), rfl, Sx.Same.mut s lH, ?_, by rw [List.length_set]; exact h2, by rw [upd_ne lp.symm]; exact h3⟩
          rw [upd_same, List.map_set]
      · rintro σ' H' ⟨v3, v4, v5, ds', rfl, s, h1, h2, h3⟩
        exact ⟨v3, v4, v5, ds', rfl, s, h1, by omega⟩
    rintro σ2 H2 ⟨v3, v4, v5, ds', rfl, s2, h1, h2⟩
    exact ⟨_, rfl, q l ds' H2 s2 h1 h2⟩
end
end Sx

/-! LbF -/
namespace Sx
open PySem PySem.Spec PyProof.Rows L2
abbrev sTags : Stmt := top 25
def tenM : List Str := ["a", "ab", "b", "c", "d", "e", "k", "n", "zz", "zzzzzzzz"]
theorem ten_nd : tenM.Nodup := by decide +kernel
theorem ten_ok : Oks tenM := by
  intro x hx
  have : ∀ x ∈ tenM, PyData.strOk x = true := by decide +kernel
  exact this x hx
theorem slA_take {K : PySem.W.Frag} {a : Addr} {xs : List V} {m : Nat} {H : Hp} {Q : VK} (hx : SqT K H a xs) (q : ∀ t H', Same H H' → SqT K H' t (xs.take m) → Q (.ref t) H') : rSlA K (.ref a) none (some ((m : Nat) : Int)) H Q := by
  refine ⟨a, xs, rfl, hx, fun e => q a H Sx.same_id ?_, fun _ p hp => q p _ (Sx.Same.new hp) (SqT.of ?_)⟩
  · have e2 := e.2
    rw [HT.sIx_nat] at e2
    rw [List.take_of_length_le (by omega)]
    exact hx
  · rw [upd_same]
    unfold cutV
    rw [HT.sIx_none, HT.sIx_nat, List.drop_zero, Nat.sub_zero]
    congr 2
    rcases Nat.le_total m xs.length with h | h
    · rw [Nat.min_eq_left h]
    · rw [Nat.min_eq_right h, List.take_of_length_le h, List.take_of_length_le (Nat.le_refl _)]
def spTags (K : PySem.W.Frag) : Sp := fun vs H Q _ => ∃ (u : Addr) (n m : Nat), vs = [.ref u, .int m] ∧ Urn H u n ∧ n < 2 ^ 39 ∧ m ≤ 10 ∧ ∀ t (ks : List Str) H', SameU u H H' → Urn H' u (n + 10) → SqT K H' t (ks.map V.str) → Up ltS ks → ks.length = m → (∀ k ∈ ks, k ∈ tenM) → Q (.ref t) H'
theorem perm_strs {ys : List V} {ks : List Str} (h : ys.Perm (ks.map V.str)) : ∃ zs : List Str, ys = zs.map V.str ∧ zs.Perm ks := by
  have all : ∀ y ∈ ys, ∃ k, y = V.str k := fun y hy => by
    obtain ⟨k, _, e⟩ := List.mem_map.mp (h.mem_iff.mp hy)
    exact ⟨k, e.symm⟩
  have ex : ∀ l : List V, (∀ y ∈ l, ∃ k, y = V.str k) → ∃ zs : List Str, l = zs.map V.str := fun l => by
    induction l with
    | nil => exact fun _ => ⟨[], rfl⟩
    | cons y l ih =>
      intro a
      obtain ⟨k, e⟩ := a y List.mem_cons_self
      obtain ⟨zs, e2⟩ := ih fun z hz => a z (List.mem_cons_of_mem _ hz)
      exact ⟨k :: zs, by rw [e, e2]; rfl⟩
  obtain ⟨zs, e⟩ := ex ys all
  refine ⟨zs, e, ?_⟩
  rw [e] at h
  have := h.map fun v : V => match v with | .str k => k | _ => ("" : Str)
  rw [List.map_map, List.map_map] at this
  have e2 : ((fun v : V => match v with | .str k => k | _ => ("" : Str)) ∘ V.str) = id := rfl
  rw [e2, List.map_id, List.map_id] at this
  exact this
section
variable {P : Program} {w : World} {K : PySem.W.Frag} {mg : Str → Option Value} {base : Heap}
abbrev MixedG (P : Program) (w : World) (K : PySem.W.Frag) (mg : Str → Option Value) (base : Heap) : Prop := FnG P w K mg base "_law_mixed" 2 ["_law_urn", "_law_pool"] (spMixed K)
abbrev nTags : List Str := ["_law_urn", "_law_size_so"]
theorem scTags : FnScope nTags ["_law_urn", "_law_size_so"] (defScope sTags) := ⟨rfl, rfl, rfl, by decide +kernel, rfl, by decide +kernel, by decide +kernel⟩
theorem ok_tags {f : Addr} {fd : FuncData} {dvs : List V} (F : FunD K "_law_tags" "_law_tags" (defArgs sTags) (defBody sTags) (defScope sTags) dvs [] f fd) (B : Blt mg) (GM : MixedG P w K mg base) : FnOk P w K mg base CX0 3 f fd ["_law_urn", "_law_size_so"] (spTags K) := by
  refine F.ok scTags (fun vs H Q E h => ?_) (fun cdv A outer s H vs Q E hr h => ?_)
  · obtain ⟨u, n, m, rfl, _⟩ := h
    rfl
  · obtain ⟨u, n, m, rfl, U, hn, l8, q⟩ := h
    refine ⟨_, (pss_one (ps_ret (pe_callTy (r := rTupOf K) cr_tupOf (by rfl) B.tuple bt_tuple (pa_cons (pe_callB (r := rSortX K) cr_sortX (by rfl) B.sorted bt_sorted (pa_cons (pe_slice sl_tupA (pe_g GM hr (pa_cons (pv 0) (pa_cons (pe_lst (pa_cons pe_str (pa_cons pe_str (pa_cons pe_str (pa_cons pe_str (pa_cons pe_str (pa_cons pe_str (pa_cons pe_str (pa_cons pe_str (pa_cons pe_str (pa_cons pe_str pa_nil))))))))))) pa_nil))) po_none (po_some (pv 1))) pa_nil)) pa_nil)))).nox, ?_⟩
    refine ⟨_, rfl, (by show 10 ≤ sizeLine; decide), fun l hl => ?_⟩
    have S1 : Same H (upd H l (.lst (tenM.map V.str))) := Sx.Same.new hl
    have h1 : (upd H l (.lst (tenM.map V.str))) l = some (.lst (tenM.map V.str)) := upd_same
    obtain ⟨ou, hou⟩ := U.is
    have lu : l ≠ u := fun e => by rw [e, hou] at hl; cases hl
    refine ⟨u, l, n, tenM.map V.str, rfl, U.same S1, ?_, .inl (SqL.of h1), lu, ?_, fun t ys H2 pm ht U2 S2 => ?_⟩
    · show n + 10 < 2 ^ 40
      omega
    · show 10 < 100000
      decide
    obtain ⟨zs, rfl, pz⟩ := perm_strs pm
    refine ⟨_, rfl, _, rfl, slA_take ht fun t3 H3 S3 ht3 => ?_⟩
    rw [← List.map_take] at ht3
    refine ⟨t3, zs.take m, rfl, .inr ht3, fun ys p pmy pw hp => ?_⟩
    have S4 : Same H3 (upd H3 p (.lst (ys.map V.str))) := Sx.Same.new hp
    refine ⟨p, _, rfl, .inl ⟨SqL.of upd_same, fun t5 ht5 => ?_⟩⟩
    have S5 : Same (upd H3 p (.lst (ys.map V.str))) (upd (upd H3 p (.lst (ys.map V.str))) t5 (.tup (ys.map V.str))) := Sx.Same.new ht5
    have S35 := S3.trans (S4.trans S5)
    have nz : zs.Nodup := pz.nodup_iff.mpr ten_nd
    have ny : ys.Nodup := pmy.nodup_iff.mpr (nz.sublist (List.take_sublist m zs))
    refine q t5 ys _ (((SameU.of S1).trans S2).trans (SameU.of S35)) (U2.same S35) (SqT.of upd_same) (up_of totS ny pw) ?_ fun k hk => pz.mem_iff.mp (List.mem_of_mem_take (pmy.mem_iff.mp hk))
    have l1 := pmy.length_eq
    have l2 := pz.length_eq
    rw [List.length_take] at l1
    have l3 : tenM.length = 10 := rfl
    omega
end
end Sx

/-! LbD -/
namespace Sx
open PySem PySem.Spec PyProof.Rows L2 RZ
abbrev sSame : Stmt := top 23
mutual
def wide : PyData → Bool
  | .list ds => decide (ds.length ≤ 10000) && wideAll ds
  | .tuple ds => decide (ds.length ≤ 10000) && wideAll ds
  | _ => true
def wideAll : List PyData → Bool
  | [] => true
  | d :: ds => wide d && wideAll ds
end
theorem wide_mem : ∀ {ds : List PyData} {d : PyData}, wideAll ds = true → d ∈ ds → wide d = true
  | x :: ds, d, a, h => by
    simp only [wideAll, Bool.and_eq_true] at a
    rcases List.mem_cons.mp h with e | e
    · rw [e]; exact a.1
    · exact wide_mem a.2 e
theorem depth_mem2 : ∀ {ds : List PyData} {d : PyData}, d ∈ ds → d.depth ≤ PyData.depthAll ds
  | x :: ds, d, h => by
    simp only [PyData.depthAll]
    rcases List.mem_cons.mp h with e | e
    · rw [e]; omega
    · have := depth_mem2 e
      omega
def spSame (K : PySem.W.Frag) (n : Nat) : Sp := fun vs H Q _ => ∃ (x y : V) (d : PyData), vs = [x, y] ∧ Dp K H x d ∧ Dp K H y d ∧ d.depth ≤ n ∧ wide d = true ∧ ∀ H', Same H H' → Q (.bl true) H'
theorem kitNo2 {K : PySem.W.Frag} {a b c : String} (h1 : kitB a b = some false) (h2 : kitB a c = some false) : PySem.W.kitAny K (.type a) [.type b, .type c] = some false :=
  kitAny_cons (kit_ty h1) (fun _ => kitAny_cons (kit_ty h2) (fun _ => kitAny_nil) (fun h => nomatch h)) (fun h => nomatch h)
theorem kitYes1 {K : PySem.W.Frag} {a b c : String} (h1 : kitB a b = some true) : PySem.W.kitAny K (.type a) [.type b, .type c] = some true :=
  kitAny_cons (kit_ty h1) (fun h => nomatch h) (fun _ => rfl)
theorem kitYes2 {K : PySem.W.Frag} {a b c : String} (h1 : kitB a b = some false) (h2 : kitB a c = some true) : PySem.W.kitAny K (.type a) [.type b, .type c] = some true :=
  kitAny_cons (kit_ty h1) (fun _ => kitAny_cons (kit_ty h2) (fun h => nomatch h) (fun _ => rfl)) (fun h => nomatch h)
section
variable {P : Program} {w : World} {K : PySem.W.Frag} {mg : Str → Option Value} {base : Heap}
abbrev nSame : List Str := ["_law_got", "_law_goal", "_law_mine_so", "_law_own"]
theorem scSame : FnScope nSame ["_law_got", "_law_goal"] (defScope sSame) := ⟨rfl, rfl, rfl, by decide +kernel, rfl, by decide +kernel, by decide +kernel⟩
theorem ok_same1 {f : Addr} {fd : FuncData} {dvs : List V} {n : Nat} (F : FunD K "_law_same" "_law_same" (defArgs sSame) (defBody sSame) (defScope sSame) dvs [] f fd) (B : Blt mg) (GS : n = 0 ∨ ∃ m, n = m + 1 ∧ FnG P w K mg base "_law_same" n ["_law_got", "_law_goal"] (spSame K m)) :
    FnOk P w K mg base CX0 (n + 1) f fd ["_law_got", "_law_goal"] (spSame K n) := by
  refine F.ok scSame (fun vs H Q E h => ?_) (fun cdv A outer s H vs Q E hr h => ?_)
  · obtain ⟨x, y, d, rfl, _⟩ := h
    rfl
  · obtain ⟨x, y, d, rfl, hx, hy, dep, wd, q⟩ := h
    cases n with
    | zero =>
      have bs : (x = V.non ∧ y = V.non) ∨ (∃ b, x = V.bl b ∧ y = V.bl b) ∨ (∃ i, x = V.int i ∧ y = V.int i) ∨ ∃ z, x = V.str z ∧ y = V.str z := by
        cases hx with
        | non => cases hy; exact .inl ⟨rfl, rfl⟩
        | bl b => cases hy; exact .inr (.inl ⟨b, rfl, rfl⟩)
        | int i => cases hy; exact .inr (.inr (.inl ⟨i, rfl, rfl⟩))
        | str z => cases hy; exact .inr (.inr (.inr ⟨z, rfl, rfl⟩))
        | lst _ _ => simp only [PyData.depth] at dep; omega
        | tup _ _ => simp only [PyData.depth] at dep; omega
      clear hx hy
      refine ⟨_, (pss_cons (ps_if (pt_val (pe_callB call_isiT (by rfl) B.isinstance bt_isinstance (pa_cons (pv 1) (pa_cons (pe_tup (pa_cons (pe_bltn (v := .ty "list") (by rfl) B.list bt_list rfl) (pa_cons (pe_bltn (v := .ty "tuple") (by rfl) B.tuple bt_tuple rfl) pa_nil))) pa_nil)))) (pss_cons ps_never (pss_one ps_never)) pss_nil)
        (pss_cons (ps_if (pt_cmp (pc_isN (pv 1))) (pss_one (ps_ret (pe_cmp (pc_isN (pv 0)) rfl))) pss_nil)
        (pss_cons (ps_if (pt_val (pe_callB call_isiT (by rfl) B.isinstance bt_isinstance (pa_cons (pv 1) (pa_cons (pe_tup (pa_cons (pe_bltn (v := .ty "bool") (by rfl) B.bool bt_bool rfl) (pa_cons (pe_bltn (v := .ty "str") (by rfl) B.str bt_str rfl) pa_nil))) pa_nil)))) (pss_one (ps_ret (pe_and (pe_cmpR op_eq (pv 0) (pv 1) (nomark _)) (pe_one (pe_cmpR op_eq (pe_callB call_isi (by rfl) B.isinstance bt_isinstance (pa_cons (pv 0) (pa_cons (pe_bltn (v := .ty "bool") (by rfl) B.bool bt_bool rfl) pa_nil))) (pe_callB call_isi (by rfl) B.isinstance bt_isinstance (pa_cons (pv 1) (pa_cons (pe_bltn (v := .ty "bool") (by rfl) B.bool bt_bool rfl) pa_nil))) (nomark _)))))) pss_nil)
        (pss_one (ps_ret (pe_and (pe_callB call_isi (by rfl) B.isinstance bt_isinstance (pa_cons (pv 0) (pa_cons (pe_bltn (v := .ty "int") (by rfl) B.int bt_int rfl) pa_nil))) (pe_and (pe_not (pe_callB call_isi (by rfl) B.isinstance bt_isinstance (pa_cons (pv 0) (pa_cons (pe_bltn (v := .ty "bool") (by rfl) B.bool bt_bool rfl) pa_nil)))) (pe_one (pe_cmpR op_eq (pv 0) (pv 1) (nomark _)))))))))).nox, ?_⟩
      rcases bs with ⟨rfl, rfl⟩ | ⟨b, rfl, rfl⟩ | ⟨i, rfl, rfl⟩ | ⟨z, rfl, rfl⟩
      · refine ⟨_, rfl, (by show 2 ≤ sizeLine; decide), fun tp htp => ?_⟩
        refine ⟨.non, tp, _, _, _, false, rfl, upd_same, .cons (.ty _) (.cons (.ty _) .nil), .base .non, kitNo2 (by decide +kernel) (by decide +kernel), _, rfl, iteF ?_⟩
        have S1 : Same H (upd H tp (.tup [.ty "list", .ty "tuple"])) := Sx.Same.new htp
        generalize upd H tp (.tup [.ty "list", .ty "tuple"]) = H1 at S1 ⊢
        refine ⟨_, rfl, _, rfl, ?_⟩
        rw [decide_eq_true (show V.non = V.non from rfl)]
        refine iteT ⟨_, rfl, ?_⟩
        show Q (.bl (decide (V.non = V.non))) _
        rw [decide_eq_true (show V.non = V.non from rfl)]
        exact q _ S1
      · refine ⟨_, rfl, (by show 2 ≤ sizeLine; decide), fun tp htp => ?_⟩
        refine ⟨.bl b, tp, _, _, _, false, rfl, upd_same, .cons (.ty _) (.cons (.ty _) .nil), .base (.bl b), kitNo2 (by decide +kernel) (by decide +kernel), _, rfl, iteF ?_⟩
        have S1 : Same H (upd H tp (.tup [.ty "list", .ty "tuple"])) := Sx.Same.new htp
        generalize upd H tp (.tup [.ty "list", .ty "tuple"]) = H1 at S1 ⊢
        refine ⟨_, rfl, _, rfl, ?_⟩
        rw [decide_eq_false (show ¬ (V.bl b = V.non) from fun z => nomatch z)]
        refine iteF ⟨_, rfl, (by show 2 ≤ sizeLine; decide), fun tp2 htp2 => ?_⟩
        refine ⟨.bl b, tp2, _, _, _, true, rfl, upd_same, .cons (.ty _) (.cons (.ty _) .nil), .base (.bl b), kitYes1 (by decide +kernel), _, rfl, iteT ?_⟩
        have S2 : Same H1 (upd H1 tp2 (.tup [.ty "bool", .ty "str"])) := Sx.Same.new htp2
        refine ⟨_, rfl, _, rfl, rfl, _, rfl, ?_⟩
        rw [decide_eq_true rfl]
        refine iteT ⟨_, rfl, .bl b, .ty "bool", .type "bool", .type "bool", true, rfl, .ty "bool", .base (.bl b), kit_ty (by decide +kernel), _, rfl, .bl b, .ty "bool", .type "bool", .type "bool", true, rfl, .ty "bool", .base (.bl b), kit_ty (by decide +kernel), rfl, ?_⟩
        rw [decide_eq_true rfl]
        exact q _ (S1.trans S2)
      · refine ⟨_, rfl, (by show 2 ≤ sizeLine; decide), fun tp htp => ?_⟩
        refine ⟨.int i, tp, _, _, _, false, rfl, upd_same, .cons (.ty _) (.cons (.ty _) .nil), .base (.int i), kitNo2 (by decide +kernel) (by decide +kernel), _, rfl, iteF ?_⟩
        have S1 : Same H (upd H tp (.tup [.ty "list", .ty "tuple"])) := Sx.Same.new htp
        generalize upd H tp (.tup [.ty "list", .ty "tuple"]) = H1 at S1 ⊢
        refine ⟨_, rfl, _, rfl, ?_⟩
        rw [decide_eq_false (show ¬ (V.int i = V.non) from fun z => nomatch z)]
        refine iteF ⟨_, rfl, (by show 2 ≤ sizeLine; decide), fun tp2 htp2 => ?_⟩
        refine ⟨.int i, tp2, _, _, _, false, rfl, upd_same, .cons (.ty _) (.cons (.ty _) .nil), .base (.int i), kitNo2 (by decide +kernel) (by decide +kernel), _, rfl, iteF ?_⟩
        have S2 : Same H1 (upd H1 tp2 (.tup [.ty "bool", .ty "str"])) := Sx.Same.new htp2
        refine ⟨_, rfl, .int i, .ty "int", .type "int", .type "int", true, rfl, .ty "int", .base (.int i), kit_ty (by decide +kernel), _, rfl, iteT ?_⟩
        refine ⟨_, rfl, .int i, .ty "bool", .type "int", .type "bool", false, rfl, .ty "bool", .base (.int i), kit_ty (by decide +kernel), _, rfl, _, rfl, iteT ?_⟩
        refine ⟨_, rfl, _, rfl, rfl, ?_⟩
        rw [decide_eq_true rfl]
        exact q _ (S1.trans S2)
      · refine ⟨_, rfl, (by show 2 ≤ sizeLine; decide), fun tp htp => ?_⟩
        refine ⟨.str z, tp, _, _, _, false, rfl, upd_same, .cons (.ty _) (.cons (.ty _) .nil), .base (.str z), kitNo2 (by decide +kernel) (by decide +kernel), _, rfl, iteF ?_⟩
        have S1 : Same H (upd H tp (.tup [.ty "list", .ty "tuple"])) := Sx.Same.new htp
        generalize upd H tp (.tup [.ty "list", .ty "tuple"]) = H1 at S1 ⊢
        refine ⟨_, rfl, _, rfl, ?_⟩
        rw [decide_eq_false (show ¬ (V.str z = V.non) from fun z => nomatch z)]
        refine iteF ⟨_, rfl, (by show 2 ≤ sizeLine; decide), fun tp2 htp2 => ?_⟩
        refine ⟨.str z, tp2, _, _, _, true, rfl, upd_same, .cons (.ty _) (.cons (.ty _) .nil), .base (.str z), kitYes2 (by decide +kernel) (by decide +kernel), _, rfl, iteT ?_⟩
        have S2 : Same H1 (upd H1 tp2 (.tup [.ty "bool", .ty "str"])) := Sx.Same.new htp2
        refine ⟨_, rfl, _, rfl, rfl, _, rfl, ?_⟩
        rw [decide_eq_true rfl]
        refine iteT ⟨_, rfl, .str z, .ty "bool", .type "str", .type "bool", false, rfl, .ty "bool", .base (.str z), kit_ty (by decide +kernel), _, rfl, .str z, .ty "bool", .type "str", .type "bool", false, rfl, .ty "bool", .base (.str z), kit_ty (by decide +kernel), rfl, ?_⟩
        rw [decide_eq_true rfl]
        exact q _ (S1.trans S2)
    | succ m =>
      obtain e | ⟨m', e, GS⟩ := GS
      · cases e
      cases e
      refine ⟨_, (pss_cons (ps_if (pt_val (pe_callB call_isiT (by rfl) B.isinstance bt_isinstance (pa_cons (pv 1) (pa_cons (pe_tup (pa_cons (pe_bltn (v := .ty "list") (by rfl) B.list bt_list rfl) (pa_cons (pe_bltn (v := .ty "tuple") (by rfl) B.tuple bt_tuple rfl) pa_nil))) pa_nil)))) (pss_cons (ps_if (PW.pt (pw_or (pt_cmpR op_ne (pe_callB call_isi (by rfl) B.isinstance bt_isinstance (pa_cons (pv 0) (pa_cons (pe_bltn (v := .ty "list") (by rfl) B.list bt_list rfl) pa_nil))) (pe_callB call_isi (by rfl) B.isinstance bt_isinstance (pa_cons (pv 1) (pa_cons (pe_bltn (v := .ty "list") (by rfl) B.list bt_list rfl) pa_nil))) (nomark _)) (pw_or1 (pt_cmpR op_ne (pe_callB call_isi (by rfl) B.isinstance bt_isinstance (pa_cons (pv 0) (pa_cons (pe_bltn (v := .ty "tuple") (by rfl) B.tuple bt_tuple rfl) pa_nil))) (pe_callB call_isi (by rfl) B.isinstance bt_isinstance (pa_cons (pv 1) (pa_cons (pe_bltn (v := .ty "tuple") (by rfl) B.tuple bt_tuple rfl) pa_nil))) (nomark _))))) (pss_one ps_never) pss_nil)
          (pss_one (ps_ret (pe_and (pe_cmpR op_eq (pe_callB call_len_seq (by rfl) B.len PySem.boot_len (pa_cons (pv 0) pa_nil)) (pe_callB call_len_seq (by rfl) B.len PySem.boot_len (pa_cons (pv 1) pa_nil)) (nomark _))
            (pe_one (pe_callB (cr_all rfl) (by rfl) B.all bt_all (pa_cons (pe_lc (own := [("_law_mine_so", 2), ("_law_own", 3)]) (g := gTup K 2 (gCons (gName 2) (gCons (gName 3) gNil))) (tt := tYes) rfl scSame.nd (pi_zipA (by rfl) B.zip (pa_cons (pv 0) (pa_cons (pv 1) pa_nil))) (blkOk_by (N := nSame) (sc := defScope sSame) (by decide +kernel))
              (fun _ _ _ _ _ => pg_tup rfl (pgs_cons (pg_name (i := 2) scSame.nd rfl (Or.inl rfl)) (pgs_cons (pg_name (i := 3) scSame.nd rfl (Or.inl rfl)) pgs_nil))) (fun _ _ _ _ _ => pts_nil) (fun _ _ _ _ _ => pe_g GS hr (pa_cons (pv 2) (pa_cons (pv 3) pa_nil)))) pa_nil))))))) pss_nil)
        (pss_cons (ps_if (pt_cmp (pc_isN (pv 1))) (pss_one (ps_ret (pe_cmp (pc_isN (pv 0)) rfl))) pss_nil)
        (pss_cons (ps_if (pt_val (pe_callB call_isiT (by rfl) B.isinstance bt_isinstance (pa_cons (pv 1) (pa_cons (pe_tup (pa_cons (pe_bltn (v := .ty "bool") (by rfl) B.bool bt_bool rfl) (pa_cons (pe_bltn (v := .ty "str") (by rfl) B.str bt_str rfl) pa_nil))) pa_nil)))) (pss_one (ps_ret (pe_and (pe_cmpR op_eq (pv 0) (pv 1) (nomark _)) (pe_one (pe_cmpR op_eq (pe_callB call_isi (by rfl) B.isinstance bt_isinstance (pa_cons (pv 0) (pa_cons (pe_bltn (v := .ty "bool") (by rfl) B.bool bt_bool rfl) pa_nil))) (pe_callB call_isi (by rfl) B.isinstance bt_isinstance (pa_cons (pv 1) (pa_cons (pe_bltn (v := .ty "bool") (by rfl) B.bool bt_bool rfl) pa_nil))) (nomark _)))))) pss_nil)
        (pss_one (ps_ret (pe_and (pe_callB call_isi (by rfl) B.isinstance bt_isinstance (pa_cons (pv 0) (pa_cons (pe_bltn (v := .ty "int") (by rfl) B.int bt_int rfl) pa_nil))) (pe_and (pe_not (pe_callB call_isi (by rfl) B.isinstance bt_isinstance (pa_cons (pv 0) (pa_cons (pe_bltn (v := .ty "bool") (by rfl) B.bool bt_bool rfl) pa_nil)))) (pe_one (pe_cmpR op_eq (pv 0) (pv 1) (nomark _)))))))))).nox, ?_⟩
      obtain bs | ⟨a, b, xs, ys, ds, rfl, rfl, sx, sy, ax, ay, rfl⟩ | ⟨a, b, xs, ys, ds, rfl, rfl, sx, sy, ax, ay, rfl⟩ : ((x = V.non ∧ y = V.non) ∨ (∃ b, x = V.bl b ∧ y = V.bl b) ∨ (∃ i, x = V.int i ∧ y = V.int i) ∨ ∃ z, x = V.str z ∧ y = V.str z) ∨
          (∃ a b xs ys ds, x = V.ref a ∧ y = V.ref b ∧ SqL K H a xs ∧ SqL K H b ys ∧ DpAll K H xs ds ∧ DpAll K H ys ds ∧ d = .list ds) ∨ (∃ a b xs ys ds, x = V.ref a ∧ y = V.ref b ∧ SqT K H a xs ∧ SqT K H b ys ∧ DpAll K H xs ds ∧ DpAll K H ys ds ∧ d = .tuple ds) := by
        cases hx with
        | non => cases hy; exact .inl (.inl ⟨rfl, rfl⟩)
        | bl b => cases hy; exact .inl (.inr (.inl ⟨b, rfl, rfl⟩))
        | int i => cases hy; exact .inl (.inr (.inr (.inl ⟨i, rfl, rfl⟩)))
        | str z => cases hy; exact .inl (.inr (.inr (.inr ⟨z, rfl, rfl⟩)))
        | lst h1 h2 => cases hy with | lst h3 h4 => exact .inr (.inl ⟨_, _, _, _, _, rfl, rfl, h1, h3, h2, h4, rfl⟩)
        | tup h1 h2 => cases hy with | tup h3 h4 => exact .inr (.inr ⟨_, _, _, _, _, rfl, rfl, h1, h3, h2, h4, rfl⟩)
      · clear hx hy
        rcases bs with ⟨rfl, rfl⟩ | ⟨b, rfl, rfl⟩ | ⟨i, rfl, rfl⟩ | ⟨z, rfl, rfl⟩
        · refine ⟨_, rfl, (by show 2 ≤ sizeLine; decide), fun tp htp => ?_⟩
          refine ⟨.non, tp, _, _, _, false, rfl, upd_same, .cons (.ty _) (.cons (.ty _) .nil), .base .non, kitNo2 (by decide +kernel) (by decide +kernel), _, rfl, iteF ?_⟩
          have S1 : Same H (upd H tp (.tup [.ty "list", .ty "tuple"])) := Sx.Same.new htp
          generalize upd H tp (.tup [.ty "list", .ty "tuple"]) = H1 at S1 ⊢
          refine ⟨_, rfl, _, rfl, ?_⟩
          rw [decide_eq_true (show V.non = V.non from rfl)]
          refine iteT ⟨_, rfl, ?_⟩
          show Q (.bl (decide (V.non = V.non))) _
          rw [decide_eq_true (show V.non = V.non from rfl)]
          exact q _ S1
        · refine ⟨_, rfl, (by show 2 ≤ sizeLine; decide), fun tp htp => ?_⟩
          refine ⟨.bl b, tp, _, _, _, false, rfl, upd_same, .cons (.ty _) (.cons (.ty _) .nil), .base (.bl b), kitNo2 (by decide +kernel) (by decide +kernel), _, rfl, iteF ?_⟩
          have S1 : Same H (upd H tp (.tup [.ty "list", .ty "tuple"])) := Sx.Same.new htp
          generalize upd H tp (.tup [.ty "list", .ty "tuple"]) = H1 at S1 ⊢
          refine ⟨_, rfl, _, rfl, ?_⟩
          rw [decide_eq_false (show ¬ (V.bl b = V.non) from fun z => nomatch z)]
          refine iteF ⟨_, rfl, (by show 2 ≤ sizeLine; decide), fun tp2 htp2 => ?_⟩
          refine ⟨.bl b, tp2, _, _, _, true, rfl, upd_same, .cons (.ty _) (.cons (.ty _) .nil), .base (.bl b), kitYes1 (by decide +kernel), _, rfl, iteT ?_⟩
          have S2 : Same H1 (upd H1 tp2 (.tup [.ty "bool", .ty "str"])) := Sx.Same.new htp2
          refine ⟨_, rfl, _, rfl, rfl, _, rfl, ?_⟩
          rw [decide_eq_true rfl]
          refine iteT ⟨_, rfl, .bl b, .ty "bool", .type "bool", .type "bool", true, rfl, .ty "bool", .base (.bl b), kit_ty (by decide +kernel), _, rfl, .bl b, .ty "bool", .type "bool", .type "bool", true, rfl, .ty "bool", .base (.bl b), kit_ty (by decide +kernel), rfl, ?_⟩
          rw [decide_eq_true rfl]
          exact q _ (S1.trans S2)
        · refine ⟨_, rfl, (by show 2 ≤ sizeLine; decide), fun tp htp => ?_⟩
          refine ⟨.int i, tp, _, _, _, false, rfl, upd_same, .cons (.ty _) (.cons (.ty _) .nil), .base (.int i), kitNo2 (by decide +kernel) (by decide +kernel), _, rfl, iteF ?_⟩
          have S1 : Same H (upd H tp (.tup [.ty "list", .ty "tuple"])) := Sx.Same.new htp
          generalize upd H tp (.tup [.ty "list", .ty "tuple"]) = H1 at S1 ⊢
          refine ⟨_, rfl, _, rfl, ?_⟩
          rw [decide_eq_false (show ¬ (V.int i = V.non) from fun z => nomatch z)]
          refine iteF ⟨_, rfl, (by show 2 ≤ sizeLine; decide), fun tp2 htp2 => ?_⟩
          refine ⟨.int i, tp2, _, _, _, false, rfl, upd_same, .cons (.ty _) (.cons (.ty _) .nil), .base (.int i), kitNo2 (by decide +kernel) (by decide +kernel), _, rfl, iteF ?_⟩
          have S2 : Same H1 (upd H1 tp2 (.tup [.ty "bool", .ty "str"])) := Sx.Same.new htp2
          refine ⟨_, rfl, .int i, .ty "int", .type "int", .type "int", true, rfl, .ty "int", .base (.int i), kit_ty (by decide +kernel), _, rfl, iteT ?_⟩
          refine ⟨_, rfl, .int i, .ty "bool", .type "int", .type "bool", false, rfl, .ty "bool", .base (.int i), kit_ty (by decide +kernel), _, rfl, _, rfl, iteT ?_⟩
          refine ⟨_, rfl, _, rfl, rfl, ?_⟩
          rw [decide_eq_true rfl]
          exact q _ (S1.trans S2)
        · refine ⟨_, rfl, (by show 2 ≤ sizeLine; decide), fun tp htp => ?_⟩
          refine ⟨.str z, tp, _, _, _, false, rfl, upd_same, .cons (.ty _) (.cons (.ty _) .nil), .base (.str z), kitNo2 (by decide +kernel) (by decide +kernel), _, rfl, iteF ?_⟩
          have S1 : Same H (upd H tp (.tup [.ty "list", .ty "tuple"])) := Sx.Same.new htp
          generalize upd H tp (.tup [.ty "list", .ty "tuple"]) = H1 at S1 ⊢
          refine ⟨_, rfl, _, rfl, ?_⟩
          rw [decide_eq_false (show ¬ (V.str z = V.non) from fun z => nomatch z)]
          refine iteF ⟨_, rfl, (by show 2 ≤ sizeLine; decide), fun tp2 htp2 => ?_⟩
          refine ⟨.str z, tp2, _, _, _, true, rfl, upd_same, .cons (.ty _) (.cons (.ty _) .nil), .base (.str z), kitYes2 (by decide +kernel) (by decide +kernel), _, rfl, iteT ?_⟩
          have S2 : Same H1 (upd H1 tp2 (.tup [.ty "bool", .ty "str"])) := Sx.Same.new htp2
          refine ⟨_, rfl, _, rfl, rfl, _, rfl, ?_⟩
          rw [decide_eq_true rfl]
          refine iteT ⟨_, rfl, .str z, .ty "bool", .type "str", .type "bool", false, rfl, .ty "bool", .base (.str z), kit_ty (by decide +kernel), _, rfl, .str z, .ty "bool", .type "str", .type "bool", false, rfl, .ty "bool", .base (.str z), kit_ty (by decide +kernel), rfl, ?_⟩
          rw [decide_eq_true rfl]
          exact q _ (S1.trans S2)
      · refine ⟨_, rfl, (by show 2 ≤ sizeLine; decide), fun tp htp => ?_⟩
        have S1 : Same H (upd H tp (.tup [.ty "list", .ty "tuple"])) := Sx.Same.new htp
        refine ⟨.ref b, tp, _, _, _, true, rfl, upd_same, .cons (.ty _) (.cons (.ty _) .nil), tyx_list (same_sqL S1 sy), kitYes1 (by decide +kernel), _, rfl, iteT ?_⟩
        generalize upd H tp (.tup [.ty "list", .ty "tuple"]) = H1 at S1 ⊢
        have sx1 := same_sqL S1 sx
        have sy1 := same_sqL S1 sy
        refine ⟨_, rfl, .ref a, .ty "list", .type "list", .type "list", true, rfl, .ty "list", tyx_list sx1, kit_ty (by decide +kernel), _, rfl, .ref b, .ty "list", .type "list", .type "list", true, rfl, .ty "list", tyx_list sy1, kit_ty (by decide +kernel), rfl, _, rfl, ?_⟩
        rw [decide_eq_true rfl]
        refine iteF ⟨_, rfl, .ref a, .ty "tuple", .type "list", .type "tuple", false, rfl, .ty "tuple", tyx_list sx1, kit_ty (by decide +kernel), _, rfl, .ref b, .ty "tuple", .type "list", .type "tuple", false, rfl, .ty "tuple", tyx_list sy1, kit_ty (by decide +kernel), rfl, _, rfl, ?_⟩
        rw [decide_eq_true rfl]
        refine iteF ?_
        have lx := dps_len ax
        have ly := dps_len ay
        simp only [wide, Bool.and_eq_true, decide_eq_true_eq] at wd
        simp only [PyData.depth] at dep
        refine ⟨_, rfl, a, xs, rfl, .inl sx1, _, rfl, b, ys, rfl, .inl sy1, rfl, _, rfl, ?_⟩
        rw [decide_eq_true (show V.int (xs.length : Nat) = V.int (ys.length : Nat) by rw [lx, ly])]
        refine iteT ⟨_, rfl, _, rfl, a, b, xs, ys, rfl, .inl ⟨sx1, sy1, ?_⟩⟩
        refine lc_zipL (vs := [2, 3]) (σ := [some (.ref a), some (.ref b), none, none]) (j1 := 2) (j2 := 3) sx1 sy1 (by omega) (by omega) (fun _ _ => by rfl) (fun i x y hi hj H' s' Q h => ?_) (fun D H' hD s' hl => ?_)
        · obtain ⟨e, he, hxe⟩ := dps_get ax hi
          obtain ⟨e', he', hye⟩ := dps_get ay hj
          rw [he] at he'
          cases he'
          have em := List.mem_of_getElem? he
          have S2 := S1.trans s'
          have dm := depth_mem2 em
          exact ⟨_, rfl, _, rfl, x, y, e, rfl, dp_same S2 e hxe, dp_same S2 e hye, by omega, wide_mem wd.2 em, fun H5 s5 => h H5 s5⟩
        · refine ⟨D, List.replicate xs.length true, rfl, SqL.of (by rw [hl, List.map_replicate]), ?_⟩
          have ea : (List.replicate xs.length true).all id = true := by
            rw [List.all_eq_true]
            intro z hz
            rw [(List.mem_replicate.mp hz).2]
            rfl
          rw [ea]
          exact q _ (S1.trans s')
      · refine ⟨_, rfl, (by show 2 ≤ sizeLine; decide), fun tp htp => ?_⟩
        have S1 : Same H (upd H tp (.tup [.ty "list", .ty "tuple"])) := Sx.Same.new htp
        refine ⟨.ref b, tp, _, _, _, true, rfl, upd_same, .cons (.ty _) (.cons (.ty _) .nil), tyx_tup (sqT_same S1 sy), kitYes2 (by decide +kernel) (by decide +kernel), _, rfl, iteT ?_⟩
        generalize upd H tp (.tup [.ty "list", .ty "tuple"]) = H1 at S1 ⊢
        have sx1 := sqT_same S1 sx
        have sy1 := sqT_same S1 sy
        refine ⟨_, rfl, .ref a, .ty "list", .type "tuple", .type "list", false, rfl, .ty "list", tyx_tup sx1, kit_ty (by decide +kernel), _, rfl, .ref b, .ty "list", .type "tuple", .type "list", false, rfl, .ty "list", tyx_tup sy1, kit_ty (by decide +kernel), rfl, _, rfl, ?_⟩
        rw [decide_eq_true rfl]
        refine iteF ⟨_, rfl, .ref a, .ty "tuple", .type "tuple", .type "tuple", true, rfl, .ty "tuple", tyx_tup sx1, kit_ty (by decide +kernel), _, rfl, .ref b, .ty "tuple", .type "tuple", .type "tuple", true, rfl, .ty "tuple", tyx_tup sy1, kit_ty (by decide +kernel), rfl, _, rfl, ?_⟩
        rw [decide_eq_true rfl]
        refine iteF ?_
        have lx := dps_len ax
        have ly := dps_len ay
        simp only [wide, Bool.and_eq_true, decide_eq_true_eq] at wd
        simp only [PyData.depth] at dep
        refine ⟨_, rfl, a, xs, rfl, .inr sx1, _, rfl, b, ys, rfl, .inr sy1, rfl, _, rfl, ?_⟩
        rw [decide_eq_true (show V.int (xs.length : Nat) = V.int (ys.length : Nat) by rw [lx, ly])]
        refine iteT ⟨_, rfl, _, rfl, a, b, xs, ys, rfl, .inr ⟨sx1, sy1, ?_⟩⟩
        refine lc_zipT (vs := [2, 3]) (σ := [some (.ref a), some (.ref b), none, none]) (j1 := 2) (j2 := 3) sx1 sy1 (by omega) (by omega) (fun _ _ => by rfl) (fun i x y hi hj H' s' Q h => ?_) (fun D H' hD s' hl => ?_)
        · obtain ⟨e, he, hxe⟩ := dps_get ax hi
          obtain ⟨e', he', hye⟩ := dps_get ay hj
          rw [he] at he'
          cases he'
          have em := List.mem_of_getElem? he
          have S2 := S1.trans s'
          have dm := depth_mem2 em
          exact ⟨_, rfl, _, rfl, x, y, e, rfl, dp_same S2 e hxe, dp_same S2 e hye, by omega, wide_mem wd.2 em, fun H5 s5 => h H5 s5⟩
        · refine ⟨D, List.replicate xs.length true, rfl, SqL.of (by rw [hl, List.map_replicate]), ?_⟩
          have ea : (List.replicate xs.length true).all id = true := by
            rw [List.all_eq_true]
            intro z hz
            rw [(List.mem_replicate.mp hz).2]
            rfl
          rw [ea]
          exact q _ (S1.trans s')
/-- same at every depth -/
theorem ok_same {f : Addr} {fd : FuncData} {dvs : List V} (F : FunD K "_law_same" "_law_same" (defArgs sSame) (defBody sSame) (defScope sSame) dvs [] f fd) (B : Blt mg) (hm : mg "_law_same" = some (.ref f)) (kp : PySem.W.keepIn K (.ref f) = true) (bd : Binds K fd ["_law_got", "_law_goal"] []) :
    ∀ n, FnOk P w K mg base CX0 (n + 1) f fd ["_law_got", "_law_goal"] (spSame K n)
  | 0 => ok_same1 F B (.inl rfl)
  | n + 1 => ok_same1 F B (.inr ⟨n, rfl, f, fd, hm, kp, ok_same F B hm kp bd n, bd⟩)
end
end Sx

/-! LbG -/
namespace Sx
open PySem PySem.Spec PyProof.Rows L2
abbrev sCounted : Stmt := top 26
def lcScope : Expr → Scope
  | .ListComp _ _ sc _ => sc
  | _ => defScope sCounted
def callArg : Expr → Expr
  | .Call _ (e :: _) _ _ => e
  | e => e
def retExpr : Stmt → Expr
  | .Return (some e) _ => e
  | _ => .Constant .none 0 ⟨0, 0, 0, 0⟩
def lcElt : Expr → Expr
  | .ListComp e _ _ _ => e
  | e => e
def tupSnd : Expr → Expr
  | .Tuple [_, e] _ _ => e
  | e => e
/-- how often each stands there -/
theorem sum_ones (L : List Str) (k : Str) : sumAt (onesOf L) k = ((L.filter fun z => decide (z = k)).length : Nat) := by
  induction L with
  | nil => rfl
  | cons x L ih =>
    have e : sumAt (onesOf (x :: L)) k = (if x = k then 1 else 0) + sumAt (onesOf L) k := by
      unfold sumAt onesOf
      rw [List.map_cons, List.map_cons, List.sum_cons]
    rw [e, ih]
    by_cases h : x = k
    · rw [if_pos h, List.filter_cons_of_pos (by exact decide_eq_true h), List.length_cons]
      omega
    · rw [if_neg h, List.filter_cons_of_neg (by simpa using h)]
      omega
theorem crowd_ones {L ys : List Str} (up : Up ltS ys) (mem : ∀ k, k ∈ ys ↔ k ∈ L) : crowdM (addAll [] (onesOf L)) = ys.map fun k => (k, (((L.filter fun z => decide (z = k)).length : Nat) : Int)) := by
  have e : srt ltS ((addAll [] (onesOf L)).map (·.1)) = ys := up_one totS (up_srt totS _) up fun z => by
    rw [mem_srt totS, addAll_mem, mem]
    unfold onesOf
    rw [List.map_map]
    constructor
    · rintro (h | h)
      · cases h
      · obtain ⟨x, hx, ex⟩ := List.mem_map.mp h
        rw [← ex]
        exact hx
    · exact fun h => .inr (List.mem_map.mpr ⟨z, h, rfl⟩)
  unfold crowdM
  rw [e]
  refine List.map_congr_left fun k _ => ?_
  rw [getI_addAll, sum_ones]
  show (k, (0 : Int) + _) = _
  rw [Int.zero_add]
theorem pi_listK {X : Cx} (K : PySem.W.Frag) {tg e : Expr} {te : TE} (he : PE X e te) (hK : X.K = K) : PI X tg e (iList K te) := hK ▸ pi_list he
def spCounted (K : PySem.W.Frag) : Sp := fun vs H Q _ => ∃ (a : Addr) (L : List Str), vs = [.ref a] ∧ SqL K H a (L.map V.str) ∧ L.length ≤ 1000 ∧ ∀ t H', Same H H' → CwAt K H' t (crowdM (addAll [] (onesOf L))) → Q (.ref t) H'
section
variable {P : Program} {w : World} {K : PySem.W.Frag} {mg : Str → Option Value} {base : Heap}
abbrev nCounted : List Str := ["_law_jobs_so", "_law_own", "_law_far"]
theorem scCounted : FnScope nCounted ["_law_jobs_so"] (defScope sCounted) := ⟨rfl, rfl, rfl, by decide +kernel, rfl, by decide +kernel, by decide +kernel⟩
abbrev outScope : Scope := lcScope (callArg (retExpr ((defBody sCounted).getD 0 (.Pass ⟨0, 0, 0, 0⟩))))
/-- as seen from within a function of scope sc -/
def seen (sc scope : Scope) : Scope := { scope with names := scope.names.map fun p => if (p.2 == .free && sc.kind == .function && sc.names.lookup p.1 == some .cell) then (p.1, .cell) else p }
abbrev inScope : Scope := lcScope (callArg (tupSnd (lcElt (callArg (retExpr ((defBody sCounted).getD 0 (.Pass ⟨0, 0, 0, 0⟩)))))))
theorem ok_counted {f : Addr} {fd : FuncData} {dvs : List V} (F : FunD K "_law_counted" "_law_counted" (defArgs sCounted) (defBody sCounted) (defScope sCounted) dvs [] f fd) (B : Blt mg) : FnOk P w K mg base CX0 1 f fd ["_law_jobs_so"] (spCounted K) := by
  refine F.ok scCounted (fun vs H Q E h => ?_) (fun cdv A outer s H vs Q E hr h => ?_)
  · obtain ⟨a, L, rfl, _⟩ := h
    rfl
  · obtain ⟨a, L, rfl, hx, len, q⟩ := h
    have okIn : ∀ (N : List Str) (sc s2 : Scope), N = nCounted → sc = seen (defScope sCounted) outScope → s2 = inScope → BlkOk N sc s2 [("_law_far", 2)] := fun N sc s2 e1 e2 e3 => by
      rw [e1, e2, e3]
      exact blkOk_by (by decide +kernel)
    refine ⟨_, (pss_one (ps_ret (pe_callTy (r := rTupOf K) cr_tupOf (by rfl) B.tuple bt_tuple (pa_cons (pe_lc (own := [("_law_own", 1)]) (g := gName 1) (tt := tYes) rfl scCounted.nd (pi_list (pe_callB (r := rSortM w) (cr_sortM rfl) (by rfl) B.sorted bt_sorted (pa_cons (pe_callTy (r := rSetT K w) (cr_setT rfl) (by rfl) B.set bt_set (pa_cons (pv 0) pa_nil)) pa_nil)))
        (blkOk_by (N := nCounted) (sc := defScope sCounted) (by decide +kernel)) (fun _ _ _ _ _ => pg_name (i := 1) scCounted.nd rfl (Or.inr rfl)) (fun _ _ _ _ _ => pts_nil)
        (fun _ _ _ _ _ => pe_tup (pa_cons (pv 1) (pa_cons (pe_callB (r := rLn K) cr_ln (by rfl) B.len PySem.boot_len (pa_cons (pe_lc (own := [("_law_far", 2)]) (g := gName 2) rfl scCounted.nd (pi_listK K (pv 0) rfl) (okIn _ _ _ rfl rfl rfl) (fun _ _ _ _ _ => pg_name (i := 2) scCounted.nd rfl (Or.inl rfl))
          (fun _ _ _ _ _ => pts_one (pt_cmpR op_eq (pv 2) (pv 1) (nomark _))) (fun _ _ _ _ _ => pv 2)) pa_nil)) pa_nil)))) pa_nil)))).nox, ?_⟩
    refine ⟨_, rfl, a, L, rfl, hx, by omega, fun p hp => ?_⟩
    have S1 : Same H (upd H p (SetM w p (· ∈ L))) := Sx.Same.new hp
    refine ⟨p, _, rfl, upd_same, fun ys l up mem hl => ?_⟩
    have S2 : Same (upd H p (SetM w p (· ∈ L))) (upd (upd H p (SetM w p (· ∈ L))) l (.lst (ys.map V.str))) := Sx.Same.new hl
    have hys : (upd (upd H p (SetM w p (· ∈ L))) l (.lst (ys.map V.str))) l = some (.lst (ys.map V.str)) := upd_same
    generalize upd (upd H p (SetM w p (· ∈ L))) l (.lst (ys.map V.str)) = H2 at S2 hys ⊢
    have S12 := S1.trans S2
    have ly : ys.length ≤ 1000 := Nat.le_trans (few_of (up_nodup totS up) fun z hz => (mem z).mp hz) len
    refine ⟨l, rfl, ⟨_, SqL.of hys⟩, ?_⟩
    let cnt : Str → Int := fun k => (((L.filter fun z => decide (z = k)).length : Nat) : Int)
    refine lc_newsL (fun k : Str => [V.str k, V.int (cnt k)]) (fun _ => true) (SqL.of hys) (paired_strs ys) (by rw [List.length_map]; omega) (fun x z hz ex H3 S3 => ?_) (fun D H3 hD hN => ?_)
    · subst ex
      refine ⟨[some (.ref a), some (.str z), none], rfl, fun Q h => h _ Sx.same_id, fun _ H4 S4 Q h => ?_, fun k h => h⟩
      refine ⟨_, rfl, _, rfl, a, rfl, ⟨_, Same.seq (S12.trans (S3.trans S4)) hx⟩, ?_⟩
      refine lc_valsL (f := V.str) (c := fun y => decide (y = z)) (Same.seq (S12.trans (S3.trans S4)) hx) (paired_strs L) (by rw [List.length_map]; omega) (fun x y hy ex H5 S5 => ?_) (fun D2 H5 hD2 S5 hl2 => ?_)
      · subst ex
        refine ⟨[some (.ref a), some (.str z), some (.str y)], rfl, fun Q h => ⟨_, rfl, _, rfl, rfl, ?_⟩, fun _ H6 S6 Q h => ⟨_, rfl, h _ Sx.same_id⟩, fun k h => h⟩
        have e : decide (V.str y = V.str z) = decide (y = z) := decide_eq_decide.mpr ⟨fun h => V.str.inj h, fun h => congrArg V.str h⟩
        rw [e]
        exact ⟨_, rfl, h _ Sx.same_id⟩
      · refine ⟨D2, _, rfl, .inl (SqL.of hl2), (by show 2 ≤ sizeLine; decide), fun t ht => ?_⟩
        have e : ((L.filter fun y => decide (y = z)).map V.str).length = (L.filter fun y => decide (y = z)).length := List.length_map _
        refine h t _ ?_ (S5.trans (Sx.Same.new ht)) (by rw [upd_same, e])
        cases w0 : H4 t with
        | none => rfl
        | some o => rw [S5 _ _ w0] at ht; cases ht
    · have allT : (ys.filter fun _ => true) = ys := List.filter_eq_self.mpr fun _ _ => rfl
      rw [allT] at hN
      obtain ⟨S3, ts, h1, h2⟩ := hN
      refine ⟨D, _, rfl, .inl ⟨SqL.of h1, fun t ht => ?_⟩⟩
      have S4 : Same H3 (upd H3 t (.tup (ts.map V.ref))) := Sx.Same.new ht
      refine q t _ (S12.trans (S3.trans S4)) ⟨ts, SqT.of upd_same, ?_⟩
      rw [crowd_ones up mem]
      exact paired_mapr (fun t k h => SqT.of (S4 _ _ h.1)) h2
end
end Sx

/-! LbH -/
namespace Sx
open PySem PySem.Spec PyProof.Rows L2
abbrev sLists : Stmt := top 24
theorem pe_no {X : Cx} {e : Expr} : PE X e (fun _ _ _ => False) := ⟨fun _ _ _ _ _ _ h => h.elim⟩
def spLists (K : PySem.W.Frag) : Nat → Sp
  | 0 => fun vs H Q _ => ∃ x : V, vs = [x] ∧ ((∃ i, x = .int i) ∨ ∃ z, x = .str z) ∧ ∀ H', Same H H' → Q x H'
  | 1 => fun vs H Q _ => ∃ (a : Addr) (z : NRow), vs = [.ref a] ∧ SqT K H a [.str z.1, .int z.2] ∧ ∀ l H', H l = none → Same H H' → H' l = some (.lst [.str z.1, .int z.2]) → Q (.ref l) H'
  | _ => fun vs H Q _ => ∃ (a : Addr) (zs : List NRow), vs = [.ref a] ∧ CwAt K H a zs ∧ zs.length ≤ 1000 ∧ ∀ l ts H', Same H H' → H' l = some (.lst (ts.map V.ref)) → Paired (fun t (z : NRow) => H' t = some (.lst [.str z.1, .int z.2])) ts zs → Q (.ref l) H'
section
variable {P : Program} {w : World} {K : PySem.W.Frag} {mg : Str → Option Value} {base : Heap}
abbrev nLists : List Str := ["_law_matter", "_law_bit"]
theorem scLists : FnScope nLists ["_law_matter"] (defScope sLists) := ⟨rfl, rfl, rfl, by decide +kernel, rfl, by decide +kernel, by decide +kernel⟩
abbrev ListsG (P : Program) (w : World) (K : PySem.W.Frag) (mg : Str → Option Value) (base : Heap) (n : Nat) : Prop := FnG P w K mg base "_law_lists" (n + 1) ["_law_matter"] (spLists K n)
theorem ok_lists0 {f : Addr} {fd : FuncData} {dvs : List V} (F : FunD K "_law_lists" "_law_lists" (defArgs sLists) (defBody sLists) (defScope sLists) dvs [] f fd) (B : Blt mg) : FnOk P w K mg base CX0 1 f fd ["_law_matter"] (spLists K 0) := by
  refine F.ok scLists (fun vs H Q E h => ?_) (fun cdv A outer s H vs Q E hr h => ?_)
  · obtain ⟨x, rfl, _⟩ := h
    rfl
  · obtain ⟨x, rfl, hx, q⟩ := h
    refine ⟨_, (pss_one (ps_ret (pe_ifExp (pt_val (pe_callB call_isiT (by rfl) B.isinstance bt_isinstance (pa_cons (pv 0) (pa_cons (pe_tup (pa_cons (pe_bltn (v := .ty "list") (by rfl) B.list bt_list rfl) (pa_cons (pe_bltn (v := .ty "tuple") (by rfl) B.tuple bt_tuple rfl) pa_nil))) pa_nil)))) pe_no (pv 0)))).nox, ?_⟩
    refine ⟨_, rfl, (by show 2 ≤ sizeLine; decide), fun tp htp => ?_⟩
    rcases hx with ⟨i, rfl⟩ | ⟨z, rfl⟩
    · exact ⟨.int i, tp, _, _, _, false, rfl, upd_same, .cons (.ty _) (.cons (.ty _) .nil), .base (.int i), kitNo2 (by decide +kernel) (by decide +kernel), _, rfl, iteF ⟨_, rfl, q _ (Sx.Same.new htp)⟩⟩
    · exact ⟨.str z, tp, _, _, _, false, rfl, upd_same, .cons (.ty _) (.cons (.ty _) .nil), .base (.str z), kitNo2 (by decide +kernel) (by decide +kernel), _, rfl, iteF ⟨_, rfl, q _ (Sx.Same.new htp)⟩⟩
theorem ok_lists1 {f : Addr} {fd : FuncData} {dvs : List V} (F : FunD K "_law_lists" "_law_lists" (defArgs sLists) (defBody sLists) (defScope sLists) dvs [] f fd) (B : Blt mg) (G0 : ListsG P w K mg base 0) : FnOk P w K mg base CX0 2 f fd ["_law_matter"] (spLists K 1) := by
  refine F.ok scLists (fun vs H Q E h => ?_) (fun cdv A outer s H vs Q E hr h => ?_)
  · obtain ⟨a, z, rfl, _⟩ := h
    rfl
  · obtain ⟨a, z, rfl, hx, q⟩ := h
    refine ⟨_, (pss_one (ps_ret (pe_ifExp (pt_val (pe_callB call_isiT (by rfl) B.isinstance bt_isinstance (pa_cons (pv 0) (pa_cons (pe_tup (pa_cons (pe_bltn (v := .ty "list") (by rfl) B.list bt_list rfl) (pa_cons (pe_bltn (v := .ty "tuple") (by rfl) B.tuple bt_tuple rfl) pa_nil))) pa_nil))))
      (pe_lc (own := [("_law_bit", 1)]) (g := gName 1) (tt := tYes) rfl scLists.nd (pi_tup (pv 0)) (blkOk_by (N := nLists) (sc := defScope sLists) (by decide +kernel)) (fun _ _ _ _ _ => pg_name (i := 1) scLists.nd rfl (Or.inl rfl)) (fun _ _ _ _ _ => pts_nil) (fun _ _ _ _ _ => pe_g G0 hr (pa_cons (pv 1) pa_nil))) (pv 0)))).nox, ?_⟩
    refine ⟨_, rfl, (by show 2 ≤ sizeLine; decide), fun tp htp => ?_⟩
    have S1 : Same H (upd H tp (.tup [.ty "list", .ty "tuple"])) := Sx.Same.new htp
    refine ⟨.ref a, tp, _, _, _, true, rfl, upd_same, .cons (.ty _) (.cons (.ty _) .nil), tyx_tup (sqT_same S1 hx), kitYes2 (by decide +kernel) (by decide +kernel), _, rfl, iteT ?_⟩
    generalize upd H tp (.tup [.ty "list", .ty "tuple"]) = H1 at S1 ⊢
    refine ⟨_, rfl, a, rfl, ⟨_, sqT_same S1 hx⟩, ?_⟩
    refine lc_valsT (f := fun v : V => v) (c := fun _ => true) (R := fun x y => x = y ∧ ((∃ i, x = V.int i) ∨ ∃ z, x = V.str z)) (zs := [.str z.1, .int z.2]) (sqT_same S1 hx) (.cons ⟨rfl, .inr ⟨_, rfl⟩⟩ (.cons ⟨rfl, .inl ⟨_, rfl⟩⟩ .nil)) (by show 2 ≤ 10000; decide) (fun x y hy ex H2 S2 => ?_) (fun D H2 hD S2 hl => ?_)
    · obtain ⟨rfl, sc⟩ := ex
      exact ⟨[some (.ref a), some x], rfl, fun Q h => h _ Sx.same_id, fun _ H3 S3 Q h => ⟨_, rfl, x, rfl, sc, fun H4 S4 => h _ S4⟩, fun k h => h⟩
    · refine q D H2 ?_ (S1.trans S2) hl
      cases w0 : H D with
      | none => rfl
      | some o => rw [S1 _ _ w0] at hD; cases hD
theorem ok_lists2 {f : Addr} {fd : FuncData} {dvs : List V} (F : FunD K "_law_lists" "_law_lists" (defArgs sLists) (defBody sLists) (defScope sLists) dvs [] f fd) (B : Blt mg) (G1 : ListsG P w K mg base 1) : FnOk P w K mg base CX0 3 f fd ["_law_matter"] (spLists K 2) := by
  refine F.ok scLists (fun vs H Q E h => ?_) (fun cdv A outer s H vs Q E hr h => ?_)
  · obtain ⟨a, zs, rfl, _⟩ := h
    rfl
  · obtain ⟨a, zs, rfl, ⟨ts, hx, hp⟩, len, q⟩ := h
    refine ⟨_, (pss_one (ps_ret (pe_ifExp (pt_val (pe_callB call_isiT (by rfl) B.isinstance bt_isinstance (pa_cons (pv 0) (pa_cons (pe_tup (pa_cons (pe_bltn (v := .ty "list") (by rfl) B.list bt_list rfl) (pa_cons (pe_bltn (v := .ty "tuple") (by rfl) B.tuple bt_tuple rfl) pa_nil))) pa_nil))))
      (pe_lc (own := [("_law_bit", 1)]) (g := gName 1) (tt := tYes) rfl scLists.nd (pi_tup (pv 0)) (blkOk_by (N := nLists) (sc := defScope sLists) (by decide +kernel)) (fun _ _ _ _ _ => pg_name (i := 1) scLists.nd rfl (Or.inl rfl)) (fun _ _ _ _ _ => pts_nil) (fun _ _ _ _ _ => pe_g G1 hr (pa_cons (pv 1) pa_nil))) (pv 0)))).nox, ?_⟩
    refine ⟨_, rfl, (by show 2 ≤ sizeLine; decide), fun tp htp => ?_⟩
    have S1 : Same H (upd H tp (.tup [.ty "list", .ty "tuple"])) := Sx.Same.new htp
    refine ⟨.ref a, tp, _, _, _, true, rfl, upd_same, .cons (.ty _) (.cons (.ty _) .nil), tyx_tup (sqT_same S1 hx), kitYes2 (by decide +kernel) (by decide +kernel), _, rfl, iteT ?_⟩
    generalize upd H tp (.tup [.ty "list", .ty "tuple"]) = H1 at S1 ⊢
    refine ⟨_, rfl, a, rfl, ⟨_, sqT_same S1 hx⟩, ?_⟩
    refine lc_walkT (sqT_same S1 hx) (fun D j H' => Same H1 H' ∧ ∃ us : List Addr, H' D = some (.lst (us.map V.ref)) ∧ Paired (fun u (z : NRow) => H' u = some (.lst [.str z.1, .int z.2]) ∧ u ≠ D) us (zs.take j))
      (fun D hD => ⟨Sx.Same.new hD, [], upd_same, .nil⟩) (fun D j H' h => sqT_same (S1.trans h.1) hx) ?_ ?_
    · rintro D j x H' hj hD ⟨S, us, hd, hu⟩
      rw [List.getElem?_map] at hj
      obtain ⟨t, ht, rfl⟩ := Option.map_eq_some_iff.mp hj
      obtain ⟨z, hz, hp2⟩ := paired_get hp ht
      refine ⟨rfl, ?_⟩
      refine ⟨_, rfl, t, z, rfl, sqT_same (S1.trans S) hp2, fun l H2 nl S2 hl => ?_⟩
      have ne : l ≠ D := fun e => by rw [e, hd] at nl; cases nl
      refine ⟨_, S2 _ _ hd, ?_, Sx.Same.mut (S.trans S2) hD, us ++ [l], by rw [upd_same, List.map_append]; rfl, ?_⟩
      · rw [List.length_map, Paired.length hu, List.length_take, sizeLine_eq]; omega
      · rw [take_snoc hz]
        exact paired_snoc (paired_imp (fun u y h => ⟨by rw [upd_ne h.2]; exact S2 _ _ h.1, h.2⟩) hu) ⟨by rw [upd_ne ne]; exact hl, ne⟩
    · rintro D H' hD ⟨S, us, hd, hu⟩
      rw [List.length_map, Paired.length hp, List.take_length] at hu
      exact q D us H' (S1.trans S) hd (paired_imp (fun u z h => h.1) hu)
end
end Sx

/-! LbI -/
namespace Sx
open PySem PySem.Spec PyProof.Rows L2
abbrev NdK (rs : List NRow) : Prop := (rs.map (·.1)).Nodup
theorem crowd_keys (rs : List NRow) : (crowdM rs).map (·.1) = srt ltS (rs.map (·.1)) := by
  unfold crowdM
  rw [List.map_map]
  exact List.map_id _
theorem crowd_nd (rs : List NRow) : NdK (crowdM rs) := by
  unfold NdK
  rw [crowd_keys]
  exact up_nodup totS (up_srt totS _)
theorem crowd_mem {rs : List NRow} {k : Str} : k ∈ (crowdM rs).map (·.1) ↔ k ∈ rs.map (·.1) := by
  rw [crowd_keys, mem_srt totS]
theorem crowd_get {rs : List NRow} {k : Str} : getI (crowdM rs) k = getI rs k := by
  by_cases h : k ∈ rs.map (·.1)
  · refine getI_mem (crowd_nd rs) ?_
    unfold crowdM
    exact List.mem_map.mpr ⟨k, (mem_srt totS).mpr h, rfl⟩
  · rw [getI_none h, getI_none (fun w => h (crowd_mem.mp w))]
theorem crowd_ext {rs rs' : List NRow} (hk : ∀ k, k ∈ rs.map (·.1) ↔ k ∈ rs'.map (·.1)) (hg : ∀ k, getI rs k = getI rs' k) : crowdM rs = crowdM rs' := by
  have e : srt ltS (rs.map (·.1)) = srt ltS (rs'.map (·.1)) := srt_same totS hk
  unfold crowdM
  rw [e]
  exact List.map_congr_left fun k _ => by rw [hg k]
theorem getI_cons (z : NRow) (zs : List NRow) (k : Str) : getI (z :: zs) k = if z.1 = k then z.2 else getI zs k := rfl
theorem sum_nd {k : Str} : ∀ {zs : List NRow}, NdK zs → sumAt zs k = getI zs k
  | [], _ => rfl
  | z :: zs, h => by
    have h2 := List.nodup_cons.mp (show (z.1 :: zs.map (·.1)).Nodup from h)
    have e : sumAt (z :: zs) k = (if z.1 = k then z.2 else 0) + sumAt zs k := by
      unfold sumAt
      rw [List.map_cons, List.sum_cons]
    rw [e, sum_nd h2.2, getI_cons]
    by_cases c : z.1 = k
    · have : getI zs k = 0 := getI_none (by rw [← c]; exact h2.1)
      rw [if_pos c, if_pos c, this, Int.add_zero]
    · rw [if_neg c, if_neg c, Int.zero_add]
theorem both_add (rs rs' : List NRow) : crowdM (addAll (crowdM rs) (crowdM rs')) = crowdM (addAll rs (crowdM rs')) := by
  refine crowd_ext (fun k => ?_) fun k => ?_
  · rw [addAll_mem, addAll_mem, crowd_mem]
  · rw [getI_addAll, getI_addAll, crowd_get]
def madeM (L : List Str) : List NRow := crowdM (addAll [] (onesOf L))
theorem made_get (L : List Str) (k : Str) : getI (madeM L) k = sumAt (onesOf L) k := by
  unfold madeM
  rw [crowd_get, getI_addAll]
  show (0 : Int) + _ = _
  rw [Int.zero_add]
theorem made_mem {L : List Str} {k : Str} : k ∈ (madeM L).map (·.1) ↔ k ∈ L := by
  unfold madeM
  rw [crowd_mem, addAll_mem]
  have e : (onesOf L).map (·.1) = L := by
    unfold onesOf
    rw [List.map_map]
    exact List.map_id _
  rw [e]
  exact ⟨fun h => h.elim (fun z => nomatch z) id, .inr⟩
theorem ones_app (L M : List Str) (k : Str) : sumAt (onesOf (L ++ M)) k = sumAt (onesOf L) k + sumAt (onesOf M) k := by
  unfold sumAt onesOf
  rw [List.map_append, List.map_append, List.sum_append]
theorem made_both (L M : List Str) : crowdM (addAll (madeM L) (madeM M)) = madeM (L ++ M) := by
  have g : ∀ k, getI (addAll [] (onesOf (L ++ M))) k = sumAt (onesOf (L ++ M)) k := fun k => by
    rw [getI_addAll]
    show (0 : Int) + _ = _
    rw [Int.zero_add]
  show _ = crowdM (addAll [] (onesOf (L ++ M)))
  refine crowd_ext (fun k => ?_) fun k => ?_
  · rw [addAll_mem, made_mem, made_mem, ← crowd_mem (rs := addAll [] (onesOf (L ++ M)))]
    show _ ↔ k ∈ (madeM (L ++ M)).map (·.1)
    rw [made_mem, List.mem_append]
  · rw [getI_addAll, made_get, sum_nd (show NdK (madeM M) from crowd_nd _), made_get, g, ones_app]
theorem made_swap (L M : List Str) : crowdM (addAll (madeM M) (madeM L)) = madeM (L ++ M) := by
  rw [made_both]
  show crowdM _ = crowdM _
  refine crowd_ext (fun k => ?_) fun k => ?_
  · rw [← crowd_mem, ← crowd_mem (rs := addAll [] (onesOf (L ++ M)))]
    show k ∈ (madeM (M ++ L)).map (·.1) ↔ k ∈ (madeM (L ++ M)).map (·.1)
    rw [made_mem, made_mem, List.mem_append, List.mem_append]
    exact Or.comm
  · rw [getI_addAll, getI_addAll, ones_app, ones_app]
    omega
/-! ### the sum -/
theorem sum_put {k : Str} {c : Int} : ∀ {rs : List NRow}, NdK rs → k ∈ rs.map (·.1) → ((rs.map fun z => if z.1 = k then (z.1, c) else z).map (·.2)).sum = (rs.map (·.2)).sum - getI rs k + c
  | z :: rs, h, m => by
    have h2 := List.nodup_cons.mp (show (z.1 :: rs.map (·.1)).Nodup from h)
    rw [List.map_cons, List.map_cons, List.sum_cons, List.map_cons, List.sum_cons]
    unfold getI
    by_cases e : z.1 = k
    · rw [if_pos e, if_pos e]
      have same : (rs.map fun z => if z.1 = k then (z.1, c) else z) = rs := by
        refine (List.map_congr_left fun y hy => ?_).trans (List.map_id _)
        rw [if_neg fun w => h2.1 (by rw [e, ← w]; exact List.mem_map.mpr ⟨y, hy, rfl⟩)]
        rfl
      rw [same]
      show c + (rs.map (·.2)).sum = z.2 + (rs.map (·.2)).sum - z.2 + c
      generalize (rs.map (·.2)).sum = a
      omega
    · rw [if_neg e, if_neg e]
      have m2 : k ∈ rs.map (·.1) := (List.mem_cons.mp m).elim (fun w => absurd w.symm e) id
      rw [sum_put h2.2 m2]
      omega
theorem sum_add {rs : List NRow} {k : Str} {n : Int} (h : NdK rs) : ((addI rs k n).map (·.2)).sum = (rs.map (·.2)).sum + n := by
  unfold addI
  by_cases m : k ∈ rs.map (·.1)
  · rw [if_pos (any_key.mpr m), sum_put h m]
    show (rs.map (·.2)).sum - getI rs k + (getI rs k + n) = (rs.map (·.2)).sum + n
    generalize (rs.map (·.2)).sum = a
    omega
  · rw [if_neg (fun e => m (any_key.mp e)), getI_none m, List.map_append, List.sum_append]
    show _ + (0 + n + 0) = _
    omega
theorem sum_addAll : ∀ {ms rs : List NRow}, NdK rs → ((addAll rs ms).map (·.2)).sum = (rs.map (·.2)).sum + (ms.map (·.2)).sum
  | [], rs, _ => by
    show (rs.map (·.2)).sum = _
    rw [List.map_nil, List.sum_nil, Int.add_zero]
  | m :: ms, rs, h => by
    show ((addAll (addI rs m.1 m.2) ms).map (·.2)).sum = _
    rw [sum_addAll (addI_nodup h), sum_add h, List.map_cons, List.sum_cons, Int.add_assoc]
theorem crowd_perm {rs : List NRow} (h : NdK rs) : (crowdM rs).Perm rs := by
  have pk : (srt ltS (rs.map (·.1))).Perm (rs.map (·.1)) := (List.perm_ext_iff_of_nodup (up_nodup totS (up_srt totS _)) h).mpr fun z => mem_srt totS
  have e : (rs.map (·.1)).map (fun k => (k, getI rs k)) = rs := by
    rw [List.map_map]
    refine (List.map_congr_left fun z hz => ?_).trans (List.map_id _)
    show (z.1, getI rs z.1) = z
    rw [getI_mem h (show (z.1, z.2) ∈ rs from hz)]
  have p := pk.map fun k => (k, getI rs k)
  rw [e] at p
  exact p
theorem perm_sum {l m : List Int} (h : l.Perm m) : l.sum = m.sum := by
  induction h with
  | nil => rfl
  | cons x _ ih => rw [List.sum_cons, List.sum_cons, ih]
  | swap x y l => rw [List.sum_cons, List.sum_cons, List.sum_cons, List.sum_cons]; omega
  | trans _ _ a b => exact a.trans b
theorem made_sum (L : List Str) : ((madeM L).map (·.2)).sum = (L.length : Nat) := by
  unfold madeM
  rw [perm_sum ((crowd_perm (addAll_nodup (rs := []) List.nodup_nil _)).map (·.2)), sum_addAll (rs := []) List.nodup_nil]
  have e : ((onesOf L).map (·.2)).sum = (L.length : Nat) := by
    induction L with
    | nil => rfl
    | cons x L ih =>
      show (1 : Int) + ((onesOf L).map (·.2)).sum = _
      rw [ih, List.length_cons]
      omega
  rw [e]
  show (0 : Int) + _ = _
  rw [Int.zero_add]
theorem made_len (L : List Str) : (madeM L).length ≤ L.length := by
  have e : (madeM L).length = ((madeM L).map (·.1)).length := (List.length_map _).symm
  rw [e]
  exact few_of (crowd_nd _) fun z hz => made_mem.mp hz
/-! ### as data -/
def pairD (z : NRow) : PyData := .tuple [.str z.1, .int z.2]
def cwD (zs : List NRow) : PyData := .tuple (zs.map pairD)
theorem dp_pair {K : PySem.W.Frag} {H : Hp} {t : Addr} {z : NRow} (h : SqT K H t [.str z.1, .int z.2]) : Dp K H (.ref t) (pairD z) := .tup h (.cons (.str _) (.cons (.int _) .nil))
theorem dps_prs {K : PySem.W.Frag} {H : Hp} : ∀ {ts : List Addr} {zs : List NRow}, Paired (fun t z => SqT K H t [.str z.1, .int z.2]) ts zs → DpAll K H (ts.map V.ref) (zs.map pairD)
  | _, _, .nil => .nil
  | _, _, .cons r h => .cons (dp_pair r) (dps_prs h)
theorem dp_cw {K : PySem.W.Frag} {H : Hp} {a : Addr} {zs : List NRow} (h : CwAt K H a zs) : Dp K H (.ref a) (cwD zs) := let ⟨_, h1, h2⟩ := h; .tup h1 (dps_prs h2)
theorem rises_up : ∀ {L : List Str}, Up ltS L → risesM L = true
  | [], _ => rfl
  | [_], _ => rfl
  | x :: y :: r, h => by
    have h2 := List.pairwise_cons.mp h
    show (ltS x y && risesM (y :: r)) = true
    rw [h2.1 y List.mem_cons_self, rises_up h2.2]
    rfl
theorem rises_down {x y : Str} {l r : List Str} (h : ltS x y = false) : risesM (l ++ x :: y :: r) = false := by
  induction l with
  | nil =>
    show (ltS x y && _) = false
    rw [h]
    rfl
  | cons z l ih =>
    cases l with
    | nil =>
      show (ltS z x && risesM (x :: y :: r)) = false
      have : risesM (x :: y :: r) = false := ih
      rw [this, Bool.and_false]
    | cons z2 l =>
      show (ltS z z2 && risesM (z2 :: (l ++ x :: y :: r))) = false
      have : risesM (z2 :: (l ++ x :: y :: r)) = false := ih
      rw [this, Bool.and_false]
theorem crowd_data (ks : List Str) (zs : List NRow) : crowdD ks (cwD zs) = ((zs.all fun z => decide (z.1 ∈ ks) && decide (0 < z.2)) && risesM (zs.map (·.1))) := by
  show ((zs.map pairD).all (goodP ks) && risesM ((zs.map pairD).map keyD)) = _
  rw [List.all_map, List.map_map]
  rfl
theorem made_pos {L : List Str} {z : NRow} (h : z ∈ madeM L) : z.1 ∈ L ∧ 0 < z.2 := by
  have m : z.1 ∈ L := made_mem.mp (List.mem_map.mpr ⟨z, h, rfl⟩)
  have e : z.2 = sumAt (onesOf L) z.1 := by
    rw [← made_get]
    exact (getI_mem (crowd_nd _) (show (z.1, z.2) ∈ madeM L from h)).symm
  refine ⟨m, ?_⟩
  rw [e, sum_ones]
  have : z.1 ∈ L.filter fun y => decide (y = z.1) := List.mem_filter.mpr ⟨m, decide_eq_true rfl⟩
  have := List.length_pos_of_mem this
  omega
theorem made_up (L : List Str) : Up ltS ((madeM L).map (·.1)) := by
  unfold madeM
  rw [crowd_keys]
  exact up_srt totS _
theorem crowd_few (ks L : List Str) : crowdD ks (cwD (madeM L)) = decide ((L.filter fun k => !decide (k ∈ ks)) = []) := by
  rw [crowd_data, rises_up (made_up L), Bool.and_true, Bool.eq_iff_iff, List.all_eq_true, decide_eq_true_eq, List.filter_eq_nil_iff]
  constructor
  · intro h k hk
    obtain ⟨z, hz, e⟩ := List.mem_map.mp (made_mem.mpr hk)
    have := h z hz
    rw [Bool.and_eq_true, decide_eq_true_eq, decide_eq_true_eq] at this
    rw [← e]
    simp [this.1]
  · intro h z hz
    obtain ⟨m, p⟩ := made_pos hz
    have := h _ m
    rw [Bool.and_eq_true, decide_eq_true_eq, decide_eq_true_eq]
    refine ⟨?_, p⟩
    simpa using this
theorem crowd_turned {ks L : List Str} (h : ∀ k ∈ L, k ∈ ks) : crowdD ks (cwD (madeM L).reverse) = decide ((madeM L).length < 2) := by
  rw [crowd_data]
  have a : ((madeM L).reverse.all fun z => decide (z.1 ∈ ks) && decide (0 < z.2)) = true := by
    rw [List.all_eq_true]
    intro z hz
    obtain ⟨m, p⟩ := made_pos (List.mem_reverse.mp hz)
    rw [decide_eq_true (h _ m), decide_eq_true p]
    rfl
  rw [a, Bool.true_and, List.map_reverse]
  have up := made_up L
  have ln : ((madeM L).map (·.1)).length = (madeM L).length := List.length_map _
  rw [← ln]
  generalize (madeM L).map (·.1) = M at up
  match M, up with
  | [], _ => rfl
  | [_], _ => rfl
  | x :: y :: r, up =>
    have lt := (List.pairwise_cons.mp up).1 y List.mem_cons_self
    have e : (x :: y :: r).reverse = r.reverse ++ y :: x :: [] := by
      rw [List.reverse_cons, List.reverse_cons, List.append_assoc]
      rfl
    rw [e, rises_down (totS.asym lt), decide_eq_false]
    simp only [List.length_cons]
    omega
theorem crowd_more {ks L : List Str} (h : ∀ k ∈ L, k ∈ ks) : crowdD ks (cwD (madeM L ++ (madeM L).take 1)) = decide (madeM L = []) := by
  rw [crowd_data]
  have a : ((madeM L ++ (madeM L).take 1).all fun z => decide (z.1 ∈ ks) && decide (0 < z.2)) = true := by
    rw [List.all_eq_true]
    intro z hz
    have hz2 : z ∈ madeM L := (List.mem_append.mp hz).elim id List.mem_of_mem_take
    obtain ⟨m, p⟩ := made_pos hz2
    rw [decide_eq_true (h _ m), decide_eq_true p]
    rfl
  rw [a, Bool.true_and, List.map_append, List.map_take]
  have key : ∀ M : List Str, Up ltS M → (risesM (M ++ M.take 1) = true ↔ M = []) := by
    intro M up
    match M, up with
    | [], _ => exact ⟨fun _ => rfl, fun _ => rfl⟩
    | x :: r, up =>
      have ex : ∃ l y, x :: r = l ++ [y] ∧ ltS y x = false := by
        refine ⟨(x :: r).dropLast, (x :: r).getLast (by simp), (List.dropLast_concat_getLast (by simp)).symm, ?_⟩
        rcases List.mem_cons.mp (List.getLast_mem (l := x :: r) (by simp)) with e | m
        · rw [e]; exact totS.irr x
        · exact totS.asym ((List.pairwise_cons.mp up).1 _ m)
      obtain ⟨l, y, e, lt⟩ := ex
      have f : risesM ((x :: r) ++ [x]) = false := by
        rw [e, List.append_assoc]
        exact rises_down lt
      constructor
      · intro h
        have h2 : risesM ((x :: r) ++ [x]) = true := h
        rw [f] at h2
        cases h2
      · intro h
        cases h
  rw [Bool.eq_iff_iff, decide_eq_true_eq, key _ (made_up L), List.map_eq_nil_iff]
end Sx

/-! LbJ -/
namespace Sx
open PySem PySem.Spec PyProof.Rows L2
abbrev sRight : Stmt := top 28
def spRight : Sp := fun vs H Q _ => ∃ (u : Addr), vs = [.ref u] ∧ Urn H u 0 ∧ ∀ H', SameU u H H' → Q (.bl true) H'
/-- the class at C is made with its last arguments left out -/
def MkD (P : Program) (w : World) (K : PySem.W.Frag) (mg : Str → Option Value) (base : Heap) (x : Str) (C : Addr) (k : Nat) (ps : List Str) (sp : Sp) (dvs : List V) : Prop := ∃ f fd ds, mg x = some (.ref C) ∧ Mk K C f ∧ FnOk P w K mg base CX0 k f fd ps sp ∧ Binds K fd ps ds ∧ Vals dvs ds
theorem pe_mkd {X : Cx} {k : Nat} {C : Addr} {ps : List Str} {sp : Sp} {x : Str} {p pos : Pos} {e : Expr} {es : List Expr} {t : TA} {dvs : List V} (G : MkD X.prog X.w X.K X.mg X.base x C k ps sp dvs) (hr : Room (k + 1) X.A) (ha : PA X (e :: es) t) (hg : Gl X x := by rfl) (hdb : (x == ("__debug__" : Str)) = false := by decide)
    (he : starEach (e :: es) X.env = (false, eval e X.env) :: starEach es X.env := by rfl) (hpl : (backTo pos (starEach es X.env)).any (·.1) = false := by rfl) : PE X (.Call (.Name x p) (e :: es) [] pos) (tMake C sp dvs E0 t) := by
  obtain ⟨f, fd, ds, hm, M, F, b, r⟩ := G
  exact pe_make M F hr hg hm b r pass0 ha hdb he hpl
def asgVal : Stmt → Expr
  | .Assign _ e _ => e
  | _ => .Constant .none 0 ⟨0, 0, 0, 0⟩
def forBody : Stmt → List Stmt
  | .For _ _ b _ _ => b
  | _ => []
theorem urn_new {H : Hp} {u p : Addr} {n : Nat} (U : Urn H u n) (h : H p = none) : p ≠ u := fun e => by
  obtain ⟨o, ho⟩ := U.is
  rw [e, ho] at h
  cases h
/-- a row of tags -/
def RowOk (ks : List Str) (u : Addr) (H : Hp) (a : Addr) (L : List Str) : Prop := H a = some (.lst (L.map V.str)) ∧ a ≠ u ∧ L.length ≤ 12 ∧ ∀ k ∈ L, k ∈ ks
theorem cw_depth (zs : List NRow) : (cwD zs).depth ≤ 2 := by
  have e : PyData.depthAll (zs.map pairD) ≤ 1 := by
    induction zs with
    | nil => simp [PyData.depthAll]
    | cons z zs ih =>
      rw [List.map_cons]
      simp only [PyData.depthAll, pairD, PyData.depth]
      omega
  simp only [cwD, PyData.depth]
  omega
theorem cw_lay {zs : List NRow} (h : ∀ z ∈ zs, PyData.strOk z.1 = true) : (cwD zs).canLay0 = true := by
  have e : PyData.canLayAll0 (zs.map pairD) = true := by
    induction zs with
    | nil => simp [PyData.canLayAll0]
    | cons z zs ih =>
      rw [List.map_cons]
      simp only [PyData.canLayAll0, pairD, PyData.canLay0, h z List.mem_cons_self, Bool.true_and]
      exact ih fun y hy => h y (List.mem_cons_of_mem _ hy)
  simp only [cwD, PyData.canLay0]
  exact e
theorem cw_fit {zs : List NRow} (h : ∀ z ∈ zs, PyData.strOk z.1 = true) : Fit (cwD zs) := ⟨cw_lay h, Nat.le_trans (cw_depth zs) (by decide)⟩
theorem cw_wide {zs : List NRow} (h : zs.length ≤ 10000) : wide (cwD zs) = true := by
  have e : wideAll (zs.map pairD) = true := by
    clear h
    induction zs with
    | nil => rfl
    | cons z zs ih =>
      rw [List.map_cons]
      simp only [wideAll, pairD, wide, ih]
      simp
  simp only [cwD, wide, e, List.length_map, h, decide_true, Bool.and_self]
theorem made_ok {ks L : List Str} (hk : ∀ k ∈ ks, k ∈ tenM) (hL : ∀ k ∈ L, k ∈ ks) : ∀ z ∈ madeM L, PyData.strOk z.1 = true := fun z hz => ten_ok _ (hk _ (hL _ (made_pos hz).1))
theorem cw_none (zs : List NRow) : PyData.eqv (cwD zs) (.tuple []) = decide (zs = []) := by
  cases zs with
  | nil => simp [cwD, PyData.eqv, PyData.eqvAll]
  | cons z zs => simp [cwD, PyData.eqv, PyData.eqvAll]
theorem pr_lists {K : PySem.W.Frag} {H : Hp} {l : Addr} {ts : List Addr} {zs : List NRow} (h : H l = some (.lst (ts.map V.ref))) (p : Paired (fun t (z : NRow) => H t = some (.lst [.str z.1, .int z.2])) ts zs) : PrAt K H l kiV zs := ⟨ts, .inl (SqL.of h), paired_imp (fun _ _ z => .inl (SqL.of z)) p⟩
theorem dps_app {K : PySem.W.Frag} {H : Hp} : ∀ {xs ys : List V} {ds es : List PyData}, DpAll K H xs ds → DpAll K H ys es → DpAll K H (xs ++ ys) (ds ++ es)
  | _, _, _, _, .nil, h => h
  | _, _, _, _, .cons r t, h => .cons r (dps_app t h)
theorem paired_rev {α β : Type} {F : α → β → Prop} : ∀ {as : List α} {bs : List β}, Paired F as bs → Paired F as.reverse bs.reverse
  | _, _, .nil => .nil
  | _, _, .cons r t => by
    rw [List.reverse_cons, List.reverse_cons]
    exact paired_snoc (paired_rev t) r
theorem paired_take {α β : Type} {F : α → β → Prop} : ∀ (n : Nat) {as : List α} {bs : List β}, Paired F as bs → Paired F (as.take n) (bs.take n)
  | 0, _, _, _ => .nil
  | n + 1, _, _, .nil => .nil
  | n + 1, _, _, .cons r t => .cons r (paired_take n t)
def fourD (L1 L2 : List Str) : List PyData := [cwD (madeM L1), cwD (madeM L2), cwD (madeM (L1 ++ L2)), cwD (madeM (L1 ++ L2))]
theorem RowOk.same {ks L : List Str} {u a : Addr} {H H' : Hp} (s : Same H H') (r : RowOk ks u H a L) : RowOk ks u H' a L := ⟨s _ _ r.1, r.2⟩
theorem RowOk.made {ks L : List Str} {u a : Addr} {H : Hp} (r : RowOk ks u H a L) : (madeM L).length ≤ 12 := Nat.le_trans (made_len L) r.2.2.1
section
variable {P : Program} {w : World} {K : PySem.W.Frag} {mg : Str → Option Value} {base : Heap}
abbrev SameG (P : Program) (w : World) (K : PySem.W.Frag) (mg : Str → Option Value) (base : Heap) : Prop := FnG P w K mg base "_law_same" 4 ["_law_got", "_law_goal"] (spSame K 3)
abbrev TagsG (P : Program) (w : World) (K : PySem.W.Frag) (mg : Str → Option Value) (base : Heap) : Prop := FnG P w K mg base "_law_tags" 3 ["_law_urn", "_law_size_so"] (spTags K)
abbrev OfG (P : Program) (w : World) (K : PySem.W.Frag) (mg : Str → Option Value) (base : Heap) : Prop := FnG P w K mg base "_law_of" 2 ["_law_urn", "_law_some_so"] (spLOf K)
abbrev CountedG (P : Program) (w : World) (K : PySem.W.Frag) (mg : Str → Option Value) (base : Heap) : Prop := FnG P w K mg base "_law_counted" 1 ["_law_jobs_so"] (spCounted K)
abbrev CrowdG (P : Program) (w : World) (K : PySem.W.Frag) (mg : Str → Option Value) (base : Heap) : Prop := FnG P w K mg base "crowd_of" 1 ["kinds"] (spCrowdOf K)
abbrev TogG (P : Program) (w : World) (K : PySem.W.Frag) (mg : Str → Option Value) (base : Heap) : Prop := FnG P w K mg base "together" 1 ["one", "other"] (spTogether K)
abbrev JobsG (P : Program) (w : World) (K : PySem.W.Frag) (mg : Str → Option Value) (base : Heap) : Prop := FnG P w K mg base "jobs_in" 1 ["crowd"] (spJobs K)
abbrev IsCrG (P : Program) (w : World) (K : PySem.W.Frag) (mg : Str → Option Value) (base : Heap) (C : Addr) : Prop := FnG P w K mg base "is_crowd" 2 ["book", "thing"] (spIsCrowd K C)
abbrev nRight : List Str := ["_law_urn", "_law_turn", "_law_tags_here", "_law_mate", "_law_two", "_law_side", "_law_k", "_law_load", "_law_more_so", "_law_got", "_law_due", "_law_few_so", "_law_lacking", "_law_own"]
theorem scRight : FnScope nRight ["_law_urn"] (defScope sRight) := ⟨rfl, rfl, rfl, by decide +kernel, rfl, by decide +kernel, by decide +kernel⟩
abbrev twoRows : Expr := asgVal ((forBody ((defBody sRight).getD 0 (.Pass ⟨0, 0, 0, 0⟩))).getD 1 (.Pass ⟨0, 0, 0, 0⟩))
theorem ok_right {C e0 : Addr} {f : Addr} {fd : FuncData} {dvs : List V} (F : FunD K "_law_right" "_law_right" (defArgs sRight) (defBody sRight) (defScope sRight) dvs [] f fd) (T : TB K mg C) (GT : TakeG P w K mg base) (GTags : TagsG P w K mg base) (GO : OfG P w K mg base) (GN : CountedG P w K mg base)
    (GC : CrowdG P w K mg base) (GTo : TogG P w K mg base) (GJ : JobsG P w K mg base) (GL : ListsG P w K mg base 2) (GS : SameG P w K mg base) (GI : IsCrG P w K mg base C) (GB : MkD P w K mg base "Book" C 1 ["self", "kinds", "clashes"] (spInit K C) [.ref e0]) (hE : ∀ H, SqT K H e0 []) :
    FnOk P w K mg base CX0 5 f fd ["_law_urn"] spRight := by
  refine F.ok scRight (fun vs H Q E h => ?_) (fun cdv A outer s H vs Q E hr h => ?_)
  · obtain ⟨u, rfl, _⟩ := h
    rfl
  · obtain ⟨u, rfl, U, q⟩ := h
    have hu : (A.deeper (envOfC "_law_right" (defScope sRight) s.heap.objs.size f cdv)).units + 65 < cLine := by have := hr.un; omega
    have hu2 : (A.deeper (envOfC "_law_right" (defScope sRight) s.heap.objs.size f cdv)).units + 64 < cLine := by omega
    have hr1 : Room 1 (A.deeper (envOfC "_law_right" (defScope sRight) s.heap.objs.size f cdv)) := hr.mono (by decide)
    have hr2 : Room 2 (A.deeper (envOfC "_law_right" (defScope sRight) s.heap.objs.size f cdv)) := hr.mono (by decide)
    have hr3 : Room 3 (A.deeper (envOfC "_law_right" (defScope sRight) s.heap.objs.size f cdv)) := hr.mono (by decide)
    have okIn : ∀ (N : List Str) (sc s2 : Scope), N = nRight → sc = seen (defScope sRight) (lcScope twoRows) → s2 = lcScope (lcElt twoRows) → BlkOk N sc s2 [("_law_k", 6)] := fun N sc s2 e1 e2 e3 => by
      rw [e1, e2, e3]
      exact blkOk_by (by decide +kernel)
    refine ⟨_, (Evl.pss_cut (ps_for PassesOwn.never rfl (pi_range1 (by rfl) T.range (pa_cons pe_int pa_nil)) (pg_name (i := 1) scRight.nd rfl (Or.inl rfl))
        (pss_cons (ps_set (i := 2) scRight.nd rfl (Or.inr rfl) (pe_g GTags hr3 (pa_cons (pv 0) (pa_cons (pe_op op_add pe_int (pe_g GT hr1 (pa_cons (pv 0) (pa_cons pe_int pa_nil)))) pa_nil))))
        (Evl.pss_cut (ps_asg (pe_lc (own := [("_law_side", 5)]) (g := gName 5) (tt := tYes) rfl scRight.nd (pi_range1 (by rfl) T.range (pa_cons pe_int pa_nil)) (blkOk_by (N := nRight) (sc := defScope sRight) (by decide +kernel)) (fun _ _ _ _ _ => pg_name (i := 5) scRight.nd rfl (Or.inl rfl)) (fun _ _ _ _ _ => pts_nil)
            (fun _ _ _ _ _ => pe_lc (own := [("_law_k", 6)]) (g := gName 6) (tt := tYes) rfl scRight.nd (pi_range1 (by rfl) T.range (pa_cons (pe_g GT hr1 (pa_cons (pv 0) (pa_cons pe_int pa_nil))) pa_nil)) (okIn _ _ _ rfl rfl rfl) (fun _ _ _ _ _ => pg_name (i := 6) scRight.nd rfl (Or.inl rfl)) (fun _ _ _ _ _ => pts_nil)
              (fun _ _ _ _ _ => pe_g GO hr2 (pa_cons (pv 0) (pa_cons (pv 2) pa_nil))))) (pg_lst (n := 2) rfl (pgs_cons (pg_name (i := 3) scRight.nd rfl (Or.inl rfl)) (pgs_cons (pg_name (i := 4) scRight.nd rfl (Or.inl rfl)) pgs_nil))))
        (Evl.pss_cut (ps_par (i := 7) (j := 8) (by rfl) scRight.nd rfl rfl (by decide) rfl rfl (pa_cons (pe_g GN hr1 (pa_cons (pv 3) pa_nil)) (pa_cons (pe_g GN hr1 (pa_cons (pv 4) pa_nil)) pa_nil)) (by rfl))
        (Evl.pss_cut (ps_set (i := 9) scRight.nd rfl (Or.inl rfl) (pe_lst (pa_cons (pe_g GC hr1 (pa_cons (pv 3) pa_nil)) (pa_cons (pe_g GC hr1 (pa_cons (pe_callTy (r := rTupOf K) cr_tupOf (by rfl) T.tuple bt_tuple (pa_cons (pv 4) pa_nil)) pa_nil))
            (pa_cons (pe_g GTo hr1 (pa_cons (pv 7) (pa_cons (pv 8) pa_nil))) (pa_cons (pe_g GTo hr1 (pa_cons (pe_g GL hr3 (pa_cons (pv 8) pa_nil)) (pa_cons (pe_g GL hr3 (pa_cons (pv 7) pa_nil)) pa_nil))) pa_nil))))))
        (Evl.pss_cut (ps_set (i := 10) scRight.nd rfl (Or.inl rfl) (pe_lst (pa_cons (pv 7) (pa_cons (pv 8) (pa_cons (pe_g GN hr1 (pa_cons (pe_op op_cat (pv 3) (pv 4)) pa_nil)) (pa_cons (pe_g GN hr1 (pa_cons (pe_op op_cat (pv 3) (pv 4)) pa_nil)) pa_nil))))))
        (Evl.pss_cut (ps_if (pt_not (pt_val (pe_g GS hr (pa_cons (pe_op op_cat (pv 9) (pe_lst (pa_cons (pe_g GJ hr1 (pa_cons (pv 7) pa_nil)) (pa_cons (pe_g GJ hr1 (pa_cons (pe_g GL hr3 (pa_cons (pv 8) pa_nil)) pa_nil)) pa_nil)))) (pa_cons (pe_op op_cat (pv 10)
            (pe_lst (pa_cons (pe_callB (r := rLn K) cr_ln (by rfl) T.len PySem.boot_len (pa_cons (pv 3) pa_nil)) (pa_cons (pe_callB (r := rLn K) cr_ln (by rfl) T.len PySem.boot_len (pa_cons (pv 4) pa_nil)) pa_nil)))) pa_nil))))) (pss_one ps_never) pss_nil)
        (Evl.pss_cut (ps_set (i := 11) scRight.nd rfl (Or.inr rfl) (pe_slice sl_tupA (pv 2) po_none (po_some (pe_g GT hr1 (pa_cons (pv 0) (pa_cons (pe_op op_add (pe_callB (r := rLn K) cr_ln (by rfl) T.len PySem.boot_len (pa_cons (pv 2) pa_nil)) pe_int) pa_nil))))))
        (Evl.pss_cut (ps_set (i := 12) scRight.nd rfl (Or.inl rfl) (pe_cmpR (r := rEqD K) (op_eqD hu2) (pe_lc (own := [("_law_own", 13)]) (g := gName 13) rfl scRight.nd (pi_list (pv 3)) (blkOk_by (N := nRight) (sc := defScope sRight) (by decide +kernel)) (fun _ _ _ _ _ => pg_name (i := 13) scRight.nd rfl (Or.inl rfl))
            (fun _ _ _ _ _ => pts_one (pt_cmpR (r := rNotInT K) (op_notInT hu) (pv 13) (pv 11) (by rfl))) (fun _ _ _ _ _ => pv 13)) (pe_lst pa_nil) (nomark _)))
        (Evl.pss_cut (ps_set (i := 9) scRight.nd rfl (Or.inl rfl) (pe_lst (pa_cons (pe_g GI hr2 (pa_cons (pe_mkd GB hr2 (pa_cons (pv 11) pa_nil)) (pa_cons (pv 7) pa_nil))) (pa_cons (pe_g GI hr2 (pa_cons (pe_mkd GB hr2 (pa_cons (pv 2) pa_nil)) (pa_cons (pe_revN (pv 7)) pa_nil)))
            (pa_cons (pe_g GI hr2 (pa_cons (pe_mkd GB hr2 (pa_cons (pv 2) pa_nil)) (pa_cons (pe_op op_catA (pv 7) (pe_slice sl_tupA (pv 7) po_none (po_some pe_int))) pa_nil))) pa_nil)))))
        (pss_one (ps_if (pt_not (pt_val (pe_g GS hr (pa_cons (pv 9) (pa_cons (pe_lst (pa_cons (pv 12) (pa_cons (pe_cmpR op_lt (pe_callB (r := rLn K) cr_ln (by rfl) T.len PySem.boot_len (pa_cons (pv 7) pa_nil)) pe_int (nomark _)) (pa_cons (pe_cmpR (r := rEqD K) (op_eqD hu2) (pv 7) (pe_tup pa_nil) (nomark _)) pa_nil)))) pa_nil)))))
          (pss_one ps_never) pss_nil))))))))))))
      (pss_one (ps_ret pe_bl))).nox, ?_⟩
    refine ⟨fun σ' H' => ∃ v1 v2 v3 v4 v7 v8 v9 v10 v11 v12, σ' = [some (.ref u), v1, v2, v3, v4, none, none, v7, v8, v9, v10, v11, v12, none] ∧ SameU u H H', ?_, ?_⟩
    · refine ⟨10, rfl, by decide, by decide, ?_⟩
      refine for_range (lo := 0) (n := 10) (fun i σ' H' => ∃ v1 v2 v3 v4 v7 v8 v9 v10 v11 v12, σ' = [some (.ref u), v1, v2, v3, v4, none, none, v7, v8, v9, v10, v11, v12, none] ∧ SameU u H H' ∧ Urn H' u (100 * i))
        ⟨none, none, none, none, none, none, none, none, none, none, rfl, SameU.id, U⟩ ?_ (fun σ' H' ⟨v1, v2, v3, v4, v7, v8, v9, v10, v11, v12, e, S, _⟩ => ⟨v1, v2, v3, v4, v7, v8, v9, v10, v11, v12, e, S⟩)
      rintro i σ' H0 hi ⟨v1, v2, v3, v4, v7, v8, v9, v10, v11, v12, rfl, S0, U0⟩
      -- tags
      refine ⟨_, rfl, _, rfl, u, 100 * i, 8, rfl, U0, by omega, by omega, by omega, fun k H1 hk U1 k1 => ?_⟩
      refine ⟨_, _, rfl, rfl, u, 100 * i + 1, 1 + k, by push_cast; rfl, U1, by omega, by omega, fun t ks H2 S2 U2 ht up klen kin => ?_⟩
      have S02 : SameU u H0 H2 := (SameU.but k1).trans S2
      have kpos : 0 < ks.length := by omega
      have k8 : ks.length ≤ 8 := by omega
      clear S2 U1 k1
      -- two rows
      refine ⟨fun σ' H' => ∃ (a1 a2 : Addr) (L1 L2 : List Str), σ' = [some (.ref u), some (.int (0 + (i : Int))), some (.ref t), some (.ref a1), some (.ref a2), none, none, v7, v8, v9, v10, v11, v12, none] ∧ SameU u H2 H' ∧ Urn H' u (100 * i + 60) ∧ RowOk ks u H' a1 L1 ∧ RowOk ks u H' a2 L2, ?_, ?_⟩
      · refine ⟨2, rfl, by decide, by decide, ?_⟩
        refine lc_walkR (n := 2) (vs := [5]) (σ := [some (.ref u), some (.int (0 + (i : Int))), some (.ref t), v3, v4, none, none, v7, v8, v9, v10, v11, v12, none]) (fun D j H' => D ≠ u ∧ SameU u H2 H' ∧ Urn H' u (100 * i + 11 + 20 * j) ∧ ∃ ms : List (Addr × List Str), H' D = some (.lst (ms.map fun m => V.ref m.1)) ∧ ms.length = j ∧ ∀ m ∈ ms, m.1 ≠ D ∧ RowOk ks u H' m.1 m.2)
          (fun D hD => ⟨urn_new U2 hD, SameU.of (Sx.Same.new hD), (U2.more (by omega)).same (Sx.Same.new hD), [], upd_same, rfl, fun m hm => nomatch hm⟩) ?_ ?_
        · rintro D j x H' ⟨hj, rfl⟩ hD ⟨Du, S, U', ms, hd, hl, hm⟩
          refine ⟨rfl, ?_⟩
          refine ⟨_, rfl, u, _, 13, rfl, U', by omega, by omega, by omega, fun n2 H3 hn2 U3 k3 => ?_⟩
          refine ⟨_, rfl, by omega, by omega, ?_⟩
          rw [Int.toNat_natCast]
          have hd3 : H3 D = some (.lst (ms.map fun m => V.ref m.1)) := by rw [k3 D Du]; exact hd
          refine lc_walkR (n := n2) (vs := [6]) (σ := [some (.ref u), some (.int (0 + (i : Int))), some (.ref t), v3, v4, some (.int (0 + (j : Int))), none, v7, v8, v9, v10, v11, v12, none]) (fun D2 j2 H'' => D2 ≠ u ∧ D2 ≠ D ∧ SameU u H3 H'' ∧ Urn H'' u (100 * i + 11 + 20 * j + 1 + j2) ∧ ∃ L : List Str, H'' D2 = some (.lst (L.map V.str)) ∧ L.length = j2 ∧ ∀ k ∈ L, k ∈ ks)
            (fun D2 hD2 => ⟨urn_new U3 hD2, (fun e => by rw [e, hd3] at hD2; cases hD2), SameU.of (Sx.Same.new hD2), U3.same (Sx.Same.new hD2), [], upd_same, rfl, fun k hk => nomatch hk⟩) ?_ ?_
          · rintro D2 j2 x H'' ⟨hj2, rfl⟩ hD2 ⟨D2u, D2D, S4, U4, L, hL, lL, kL⟩
            refine ⟨rfl, ?_⟩
            have S24 : SameU u H2 H'' := (S.trans (SameU.but k3)).trans S4
            refine ⟨_, rfl, _, rfl, u, t, _, ks.map V.str, rfl, U4, by omega, S24.sqT U2 ht, by rw [List.length_map]; exact kpos, by rw [List.length_map]; omega, fun k v H5 hv U5 S5 => ?_⟩
            rw [List.getElem?_map] at hv
            obtain ⟨z, hz, rfl⟩ := Option.map_eq_some_iff.mp hv
            refine ⟨_, S5 _ _ hL D2u, by rw [List.length_map, lL, sizeLine_eq]; omega, D2u, D2D, (S4.trans S5).mut hD2, U5.upd D2u, L ++ [z], by rw [upd_same, List.map_append]; rfl, by rw [List.length_append, lL]; rfl, fun y hy => ?_⟩
            rcases List.mem_append.mp hy with h | h
            · exact kL y h
            · rw [List.mem_singleton.mp h]
              exact List.mem_of_getElem? hz
          · rintro D2 H'' hD2 ⟨D2u, D2D, S4, U4, L, hL, lL, kL⟩
            have hd4 := S4 _ _ hd3 Du
            have SD : SameU u H2 H'' := (S.trans (SameU.but k3)).trans S4
            refine ⟨_, hd4, by rw [List.length_map, hl, sizeLine_eq]; omega, Du, SD.mut hD, (U4.more (by omega)).upd Du, ms ++ [(D2, L)], by rw [upd_same, List.map_append]; rfl, by rw [List.length_append, hl]; rfl, fun m hmm => ?_⟩
            rcases List.mem_append.mp hmm with h | h
            · obtain ⟨n1, r1⟩ := hm m h
              refine ⟨n1, ?_, r1.2.1, r1.2.2⟩
              rw [upd_ne n1]
              exact S4 _ _ (by rw [k3 _ r1.2.1]; exact r1.1) r1.2.1
            · rw [List.mem_singleton.mp h]
              exact ⟨D2D, by rw [upd_ne D2D]; exact hL, D2u, (show L.length ≤ 12 by omega), kL⟩
        · rintro D H' hD ⟨Du, S, U', ms, hd, hl, hm⟩
          match ms, hl with
          | [m1, m2], _ =>
            refine ⟨D, _, rfl, SqL.of hd, rfl, _, _, rfl, _, _, rfl, rfl, ?_⟩
            exact ⟨m1.1, m2.1, m1.2, m2.2, rfl, S, U'.more (by omega), (hm m1 (by simp)).2, (hm m2 (by simp)).2⟩
      rintro σ3 H3 ⟨a1, a2, L1, L2, rfl, S23, U3, R1, R2⟩
      have ht3 := S23.sqT U2 ht
      have S03 := S02.trans S23
      clear S23 S02 U2 ht
      have m1 := R1.made
      have m2 := R2.made
      have R12 := R1.2.2.2
      have r12 := R1.2.2.1
      have r22 := R2.2.2.1
      -- their crowds
      refine ⟨fun σ' H' => ∃ (t7 t8 : Addr), σ' = [some (.ref u), some (.int (0 + (i : Int))), some (.ref t), some (.ref a1), some (.ref a2), none, none, some (.ref t7), some (.ref t8), v9, v10, v11, v12, none] ∧ Same H3 H' ∧ CwAt K H' t7 (madeM L1) ∧ CwAt K H' t8 (madeM L2), ?_, ?_⟩
      · refine ⟨_, rfl, a1, L1, rfl, SqL.of R1.1, by omega, fun t7 H4 S4 c7 => ?_⟩
        refine ⟨_, rfl, a2, L2, rfl, SqL.of (S4 _ _ R2.1), by omega, fun t8 H5 S5 c8 => ⟨_, _, rfl, t7, t8, rfl, S4.trans S5, c7.same S5, c8⟩⟩
      rintro σ4 H4 ⟨t7, t8, rfl, S4, c7, c8⟩
      -- what the program tells
      refine ⟨fun σ' H' => ∃ (l9 : Addr) (xs : List V), σ' = [some (.ref u), some (.int (0 + (i : Int))), some (.ref t), some (.ref a1), some (.ref a2), none, none, some (.ref t7), some (.ref t8), some (.ref l9), v10, v11, v12, none] ∧ Same H4 H' ∧ H' l9 = some (.lst xs) ∧ DpAll K H' xs (fourD L1 L2), ?_, ?_⟩
      · refine ⟨_, rfl, a1, L1, rfl, .inl (SqL.of (S4 _ _ R1.1)), by omega, fun r1 H5 S5 c1 => ?_⟩
        refine ⟨_, rfl, a2, _, rfl, .inl ⟨SqL.of (S5 _ _ (S4 _ _ R2.1)), fun tt htt => ?_⟩⟩
        have S6 : Same H5 (upd H5 tt (.tup (L2.map V.str))) := Sx.Same.new htt
        refine ⟨tt, L2, rfl, .inr (SqT.of upd_same), by omega, fun r2 H7 S7 c2 => ?_⟩
        have S57 := S6.trans S7
        have S47 := S5.trans S57
        refine ⟨_, rfl, _, rfl, t7, t8, madeM L1, madeM L2, rfl, (c7.same S47).pr, (c8.same S47).pr, crowd_nd _, by omega, by omega, fun r3 H8 S8 c3 => ?_⟩
        have S48 := S47.trans S8
        refine ⟨_, rfl, t8, madeM L2, rfl, c8.same S48, by omega, fun l8 ts8 H9 S9 h8 p8 => ?_⟩
        refine ⟨_, rfl, t7, madeM L1, rfl, c7.same (S48.trans S9), by omega, fun l7 ts7 H10 S10 h7 p7 => ?_⟩
        refine ⟨l8, l7, madeM L2, madeM L1, rfl, (pr_lists h8 p8).same S10, pr_lists h7 p7, crowd_nd _, by omega, by omega, fun r4 H11 S11 c4 => ?_⟩
        rw [made_both] at c3
        rw [made_swap] at c4
        refine ⟨(by show 4 ≤ sizeLine; decide), fun l9 hl9 => ?_⟩
        have S12 : Same H11 (upd H11 l9 (.lst [.ref r1, .ref r2, .ref r3, .ref r4])) := Sx.Same.new hl9
        have S9b := S9.trans (S10.trans (S11.trans S12))
        refine ⟨l9, _, rfl, S48.trans S9b, upd_same, .cons (dp_cw (c1.same (S57.trans (S8.trans S9b)))) (.cons (dp_cw (c2.same (S8.trans S9b))) (.cons (dp_cw (c3.same S9b)) (.cons (dp_cw (c4.same S12)) .nil)))⟩
      rintro σ5 H5 ⟨l9, xs, rfl, S5, h9, d9⟩
      have S35 := S4.trans S5
      -- what is due
      refine ⟨fun σ' H' => ∃ (l10 : Addr) (ys : List V), σ' = [some (.ref u), some (.int (0 + (i : Int))), some (.ref t), some (.ref a1), some (.ref a2), none, none, some (.ref t7), some (.ref t8), some (.ref l9), some (.ref l10), v11, v12, none] ∧ Same H5 H' ∧ H' l10 = some (.lst ys) ∧ DpAll K H' ys (fourD L1 L2), ?_, ?_⟩
      · have cat : ∀ {H' : Hp} {p : Addr}, (upd H' p (.lst (L1.map V.str ++ L2.map V.str))) p = some (.lst ((L1 ++ L2).map V.str)) := fun {H' p} => by rw [upd_same, List.map_append]
        have ln : (L1 ++ L2).length ≤ 1000 := by rw [List.length_append]; omega
        have lz : (L1.map V.str).length + (L2.map V.str).length ≤ sizeLine := by rw [List.length_map, List.length_map, sizeLine_eq]; omega
        refine ⟨_, rfl, _, rfl, _, rfl, _, rfl, a1, a2, _, _, rfl, rfl, S35 _ _ R1.1, S35 _ _ R2.1, lz, fun p hp => ?_⟩
        have S6 : Same H5 (upd H5 p (.lst (L1.map V.str ++ L2.map V.str))) := Sx.Same.new hp
        refine ⟨p, L1 ++ L2, rfl, SqL.of cat, ln, fun r3 H7 S7 c3 => ?_⟩
        have S57 := S6.trans S7
        refine ⟨_, rfl, _, rfl, a1, a2, _, _, rfl, rfl, S57 _ _ (S35 _ _ R1.1), S57 _ _ (S35 _ _ R2.1), lz, fun p2 hp2 => ?_⟩
        have S8 : Same H7 (upd H7 p2 (.lst (L1.map V.str ++ L2.map V.str))) := Sx.Same.new hp2
        refine ⟨p2, L1 ++ L2, rfl, SqL.of cat, ln, fun r4 H9 S9 c4 => ?_⟩
        refine ⟨(by show 4 ≤ sizeLine; decide), fun l10 hl10 => ?_⟩
        have S10 : Same H9 (upd H9 l10 (.lst [.ref t7, .ref t8, .ref r3, .ref r4])) := Sx.Same.new hl10
        have S79 := S8.trans (S9.trans S10)
        have S5e := S57.trans S79
        exact ⟨l10, _, rfl, S5e, upd_same, .cons (dp_cw (c7.same (S5.trans S5e))) (.cons (dp_cw (c8.same (S5.trans S5e))) (.cons (dp_cw (c3.same S79)) (.cons (dp_cw (c4.same S10)) .nil)))⟩
      rintro σ6 H6 ⟨l10, ys, rfl, S6, h10, d10⟩
      have S36 := S35.trans S6
      have S46 := S5.trans S6
      have lxs : xs.length = 4 := dps_len d9
      have lys : ys.length = 4 := dps_len d10
      -- alike
      refine ⟨fun σ' H' => σ' = [some (.ref u), some (.int (0 + (i : Int))), some (.ref t), some (.ref a1), some (.ref a2), none, none, some (.ref t7), some (.ref t8), some (.ref l9), some (.ref l10), v11, v12, none] ∧ Same H6 H', ?_, ?_⟩
      · refine ⟨_, rfl, _, rfl, t7, madeM L1, rfl, (c7.same S46).pr, by omega, fun H7 S7 => ?_⟩
        refine ⟨_, rfl, t8, madeM L2, rfl, c8.same (S46.trans S7), by omega, fun l8 ts8 H8 S8 h8 p8 => ?_⟩
        refine ⟨l8, madeM L2, rfl, pr_lists h8 p8, by omega, fun H9 S9 => ?_⟩
        have S69 := S7.trans (S8.trans S9)
        refine ⟨(by show 2 ≤ sizeLine; decide), fun lj hlj => ?_⟩
        rw [made_sum, made_sum]
        have S10 : Same H9 (upd H9 lj (.lst [.int (L1.length : Nat), .int (L2.length : Nat)])) := Sx.Same.new hlj
        refine ⟨l9, lj, xs, _, rfl, rfl, S10 _ _ (S69 _ _ (S6 _ _ h9)), upd_same, by rw [lxs, sizeLine_eq]; show 4 + 2 ≤ _; decide, fun g hg => ?_⟩
        have S11 := Sx.Same.new (o := .lst (xs ++ [.int (L1.length : Nat), .int (L2.length : Nat)])) hg
        have hg1 : (upd (upd H9 lj (.lst [.int (L1.length : Nat), .int (L2.length : Nat)])) g (.lst (xs ++ [.int (L1.length : Nat), .int (L2.length : Nat)]))) g = some (.lst (xs ++ [.int (L1.length : Nat), .int (L2.length : Nat)])) := upd_same
        generalize upd (upd H9 lj (.lst [.int (L1.length : Nat), .int (L2.length : Nat)])) g (.lst (xs ++ [.int (L1.length : Nat), .int (L2.length : Nat)])) = H12 at S11 hg1 ⊢
        have S612 := S69.trans (S10.trans S11)
        refine ⟨_, rfl, _, rfl, a1, _, rfl, .inl (SqL.of (S612 _ _ (S36 _ _ R1.1))), _, rfl, a2, _, rfl, .inl (SqL.of (S612 _ _ (S36 _ _ R2.1))), (by show 2 ≤ sizeLine; decide), fun lk hlk => ?_⟩
        rw [List.length_map, List.length_map]
        have S13 : Same H12 (upd H12 lk (.lst [.int (L1.length : Nat), .int (L2.length : Nat)])) := Sx.Same.new hlk
        refine ⟨l10, lk, ys, _, rfl, rfl, S13 _ _ (S612 _ _ h10), upd_same, by rw [lys, sizeLine_eq]; show 4 + 2 ≤ _; decide, fun d hd => ?_⟩
        have S14 := Sx.Same.new (o := .lst (ys ++ [.int (L1.length : Nat), .int (L2.length : Nat)])) hd
        have hd1 : (upd (upd H12 lk (.lst [.int (L1.length : Nat), .int (L2.length : Nat)])) d (.lst (ys ++ [.int (L1.length : Nat), .int (L2.length : Nat)]))) d = some (.lst (ys ++ [.int (L1.length : Nat), .int (L2.length : Nat)])) := upd_same
        generalize upd (upd H12 lk (.lst [.int (L1.length : Nat), .int (L2.length : Nat)])) d (.lst (ys ++ [.int (L1.length : Nat), .int (L2.length : Nat)])) = H15 at S14 hd1 ⊢
        have S615 := S612.trans (S13.trans S14)
        refine ⟨.ref g, .ref d, .list (fourD L1 L2 ++ [.int (L1.length : Nat), .int (L2.length : Nat)]), rfl, .lst (SqL.of (S14 _ _ (S13 _ _ hg1))) (dps_app (dps_same S615 _ (dps_same S6 _ d9)) (.cons (.int _) (.cons (.int _) .nil))), .lst (SqL.of hd1) (dps_app (dps_same S615 _ d10) (.cons (.int _) (.cons (.int _) .nil))), ?_, ?_, fun H16 S16 => ⟨_, rfl, iteF ⟨rfl, S615.trans S16⟩⟩⟩
        · have e1 := cw_depth (madeM L1)
          have e2 := cw_depth (madeM L2)
          have e3 := cw_depth (madeM (L1 ++ L2))
          simp only [fourD, List.cons_append, List.nil_append, PyData.depth, PyData.depthAll]
          omega
        · have m3 : (madeM (L1 ++ L2)).length ≤ 10000 := Nat.le_trans (made_len _) (by rw [List.length_append]; omega)
          simp only [fourD, List.cons_append, List.nil_append, wide, wideAll, cw_wide (show (madeM L1).length ≤ 10000 by omega), cw_wide (show (madeM L2).length ≤ 10000 by omega), cw_wide m3]
          rfl
      rintro σ7 H7 ⟨rfl, S7⟩
      have S47 := S46.trans S7
      have S37 := S36.trans S7
      have U7 := U3.same S37
      have ht7 := sqT_same S37 ht3
      have S07 := S03.trans (SameU.of S37)
      have R17 := R1.same S37
      have c77 := c7.same S47
      clear S4 S5 S6 S7 S35 S36 S46 S37 S47 h9 h10 d9 d10 lxs lys c7 c8 R1 R2 U3 ht3 S03
      -- fewer tags
      refine ⟨fun σ' H' => ∃ (t11 : Addr) (m : Nat), σ' = [some (.ref u), some (.int (0 + (i : Int))), some (.ref t), some (.ref a1), some (.ref a2), none, none, some (.ref t7), some (.ref t8), some (.ref l9), some (.ref l10), some (.ref t11), v12, none] ∧ SameU u H7 H' ∧ Urn H' u (100 * i + 61) ∧ SqT K H' t11 ((ks.take m).map V.str), ?_, ?_⟩
      · refine ⟨_, rfl, _, rfl, _, rfl, t, _, rfl, .inr ht7, _, _, rfl, rfl, u, 100 * i + 60, ks.length + 1, by rw [List.length_map]; push_cast; rfl, U7, by omega, by omega, by omega, fun m H8 hm U8 k8' => ?_⟩
        have S8 : SameU u H7 H8 := SameU.but k8'
        refine ⟨_, rfl, slA_take (S8.sqT U7 ht7) fun t11 H9 S9 h9 => ?_⟩
        rw [← List.map_take] at h9
        exact ⟨t11, m, rfl, S8.trans (SameU.of S9), U8.same S9, h9⟩
      rintro σ8 H8 ⟨t11, m, rfl, S8, U8, h11⟩
      have ht8 := S8.sqT U7 ht7
      have S08 := S07.trans S8
      have R18 : RowOk ks u H8 a1 L1 := ⟨S8 _ _ R17.1 R17.2.1, R17.2⟩
      have c78 : CwAt K H8 t7 (madeM L1) := by
        obtain ⟨ts, h1, h2⟩ := c77
        exact ⟨ts, S8.sqT U7 h1, paired_imp (fun _ _ z => S8.sqT U7 z) h2⟩
      clear S8 ht7 S07 R17 c77 U7
      have few : ∀ k ∈ ks.take m, k ∈ ks := fun k hk => List.mem_of_mem_take hk
      have okF : Oks (ks.take m) := fun k hk => ten_ok _ (kin _ (few k hk))
      have okS : Oks ks := fun k hk => ten_ok _ (kin _ hk)
      have upF : Up ltS (ks.take m) := List.Pairwise.sublist (List.take_sublist m ks) up
      have lF : (ks.take m).length ≤ 8 := by rw [List.length_take]; omega
      -- lacking
      refine ⟨fun σ' H' => σ' = [some (.ref u), some (.int (0 + (i : Int))), some (.ref t), some (.ref a1), some (.ref a2), none, none, some (.ref t7), some (.ref t8), some (.ref l9), some (.ref l10), some (.ref t11), some (.bl (decide ((L1.filter fun k => !decide (k ∈ ks.take m)) = []))), none] ∧ Same H8 H', ?_, ?_⟩
      · refine ⟨_, rfl, a1, rfl, ⟨_, SqL.of R18.1⟩, ?_⟩
        refine lc_valsL (f := V.str) (c := fun k => !decide (k ∈ ks.take m)) (SqL.of R18.1) (paired_strs L1) (by rw [List.length_map]; omega) (fun x z hz ex H9 S9 => ?_) (fun D H9 hD S9 hl => ?_)
        · subst ex
          refine ⟨[some (.ref u), some (.int (0 + (i : Int))), some (.ref t), some (.ref a1), some (.ref a2), none, none, some (.ref t7), some (.ref t8), some (.ref l9), some (.ref l10), some (.ref t11), v12, some (.str z)], rfl, fun Q h => ?_, fun _ H10 S10 Q h => ⟨_, rfl, h _ Sx.same_id⟩, fun k h => h⟩
          refine ⟨_, rfl, _, rfl, .str z, (ks.take m).map sD, .str z, dp_tup (sqT_same S9 h11), ?_, shp_t _ okF, ?_⟩
          · have ok := ten_ok _ (kin _ (R18.2.2.2 z hz))
            refine Sx.shp ?_ ?_
            · simp only [PyData.canLay0]; exact ok
            · simp only [PyData.depth]; omega
          · rw [inD_is]
            exact ⟨_, rfl, h _ Sx.same_id⟩
        · refine ⟨Nat.zero_le _, fun e he => ?_⟩
          have S10 : Same H9 (upd H9 e (.lst [])) := Sx.Same.new he
          have okL : Oks (L1.filter fun k => !decide (k ∈ ks.take m)) := fun k hk => okS _ (R18.2.2.2 k (List.mem_filter.mp hk).1)
          refine ⟨lD (L1.filter fun k => !decide (k ∈ ks.take m)), lD [], dp_list (SqL.of (S10 _ _ hl)), dp_list (SqL.of upd_same), shp_l _ okL, shp_l _ (fun k hk => nomatch hk), ?_⟩
          rw [eqv_l]
          exact ⟨rfl, S9.trans S10⟩
      rintro σ9 H9 ⟨rfl, S9⟩
      have U9 := U8.same S9
      have h119 := sqT_same S9 h11
      have ht9 := sqT_same S9 ht8
      have c79 := c78.same S9
      have S09 := S08.trans (SameU.of S9)
      clear S9 U8 h11 ht8 c78 S08 R18
      have okM := made_ok kin R12
      -- is_crowd
      refine ⟨fun σ' H' => ∃ l9 : Addr, σ' = [some (.ref u), some (.int (0 + (i : Int))), some (.ref t), some (.ref a1), some (.ref a2), none, none, some (.ref t7), some (.ref t8), some (.ref l9), some (.ref l10), some (.ref t11), some (.bl (decide ((L1.filter fun k => !decide (k ∈ ks.take m)) = []))), none] ∧ Same H9 H' ∧
          H' l9 = some (.lst [.bl (decide ((L1.filter fun k => !decide (k ∈ ks.take m)) = [])), .bl (decide ((madeM L1).length < 2)), .bl (decide (madeM L1 = []))]), ?_, ?_⟩
      · have mk : ∀ {H1 : Hp} {x dx : Addr}, H1 x = none → H1 dx = none → dx ≠ x → ∀ {H' : Hp}, (∀ b o, (upd (upd H1 dx (.own x)) x (.ins C dx [])) b = some o → b ≠ x → H' b = some o) → Same H1 H' := fun {H1 x dx} nx nd ne {H'} kp b o e => by
          have bx : b ≠ x := ne_of_none e nx
          have bd : b ≠ dx := ne_of_none e nd
          exact kp b o (by rw [upd_ne bx, upd_ne bd]; exact e) bx
        have nds : ks.Nodup := up_nodup totS up
        have ndf : (ks.take m).Nodup := up_nodup totS upF
        refine ⟨_, rfl, fun x dx nx nd ne => ?_⟩
        have Sa : Same H9 (upd (upd H9 dx (.own x)) x (.ins C dx [])) := mk nx nd ne fun b o e _ => e
        refine ⟨x, dx, t11, e0, [], ks.take m, [], rfl, upd_same, .inr (sqT_same Sa h119), .inr (hE _), .nil, ndf, by omega, (fun c hc => nomatch hc), fun H10 B10 kp => ⟨rfl, ?_⟩⟩
        have S10 := mk nx nd ne kp
        refine ⟨_, rfl, x, .ref t7, _, _, cwD (madeM L1), rfl, B10, by rw [srt_self totS upF]; exact okF, dp_cw (c79.same S10), cw_fit okM, fun ds e => ?_, fun H11 S11 => ?_⟩
        · cases e; rw [List.length_map]; omega
        rw [srt_self totS upF, crowd_few]
        have S911 := S10.trans S11
        refine ⟨_, rfl, fun x2 dx2 nx2 nd2 ne2 => ?_⟩
        have Sb : Same H11 (upd (upd H11 dx2 (.own x2)) x2 (.ins C dx2 [])) := mk nx2 nd2 ne2 fun b o e _ => e
        refine ⟨x2, dx2, t, e0, [], ks, [], rfl, upd_same, .inr (sqT_same (S911.trans Sb) ht9), .inr (hE _), .nil, nds, by omega, (fun c hc => nomatch hc), fun H12 B12 kp2 => ⟨rfl, ?_⟩⟩
        have S912 := S911.trans (mk nx2 nd2 ne2 kp2)
        obtain ⟨ts, h1, h2⟩ := c79
        have h112 := sqT_same S912 h1
        have h212 := paired_imp (fun _ _ z => sqT_same S912 z) h2
        refine ⟨_, rfl, t7, _, rfl, h112, fun rv hrv => ?_⟩
        have S13 : Same H12 (upd H12 rv (.tup (ts.map V.ref).reverse)) := Sx.Same.new hrv
        refine ⟨x2, .ref rv, _, _, cwD (madeM L1).reverse, rfl, B12.same S13, by rw [srt_self totS up]; exact okS, dp_cw ⟨ts.reverse, SqT.of (by rw [upd_same, List.map_reverse]), paired_imp (fun _ _ z => sqT_same S13 z) (paired_rev h212)⟩, cw_fit fun z hz => okM z (List.mem_reverse.mp hz), fun ds e => ?_, fun H14 S14 => ?_⟩
        · cases e; rw [List.length_map, List.length_reverse]; omega
        rw [srt_self totS up, crowd_turned R12]
        have S914 := S912.trans (S13.trans S14)
        refine ⟨_, rfl, fun x3 dx3 nx3 nd3 ne3 => ?_⟩
        have Sc : Same H14 (upd (upd H14 dx3 (.own x3)) x3 (.ins C dx3 [])) := mk nx3 nd3 ne3 fun b o e _ => e
        refine ⟨x3, dx3, t, e0, [], ks, [], rfl, upd_same, .inr (sqT_same (S914.trans Sc) ht9), .inr (hE _), .nil, nds, by omega, (fun c hc => nomatch hc), fun H15 B15 kp3 => ⟨rfl, ?_⟩⟩
        have S915 := S914.trans (mk nx3 nd3 ne3 kp3)
        have h115 := sqT_same S915 h1
        have h215 := paired_imp (fun _ _ z => sqT_same S915 z) h2
        refine ⟨_, rfl, _, rfl, 1, rfl, slA_take (m := 1) h115 fun p H16 S16 hp => ?_⟩
        rw [← List.map_take] at hp
        have S916 := S915.trans S16
        have okT : ∀ z ∈ madeM L1 ++ (madeM L1).take 1, PyData.strOk z.1 = true := fun z hz => okM z ((List.mem_append.mp hz).elim id List.mem_of_mem_take)
        have lts : ts.length = (madeM L1).length := Paired.length h2
        refine ⟨t7, p, ts.map V.ref, (ts.take 1).map V.ref, rfl, rfl, sqT_same S16 h115, hp, by rw [List.length_map, List.length_map, List.length_take, sizeLine_eq]; omega, fun e0' => ?_, fun ne0 e1 => ?_, fun _ _ w1 hw1 => ?_⟩
        · have z0 : ts = [] := List.map_eq_nil_iff.mp e0'
          have z1 : madeM L1 = [] := List.length_eq_zero_iff.mp (by rw [← lts, z0]; rfl)
          have cw : CwAt K H16 p (madeM L1 ++ (madeM L1).take 1) := ⟨ts.take 1, hp, by rw [z0, z1]; exact .nil⟩
          refine ⟨x3, .ref p, _, _, cwD (madeM L1 ++ (madeM L1).take 1), rfl, B15.same S16, by rw [srt_self totS up]; exact okS, dp_cw cw, cw_fit okT, fun ds e => ?_, fun H18 S18 => ?_⟩
          · cases e; rw [List.length_map, List.length_append, List.length_take]; omega
          rw [srt_self totS up, crowd_more R12]
          exact ⟨(by show 3 ≤ sizeLine; decide), fun l hl => ⟨l, rfl, (S916.trans S18).trans (Sx.Same.new hl), upd_same⟩⟩
        · exfalso
          have z1 : ts.take 1 = [] := List.map_eq_nil_iff.mp e1
          match ts, z1 with
          | [], _ => exact ne0 rfl
        · have S17 : Same H16 (upd H16 w1 (.tup (ts.map V.ref ++ (ts.take 1).map V.ref))) := Sx.Same.new hw1
          have q := paired_imp (fun _ _ z => sqT_same (S16.trans S17) z) h215
          have cw : CwAt K (upd H16 w1 (.tup (ts.map V.ref ++ (ts.take 1).map V.ref))) w1 (madeM L1 ++ (madeM L1).take 1) := ⟨ts ++ ts.take 1, SqT.of (by rw [upd_same, List.map_append]), paired_app q (paired_take 1 q)⟩
          refine ⟨x3, .ref w1, _, _, cwD (madeM L1 ++ (madeM L1).take 1), rfl, B15.same (S16.trans S17), by rw [srt_self totS up]; exact okS, dp_cw cw, cw_fit okT, fun ds e => ?_, fun H18 S18 => ?_⟩
          · cases e; rw [List.length_map, List.length_append, List.length_take]; omega
          rw [srt_self totS up, crowd_more R12]
          exact ⟨(by show 3 ≤ sizeLine; decide), fun l hl => ⟨l, rfl, (S916.trans (S17.trans S18)).trans (Sx.Same.new hl), upd_same⟩⟩
      rintro σ10 H10 ⟨l9, rfl, S10, hl9⟩
      -- alike
      have c710 := c79.same S10
      obtain ⟨ts, h1, h2⟩ := id c710
      have lts : ts.length = (madeM L1).length := Paired.length h2
      refine ⟨_, rfl, _, rfl, _, rfl, t7, _, rfl, .inr h1, _, _, rfl, rfl, ?_⟩
      refine ⟨_, rfl, Nat.zero_le _, fun e he => ?_⟩
      have S11 : Same H10 (upd H10 e (.tup [])) := Sx.Same.new he
      refine ⟨cwD (madeM L1), .tuple [], dp_cw (c710.same S11), .tup (SqT.of upd_same) .nil, (cw_fit okM).shp, shp_t [] (fun k hk => nomatch hk), ?_⟩
      rw [cw_none]
      refine ⟨(by show 3 ≤ sizeLine; decide), fun d hd => ?_⟩
      have e2 : decide ((madeM L1).length < 2) = decide (((ts.map V.ref).length : Int) < 2) := by
        rw [List.length_map, lts]
        exact decide_eq_decide.mpr ⟨fun h => by omega, fun h => by omega⟩
      rw [e2] at hl9
      have S12 := Sx.Same.new (o := .lst [.bl (decide ((L1.filter fun k => !decide (k ∈ ks.take m)) = [])), .bl (decide (((ts.map V.ref).length : Int) < 2)), .bl (decide (madeM L1 = []))]) hd
      refine ⟨.ref l9, .ref d, .list [.bool (decide ((L1.filter fun k => !decide (k ∈ ks.take m)) = [])), .bool (decide (((ts.map V.ref).length : Int) < 2)), .bool (decide (madeM L1 = []))], rfl, .lst (SqL.of (S12 _ _ (S11 _ _ hl9))) (.cons (.bl _) (.cons (.bl _) (.cons (.bl _) .nil))), .lst (SqL.of upd_same) (.cons (.bl _) (.cons (.bl _) (.cons (.bl _) .nil))), ?_, ?_, fun H13 S13 => ⟨_, rfl, iteF ?_⟩⟩
      · simp only [PyData.depth, PyData.depthAll]
        omega
      · simp only [wide, wideAll]
        rfl
      · have S1013 := S11.trans (S12.trans S13)
        exact ⟨_, _, _, _, _, _, _, _, _, _, rfl, S0.trans (S09.trans (SameU.of (S10.trans S1013))), ((U9.same S10).same S1013).more (by omega)⟩
    rintro σ' H' ⟨v1, v2, v3, v4, v7, v8, v9, v10, v11, v12, rfl, S⟩
    exact q _ S
end
end Sx

/-! LbK -/
namespace Sx
open PySem PySem.Spec PyProof.Rows L2
theorem list_set_self {α : Type} {x : α} : ∀ {l : List α} {i : Nat}, l[i]? = some x → l.set i x = l
  | [], _, h => by simp at h
  | y :: l, 0, h => by cases h; rfl
  | y :: l, i + 1, h => by
    show y :: l.set i x = y :: l
    rw [list_set_self (l := l) (i := i) (by simpa using h)]
/-! ### what stands in the names -/
inductive Sg where
  | dat (d : PyData)
  | lst (ds : List PyData)
  | book (ks : List Str) (cs : List (Str × Str))
def Holds (K : PySem.W.Frag) (C : Addr) (H : Hp) : Option V → Option Sg → Prop
  | some v, some (.dat d) => Dp K H v d
  | some v, some (.lst ds) => ∃ l xs, v = .ref l ∧ H l = some (.lst xs) ∧ DpAll K H xs ds
  | some v, some (.book ks cs) => ∃ p, v = .ref p ∧ BookAt K C H p ks cs
  | none, none => True
  | _, _ => False
theorem Holds.same {K : PySem.W.Frag} {C : Addr} {H H' : Hp} (s : Same H H') : ∀ {o : Option V} {g : Option Sg}, Holds K C H o g → Holds K C H' o g
  | some v, some (.dat d), h => dp_same s d h
  | some v, some (.lst ds), ⟨l, xs, e, h1, h2⟩ => ⟨l, xs, e, s _ _ h1, dps_same s ds h2⟩
  | some v, some (.book ks cs), ⟨p, e, h⟩ => ⟨p, e, h.same s⟩
  | none, none, _ => True.intro
  | some v, none, h => h.elim
  | none, some _, h => h.elim
abbrev Sig := List (Option Sg)
def SgAt (K : PySem.W.Frag) (C : Addr) (H : Hp) (σ : L2.St) (sig : Sig) : Prop := Paired (Holds K C H) σ sig
theorem SgAt.same {K : PySem.W.Frag} {C : Addr} {H H' : Hp} {σ : L2.St} {sig : Sig} (s : Same H H') (h : SgAt K C H σ sig) : SgAt K C H' σ sig := paired_imp (fun _ _ z => z.same s) h
theorem paired_back {α β : Type} {F : α → β → Prop} : ∀ {xs : List α} {ys : List β} {i : Nat} {y : β}, Paired F xs ys → ys[i]? = some y → ∃ x, xs[i]? = some x ∧ F x y
  | _, _, 0, _, .cons r _, h => by cases h; exact ⟨_, rfl, r⟩
  | _, _, i + 1, _, .cons _ t, h => paired_back (i := i) t h
theorem paired_set {α β : Type} {F : α → β → Prop} {x : α} {y : β} (f : F x y) : ∀ {xs : List α} {ys : List β} (i : Nat), Paired F xs ys → Paired F (xs.set i x) (ys.set i y)
  | _, _, _, .nil => .nil
  | _, _, 0, .cons _ t => .cons f t
  | _, _, i + 1, .cons r t => .cons r (paired_set f i t)
section
variable {K : PySem.W.Frag} {C : Addr} {sig : Sig} {te t1 t2 : TE} {ta : TA} {d d1 d2 : PyData} {ds es : List PyData}
def De (K : PySem.W.Frag) (C : Addr) (sig : Sig) (te : TE) (d : PyData) : Prop := ∀ σ H, SgAt K C H σ sig → ∀ Q : VK, (∀ v H', Same H H' → Dp K H' v d → Q v H') → te σ H Q
def Des (K : PySem.W.Frag) (C : Addr) (sig : Sig) (ta : TA) (ds : List PyData) : Prop := ∀ σ H, SgAt K C H σ sig → ∀ Q : List V → Hp → Prop, (∀ vs H', Same H H' → DpAll K H' vs ds → Q vs H') → ta σ H Q
/-- a new list -/
def Le (K : PySem.W.Frag) (C : Addr) (sig : Sig) (te : TE) (ds : List PyData) : Prop := ∀ σ H, SgAt K C H σ sig → ∀ Q : VK, (∀ l xs H', H l = none → Same H H' → H' l = some (.lst xs) → DpAll K H' xs ds → Q (.ref l) H') → te σ H Q
theorem de_str (x : Str) : De K C sig (tC (.str x)) (.str x) := fun _ H _ _ h => h _ H same_id (.str x)
theorem de_int (i : Int) : De K C sig (tC (.int i)) (.int i) := fun _ H _ _ h => h _ H same_id (.int i)
theorem de_bl (b : Bool) : De K C sig (tC (.bl b)) (.bool b) := fun _ H _ _ h => h _ H same_id (.bl b)
theorem de_non : De K C sig (tC .non) .none := fun _ H _ _ h => h _ H same_id .non
theorem de_neg (i : Int) : De K C sig (tUn (rU fun i => .int (-i)) (tC (.int i))) (.int (-i)) := fun _ H _ _ h => ⟨i, rfl, h _ H same_id (.int (-i))⟩
theorem des_nil : Des K C sig tNil [] := fun _ H _ _ h => h [] H same_id .nil
theorem des_cons (h : De K C sig te d) (g : Des K C sig ta ds) : Des K C sig (tCons te ta) (d :: ds) := fun σ H A Q q =>
  h σ H A _ fun v H1 s1 d1 => g σ H1 (A.same s1) _ fun vs H2 s2 d2 => q (v :: vs) H2 (s1.trans s2) (.cons (dp_same s2 _ d1) d2)
theorem de_tup (g : Des K C sig ta ds) (hl : ds.length ≤ 1000) : De K C sig (tTup ta) (.tuple ds) := fun σ H A Q q =>
  g σ H A _ fun vs H1 s1 d1 => ⟨by rw [dps_len d1]; exact Nat.le_of_lt (small1000 hl), fun p hp => q _ _ (s1.trans (Sx.Same.new hp)) (.tup (SqT.of upd_same) (dps_same (Sx.Same.new hp) _ d1))⟩
theorem le_lst (g : Des K C sig ta ds) (hl : ds.length ≤ 1000) : Le K C sig (tLst ta) ds := fun σ H A Q q =>
  g σ H A _ fun vs H1 s1 d1 => ⟨by rw [dps_len d1]; exact Nat.le_of_lt (small1000 hl), fun p hp => q _ vs _ (Same.free s1 hp) (s1.trans (Sx.Same.new hp)) upd_same (dps_same (Sx.Same.new hp) _ d1)⟩
theorem le_de (h : Le K C sig te ds) : De K C sig te (.list ds) := fun σ H A Q q => h σ H A _ fun l xs H' _ s e d => q _ H' s (.lst (SqL.of e) d)
theorem de_var {i : Nat} (h : sig[i]? = some (some (.dat d))) : De K C sig (tVar i) d := fun σ H A Q q => by
  obtain ⟨o, ho, f⟩ := paired_back A h
  cases o with
  | none => exact f.elim
  | some v => exact ⟨v, ho, q v H same_id f⟩
theorem lv {i : Nat} {σ : L2.St} {H : Hp} (A : SgAt K C H σ sig) (h : sig[i]? = some (some (.lst ds))) : ∃ l xs, σ[i]? = some (some (.ref l)) ∧ H l = some (.lst xs) ∧ DpAll K H xs ds := by
  obtain ⟨o, ho, f⟩ := paired_back A h
  cases o with
  | none => exact f.elim
  | some v =>
    obtain ⟨l, xs, rfl, h1, h2⟩ := f
    exact ⟨l, xs, ho, h1, h2⟩
theorem de_varL {i : Nat} (h : sig[i]? = some (some (.lst ds))) : De K C sig (tVar i) (.list ds) := fun σ H A Q q => by
  obtain ⟨l, xs, e, h1, h2⟩ := lv A h
  exact ⟨_, e, q _ H same_id (.lst (SqL.of h1) h2)⟩
/-- xs + [..] -/
theorem le_cat {i : Nat} (h : sig[i]? = some (some (.lst es))) (g : Le K C sig te ds) (len : es.length + ds.length ≤ 1000) : Le K C sig (tOp rCat (tVar i) te) (es ++ ds) := fun σ H A Q q => by
  obtain ⟨l, xs, e, h1, h2⟩ := lv A h
  refine ⟨_, e, g σ H A _ fun m ys H1 _ s1 e1 d1 => ⟨l, m, xs, ys, rfl, rfl, s1 _ _ h1, e1, by rw [dps_len h2, dps_len d1]; exact Nat.le_of_lt (small1000 len), fun p hp => ?_⟩⟩
  exact q p _ _ (Same.free s1 hp) (s1.trans (Sx.Same.new hp)) upd_same (dps_app (dps_same (s1.trans (Sx.Same.new hp)) _ h2) (dps_same (Sx.Same.new hp) _ d1))
theorem le_cat2 {i j : Nat} (h : sig[i]? = some (some (.lst es))) (g : sig[j]? = some (some (.lst ds))) (len : es.length + ds.length ≤ 1000) : Le K C sig (tOp rCat (tVar i) (tVar j)) (es ++ ds) := fun σ H A Q q => by
  obtain ⟨l, xs, e, h1, h2⟩ := lv A h
  obtain ⟨m, ys, e', e1, d1⟩ := lv A g
  exact ⟨_, e, _, e', l, m, xs, ys, rfl, rfl, h1, e1, by rw [dps_len h2, dps_len d1]; exact Nat.le_of_lt (small1000 len), fun p hp => q p _ _ hp (Sx.Same.new hp) upd_same (dps_app (dps_same (Sx.Same.new hp) _ h2) (dps_same (Sx.Same.new hp) _ d1))⟩
theorem le_catL (g1 : Le K C sig t1 es) (g : Le K C sig te ds) (len : es.length + ds.length ≤ 1000) : Le K C sig (tOp rCat t1 te) (es ++ ds) := fun σ H A Q q =>
  g1 σ H A _ fun l xs H0 _ s0 h1 h2 => g σ H0 (A.same s0) _ fun m ys H1 _ s1 e1 d1 => ⟨l, m, xs, ys, rfl, rfl, s1 _ _ h1, e1, by rw [dps_len h2, dps_len d1]; exact Nat.le_of_lt (small1000 len), fun p hp =>
    q p _ _ (Same.free (s0.trans s1) hp) (s0.trans (s1.trans (Sx.Same.new hp))) upd_same (dps_app (dps_same (s1.trans (Sx.Same.new hp)) _ h2) (dps_same (Sx.Same.new hp) _ d1))⟩
theorem dps_bls {H : Hp} {b : Bool} : ∀ n : Nat, DpAll K H (List.replicate n (V.bl b)) (List.replicate n (.bool b))
  | 0 => .nil
  | n + 1 => .cons (.bl b) (dps_bls n)
/-- [b] * n -/
theorem le_rep {b : Bool} {n : Nat} (hn : n ≤ 1000) : Le K C sig (tOp rRep (tLst (tCons (tC (.bl b)) tNil)) (tC (.int (n : Int)))) (List.replicate n (.bool b)) := fun σ H A Q q => by
  refine ⟨(by show 1 ≤ sizeLine; decide), fun l hl => ⟨l, n, [.bl b], rfl, rfl, upd_same, by omega, by omega, ?_, fun p hp => ?_⟩⟩
  · rw [Int.toNat_natCast, sizeLine_eq]
    show 1 * n ≤ _
    omega
  · have S := Sx.Same.new (o := .lst [.bl b]) hl
    have e : (List.replicate (n : Int).toNat [V.bl b]).flatten = List.replicate n (V.bl b) := by
      rw [Int.toNat_natCast]
      clear hn q
      induction n with
      | zero => rfl
      | succ n ih => rw [List.replicate_succ, List.flatten_cons, ih]; rfl
    rw [e]
    exact q p _ _ (Same.free S hp) (S.trans (Sx.Same.new hp)) upd_same (dps_bls n)
theorem strs_of {H : Hp} : ∀ {xs : List V} {L : List Str}, DpAll K H xs (L.map sD) → xs = L.map V.str
  | _, [], .nil => rfl
  | _, _ :: _, .cons (.str _) t => by rw [strs_of t]; rfl
/-! ### calls -/
theorem de_crowd {L : List Str} (h : De K C sig te d) (hd : d = lD L ∨ d = tD L) (len : L.length ≤ 1000) : De K C sig (tCall (spCrowdOf K) [] E0 (tCons te tNil)) (cwD (madeM L)) := fun σ H A Q q =>
  h σ H A _ fun v H1 s1 d1 => by
    obtain ⟨a, rfl, sq⟩ : ∃ a, v = .ref a ∧ Sq K H1 a (L.map V.str) := by
      rcases hd with rfl | rfl
      · cases d1 with
        | lst hs hh => exact ⟨_, rfl, .inl (by rw [← strs_of hh]; exact hs)⟩
      · cases d1 with
        | tup hs hh => exact ⟨_, rfl, .inr (by rw [← strs_of hh]; exact hs)⟩
    exact ⟨a, L, rfl, sq, len, fun t H2 s2 c => q _ H2 (s1.trans s2) (dp_cw c)⟩
/-- rows of pairs, as tuples or as lists -/
def IsPrs (d : PyData) (zs : List NRow) : Prop := d = cwD zs ∨ d = .list (zs.map fun z => .list [.str z.1, .int z.2])
theorem prs_at {H : Hp} {zs : List NRow} {v : V} (p : IsPrs d zs) (h : Dp K H v d) : ∃ a, v = .ref a ∧ PrAt K H a kiV zs := by
  have one : ∀ {xs : List V} {zs : List NRow}, DpAll K H xs (zs.map pairD) → ∃ ts : List Addr, xs = ts.map V.ref ∧ Paired (fun t z => Sq K H t [(kiV z).1, (kiV z).2]) ts zs := by
    intro xs zs
    induction zs generalizing xs with
    | nil => intro h; cases h; exact ⟨[], rfl, .nil⟩
    | cons z zs ih =>
      intro h
      cases h with
      | cons h t =>
        obtain ⟨ts, e, p⟩ := ih t
        cases h with
        | tup hs hh =>
          cases hh with
          | cons a1 hh =>
            cases hh with
            | cons a2 hh =>
              cases hh
              cases a1
              cases a2
              exact ⟨_ :: ts, by rw [e]; rfl, .cons (.inr hs) p⟩
  have two : ∀ {xs : List V} {zs : List NRow}, DpAll K H xs (zs.map fun z => PyData.list [.str z.1, .int z.2]) → ∃ ts : List Addr, xs = ts.map V.ref ∧ Paired (fun t z => Sq K H t [(kiV z).1, (kiV z).2]) ts zs := by
    intro xs zs
    induction zs generalizing xs with
    | nil => intro h; cases h; exact ⟨[], rfl, .nil⟩
    | cons z zs ih =>
      intro h
      cases h with
      | cons h t =>
        obtain ⟨ts, e, p⟩ := ih t
        cases h with
        | lst hs hh =>
          cases hh with
          | cons a1 hh =>
            cases hh with
            | cons a2 hh =>
              cases hh
              cases a1
              cases a2
              exact ⟨_ :: ts, by rw [e]; rfl, .cons (.inl hs) p⟩
  rcases p with rfl | rfl
  · cases h with
    | tup hs hh =>
      obtain ⟨ts, e, p⟩ := one hh
      subst e
      exact ⟨_, rfl, ts, .inr hs, p⟩
  · cases h with
    | lst hs hh =>
      obtain ⟨ts, e, p⟩ := two hh
      subst e
      exact ⟨_, rfl, ts, .inl hs, p⟩
theorem de_tog {xs ys : List NRow} (h1 : De K C sig t1 d1) (h2 : De K C sig t2 d2) (p1 : IsPrs d1 xs) (p2 : IsPrs d2 ys) (nd : NdK xs) (l1 : xs.length ≤ 1000) (l2 : ys.length ≤ 1000) : De K C sig (tCall (spTogether K) [] E0 (tCons t1 (tCons t2 tNil))) (cwD (crowdM (addAll xs ys))) := fun σ H A Q q =>
  h1 σ H A _ fun v H1 s1 e1 => h2 σ H1 (A.same s1) _ fun w' H2 s2 e2 => by
    obtain ⟨a, rfl, pa⟩ := prs_at p1 (dp_same s2 _ e1)
    obtain ⟨b, rfl, pb⟩ := prs_at p2 e2
    exact ⟨a, b, xs, ys, rfl, pa, pb, nd, l1, l2, fun t H3 s3 c => q _ H3 (s1.trans (s2.trans s3)) (dp_cw c)⟩
theorem de_jobs {xs : List NRow} (h1 : De K C sig te d) (p : IsPrs d xs) (l1 : xs.length ≤ 1000) : De K C sig (tCall (spJobs K) [] E0 (tCons te tNil)) (.int (xs.map (·.2)).sum) := fun σ H A Q q =>
  h1 σ H A _ fun v H1 s1 e1 => by
    obtain ⟨a, rfl, pa⟩ := prs_at p e1
    exact ⟨a, xs, rfl, pa, l1, fun H2 s2 => q _ H2 (s1.trans s2) (.int _)⟩
theorem kw_one {sp : Sp} (h : De K C sig (tCall sp [] E0 (tCons te tNil)) d) : De K C sig (fun σ H Q => tCons te tNil σ H fun zs H1 => sp ((fun vs zs => vs ++ zs) [] zs) H1 Q E0) d := fun σ H A Q q => h σ H A Q q
/-- f(y=.., x=..) of a def with x, y -/
theorem kw_two {sp : Sp} (h : ∀ σ H, SgAt K C H σ sig → ∀ Q : VK, (∀ v H', Same H H' → Dp K H' v d → Q v H') → t1 σ H fun v H1 => t2 σ H1 fun w' H2 => sp [w', v] H2 Q E0) : De K C sig (fun σ H Q => tCons t1 (tCons t2 tNil) σ H fun zs H1 => sp ((fun vs zs => vs ++ zs.reverse) [] zs) H1 Q E0) d := fun σ H A Q q => h σ H A Q q
theorem de_togK {xs ys : List NRow} (h1 : De K C sig t1 d1) (h2 : De K C sig t2 d2) (p1 : IsPrs d1 ys) (p2 : IsPrs d2 xs) (nd : NdK xs) (l1 : xs.length ≤ 1000) (l2 : ys.length ≤ 1000) : De K C sig (fun σ H Q => tCons t1 (tCons t2 tNil) σ H fun zs H1 => spTogether K ((fun vs zs => vs ++ zs.reverse) [] zs) H1 Q E0) (cwD (crowdM (addAll xs ys))) := kw_two fun σ H A Q q =>
  h1 σ H A _ fun v H1 s1 e1 => h2 σ H1 (A.same s1) _ fun w' H2 s2 e2 => by
    obtain ⟨b, rfl, pb⟩ := prs_at p1 (dp_same s2 _ e1)
    obtain ⟨a, rfl, pa⟩ := prs_at p2 e2
    exact ⟨a, b, xs, ys, rfl, pa, pb, nd, l1, l2, fun t H3 s3 c => q _ H3 (s1.trans (s2.trans s3)) (dp_cw c)⟩
theorem bkv {i : Nat} {ks : List Str} {cs : List (Str × Str)} {σ : L2.St} {H : Hp} (A : SgAt K C H σ sig) (h : sig[i]? = some (some (.book ks cs))) : ∃ p, σ[i]? = some (some (.ref p)) ∧ BookAt K C H p ks cs := by
  obtain ⟨o, ho, f⟩ := paired_back A h
  cases o with
  | none => exact f.elim
  | some v =>
    obtain ⟨p, rfl, h1⟩ := f
    exact ⟨p, ho, h1⟩
def few2 : PyData → Bool
  | .tuple ds => decide (ds.length ≤ 1000)
  | _ => true
theorem few2_is {d : PyData} (h : few2 d = true) : ∀ ds, d = .tuple ds → ds.length ≤ 1000 := fun ds e => by
  subst e
  exact of_decide_eq_true h
/-- is_crowd(thing=.., book=..) -/
theorem de_iscK {i : Nat} {ks : List Str} {cs : List (Str × Str)} (hb : sig[i]? = some (some (.book ks cs))) (ok : Oks ks) (h1 : De K C sig te d) (ft : Fit d) (fw : few2 d = true) : De K C sig (fun σ H Q => tCons te (tCons (tVar i) tNil) σ H fun zs H1 => spIsCrowd K C ((fun vs zs => vs ++ zs.reverse) [] zs) H1 Q E0) (.bool (crowdD ks d)) := kw_two fun σ H A Q q =>
  h1 σ H A _ fun v H1 s1 e1 => by
    obtain ⟨p, hp, B⟩ := bkv (A.same s1) hb
    exact ⟨_, hp, p, v, ks, cs, d, rfl, B, ok, e1, ft, few2_is fw, fun H2 s2 => q _ H2 (s1.trans s2) (.bl _)⟩
/-- is_crowd(Book(()), ()) -/
theorem de_isc0 {e0 : Addr} (hE : ∀ H, SqT K H e0 []) : De K C sig (tCall (spIsCrowd K C) [] E0 (tCons (tMake C (spInit K C) [.ref e0] E0 (tCons (tTup tNil) tNil)) (tCons (tTup tNil) tNil))) (.bool true) := fun σ H A Q q => by
  refine ⟨Nat.zero_le _, fun a ha x dx nx nd ne => ?_⟩
  have S1 : Same H (upd H a (.tup [])) := Sx.Same.new ha
  have h1 : (upd H a (.tup [])) a = some (.tup []) := upd_same
  generalize upd H a (.tup []) = H1 at S1 h1 nx nd ⊢
  have ax : a ≠ x := fun e => by rw [e, nx] at h1; cases h1
  have ad : a ≠ dx := fun e => by rw [e, nd] at h1; cases h1
  refine ⟨x, dx, a, e0, [], [], [], rfl, upd_same, .inr (SqT.of (by rw [upd_ne ax, upd_ne ad]; exact h1)), .inr (hE _), .nil, List.nodup_nil, Nat.zero_le _, (fun c hc => nomatch hc), fun H2 B kp => ⟨rfl, ?_⟩⟩
  have S2 : Same H1 H2 := fun b o e => by
    have bx : b ≠ x := ne_of_none e nx
    have bd : b ≠ dx := ne_of_none e nd
    exact kp b o (by rw [upd_ne bx, upd_ne bd]; exact e) bx
  refine ⟨Nat.zero_le _, fun t ht => ?_⟩
  have S3 : Same H2 (upd H2 t (.tup [])) := Sx.Same.new ht
  refine ⟨x, .ref t, [], [], .tuple [], rfl, B.same S3, (fun k hk => nomatch hk), .tup (SqT.of upd_same) .nil, ⟨by simp [PyData.canLay0, PyData.canLayAll0], by simp [PyData.depth, PyData.depthAll]⟩, few2_is rfl, fun H4 S4 => q _ H4 (S1.trans (S2.trans (S3.trans S4))) (.bl true)⟩
/-- [is_crowd(book, x) for x in xs] -/
theorem de_comp {ib iv : Nat} {ks : List Str} {cs : List (Str × Str)} (hb : sig[ib]? = some (some (.book ks cs))) (ok : Oks ks) (hne : ib ≠ iv) (hsl : sig[iv]? = some none) (h1 : Le K C sig te ds) (ft : ∀ d ∈ ds, Fit d ∧ few2 d = true) (len : ds.length ≤ 1000) :
    De K C sig (tLc (iList K te) (gName iv) tYes (tCall (spIsCrowd K C) [] E0 (tCons (tVar ib) (tCons (tVar iv) tNil))) [iv]) (.list (ds.map fun d => .bool (crowdD ks d))) := fun σ H A Q q => by
  refine h1 σ H A _ fun l xs H1 _ s1 hl dx => ?_
  have pr := dps_pair dx
  refine ⟨l, rfl, ⟨_, SqL.of hl⟩, ?_⟩
  have A1 := A.same s1
  have ho : σ[iv]? = some none := by
    obtain ⟨o, ho, f⟩ := paired_back A1 hsl
    cases o with
    | some v => exact f.elim
    | none => exact ho
  have wp : wipe σ [iv] = σ := list_set_self ho
  refine lc_valsL (vs := [iv]) (σ := σ) (f := fun d => V.bl (crowdD ks d)) (c := fun _ => true) (SqL.of hl) pr (by rw [Paired.length pr]; omega) (fun x z hz hx H2 S2 => ?_) (fun D H2 hD S2 hl2 => ?_)
  · obtain ⟨p, hp, B⟩ := bkv A1 hb
    have lt : iv < σ.length := (List.getElem?_eq_some_iff.mp ho).1
    refine ⟨(wipe σ [iv]).set iv (some x), by
      show ((wipe σ [iv]).set iv (some x)).set iv none = _
      rw [List.set_set]
      rw [wp]
      exact list_set_self ho, fun Q h => h _ Sx.same_id, fun _ H3 S3 Q h => ?_, fun k h => h⟩
    rw [wp]
    refine ⟨.ref p, by rw [List.getElem?_set_ne (Ne.symm hne)]; exact hp, x, by rw [List.getElem?_set_self lt], p, x, ks, cs, z, rfl, B.same (S2.trans S3), ok, dp_same (S2.trans S3) z hx, (ft z hz).1, few2_is (ft z hz).2, fun H4 S4 => h H4 S4⟩
  · have e : (ds.filter fun _ => true) = ds := List.filter_eq_self.mpr fun _ _ => rfl
    rw [e] at hl2
    refine q _ H2 (s1.trans S2) (.lst (SqL.of hl2) ?_)
    clear hl2 e ft len hl dx pr h1 q
    induction ds with
    | nil => exact .nil
    | cons d ds ih => exact .cons (.bl _) ih
/-! ### rows of the function -/
def Runs (K : PySem.W.Frag) (C : Addr) (ts : TS) (sig sig' : Sig) : Prop := ∀ (D : Ends) σ H, SgAt K C H σ sig → (∀ σ' H', Same H H' → SgAt K C H' σ' sig' → D.nx σ' H') → ts D σ H
theorem runs_seq {a b : TS} {s1 s2 s3 : Sig} (h1 : Runs K C a s1 s2) (h2 : Runs K C b s2 s3) : Runs K C (tSeq a b) s1 s3 := fun D σ H A q =>
  h1 { D with nx := b D } σ H A fun σ' H' S A' => h2 D σ' H' A' fun σ2 H2 S2 A2 => q σ2 H2 (S.trans S2) A2
theorem runs_lst {i : Nat} (h : Le K C sig te ds) : Runs K C (tAsg te (gName i)) sig (sig.set i (some (.lst ds))) := fun D σ H A q =>
  h σ H A _ fun l xs H' _ s e d => q _ H' s (paired_set ⟨l, xs, rfl, e, d⟩ i (A.same s))
theorem runs_par {i j : Nat} (h : Des K C sig ta [d1, d2]) : Runs K C (tPar i j ta) sig ((sig.set i (some (.dat d1))).set j (some (.dat d2))) := fun D σ H A q =>
  h σ H A _ fun vs H' s e => by
    cases e with
    | cons a e =>
      cases e with
      | cons b e =>
        cases e
        exact ⟨_, _, rfl, q _ H' s (paired_set (F := Holds K C H') (x := some _) (y := some (.dat d2)) b j (paired_set (F := Holds K C H') (x := some _) (y := some (.dat d1)) a i (A.same s)))⟩
end
end Sx

/-! LbM -/
namespace Sx
open PySem PySem.Spec PyProof.Rows L2
section
variable {K : PySem.W.Frag} {C : Addr} {sig : Sig} {te t1 t2 : TE} {ta : TA} {d d1 d2 : PyData} {ds es : List PyData}
theorem de_crowdE {L : List Str} {zs : List (Str × Int)} (h : De K C sig te d) (hd : d = lD L ∨ d = tD L) (len : L.length ≤ 1000) (e : madeM L = zs) : De K C sig (tCall (spCrowdOf K) [] E0 (tCons te tNil)) (cwD zs) := e ▸ de_crowd h hd len
theorem de_togE {xs ys zs : List (Str × Int)} (h1 : De K C sig t1 d1) (h2 : De K C sig t2 d2) (p1 : IsPrs d1 xs) (p2 : IsPrs d2 ys) (nd : NdK xs) (l1 : xs.length ≤ 1000) (l2 : ys.length ≤ 1000) (e : crowdM (addAll xs ys) = zs) : De K C sig (tCall (spTogether K) [] E0 (tCons t1 (tCons t2 tNil))) (cwD zs) := e ▸ de_tog h1 h2 p1 p2 nd l1 l2
theorem de_togKE {xs ys zs : List (Str × Int)} (h1 : De K C sig t1 d1) (h2 : De K C sig t2 d2) (p1 : IsPrs d1 ys) (p2 : IsPrs d2 xs) (nd : NdK xs) (l1 : xs.length ≤ 1000) (l2 : ys.length ≤ 1000) (e : crowdM (addAll xs ys) = zs) : De K C sig (fun σ H Q => tCons t1 (tCons t2 tNil) σ H fun zs H1 => spTogether K ((fun vs zs => vs ++ zs.reverse) [] zs) H1 Q E0) (cwD zs) := e ▸ de_togK h1 h2 p1 p2 nd l1 l2
theorem de_jobsE {xs : List (Str × Int)} {n : Int} (h1 : De K C sig te d) (p : IsPrs d xs) (l1 : xs.length ≤ 1000) (e : (xs.map (·.2)).sum = n) : De K C sig (tCall (spJobs K) [] E0 (tCons te tNil)) (.int n) := e ▸ de_jobs h1 p l1
theorem de_iscKE {i : Nat} {ks : List Str} {cs : List (Str × Str)} {b : Bool} (hb : sig[i]? = some (some (.book ks cs))) (ok : Oks ks) (h1 : De K C sig te d) (ft : Fit d) (fw : few2 d = true) (e : crowdD ks d = b) : De K C sig (fun σ H Q => tCons te (tCons (tVar i) tNil) σ H fun zs H1 => spIsCrowd K C ((fun vs zs => vs ++ zs.reverse) [] zs) H1 Q E0) (.bool b) := e ▸ de_iscK hb ok h1 ft fw
theorem fit_all (h : (ds.all fun d => d.canLay0 && decide (d.depth ≤ 60) && few2 d) = true) : ∀ d ∈ ds, Fit d ∧ few2 d = true := fun d hd => by
  have := List.all_eq_true.mp h d hd
  simp only [Bool.and_eq_true, decide_eq_true_eq] at this
  exact ⟨⟨this.1.1, this.1.2⟩, this.2⟩
theorem de_compE {ib iv : Nat} {ks : List Str} {cs : List (Str × Str)} {bs : List Bool} (hb : sig[ib]? = some (some (.book ks cs))) (ok : Oks ks) (hne : ib ≠ iv) (hsl : sig[iv]? = some none) (h1 : Le K C sig te ds) (ft : ∀ d ∈ ds, Fit d ∧ few2 d = true) (len : ds.length ≤ 1000) (e : ds.map (crowdD ks) = bs) :
    De K C sig (tLc (iList K te) (gName iv) tYes (tCall (spIsCrowd K C) [] E0 (tCons (tVar ib) (tCons (tVar iv) tNil))) [iv]) (.list (bs.map .bool)) := by
  have h := de_comp hb ok hne hsl h1 ft len
  rw [← e, List.map_map]
  exact h
theorem de_add {a b : Int} (h1 : De K C sig t1 (.int a)) (h2 : De K C sig t2 (.int b)) : De K C sig (tOp (rI0 fun i j => .int (i + j)) t1 t2) (.int (a + b)) := fun σ H A Q q =>
  h1 σ H A _ fun v H1 s1 e1 => h2 σ H1 (A.same s1) _ fun w' H2 s2 e2 => by
    cases e1
    cases e2
    exact ⟨_, _, rfl, rfl, q _ H2 (s1.trans s2) (.int _)⟩
theorem de_mul {a b : Int} (h1 : De K C sig t1 (.int a)) (h2 : De K C sig t2 (.int b)) (hc : CMul a b) : De K C sig (tOp (rI CMul fun i j => .int (i * j)) t1 t2) (.int (a * b)) := fun σ H A Q q =>
  h1 σ H A _ fun v H1 s1 e1 => h2 σ H1 (A.same s1) _ fun w' H2 s2 e2 => by
    cases e1
    cases e2
    exact ⟨_, _, rfl, rfl, hc, q _ H2 (s1.trans s2) (.int _)⟩
theorem runs_step {a b : TS} {s1 s2 : Sig} (h : Runs K C a s1 s2) {D : Ends} {σ : L2.St} {H : Hp} (A : SgAt K C H σ s1) (q : ∀ σ' H', Same H H' → SgAt K C H' σ' s2 → b D σ' H') : tSeq a b D σ H := h { D with nx := b D } σ H A q
/-- odd + [..], the list not yet there -/
def Le0 (K : PySem.W.Frag) (C : Addr) (sig : Sig) (te : TE) (ds : List PyData) : Prop := ∀ σ H, SgAt K C H σ sig → ∀ Q : VK, (∀ l xs H0, Same H H0 → H0 l = none → DpAll K H0 xs ds → Q (.ref l) (upd H0 l (.lst xs))) → te σ H Q
theorem le0_cat {i : Nat} (h : sig[i]? = some (some (.lst es))) (g : Le K C sig te ds) (len : es.length + ds.length ≤ 1000) : Le0 K C sig (tOp rCat (tVar i) te) (es ++ ds) := fun σ H A Q q => by
  obtain ⟨l, xs, e, h1, h2⟩ := lv A h
  exact ⟨_, e, g σ H A _ fun m ys H1 _ s1 e1 d1 => ⟨l, m, xs, ys, rfl, rfl, s1 _ _ h1, e1, by rw [dps_len h2, dps_len d1]; exact Nat.le_of_lt (small1000 len), fun p hp => q p _ H1 s1 hp (dps_app (dps_same s1 _ h2) d1)⟩⟩
/-- odd = odd + [..]; odd.append(((x,), n),) -/
theorem runs_odd {b : TS} {x : Str} {n : Int} (h : Le0 K C sig te ds) {D : Ends} {σ : L2.St} {H : Hp} (A : SgAt K C H σ sig) (q : ∀ σ' H', Same H H' → SgAt K C H' σ' (sig.set 8 (some (.lst (ds ++ [.tuple [.tuple [.list [.str x], .int n]]])))) → b D σ' H') (hl : 8 < sig.length := by decide) (few : ds.length ≤ 1000 := by decide) :
    tSeq (tAsg te (gName 8)) (tSeq (tDrop (tBM K "list" rAppend (tVar 8) (tCons (tTup (tCons (tTup (tCons (tLst (tCons (tC (.str x)) tNil)) (tCons (tC (.int n)) tNil))) tNil)) tNil))) b) D σ H := by
  refine h σ H A _ fun l xs H0 s0 nl d1 => ?_
  have ls : 8 < σ.length := by rw [Paired.length A]; exact hl
  have e1 : (upd H0 l (.lst xs)) l = some (.lst xs) := upd_same
  have S01 : Same H0 (upd H0 l (.lst xs)) := Sx.Same.new nl
  generalize upd H0 l (.lst xs) = H1 at e1 S01 ⊢
  refine ⟨_, List.getElem?_set_self ls, .inl ⟨rfl, _, SqL.of e1⟩, (by show 1 ≤ sizeLine; decide), fun a ha => ⟨(by show 2 ≤ sizeLine; decide), fun c hc => ⟨(by show 1 ≤ sizeLine; decide), fun t ht => ?_⟩⟩⟩
  have Sa := Sx.Same.new (o := .lst [.str x]) ha
  have Sc := Sx.Same.new (o := .tup [.ref a, .int n]) hc
  have St := Sx.Same.new (o := .tup [.ref c]) ht
  have la : a ≠ l := fun e => by rw [e, e1] at ha; cases ha
  have lc : c ≠ l := fun e => by rw [e, Sa _ _ e1] at hc; cases hc
  have lt : t ≠ l := fun e => by rw [e, Sc _ _ (Sa _ _ e1)] at ht; cases ht
  have S13 := Sa.trans (Sc.trans St)
  have h_a := St _ _ (Sc _ _ (show (upd H1 a (.lst [.str x])) a = _ from upd_same))
  have h_c := St _ _ (show (upd (upd H1 a (.lst [.str x])) c (.tup [.ref a, .int n])) c = _ from upd_same)
  have h_t : (upd (upd (upd H1 a (.lst [.str x])) c (.tup [.ref a, .int n])) t (.tup [.ref c])) t = some (.tup [.ref c]) := upd_same
  generalize upd (upd (upd H1 a (.lst [.str x])) c (.tup [.ref a, .int n])) t (.tup [.ref c]) = H4 at S13 h_a h_c h_t ⊢
  refine ⟨l, xs, _, rfl, rfl, S13 _ _ e1, by rw [dps_len d1]; exact Nat.lt_of_le_of_lt few (by rw [sizeLine_eq]; decide), ?_⟩
  have S04 : Same H0 (upd H4 l (.lst (xs ++ [.ref t]))) := Sx.Same.mut (S01.trans S13) nl
  have new : DpAll K (upd H4 l (.lst (xs ++ [.ref t]))) [.ref t] [.tuple [.tuple [.list [.str x], .int n]]] := .cons (.tup (SqT.of (by rw [upd_ne lt]; exact h_t)) (.cons (.tup (SqT.of (by rw [upd_ne lc]; exact h_c)) (.cons (.lst (SqL.of (by rw [upd_ne la]; exact h_a)) (.cons (.str _) .nil)) (.cons (.int _) .nil))) .nil)) .nil
  have hold : Holds K C (upd H4 l (.lst (xs ++ [.ref t]))) (some (.ref l)) (some (.lst (ds ++ [.tuple [.tuple [.list [.str x], .int n]]]))) := ⟨l, _, rfl, upd_same, dps_app (dps_same S04 _ d1) new⟩
  exact q _ _ (s0.trans S04) (paired_set hold 8 (A.same (s0.trans S04)))
theorem same_end {n : Nat} {D : Ends} {σ : L2.St} {H : Hp} {lit : List PyData} (A : SgAt K C H σ sig) (h1 : De K C sig t1 (.list ds)) (h2 : De K C sig t2 (.list es)) (e1 : ds = lit) (e2 : es = lit) (dep : (PyData.list lit).depth ≤ n) (wd : wide (.list lit) = true) (q : ∀ H', Same H H' → D.rt (.bl true) H') : tRet (tCall (spSame K n) [] E0 (tCons t1 (tCons t2 tNil))) D σ H := by
  subst e1
  subst e2
  exact h1 σ H A _ fun v H1 s1 e1 => h2 σ H1 (A.same s1) _ fun w' H2 s2 e2 => ⟨v, w', _, rfl, dp_same s2 _ e1, e2, dep, wd, fun H3 s3 => q H3 (s1.trans (s2.trans s3))⟩
theorem ok3 : Oks ["db", "log", "web"] := fun x hx => by
  have : ∀ x ∈ (["db", "log", "web"] : List Str), PyData.strOk x = true := by decide +kernel
  exact this x hx
end
theorem kb_swap {K : PySem.W.Frag} {fd : FuncData} {y z : Str} (h : ∀ u v : Value, bindArgs fd ⟨[u, v], []⟩ = pure [(y, u), (z, v)]) (h2 : ∀ u v : Value, bindArgs fd ⟨[u], [(z, v)]⟩ = pure [(y, u), (z, v)]) (h3 : ∀ u v : Value, bindArgs fd ⟨[], [(z, v), (y, u)]⟩ = pure [(y, u), (z, v)]) : KBinds K fd [y, z] [z, y] (fun us ws => us ++ ws.reverse) (fun vs zs => vs ++ zs.reverse) where
  to := fun s us ws _ hl => match us, ws, hl with
    | [u, v], [], _ => .of_eq (h u v)
    | [u], [v], _ => .of_eq (h2 u v)
    | [], [v, u], _ => .of_eq (h3 u v)
    | [], [], hl => by simp at hl
    | [], [_], hl => by simp at hl
    | [], _ :: _ :: _ :: _, hl => by simp at hl
    | [_], [], hl => by simp at hl
    | [_], _ :: _ :: _, hl => by simp at hl
    | [_, _], _ :: _, hl => by simp at hl
    | _ :: _ :: _ :: _, _, hl => by simp at hl
  rel := fun r rz => r.append (vals_back2 rz)
def spHand : Sp := fun vs H Q _ => vs = [] ∧ ∀ H', Same H H' → Q (.bl true) H'
def KwG (P : Program) (w : World) (K : PySem.W.Frag) (mg : Str → Option Value) (base : Heap) (x : Str) (k : Nat) (y : Str) (sp : Sp) : Prop := ∃ f fd, mg x = some (.ref f) ∧ PySem.W.keepIn K (.ref f) = true ∧ FnOk P w K mg base CX0 k f fd [y] sp ∧ KBinds K fd [y] [y] (fun us ws => us ++ ws) (fun vs zs => vs ++ zs)
def KwG2 (P : Program) (w : World) (K : PySem.W.Frag) (mg : Str → Option Value) (base : Heap) (x : Str) (k : Nat) (y z : Str) (sp : Sp) : Prop := ∃ f fd, mg x = some (.ref f) ∧ PySem.W.keepIn K (.ref f) = true ∧ FnOk P w K mg base CX0 k f fd [y, z] sp ∧ KBinds K fd [y, z] [z, y] (fun us ws => us ++ ws.reverse) (fun vs zs => vs ++ zs.reverse)
theorem pe_kg {X : Cx} {x y : Str} {k : Nat} {sp : Sp} {p pos : Pos} {kws : List Keyword} {tk : TA} (G : KwG X.prog X.w X.K X.mg X.base x k y sp) (hr : Room k X.A) (hkw : PK X kws tk) (hg : Gl X x := by rfl)
    (hall : (backToKw pos (keywordEach kws X.env)).all (·.1.isSome) = true := by rfl) (hks : (backToKw pos (keywordEach kws X.env)).filterMap (·.1) = [y] := by rfl)
    (hdb : (x == ("__debug__" : Str)) = false := by decide) (hpl : ((backTo pos (starEach [] X.env)).any (·.1) || (backToKw pos (keywordEach kws X.env)).any (·.1.isNone)) = false := by rfl) :
    PE X (.Call (.Name x p) [] kws pos) (fun σ H Q => tk σ H fun zs H1 => sp ((fun vs zs => vs ++ zs) [] zs) H1 Q E0) := by
  obtain ⟨f, fd, hm, kp, F, b⟩ := G
  exact pe_callK0 F hr hg hm kp b pass0 hkw hall hks hdb hpl
theorem pe_kg2 {X : Cx} {x y z : Str} {k : Nat} {sp : Sp} {p pos : Pos} {kws : List Keyword} {tk : TA} (G : KwG2 X.prog X.w X.K X.mg X.base x k y z sp) (hr : Room k X.A) (hkw : PK X kws tk) (hg : Gl X x := by rfl)
    (hall : (backToKw pos (keywordEach kws X.env)).all (·.1.isSome) = true := by rfl) (hks : (backToKw pos (keywordEach kws X.env)).filterMap (·.1) = [z, y] := by rfl)
    (hdb : (x == ("__debug__" : Str)) = false := by decide) (hpl : ((backTo pos (starEach [] X.env)).any (·.1) || (backToKw pos (keywordEach kws X.env)).any (·.1.isNone)) = false := by rfl) :
    PE X (.Call (.Name x p) [] kws pos) (fun σ H Q => tk σ H fun zs H1 => sp ((fun vs zs => vs ++ zs.reverse) [] zs) H1 Q E0) := by
  obtain ⟨f, fd, hm, kp, F, b⟩ := G
  exact pe_callK0 F hr hg hm kp b pass0 hkw hall hks hdb hpl
section
variable {P : Program} {w : World} {K : PySem.W.Frag} {mg : Str → Option Value} {base : Heap}
abbrev sHand : Stmt := top 27
abbrev nHand : List Str := ["_law_ports", "_law_far", "_law_names_so", "_law_got", "_law_due", "_law_mate", "_law_two", "_law_fine", "_law_odd", "_law_own"]
theorem scHand : FnScope nHand [] (defScope sHand) := ⟨rfl, rfl, rfl, by decide +kernel, rfl, by decide +kernel, by decide +kernel⟩
abbrev OfBG (P : Program) (w : World) (K : PySem.W.Frag) (mg : Str → Option Value) (base : Heap) (C : Addr) : Prop := SmG P w K mg base C "of" 3 ["text"] (spOfB K C)
theorem ok_hand {C e0 : Addr} {f : Addr} {fd : FuncData} {dvs : List V} (F : FunD K "_law_by_hand_right" "_law_by_hand_right" (defArgs sHand) (defBody sHand) (defScope sHand) dvs [] f fd) (T : TB K mg C) (hB : mg "Book" = some (.ref C)) (GF : OfBG P w K mg base C)
    (GC : CrowdG P w K mg base) (GTo : TogG P w K mg base) (GJ : JobsG P w K mg base) (GS : SameG P w K mg base) (GI : IsCrG P w K mg base C) (GB : MkD P w K mg base "Book" C 1 ["self", "kinds", "clashes"] (spInit K C) [.ref e0]) (hE : ∀ H, SqT K H e0 [])
    (KC : KwG P w K mg base "crowd_of" 1 "kinds" (spCrowdOf K)) (KT : KwG2 P w K mg base "together" 1 "one" "other" (spTogether K)) (KJ : KwG P w K mg base "jobs_in" 1 "crowd" (spJobs K)) (KI : KwG2 P w K mg base "is_crowd" 2 "book" "thing" (spIsCrowd K C)) :
    FnOk P w K mg base CX0 5 f fd [] spHand := by
  refine F.ok scHand (fun vs H Q E h => ?_) (fun cdv A outer s H vs Q E hr h => ?_)
  · obtain ⟨rfl, _⟩ := h
    rfl
  · obtain ⟨rfl, q⟩ := h
    have hr1 : Room 1 (A.deeper (envOfC "_law_by_hand_right" (defScope sHand) s.heap.objs.size f cdv)) := hr.mono (by decide)
    have hr2 : Room 2 (A.deeper (envOfC "_law_by_hand_right" (defScope sHand) s.heap.objs.size f cdv)) := hr.mono (by decide)
    have hr3 : Room 3 (A.deeper (envOfC "_law_by_hand_right" (defScope sHand) s.heap.objs.size f cdv)) := hr.mono (by decide)
    refine ⟨_, (pss_cons (ps_asg (pe_tup (pa_cons (pe_sg GF hB hr3 (pa_cons pe_str pa_nil)) (pa_cons (pe_op op_pow pe_int pe_int) pa_nil))) (pg_tup rfl (pgs_cons (pg_name (i := 0) scHand.nd rfl (Or.inr rfl)) (pgs_cons (pg_name (i := 1) scHand.nd rfl (Or.inl rfl)) pgs_nil))))
      (pss_cons (ps_set (i := 2) scHand.nd rfl (Or.inl rfl) (pe_lst (pa_cons pe_str (pa_cons pe_str (pa_cons pe_str pa_nil)))))
      (pss_cons (ps_set (i := 3) scHand.nd rfl (Or.inl rfl) (pe_lst (pa_cons (pe_g GC hr1 (pa_cons (pv 2) pa_nil)) (pa_cons (pe_g GC hr1 (pa_cons (pe_tup pa_nil) pa_nil)) (pa_cons (pv 2) (pa_cons (pe_kg KC hr1 (pk_cons (pe_tup (pa_cons pe_str (pa_cons pe_str (pa_cons pe_str (pa_cons pe_str pa_nil))))) pk_nil)) pa_nil))))))
      (pss_cons (ps_set (i := 4) scHand.nd rfl (Or.inl rfl) (pe_lst (pa_cons (pe_tup (pa_cons (pe_tup (pa_cons pe_str (pa_cons pe_int pa_nil))) (pa_cons (pe_tup (pa_cons pe_str (pa_cons pe_int pa_nil))) pa_nil))) (pa_cons (pe_tup pa_nil) (pa_cons (pe_lst (pa_cons pe_str (pa_cons pe_str (pa_cons pe_str pa_nil)))) (pa_cons (pe_tup (pa_cons (pe_tup (pa_cons pe_str (pa_cons pe_int pa_nil))) (pa_cons (pe_tup (pa_cons pe_str (pa_cons pe_int pa_nil))) (pa_cons (pe_tup (pa_cons pe_str (pa_cons pe_int pa_nil))) pa_nil)))) pa_nil))))))
      (pss_cons (ps_par (i := 5) (j := 6) (by rfl) scHand.nd rfl rfl (by decide) rfl rfl (pa_cons (pe_lst (pa_cons (pe_lst (pa_cons pe_str (pa_cons pe_int pa_nil))) pa_nil)) (pa_cons (pe_tup (pa_cons (pe_tup (pa_cons pe_str (pa_cons (pv 1) pa_nil))) (pa_cons (pe_tup (pa_cons pe_str (pa_cons pe_int pa_nil))) pa_nil))) pa_nil)) (by rfl))
      (pss_cons (ps_set (i := 3) scHand.nd rfl (Or.inl rfl) (pe_op op_cat (pv 3) (pe_lst (pa_cons (pe_g GTo hr1 (pa_cons (pv 5) (pa_cons (pv 6) pa_nil))) (pa_cons (pe_g GTo hr1 (pa_cons (pe_tup pa_nil) (pa_cons (pe_tup pa_nil) pa_nil))) (pa_cons (pe_kg2 KT hr1 (pk_cons (pe_tup (pa_cons (pe_tup (pa_cons pe_str (pa_cons pe_int pa_nil))) pa_nil)) (pk_cons (pe_tup (pa_cons (pe_tup (pa_cons pe_str (pa_cons pe_int pa_nil))) pa_nil)) pk_nil))) (pa_cons (pv 5) (pa_cons (pe_g GTo hr1 (pa_cons (pv 6) (pa_cons (pv 6) pa_nil))) pa_nil))))))))
      (pss_cons (ps_set (i := 4) scHand.nd rfl (Or.inl rfl) (pe_op op_cat (pv 4) (pe_lst (pa_cons (pe_tup (pa_cons (pe_tup (pa_cons pe_str (pa_cons (pe_op op_add (pv 1) pe_int) pa_nil))) (pa_cons (pe_tup (pa_cons pe_str (pa_cons pe_int pa_nil))) pa_nil))) (pa_cons (pe_tup pa_nil) (pa_cons (pe_tup (pa_cons (pe_tup (pa_cons pe_str (pa_cons pe_int pa_nil))) (pa_cons (pe_tup (pa_cons pe_str (pa_cons pe_int pa_nil))) pa_nil))) (pa_cons (pe_lst (pa_cons (pe_lst (pa_cons pe_str (pa_cons pe_int pa_nil))) pa_nil)) (pa_cons (pe_tup (pa_cons (pe_tup (pa_cons pe_str (pa_cons (pe_op op_mul pe_int (pv 1)) pa_nil))) (pa_cons (pe_tup (pa_cons pe_str (pa_cons pe_int pa_nil))) pa_nil))) pa_nil))))))))
      (pss_cons (ps_set (i := 3) scHand.nd rfl (Or.inl rfl) (pe_op op_cat (pv 3) (pe_lst (pa_cons (pe_g GJ hr1 (pa_cons (pv 6) pa_nil)) (pa_cons (pe_g GJ hr1 (pa_cons (pe_tup pa_nil) pa_nil)) (pa_cons (pe_kg KJ hr1 (pk_cons (pe_lst (pa_cons (pe_lst (pa_cons pe_str (pa_cons pe_int pa_nil))) (pa_cons (pe_lst (pa_cons pe_str (pa_cons pe_int pa_nil))) pa_nil))) pk_nil)) pa_nil))))))
      (pss_cons (ps_set (i := 4) scHand.nd rfl (Or.inl rfl) (pe_op op_cat (pv 4) (pe_lst (pa_cons (pe_op op_add (pv 1) pe_int) (pa_cons pe_int (pa_cons pe_int pa_nil))))))
      (pss_cons (ps_set (i := 7) scHand.nd rfl (Or.inl rfl) (pe_lst (pa_cons (pe_tup pa_nil) (pa_cons (pe_tup (pa_cons (pe_tup (pa_cons pe_str (pa_cons pe_int pa_nil))) pa_nil)) (pa_cons (pe_tup (pa_cons (pe_tup (pa_cons pe_str (pa_cons pe_int pa_nil))) (pa_cons (pe_tup (pa_cons pe_str (pa_cons (pv 1) pa_nil))) (pa_cons (pe_tup (pa_cons pe_str (pa_cons pe_int pa_nil))) pa_nil)))) (pa_cons (pe_tup (pa_cons (pe_tup (pa_cons pe_str (pa_cons pe_int pa_nil))) (pa_cons (pe_tup (pa_cons pe_str (pa_cons pe_int pa_nil))) pa_nil))) pa_nil))))))
      (pss_cons (ps_set (i := 8) scHand.nd rfl (Or.inl rfl) (pe_lst (pa_cons pe_non (pa_cons pe_str (pa_cons pe_int (pa_cons pe_bl (pa_cons (pe_lst pa_nil) (pa_cons (pe_lst (pa_cons (pe_tup (pa_cons pe_str (pa_cons pe_int pa_nil))) pa_nil)) (pa_cons (pe_tup (pa_cons (pe_lst (pa_cons pe_str (pa_cons pe_int pa_nil))) pa_nil)) (pa_cons (pe_tup (pa_cons (pe_tup (pa_cons pe_str (pa_cons pe_int pa_nil))) pa_nil)) (pa_cons (pe_tup (pa_cons (pe_tup (pa_cons pe_str (pa_cons (pe_un un_neg pe_int) pa_nil))) pa_nil)) (pa_cons (pe_tup (pa_cons (pe_tup (pa_cons pe_str (pa_cons pe_bl pa_nil))) pa_nil)) (pa_cons (pe_tup (pa_cons (pe_tup (pa_cons pe_str (pa_cons pe_str pa_nil))) pa_nil)) pa_nil)))))))))))))
      (pss_cons (ps_set (i := 8) scHand.nd rfl (Or.inl rfl) (pe_op op_cat (pv 8) (pe_lst (pa_cons (pe_tup (pa_cons (pe_tup (pa_cons pe_str (pa_cons pe_int pa_nil))) (pa_cons (pe_tup (pa_cons pe_str (pa_cons pe_int pa_nil))) pa_nil))) (pa_cons (pe_tup (pa_cons (pe_tup (pa_cons pe_str (pa_cons pe_int pa_nil))) (pa_cons (pe_tup (pa_cons pe_str (pa_cons pe_int pa_nil))) pa_nil))) (pa_cons (pe_tup (pa_cons (pe_tup (pa_cons pe_str (pa_cons pe_int pa_nil))) pa_nil)) (pa_cons (pe_tup (pa_cons (pe_tup (pa_cons pe_str (pa_cons pe_int (pa_cons pe_int pa_nil)))) pa_nil)) (pa_cons (pe_tup (pa_cons (pe_tup (pa_cons pe_str pa_nil)) pa_nil)) (pa_cons (pe_tup (pa_cons pe_str (pa_cons pe_int pa_nil))) pa_nil)))))))))
      (pss_cons (ps_expr (pe_bm PySem.F.plainAttrs_list PySem.F.slot_list_append PySem.F.type_list_append mt_append (pv 8) (pa_cons (pe_tup (pa_cons (pe_tup (pa_cons (pe_lst (pa_cons pe_str pa_nil)) (pa_cons pe_int pa_nil))) pa_nil)) pa_nil)))
      (pss_cons (ps_set (i := 8) scHand.nd rfl (Or.inl rfl) (pe_op op_cat (pv 8) (pe_lst (pa_cons (pe_tup (pa_cons (pe_tup (pa_cons pe_int (pa_cons pe_str pa_nil))) pa_nil)) (pa_cons (pe_tup (pa_cons (pe_tup (pa_cons (pe_tup (pa_cons pe_str (pa_cons pe_int pa_nil))) (pa_cons pe_int pa_nil))) pa_nil)) (pa_cons (pe_tup (pa_cons (pe_tup (pa_cons pe_str (pa_cons pe_int pa_nil))) (pa_cons pe_non pa_nil))) (pa_cons (pe_tup (pa_cons (pe_tup (pa_cons pe_str (pa_cons pe_int pa_nil))) pa_nil)) (pa_cons (pe_tup (pa_cons (pe_tup (pa_cons pe_str (pa_cons pe_int pa_nil))) pa_nil)) (pa_cons (pe_tup (pa_cons (pe_tup (pa_cons pe_non (pa_cons pe_int pa_nil))) pa_nil)) (pa_cons (pe_tup (pa_cons (pe_tup (pa_cons pe_str (pa_cons pe_non pa_nil))) pa_nil)) pa_nil))))))))))
      (pss_cons (ps_set (i := 3) scHand.nd rfl (Or.inl rfl) (pe_op op_cat (pv 3) (pe_lst (pa_cons (pe_lc (own := [("_law_own", 9)]) (g := gName 9) (tt := tYes) rfl scHand.nd (pi_list (pe_op op_cat (pv 7) (pv 8))) (blkOk_by (N := nHand) (sc := defScope sHand) (by decide +kernel)) (fun _ _ _ _ _ => pg_name (i := 9) scHand.nd rfl (Or.inl rfl)) (fun _ _ _ _ _ => pts_nil) (fun _ _ _ _ _ => (pe_g GI hr2 (pa_cons (pv 0) (pa_cons (pv 9) pa_nil))))) (pa_cons (pe_kg2 KI hr2 (pk_cons (pe_tup (pa_cons (pe_tup (pa_cons pe_str (pa_cons pe_int pa_nil))) pa_nil)) (pk_cons (pv 0) pk_nil))) (pa_cons (pe_g GI hr2 (pa_cons (pe_mkd GB hr2 (pa_cons (pe_tup pa_nil) pa_nil)) (pa_cons (pe_tup pa_nil) pa_nil))) pa_nil))))))
      (pss_one (ps_ret (pe_g GS hr (pa_cons (pv 3) (pa_cons (pe_op op_cat (pv 4) (pe_lst (pa_cons (pe_op op_cat (pe_op op_rep (pe_lst (pa_cons pe_bl pa_nil)) pe_int) (pe_op op_rep (pe_lst (pa_cons pe_bl pa_nil)) pe_int)) (pa_cons pe_bl (pa_cons pe_bl pa_nil))))) pa_nil)))))))))))))))))))).nox, ?_⟩
    refine ⟨_, ["db", "log", "web"], [("db", "db"), ("db", "log")], rfl, by decide +kernel, fun p H1 S1 B => ⟨_, _, rfl, rfl, ⟨by decide, by decide, by decide⟩, (by show 2 ≤ sizeLine; decide), fun tp htp => ⟨tp, _, rfl, SqT.of upd_same, rfl, _, _, rfl, _, _, rfl, rfl, ?_⟩⟩⟩
    have S := S1.trans (Sx.Same.new (o := .tup [.ref p, .int (10 ^ (40 : Int).toNat)]) htp)
    have A : SgAt K C (upd H1 tp (.tup [.ref p, .int (10 ^ (40 : Int).toNat)])) [some (.ref p), some (.int (10 ^ (40 : Int).toNat)), none, none, none, none, none, none, none, none] [some (.book ["db", "log", "web"] (srt ltP (([("db", "db"), ("db", "log")] : List (Str × Str)).map nrm))), some (.dat (.int (10 ^ (40 : Int).toNat))), none, none, none, none, none, none, none, none] :=
      .cons ⟨p, rfl, B.same (Sx.Same.new htp)⟩ (.cons (.int _) (.cons True.intro (.cons True.intro (.cons True.intro (.cons True.intro (.cons True.intro (.cons True.intro (.cons True.intro (.cons True.intro .nil)))))))))
    refine runs_step (runs_lst (i := 2) (le_lst (des_cons (de_str "log") (des_cons (de_str "db") (des_cons (de_str "log") des_nil))) (by decide))) A fun σ' H' S' A' => ?_
    replace A := A'
    replace S := S.trans S'
    refine runs_step (runs_lst (i := 3) (le_lst (des_cons (de_crowdE (L := (["log", "db", "log"] : List Str)) (zs := ([(("db" : Str), (1 : Int)), (("log" : Str), (2 : Int))] : List (Str × Int))) (de_varL rfl) (.inl rfl) (by decide) (by decide +kernel)) (des_cons (de_crowdE (L := ([] : List Str)) (zs := ([] : List (Str × Int))) (de_tup des_nil (by decide)) (.inr rfl) (by decide) (by decide +kernel)) (des_cons (de_varL rfl) (des_cons (kw_one (de_crowdE (L := (["zz", "z", "zz", "a"] : List Str)) (zs := ([(("a" : Str), (1 : Int)), (("z" : Str), (1 : Int)), (("zz" : Str), (2 : Int))] : List (Str × Int))) (de_tup (des_cons (de_str "zz") (des_cons (de_str "z") (des_cons (de_str "zz") (des_cons (de_str "a") des_nil)))) (by decide)) (.inr rfl) (by decide) (by decide +kernel))) des_nil)))) (by decide))) A fun σ' H' S' A' => ?_
    replace A := A'
    replace S := S.trans S'
    refine runs_step (runs_lst (i := 4) (le_lst (des_cons (de_tup (des_cons (de_tup (des_cons (de_str "db") (des_cons (de_int 1) des_nil)) (by decide)) (des_cons (de_tup (des_cons (de_str "log") (des_cons (de_int 2) des_nil)) (by decide)) des_nil)) (by decide)) (des_cons (de_tup des_nil (by decide)) (des_cons (le_de (le_lst (des_cons (de_str "log") (des_cons (de_str "db") (des_cons (de_str "log") des_nil))) (by decide))) (des_cons (de_tup (des_cons (de_tup (des_cons (de_str "a") (des_cons (de_int 1) des_nil)) (by decide)) (des_cons (de_tup (des_cons (de_str "z") (des_cons (de_int 1) des_nil)) (by decide)) (des_cons (de_tup (des_cons (de_str "zz") (des_cons (de_int 2) des_nil)) (by decide)) des_nil))) (by decide)) des_nil)))) (by decide))) A fun σ' H' S' A' => ?_
    replace A := A'
    replace S := S.trans S'
    refine runs_step (runs_par (des_cons (le_de (le_lst (des_cons (le_de (le_lst (des_cons (de_str "db") (des_cons (de_int 1) des_nil)) (by decide))) des_nil) (by decide))) (des_cons (de_tup (des_cons (de_tup (des_cons (de_str "db") (des_cons (de_var rfl) des_nil)) (by decide)) (des_cons (de_tup (des_cons (de_str "web") (des_cons (de_int 1) des_nil)) (by decide)) des_nil)) (by decide)) des_nil))) A fun σ' H' S' A' => ?_
    replace A := A'
    replace S := S.trans S'
    refine runs_step (runs_lst (i := 3) (le_cat rfl (le_lst (des_cons (de_togE (xs := ([(("db" : Str), (1 : Int))] : List (Str × Int))) (ys := ([(("db" : Str), ((10 ^ (40 : Int).toNat) : Int)), (("web" : Str), (1 : Int))] : List (Str × Int))) (zs := ([(("db" : Str), (((10 ^ (40 : Int).toNat) + 1) : Int)), (("web" : Str), (1 : Int))] : List (Str × Int))) (de_var rfl) (de_var rfl) (.inr rfl) (.inl rfl) (by decide +kernel) (by decide) (by decide) (by decide +kernel)) (des_cons (de_togE (xs := ([] : List (Str × Int))) (ys := ([] : List (Str × Int))) (zs := ([] : List (Str × Int))) (de_tup des_nil (by decide)) (de_tup des_nil (by decide)) (.inl rfl) (.inl rfl) (by decide +kernel) (by decide) (by decide) (by decide +kernel)) (des_cons (de_togKE (xs := ([(("b" : Str), (1 : Int))] : List (Str × Int))) (ys := ([(("a" : Str), (2 : Int))] : List (Str × Int))) (zs := ([(("a" : Str), (2 : Int)), (("b" : Str), (1 : Int))] : List (Str × Int))) (de_tup (des_cons (de_tup (des_cons (de_str "a") (des_cons (de_int 2) des_nil)) (by decide)) des_nil) (by decide)) (de_tup (des_cons (de_tup (des_cons (de_str "b") (des_cons (de_int 1) des_nil)) (by decide)) des_nil) (by decide)) (.inl rfl) (.inl rfl) (by decide +kernel) (by decide) (by decide) (by decide +kernel)) (des_cons (de_var rfl) (des_cons (de_togE (xs := ([(("db" : Str), ((10 ^ (40 : Int).toNat) : Int)), (("web" : Str), (1 : Int))] : List (Str × Int))) (ys := ([(("db" : Str), ((10 ^ (40 : Int).toNat) : Int)), (("web" : Str), (1 : Int))] : List (Str × Int))) (zs := ([(("db" : Str), ((2 * (10 ^ (40 : Int).toNat)) : Int)), (("web" : Str), (2 : Int))] : List (Str × Int))) (de_var rfl) (de_var rfl) (.inl rfl) (.inl rfl) (by decide +kernel) (by decide) (by decide) (by decide +kernel)) des_nil))))) (by decide)) (by decide))) A fun σ' H' S' A' => ?_
    replace A := A'
    replace S := S.trans S'
    refine runs_step (runs_lst (i := 4) (le_cat rfl (le_lst (des_cons (de_tup (des_cons (de_tup (des_cons (de_str "db") (des_cons (de_add (de_var rfl) (de_int 1)) des_nil)) (by decide)) (des_cons (de_tup (des_cons (de_str "web") (des_cons (de_int 1) des_nil)) (by decide)) des_nil)) (by decide)) (des_cons (de_tup des_nil (by decide)) (des_cons (de_tup (des_cons (de_tup (des_cons (de_str "a") (des_cons (de_int 2) des_nil)) (by decide)) (des_cons (de_tup (des_cons (de_str "b") (des_cons (de_int 1) des_nil)) (by decide)) des_nil)) (by decide)) (des_cons (le_de (le_lst (des_cons (le_de (le_lst (des_cons (de_str "db") (des_cons (de_int 1) des_nil)) (by decide))) des_nil) (by decide))) (des_cons (de_tup (des_cons (de_tup (des_cons (de_str "db") (des_cons (de_mul (de_int 2) (de_var rfl) (.inl (by decide))) des_nil)) (by decide)) (des_cons (de_tup (des_cons (de_str "web") (des_cons (de_int 2) des_nil)) (by decide)) des_nil)) (by decide)) des_nil))))) (by decide)) (by decide))) A fun σ' H' S' A' => ?_
    replace A := A'
    replace S := S.trans S'
    refine runs_step (runs_lst (i := 3) (le_cat rfl (le_lst (des_cons (de_jobsE (xs := ([(("db" : Str), ((10 ^ (40 : Int).toNat) : Int)), (("web" : Str), (1 : Int))] : List (Str × Int))) (n := ((10 ^ (40 : Int).toNat) + 1)) (de_var rfl) (.inl rfl) (by decide) (by decide +kernel)) (des_cons (de_jobsE (xs := ([] : List (Str × Int))) (n := 0) (de_tup des_nil (by decide)) (.inl rfl) (by decide) (by decide +kernel)) (des_cons (kw_one (de_jobsE (xs := ([(("a" : Str), (3 : Int)), (("b" : Str), (4 : Int))] : List (Str × Int))) (n := 7) (le_de (le_lst (des_cons (le_de (le_lst (des_cons (de_str "a") (des_cons (de_int 3) des_nil)) (by decide))) (des_cons (le_de (le_lst (des_cons (de_str "b") (des_cons (de_int 4) des_nil)) (by decide))) des_nil)) (by decide))) (.inr rfl) (by decide) (by decide +kernel))) des_nil))) (by decide)) (by decide))) A fun σ' H' S' A' => ?_
    replace A := A'
    replace S := S.trans S'
    refine runs_step (runs_lst (i := 4) (le_cat rfl (le_lst (des_cons (de_add (de_var rfl) (de_int 1)) (des_cons (de_int 0) (des_cons (de_int 7) des_nil))) (by decide)) (by decide))) A fun σ' H' S' A' => ?_
    replace A := A'
    replace S := S.trans S'
    refine runs_step (runs_lst (i := 7) (le_lst (des_cons (de_tup des_nil (by decide)) (des_cons (de_tup (des_cons (de_tup (des_cons (de_str "db") (des_cons (de_int 1) des_nil)) (by decide)) des_nil) (by decide)) (des_cons (de_tup (des_cons (de_tup (des_cons (de_str "db") (des_cons (de_int 1) des_nil)) (by decide)) (des_cons (de_tup (des_cons (de_str "log") (des_cons (de_var rfl) des_nil)) (by decide)) (des_cons (de_tup (des_cons (de_str "web") (des_cons (de_int 3) des_nil)) (by decide)) des_nil))) (by decide)) (des_cons (de_tup (des_cons (de_tup (des_cons (de_str "log") (des_cons (de_int 2) des_nil)) (by decide)) (des_cons (de_tup (des_cons (de_str "web") (des_cons (de_int 2) des_nil)) (by decide)) des_nil)) (by decide)) des_nil)))) (by decide))) A fun σ' H' S' A' => ?_
    replace A := A'
    replace S := S.trans S'
    refine runs_step (runs_lst (i := 8) (le_lst (des_cons de_non (des_cons (de_str "db") (des_cons (de_int 3) (des_cons (de_bl true) (des_cons (le_de (le_lst des_nil (by decide))) (des_cons (le_de (le_lst (des_cons (de_tup (des_cons (de_str "db") (des_cons (de_int 1) des_nil)) (by decide)) des_nil) (by decide))) (des_cons (de_tup (des_cons (le_de (le_lst (des_cons (de_str "db") (des_cons (de_int 1) des_nil)) (by decide))) des_nil) (by decide)) (des_cons (de_tup (des_cons (de_tup (des_cons (de_str "db") (des_cons (de_int 0) des_nil)) (by decide)) des_nil) (by decide)) (des_cons (de_tup (des_cons (de_tup (des_cons (de_str "db") (des_cons (de_neg 1) des_nil)) (by decide)) des_nil) (by decide)) (des_cons (de_tup (des_cons (de_tup (des_cons (de_str "db") (des_cons (de_bl true) des_nil)) (by decide)) des_nil) (by decide)) (des_cons (de_tup (des_cons (de_tup (des_cons (de_str "db") (des_cons (de_str "1") des_nil)) (by decide)) des_nil) (by decide)) des_nil))))))))))) (by decide))) A fun σ' H' S' A' => ?_
    replace A := A'
    replace S := S.trans S'
    refine runs_odd (le0_cat rfl (le_lst (des_cons (de_tup (des_cons (de_tup (des_cons (de_str "log") (des_cons (de_int 1) des_nil)) (by decide)) (des_cons (de_tup (des_cons (de_str "db") (des_cons (de_int 1) des_nil)) (by decide)) des_nil)) (by decide)) (des_cons (de_tup (des_cons (de_tup (des_cons (de_str "db") (des_cons (de_int 1) des_nil)) (by decide)) (des_cons (de_tup (des_cons (de_str "db") (des_cons (de_int 1) des_nil)) (by decide)) des_nil)) (by decide)) (des_cons (de_tup (des_cons (de_tup (des_cons (de_str "mail") (des_cons (de_int 1) des_nil)) (by decide)) des_nil) (by decide)) (des_cons (de_tup (des_cons (de_tup (des_cons (de_str "db") (des_cons (de_int 1) (des_cons (de_int 1) des_nil))) (by decide)) des_nil) (by decide)) (des_cons (de_tup (des_cons (de_tup (des_cons (de_str "db") des_nil) (by decide)) des_nil) (by decide)) (des_cons (de_tup (des_cons (de_str "db") (des_cons (de_int 1) des_nil)) (by decide)) des_nil)))))) (by decide)) (by decide)) A fun σ' H' S' A' => ?_
    replace A := A'
    replace S := S.trans S'
    refine runs_step (runs_lst (i := 8) (le_cat rfl (le_lst (des_cons (de_tup (des_cons (de_tup (des_cons (de_int 1) (des_cons (de_str "db") des_nil)) (by decide)) des_nil) (by decide)) (des_cons (de_tup (des_cons (de_tup (des_cons (de_tup (des_cons (de_str "db") (des_cons (de_int 1) des_nil)) (by decide)) (des_cons (de_int 1) des_nil)) (by decide)) des_nil) (by decide)) (des_cons (de_tup (des_cons (de_tup (des_cons (de_str "db") (des_cons (de_int 1) des_nil)) (by decide)) (des_cons de_non des_nil)) (by decide)) (des_cons (de_tup (des_cons (de_tup (des_cons (de_str "") (des_cons (de_int 1) des_nil)) (by decide)) des_nil) (by decide)) (des_cons (de_tup (des_cons (de_tup (des_cons (de_str "DB") (des_cons (de_int 1) des_nil)) (by decide)) des_nil) (by decide)) (des_cons (de_tup (des_cons (de_tup (des_cons de_non (des_cons (de_int 1) des_nil)) (by decide)) des_nil) (by decide)) (des_cons (de_tup (des_cons (de_tup (des_cons (de_str "db") (des_cons de_non des_nil)) (by decide)) des_nil) (by decide)) des_nil))))))) (by decide)) (by decide))) A fun σ' H' S' A' => ?_
    replace A := A'
    replace S := S.trans S'
    refine runs_step (runs_lst (i := 3) (le_cat rfl (le_lst (des_cons (de_compE (ib := 0) (iv := 9) (ks := ["db", "log", "web"]) rfl ok3 (by decide) rfl (le_cat2 rfl rfl (by decide)) (fit_all (by decide +kernel)) (by decide) (bs := [true, true, true, true, false, false, false, false, false, false, false, false, false, false, false, false, false, false, false, false, false, false, false, false, false, false, false, false, false]) (by decide +kernel)) (des_cons (de_iscKE (i := 0) (ks := ["db", "log", "web"]) rfl ok3 (de_tup (des_cons (de_tup (des_cons (de_str "db") (des_cons (de_int 1) des_nil)) (by decide)) des_nil) (by decide)) ⟨by decide +kernel, by decide +kernel⟩ rfl (b := true) (by decide +kernel)) (des_cons (de_isc0 hE) des_nil))) (by decide)) (by decide))) A fun σ' H' S' A' => ?_
    replace A := A'
    replace S := S.trans S'
    exact same_end (n := 3) (lit := [(.tuple [(.tuple [(.str "db"), (.int 1)]), (.tuple [(.str "log"), (.int 2)])]), (.tuple []), (.list [(.str "log"), (.str "db"), (.str "log")]), (.tuple [(.tuple [(.str "a"), (.int 1)]), (.tuple [(.str "z"), (.int 1)]), (.tuple [(.str "zz"), (.int 2)])]), (.tuple [(.tuple [(.str "db"), (.int ((10 ^ (40 : Int).toNat) + 1))]), (.tuple [(.str "web"), (.int 1)])]), (.tuple []), (.tuple [(.tuple [(.str "a"), (.int 2)]), (.tuple [(.str "b"), (.int 1)])]), (.list [(.list [(.str "db"), (.int 1)])]), (.tuple [(.tuple [(.str "db"), (.int (2 * (10 ^ (40 : Int).toNat)))]), (.tuple [(.str "web"), (.int 2)])]), (.int ((10 ^ (40 : Int).toNat) + 1)), (.int 0), (.int 7), (.list [(.bool true), (.bool true), (.bool true), (.bool true), (.bool false), (.bool false), (.bool false), (.bool false), (.bool false), (.bool false), (.bool false), (.bool false), (.bool false), (.bool false), (.bool false), (.bool false), (.bool false), (.bool false), (.bool false), (.bool false), (.bool false), (.bool false), (.bool false), (.bool false), (.bool false), (.bool false), (.bool false), (.bool false), (.bool false)]), (.bool true), (.bool true)]) A (de_varL rfl) (le_de (le_cat rfl (le_lst (des_cons (le_de (le_catL (le_rep (b := true) (n := 4) (by decide)) (le_rep (b := false) (n := 25) (by decide)) (by decide))) (des_cons (de_bl true) (des_cons (de_bl true) des_nil))) (by decide)) (by decide))) rfl rfl (by decide +kernel) (by decide +kernel) fun H' S' => q _ (S.trans S')
end
end Sx

/-! LbN -/
namespace Sx
open PySem PySem.Spec PyProof.Rows L2
section
variable {P : Program} {w : World} {K : PySem.W.Frag} {mg : Str → Option Value} {base : Heap}
abbrev sLaw : Stmt := top 29
abbrev nLaw : List Str := ["_law_script", "_law_cells_so", "_law_k"]
theorem scLaw : FnScope nLaw ["_law_script"] (defScope sLaw) := ⟨rfl, rfl, rfl, by decide +kernel, rfl, by decide +kernel, by decide +kernel⟩
def spLaw (K : PySem.W.Frag) : Sp := fun vs H Q _ => ∃ (a : Addr) (ns : List Int), vs = [.ref a] ∧ SqL K H a (ns.map V.int) ∧ ns.length ≤ 63 ∧ ∀ H', Q (.bl true) H'
theorem ok_law {f : Addr} {fd : FuncData} {dvs : List V} (F : FunD K "law" "law" (defArgs sLaw) (defBody sLaw) (defScope sLaw) dvs [] f fd) (B : Blt mg) (GC : FnG P w K mg base "_law_cells" 1 ["_law_script", "_law_top"] (spCells K)) (GH : FnG P w K mg base "_law_by_hand_right" 5 [] spHand)
    (GR : FnG P w K mg base "_law_right" 5 ["_law_urn"] spRight) (GX : FnG P w K mg base "_law_box" 1 ["_law_script", "_law_k"] (spBox K)) : FnOk P w K mg base CX0 6 f fd ["_law_script"] (spLaw K) := by
  refine F.ok scLaw (fun vs H Q E h => ?_) (fun cdv A outer s H vs Q E hr h => ?_)
  · obtain ⟨a, ns, rfl, _⟩ := h
    rfl
  · obtain ⟨a, ns, rfl, hx, l63, q⟩ := h
    have hr1 : Room 1 (A.deeper (envOfC "law" (defScope sLaw) s.heap.objs.size f cdv)) := hr.mono (by decide)
    refine ⟨_, (pss_cons (ps_if (pt_not (pt_val (pe_g0 GH hr))) (pss_one (ps_ret pe_bl)) pss_nil)
      (pss_cons (ps_set (i := 1) scLaw.nd rfl (Or.inr rfl) (pe_g GC hr1 (pa_cons (pv 0) (pa_cons pe_int pa_nil))))
      (pss_one (ps_ret (pe_callB (cr_all rfl) (by rfl) B.all bt_all (pa_cons (pe_lc (own := [("_law_k", 2)]) (g := gName 2) (tt := tYes) rfl scLaw.nd (pi_range1 (by rfl) B.range (pa_cons (pe_callB call_len_seq (by rfl) B.len PySem.boot_len (pa_cons (pv 1) pa_nil)) pa_nil)) (blkOk_by (N := nLaw) (sc := defScope sLaw) (by decide +kernel)) (fun _ _ _ _ _ => pg_name (i := 2) scLaw.nd rfl (Or.inl rfl)) (fun _ _ _ _ _ => pts_nil)
        (fun _ _ _ _ _ => pe_g GR hr (pa_cons (pe_g GX hr1 (pa_cons (pv 1) (pa_cons (pv 2) pa_nil))) pa_nil))) pa_nil)))))).nox, ?_⟩
    refine ⟨rfl, fun H0 s0 => ⟨_, rfl, iteF ?_⟩⟩
    refine ⟨_, rfl, a, ns, rfl, same_sqL s0 hx, l63, fun l ms H2 s2' hl2 m3 => ?_⟩
    refine ⟨_, rfl, l, _, rfl, .inl (SqL.of hl2), ms.length, by rw [List.length_map], by omega, by omega, ?_⟩
    refine lc_walkR (n := ms.length) (vs := [2]) (σ := [some (.ref a), some (.ref l), none]) (fun D i H' => Same H2 H' ∧ H' D = some (.lst (List.replicate i (.bl true))))
      (fun D hD => ⟨Sx.Same.new hD, upd_same⟩) ?_ ?_
    · rintro D i x H' ⟨hi, rfl⟩ hD ⟨s, hd⟩
      refine ⟨rfl, ?_⟩
      unfold tYes
      dsimp only
      rw [if_pos rfl]
      refine ⟨_, rfl, _, rfl, l, i, ms, by rw [Int.zero_add]; rfl, SqL.of (s _ _ hl2), hi, m3, fun u H3 s3 hu U => ?_⟩
      refine ⟨u, rfl, U, fun H4 S4 => ?_⟩
      have Du : D ≠ u := fun e => by
        rw [e, hu] at hd
        cases hd
      have hd3 := s3 _ _ hd
      have s24 : Same H2 H4 := fun b o e => S4 _ _ (s3 _ _ (s _ _ e)) fun z => by
        have e2 := s _ _ e
        rw [z, hu] at e2
        cases e2
      refine ⟨_, S4 _ _ hd3 Du, by rw [List.length_replicate, sizeLine_eq]; omega, Sx.Same.mut s24 hD, ?_⟩
      rw [upd_same, ← List.replicate_succ']
    · rintro D H' hD ⟨s, hd⟩
      refine ⟨D, List.replicate ms.length true, rfl, SqL.of (by rw [hd, List.map_replicate]), ?_⟩
      have ea : (List.replicate ms.length true).all id = true := by
        rw [List.all_eq_true]
        intro z hz
        rw [(List.mem_replicate.mp hz).2]
        rfl
      rw [ea]
      exact q _
end
end Sx

/-! Asm -/
namespace Sx
open PySem PySem.Spec PyProof.Rows L2
theorem funD_of {K : PySem.W.Frag} {x qual : Str} {st : Stmt} {f : Addr} {fd : FuncData} (F : Fun K x qual st f fd) : FunD K x qual (defArgs st) (defBody st) (defScope st) [] [] f fd := by
  obtain ⟨oc, od, kV, doc, pm, an, cdv, ct, osl, e, lk, hc⟩ := F.ex
  exact ⟨⟨oc, od, .none, kV, doc, pm, an, cdv, ct, osl, e, lk, hc, .inl ⟨rfl, rfl⟩, .inl rfl⟩, F.kp⟩
theorem all_mk {l : PySem.W.OpenLaw} {w : World} {K : PySem.W.Frag} {h : Heap} {mg : Str → Option Value} {fa C : Addr} (X : K.In h) (G : h.Ns mainGlobals mg) (hfa : mg "law" = some (.ref fa))
    {f1 : Addr} {od1 an1 : Option Addr} {sl1 : Array (Option Value)} {oc1 kV1 dc1 pm1 cd1 ct1 : Value} {f2 : Addr} {od2 an2 : Option Addr} {sl2 : Array (Option Value)} {oc2 kV2 dc2 pm2 cd2 ct2 : Value} {f3 : Addr} {od3 an3 : Option Addr} {sl3 : Array (Option Value)} {oc3 kV3 dc3 pm3 cd3 ct3 : Value} {f4 : Addr} {od4 an4 : Option Addr} {sl4 : Array (Option Value)} {oc4 kV4 dc4 pm4 cd4 ct4 : Value} {f5 : Addr} {od5 an5 : Option Addr} {sl5 : Array (Option Value)} {oc5 kV5 dc5 pm5 cd5 ct5 : Value} {f6 : Addr} {od6 an6 : Option Addr} {sl6 : Array (Option Value)} {oc6 kV6 dc6 pm6 cd6 ct6 : Value} {f7 : Addr} {od7 an7 : Option Addr} {sl7 : Array (Option Value)} {oc7 kV7 dc7 pm7 cd7 ct7 : Value} {f8 : Addr} {od8 an8 : Option Addr} {sl8 : Array (Option Value)} {oc8 kV8 dc8 pm8 cd8 ct8 : Value} {f9 : Addr} {od9 an9 : Option Addr} {sl9 : Array (Option Value)} {oc9 kV9 dc9 pm9 cd9 ct9 : Value} {f10 : Addr} {od10 an10 : Option Addr} {sl10 : Array (Option Value)} {oc10 kV10 dc10 pm10 cd10 ct10 : Value} {f11 : Addr} {od11 an11 : Option Addr} {sl11 : Array (Option Value)} {oc11 kV11 dc11 pm11 cd11 ct11 : Value} {f12 : Addr} {od12 an12 : Option Addr} {sl12 : Array (Option Value)} {oc12 kV12 dc12 pm12 cd12 ct12 : Value} {f13 : Addr} {od13 an13 : Option Addr} {sl13 : Array (Option Value)} {oc13 kV13 dc13 pm13 cd13 ct13 : Value} {f14 : Addr} {od14 an14 : Option Addr} {sl14 : Array (Option Value)} {oc14 kV14 dc14 pm14 cd14 ct14 : Value} {f15 : Addr} {od15 an15 : Option Addr} {sl15 : Array (Option Value)} {oc15 kV15 dc15 pm15 cd15 ct15 : Value} {f16 : Addr} {od16 an16 : Option Addr} {sl16 : Array (Option Value)} {oc16 kV16 dc16 pm16 cd16 ct16 : Value} {f17 : Addr} {od17 an17 : Option Addr} {sl17 : Array (Option Value)} {oc17 kV17 dc17 pm17 cd17 ct17 : Value} {f18 : Addr} {od18 an18 : Option Addr} {sl18 : Array (Option Value)} {oc18 kV18 dc18 pm18 cd18 ct18 : Value} {f19 : Addr} {od19 an19 : Option Addr} {sl19 : Array (Option Value)} {oc19 kV19 dc19 pm19 cd19 ct19 : Value} {f20 : Addr} {od20 an20 : Option Addr} {sl20 : Array (Option Value)} {oc20 kV20 dc20 pm20 cd20 ct20 : Value} {p21 : Addr} {r21 : List Value} {f21 : Addr} {od21 an21 : Option Addr} {sl21 : Array (Option Value)} {oc21 kV21 dc21 pm21 cd21 ct21 : Value} {p22 : Addr} {r22 : List Value} {f22 : Addr} {od22 an22 : Option Addr} {sl22 : Array (Option Value)} {oc22 kV22 dc22 pm22 cd22 ct22 : Value} {f23 T eT : Addr} {od23 an23 : Option Addr} {sl23 : Array (Option Value)} {oc23 kV23 dc23 pm23 cd23 ct23 : Value} {oT : Obj} {nT : Nat} {oE : Obj} {nE : Nat}
    (aC : PySem.W.nsIn K mainGlobals "Book" = some (some (.ref C)))
    (a1 : PySem.W.nsIn K mainGlobals "is_kind" = some (some (.ref f1)))
    (l1 : K.lookup f1 = some ⟨oc1, od1, .func (PySem.W.fnOf "is_kind" "is_kind" (defArgs sIsKind) (defBody sIsKind) (defScope sIsKind) .none kV1 dc1 pm1 an1 cd1 ct1), sl1⟩)
    (c1 : PySem.W.codeIn K cd1 "is_kind" = true)
    (k1 : PySem.W.keepIn K (.ref f1) = true)
    (a2 : PySem.W.nsIn K mainGlobals "is_number" = some (some (.ref f2)))
    (l2 : K.lookup f2 = some ⟨oc2, od2, .func (PySem.W.fnOf "is_number" "is_number" (defArgs sNum) (defBody sNum) (defScope sNum) .none kV2 dc2 pm2 an2 cd2 ct2), sl2⟩)
    (c2 : PySem.W.codeIn K cd2 "is_number" = true)
    (k2 : PySem.W.keepIn K (.ref f2) = true)
    (a3 : PySem.W.nsIn K mainGlobals "is_crowd" = some (some (.ref f3)))
    (l3 : K.lookup f3 = some ⟨oc3, od3, .func (PySem.W.fnOf "is_crowd" "is_crowd" (defArgs sIsCrowd) (defBody sIsCrowd) (defScope sIsCrowd) .none kV3 dc3 pm3 an3 cd3 ct3), sl3⟩)
    (c3 : PySem.W.codeIn K cd3 "is_crowd" = true)
    (k3 : PySem.W.keepIn K (.ref f3) = true)
    (a4 : PySem.W.nsIn K mainGlobals "_rises" = some (some (.ref f4)))
    (l4 : K.lookup f4 = some ⟨oc4, od4, .func (PySem.W.fnOf "_rises" "_rises" (defArgs sRises) (defBody sRises) (defScope sRises) .none kV4 dc4 pm4 an4 cd4 ct4), sl4⟩)
    (c4 : PySem.W.codeIn K cd4 "_rises" = true)
    (k4 : PySem.W.keepIn K (.ref f4) = true)
    (a5 : PySem.W.nsIn K mainGlobals "crowd_of" = some (some (.ref f5)))
    (l5 : K.lookup f5 = some ⟨oc5, od5, .func (PySem.W.fnOf "crowd_of" "crowd_of" (defArgs sCrowdOf) (defBody sCrowdOf) (defScope sCrowdOf) .none kV5 dc5 pm5 an5 cd5 ct5), sl5⟩)
    (c5 : PySem.W.codeIn K cd5 "crowd_of" = true)
    (k5 : PySem.W.keepIn K (.ref f5) = true)
    (a6 : PySem.W.nsIn K mainGlobals "together" = some (some (.ref f6)))
    (l6 : K.lookup f6 = some ⟨oc6, od6, .func (PySem.W.fnOf "together" "together" (defArgs sTogether) (defBody sTogether) (defScope sTogether) .none kV6 dc6 pm6 an6 cd6 ct6), sl6⟩)
    (c6 : PySem.W.codeIn K cd6 "together" = true)
    (k6 : PySem.W.keepIn K (.ref f6) = true)
    (a7 : PySem.W.nsIn K mainGlobals "jobs_in" = some (some (.ref f7)))
    (l7 : K.lookup f7 = some ⟨oc7, od7, .func (PySem.W.fnOf "jobs_in" "jobs_in" (defArgs sJobs) (defBody sJobs) (defScope sJobs) .none kV7 dc7 pm7 an7 cd7 ct7), sl7⟩)
    (c7 : PySem.W.codeIn K cd7 "jobs_in" = true)
    (k7 : PySem.W.keepIn K (.ref f7) = true)
    (a8 : PySem.W.nsIn K mainGlobals "_law_box" = some (some (.ref f8)))
    (l8 : K.lookup f8 = some ⟨oc8, od8, .func (PySem.W.fnOf "_law_box" "_law_box" (defArgs sBox) (defBody sBox) (defScope sBox) .none kV8 dc8 pm8 an8 cd8 ct8), sl8⟩)
    (c8 : PySem.W.codeIn K cd8 "_law_box" = true)
    (k8 : PySem.W.keepIn K (.ref f8) = true)
    (a9 : PySem.W.nsIn K mainGlobals "_law_take" = some (some (.ref f9)))
    (l9 : K.lookup f9 = some ⟨oc9, od9, .func (PySem.W.fnOf "_law_take" "_law_take" (defArgs sTake) (defBody sTake) (defScope sTake) .none kV9 dc9 pm9 an9 cd9 ct9), sl9⟩)
    (c9 : PySem.W.codeIn K cd9 "_law_take" = true)
    (k9 : PySem.W.keepIn K (.ref f9) = true)
    (a10 : PySem.W.nsIn K mainGlobals "_law_cells" = some (some (.ref f10)))
    (l10 : K.lookup f10 = some ⟨oc10, od10, .func (PySem.W.fnOf "_law_cells" "_law_cells" (defArgs sCells) (defBody sCells) (defScope sCells) .none kV10 dc10 pm10 an10 cd10 ct10), sl10⟩)
    (c10 : PySem.W.codeIn K cd10 "_law_cells" = true)
    (k10 : PySem.W.keepIn K (.ref f10) = true)
    (a11 : PySem.W.nsIn K mainGlobals "_law_of" = some (some (.ref f11)))
    (l11 : K.lookup f11 = some ⟨oc11, od11, .func (PySem.W.fnOf "_law_of" "_law_of" (defArgs sLOf) (defBody sLOf) (defScope sLOf) .none kV11 dc11 pm11 an11 cd11 ct11), sl11⟩)
    (c11 : PySem.W.codeIn K cd11 "_law_of" = true)
    (k11 : PySem.W.keepIn K (.ref f11) = true)
    (a12 : PySem.W.nsIn K mainGlobals "_law_same" = some (some (.ref f12)))
    (l12 : K.lookup f12 = some ⟨oc12, od12, .func (PySem.W.fnOf "_law_same" "_law_same" (defArgs sSame) (defBody sSame) (defScope sSame) .none kV12 dc12 pm12 an12 cd12 ct12), sl12⟩)
    (c12 : PySem.W.codeIn K cd12 "_law_same" = true)
    (k12 : PySem.W.keepIn K (.ref f12) = true)
    (a13 : PySem.W.nsIn K mainGlobals "_law_mixed" = some (some (.ref f13)))
    (l13 : K.lookup f13 = some ⟨oc13, od13, .func (PySem.W.fnOf "_law_mixed" "_law_mixed" (defArgs sMixed) (defBody sMixed) (defScope sMixed) .none kV13 dc13 pm13 an13 cd13 ct13), sl13⟩)
    (c13 : PySem.W.codeIn K cd13 "_law_mixed" = true)
    (k13 : PySem.W.keepIn K (.ref f13) = true)
    (a14 : PySem.W.nsIn K mainGlobals "_law_tags" = some (some (.ref f14)))
    (l14 : K.lookup f14 = some ⟨oc14, od14, .func (PySem.W.fnOf "_law_tags" "_law_tags" (defArgs sTags) (defBody sTags) (defScope sTags) .none kV14 dc14 pm14 an14 cd14 ct14), sl14⟩)
    (c14 : PySem.W.codeIn K cd14 "_law_tags" = true)
    (k14 : PySem.W.keepIn K (.ref f14) = true)
    (a15 : PySem.W.nsIn K mainGlobals "_law_lists" = some (some (.ref f15)))
    (l15 : K.lookup f15 = some ⟨oc15, od15, .func (PySem.W.fnOf "_law_lists" "_law_lists" (defArgs sLists) (defBody sLists) (defScope sLists) .none kV15 dc15 pm15 an15 cd15 ct15), sl15⟩)
    (c15 : PySem.W.codeIn K cd15 "_law_lists" = true)
    (k15 : PySem.W.keepIn K (.ref f15) = true)
    (a16 : PySem.W.nsIn K mainGlobals "_law_counted" = some (some (.ref f16)))
    (l16 : K.lookup f16 = some ⟨oc16, od16, .func (PySem.W.fnOf "_law_counted" "_law_counted" (defArgs sCounted) (defBody sCounted) (defScope sCounted) .none kV16 dc16 pm16 an16 cd16 ct16), sl16⟩)
    (c16 : PySem.W.codeIn K cd16 "_law_counted" = true)
    (k16 : PySem.W.keepIn K (.ref f16) = true)
    (a17 : PySem.W.nsIn K mainGlobals "_law_by_hand_right" = some (some (.ref f17)))
    (l17 : K.lookup f17 = some ⟨oc17, od17, .func (PySem.W.fnOf "_law_by_hand_right" "_law_by_hand_right" (defArgs sHand) (defBody sHand) (defScope sHand) .none kV17 dc17 pm17 an17 cd17 ct17), sl17⟩)
    (c17 : PySem.W.codeIn K cd17 "_law_by_hand_right" = true)
    (k17 : PySem.W.keepIn K (.ref f17) = true)
    (a18 : PySem.W.nsIn K mainGlobals "_law_right" = some (some (.ref f18)))
    (l18 : K.lookup f18 = some ⟨oc18, od18, .func (PySem.W.fnOf "_law_right" "_law_right" (defArgs sRight) (defBody sRight) (defScope sRight) .none kV18 dc18 pm18 an18 cd18 ct18), sl18⟩)
    (c18 : PySem.W.codeIn K cd18 "_law_right" = true)
    (k18 : PySem.W.keepIn K (.ref f18) = true)
    (a19 : PySem.W.nsIn K mainGlobals "law" = some (some (.ref f19)))
    (l19 : K.lookup f19 = some ⟨oc19, od19, .func (PySem.W.fnOf "law" "law" (defArgs sLaw) (defBody sLaw) (defScope sLaw) .none kV19 dc19 pm19 an19 cd19 ct19), sl19⟩)
    (c19 : PySem.W.codeIn K cd19 "law" = true)
    (k19 : PySem.W.keepIn K (.ref f19) = true)
    (a20 : PySem.W.findIn K (.ref C) "__contains__" = some (some (.ref f20)))
    (i20 : PySem.W.isFn K (.ref f20) = true)
    (l20 : K.lookup f20 = some ⟨oc20, od20, .func (PySem.W.fnOf "__contains__" "Book.__contains__" (defArgs sIn) (defBody sIn) (defScope sIn) .none kV20 dc20 pm20 an20 cd20 ct20), sl20⟩)
    (c20 : PySem.W.codeIn K cd20 "Book.__contains__" = true)
    (k20 : PySem.W.keepIn K (.ref f20) = true)
    (a21 : PySem.W.findIn K (.ref C) "text" = some (some (.ref p21)))
    (g21 : PySem.W.specialIn K (.ref p21) "__get__" = some (some (.builtin "property.__get__")))
    (t21 : PySem.W.takesIn K (.ref p21) = some true)
    (q21 : PySem.W.recIn K p21 "property" = some (.ref f21 :: r21))
    (l21 : K.lookup f21 = some ⟨oc21, od21, .func (PySem.W.fnOf "text" "Book.text" (defArgs sText) (defBody sText) (defScope sText) .none kV21 dc21 pm21 an21 cd21 ct21), sl21⟩)
    (c21 : PySem.W.codeIn K cd21 "Book.text" = true)
    (k21 : PySem.W.keepIn K (.ref f21) = true)
    (rd : PySem.W.readsIn K C (.type "type") = true)
    (ga : PySem.W.specialIn K (.ref C) "__getattribute__" = some (some (.builtin "type.__getattribute__")))
    (a22 : PySem.W.findCls K (.ref C) (.type "type") "of" = some (.get (.builtin "staticmethod.__get__") (.ref p22) .none (.ref C)))
    (q22 : PySem.W.recIn K p22 "staticmethod" = some (.ref f22 :: r22))
    (l22 : K.lookup f22 = some ⟨oc22, od22, .func (PySem.W.fnOf "of" "Book.of" (defArgs sOf) (defBody sOf) (defScope sOf) .none kV22 dc22 pm22 an22 cd22 ct22), sl22⟩)
    (c22 : PySem.W.codeIn K cd22 "Book.of" = true)
    (k22 : PySem.W.keepIn K (.ref f22) = true)
    (a23 : PySem.W.findIn K (.ref C) "__init__" = some (some (.ref f23)))
    (i23 : PySem.W.isFn K (.ref f23) = true)
    (l23 : K.lookup f23 = some ⟨oc23, od23, .func (PySem.W.fnOf "__init__" "Book.__init__" (defArgs sInit) (defBody sInit) (defScope sInit) (.ref T) kV23 dc23 pm23 an23 cd23 ct23), sl23⟩)
    (c23 : PySem.W.codeIn K cd23 "Book.__init__" = true)
    (k23 : PySem.W.keepIn K (.ref f23) = true)
    (lT : K.lookup T = some oT)
    (dT : oT.data = .seq ([Value.ref eT] : List Value).toArray nT)
    (lE : K.lookup eT = some oE)
    (cE : oE.cls = .type "tuple")
    (dE : oE.data = .seq ([] : List Value).toArray nE)
    (pg : PySem.W.plainGet K C Str.empty = true)
    (hd : PySem.W.hasDictIn K C = true)
    (po : PySem.W.plainOver K C = true)
    (sa : PySem.W.findIn K (.ref C) "__setattr__" = some (some (.builtin "object.__setattr__")))
    (mk : PySem.W.makesIn K C = true)
    (kc : PySem.W.keepIn K (.ref C) = true)
    (nK : PySem.W.findIn K (.ref C) "_kinds" = some none)
    (nC : PySem.W.findIn K (.ref C) "_clashes" = some none)
    (nN : PySem.W.findIn K (.ref C) "_near" = some none)
    (z_sorted : PySem.W.nsIn K mainGlobals "sorted" = some none)
    (z_tuple : PySem.W.nsIn K mainGlobals "tuple" = some none)
    (z_min : PySem.W.nsIn K mainGlobals "min" = some none)
    (z_max : PySem.W.nsIn K mainGlobals "max" = some none)
    (z_len : PySem.W.nsIn K mainGlobals "len" = some none)
    (z_all : PySem.W.nsIn K mainGlobals "all" = some none)
    (z_isinstance : PySem.W.nsIn K mainGlobals "isinstance" = some none)
    (z_abs : PySem.W.nsIn K mainGlobals "abs" = some none)
    (z_list : PySem.W.nsIn K mainGlobals "list" = some none)
    (z_int : PySem.W.nsIn K mainGlobals "int" = some none)
    (z_range : PySem.W.nsIn K mainGlobals "range" = some none)
    (z_set : PySem.W.nsIn K mainGlobals "set" = some none)
    (z_zip : PySem.W.nsIn K mainGlobals "zip" = some none)
    (z_enumerate : PySem.W.nsIn K mainGlobals "enumerate" = some none)
    (z_dict : PySem.W.nsIn K mainGlobals "dict" = some none)
    (z_str : PySem.W.nsIn K mainGlobals "str" = some none)
    (z_bool : PySem.W.nsIn K mainGlobals "bool" = some none)
    (z_sum : PySem.W.nsIn K mainGlobals "sum" = some none)
    : ∃ fd : FuncData, (∀ (s : Shared) (v : Value), BindsTo s fd ⟨[v], []⟩ [("_law_script", v)]) ∧ ∀ base : Heap, K.In base → base.Ns mainGlobals mg → FnOk l.prog w K mg base CX0 6 fa fd ["_law_script"] (spLaw K) := by
  have e := hfa.symm.trans (PySem.W.mg_of X G a19)
  cases e
  have B : Blt mg := ⟨PySem.W.mg_none_of X G z_sorted, PySem.W.mg_none_of X G z_tuple, PySem.W.mg_none_of X G z_min, PySem.W.mg_none_of X G z_max, PySem.W.mg_none_of X G z_len, PySem.W.mg_none_of X G z_all, PySem.W.mg_none_of X G z_isinstance, PySem.W.mg_none_of X G z_abs, PySem.W.mg_none_of X G z_list, PySem.W.mg_none_of X G z_int, PySem.W.mg_none_of X G z_range, PySem.W.mg_none_of X G z_set, PySem.W.mg_none_of X G z_zip, PySem.W.mg_none_of X G z_enumerate, PySem.W.mg_none_of X G z_dict, PySem.W.mg_none_of X G z_str, PySem.W.mg_none_of X G z_bool⟩
  have cl : Cls K C := ⟨pg, hd, po, sa⟩
  have T0 : TBook K mg C := ⟨cl, nK, nC, nN, B.sorted, B.tuple, B.min, B.max⟩
  have TT : TB K mg C := { B with cl := cl, nK := nK, nC := nC, nN := nN }
  have mC : mg "Book" = some (.ref C) := PySem.W.mg_of X G aC
  have F1 := fun_mk (st := sIsKind) l1 c1 k1
  have b1 : Binds K _ ["thing"] [] := F1.binds (ps := ["thing"]) fun _ _ _ _ _ _ us hl => match us, hl with | [_], _ => rfl
  have m1 : mg "is_kind" = some (.ref f1) := PySem.W.mg_of X G a1
  have F2 := fun_mk (st := sNum) l2 c2 k2
  have b2 : Binds K _ ["thing"] [] := F2.binds (ps := ["thing"]) fun _ _ _ _ _ _ us hl => match us, hl with | [_], _ => rfl
  have m2 : mg "is_number" = some (.ref f2) := PySem.W.mg_of X G a2
  have F3 := fun_mk (st := sIsCrowd) l3 c3 k3
  have b3 : Binds K _ ["book", "thing"] [] := F3.binds (ps := ["book", "thing"]) fun _ _ _ _ _ _ us hl => match us, hl with | [_, _], _ => rfl
  have m3 : mg "is_crowd" = some (.ref f3) := PySem.W.mg_of X G a3
  have F4 := fun_mk (st := sRises) l4 c4 k4
  have b4 : Binds K _ ["rows"] [] := F4.binds (ps := ["rows"]) fun _ _ _ _ _ _ us hl => match us, hl with | [_], _ => rfl
  have m4 : mg "_rises" = some (.ref f4) := PySem.W.mg_of X G a4
  have F5 := fun_mk (st := sCrowdOf) l5 c5 k5
  have b5 : Binds K _ ["kinds"] [] := F5.binds (ps := ["kinds"]) fun _ _ _ _ _ _ us hl => match us, hl with | [_], _ => rfl
  have m5 : mg "crowd_of" = some (.ref f5) := PySem.W.mg_of X G a5
  have F6 := fun_mk (st := sTogether) l6 c6 k6
  have b6 : Binds K _ ["one", "other"] [] := F6.binds (ps := ["one", "other"]) fun _ _ _ _ _ _ us hl => match us, hl with | [_, _], _ => rfl
  have m6 : mg "together" = some (.ref f6) := PySem.W.mg_of X G a6
  have F7 := fun_mk (st := sJobs) l7 c7 k7
  have b7 : Binds K _ ["crowd"] [] := F7.binds (ps := ["crowd"]) fun _ _ _ _ _ _ us hl => match us, hl with | [_], _ => rfl
  have m7 : mg "jobs_in" = some (.ref f7) := PySem.W.mg_of X G a7
  have F8 := fun_mk (st := sBox) l8 c8 k8
  have b8 : Binds K _ ["_law_script", "_law_k"] [] := F8.binds (ps := ["_law_script", "_law_k"]) fun _ _ _ _ _ _ us hl => match us, hl with | [_, _], _ => rfl
  have m8 : mg "_law_box" = some (.ref f8) := PySem.W.mg_of X G a8
  have F9 := fun_mk (st := sTake) l9 c9 k9
  have b9 : Binds K _ ["_law_urn", "_law_low_so"] [] := F9.binds (ps := ["_law_urn", "_law_low_so"]) fun _ _ _ _ _ _ us hl => match us, hl with | [_, _], _ => rfl
  have m9 : mg "_law_take" = some (.ref f9) := PySem.W.mg_of X G a9
  have F10 := fun_mk (st := sCells) l10 c10 k10
  have b10 : Binds K _ ["_law_script", "_law_top"] [] := F10.binds (ps := ["_law_script", "_law_top"]) fun _ _ _ _ _ _ us hl => match us, hl with | [_, _], _ => rfl
  have m10 : mg "_law_cells" = some (.ref f10) := PySem.W.mg_of X G a10
  have F11 := fun_mk (st := sLOf) l11 c11 k11
  have b11 : Binds K _ ["_law_urn", "_law_some_so"] [] := F11.binds (ps := ["_law_urn", "_law_some_so"]) fun _ _ _ _ _ _ us hl => match us, hl with | [_, _], _ => rfl
  have m11 : mg "_law_of" = some (.ref f11) := PySem.W.mg_of X G a11
  have F12 := fun_mk (st := sSame) l12 c12 k12
  have b12 : Binds K _ ["_law_got", "_law_goal"] [] := F12.binds (ps := ["_law_got", "_law_goal"]) fun _ _ _ _ _ _ us hl => match us, hl with | [_, _], _ => rfl
  have m12 : mg "_law_same" = some (.ref f12) := PySem.W.mg_of X G a12
  have F13 := fun_mk (st := sMixed) l13 c13 k13
  have b13 : Binds K _ ["_law_urn", "_law_pool"] [] := F13.binds (ps := ["_law_urn", "_law_pool"]) fun _ _ _ _ _ _ us hl => match us, hl with | [_, _], _ => rfl
  have m13 : mg "_law_mixed" = some (.ref f13) := PySem.W.mg_of X G a13
  have F14 := fun_mk (st := sTags) l14 c14 k14
  have b14 : Binds K _ ["_law_urn", "_law_size_so"] [] := F14.binds (ps := ["_law_urn", "_law_size_so"]) fun _ _ _ _ _ _ us hl => match us, hl with | [_, _], _ => rfl
  have m14 : mg "_law_tags" = some (.ref f14) := PySem.W.mg_of X G a14
  have F15 := fun_mk (st := sLists) l15 c15 k15
  have b15 : Binds K _ ["_law_matter"] [] := F15.binds (ps := ["_law_matter"]) fun _ _ _ _ _ _ us hl => match us, hl with | [_], _ => rfl
  have m15 : mg "_law_lists" = some (.ref f15) := PySem.W.mg_of X G a15
  have F16 := fun_mk (st := sCounted) l16 c16 k16
  have b16 : Binds K _ ["_law_jobs_so"] [] := F16.binds (ps := ["_law_jobs_so"]) fun _ _ _ _ _ _ us hl => match us, hl with | [_], _ => rfl
  have m16 : mg "_law_counted" = some (.ref f16) := PySem.W.mg_of X G a16
  have F17 := fun_mk (st := sHand) l17 c17 k17
  have b17 : Binds K _ [] [] := F17.binds (ps := []) fun _ _ _ _ _ _ us hl => match us, hl with | [], _ => rfl
  have m17 : mg "_law_by_hand_right" = some (.ref f17) := PySem.W.mg_of X G a17
  have F18 := fun_mk (st := sRight) l18 c18 k18
  have b18 : Binds K _ ["_law_urn"] [] := F18.binds (ps := ["_law_urn"]) fun _ _ _ _ _ _ us hl => match us, hl with | [_], _ => rfl
  have m18 : mg "_law_right" = some (.ref f18) := PySem.W.mg_of X G a18
  have F19 := fun_mk (st := sLaw) l19 c19 k19
  have F20 := fun_mk (st := sIn) l20 c20 k20
  have b20 : Binds K _ ["self", "kind"] [] := F20.binds (ps := ["self", "kind"]) fun _ _ _ _ _ _ us hl => match us, hl with | [_, _], _ => rfl
  have F21 := fun_mk (st := sText) l21 c21 k21
  have b21 : Binds K _ ["self"] [] := F21.binds (ps := ["self"]) fun _ _ _ _ _ _ us hl => match us, hl with | [_], _ => rfl
  have F22 := fun_mk (st := sOf) l22 c22 k22
  have b22 : Binds K _ ["text"] [] := F22.binds (ps := ["text"]) fun _ _ _ _ _ _ us hl => match us, hl with | [_], _ => rfl
  have FD : FunD K "__init__" "Book.__init__" (defArgs sInit) (defBody sInit) (defScope sInit) [V.ref eT] [] f23 _ := ⟨⟨oc23, od23, .ref T, kV23, dc23, pm23, an23, cd23, ct23, sl23, rfl, l23, c23, .inr ⟨by simp, T, oT, [.ref eT], nT, rfl, lT, dT, .cons rfl .nil⟩, .inl rfl⟩, k23⟩
  have hE : ∀ H, SqT K H eT [] := fun H => .inr ⟨oE, ([] : List Value).toArray, nE, lE, cE, dE, Nat.zero_le _, .nil⟩
  obtain ⟨ds1, rds1, bI1⟩ := FD.binds1 (ps := ["self", "kinds", "clashes"]) 2 0 (by simp) rfl fun T kV doc pm an cdv ct us its hu hi => match us, its, hu, hi with
    | [_, _], [_], _, _ => ⟨_, rfl, rfl⟩
  obtain ⟨ds, rds, bI⟩ := FD.binds1 (ps := ["self", "kinds", "clashes"]) 3 1 (by simp) rfl fun T kV doc pm an cdv ct us its hu hi => match us, its, hu, hi with
    | [_, _, _], [_], _, _ => ⟨_, rfl, rfl⟩
  cases rds
  refine ⟨PySem.W.fnOf "law" "law" (defArgs sLaw) (defBody sLaw) (defScope sLaw) .none kV19 dc19 pm19 an19 cd19 ct19, fun s v => .of_eq rfl, fun base _ _ => ?_⟩
  have GB : InitG l.prog w K mg base C := ⟨f23, _, mC, ⟨mk, a23, i23, kc⟩, ok_init FD T0, bI⟩
  have GBD : MkD l.prog w K mg base "Book" C 1 ["self", "kinds", "clashes"] (spInit K C) [.ref eT] := ⟨f23, _, ds1, mC, ⟨mk, a23, i23, kc⟩, ok_init FD T0, bI1, rds1⟩
  have GTx : PrG l.prog w K mg base C "text" 1 (spText K C) := ⟨p21, f21, _, ⟨a21, g21, t21, r21, q21⟩, ok_text (funD_of F21) TT, b21⟩
  have GIs : FnG l.prog w K mg base "is_kind" 1 ["thing"] spIsKind := ⟨f1, _, m1, k1, ok_isKind (funD_of F1) B, b1⟩
  have GOf : SmG l.prog w K mg base C "of" 3 ["text"] (spOfB K C) := ⟨.type "type", p22, f22, _, r22, ⟨rd, ga⟩, a22, q22, k22, ok_of (funD_of F22) TT GB GIs GTx, b22⟩
  have GNu : FnG l.prog w K mg base "is_number" 1 ["thing"] (spNum K) := ⟨f2, _, m2, k2, ok_num (funD_of F2) B, b2⟩
  have GRs : FnG l.prog w K mg base "_rises" 1 ["rows"] (spRises K) := ⟨f4, _, m4, k4, ok_rises (funD_of F4) B, b4⟩
  have GIn : MtG l.prog w K mg base C "__contains__" 1 ["self", "kind"] (spIn K C) := ⟨f20, _, ⟨a20, i20, k20⟩, ok_in (funD_of F20) TT, b20⟩
  have GIC : FnG l.prog w K mg base "is_crowd" 2 ["book", "thing"] (spIsCrowd K C) := ⟨f3, _, m3, k3, ok_isCrowd (funD_of F3) B GNu GRs GIn, b3⟩
  have GCr : FnG l.prog w K mg base "crowd_of" 1 ["kinds"] (spCrowdOf K) := ⟨f5, _, m5, k5, ok_crowdOf (funD_of F5) B, b5⟩
  have GTo : FnG l.prog w K mg base "together" 1 ["one", "other"] (spTogether K) := ⟨f6, _, m6, k6, ok_together (funD_of F6) B, b6⟩
  have zs := PySem.W.mg_none_of X G z_sum
  have GJo : FnG l.prog w K mg base "jobs_in" 1 ["crowd"] (spJobs K) := ⟨f7, _, m7, k7, ok_jobs (funD_of F7) B zs, b7⟩
  have GTk : FnG l.prog w K mg base "_law_take" 1 ["_law_urn", "_law_low_so"] spTake := ⟨f9, _, m9, k9, ok_take (funD_of F9) B, b9⟩
  have GLo : FnG l.prog w K mg base "_law_of" 2 ["_law_urn", "_law_some_so"] (spLOf K) := ⟨f11, _, m11, k11, ok_lof (funD_of F11) B GTk, b11⟩
  have GMi : FnG l.prog w K mg base "_law_mixed" 2 ["_law_urn", "_law_pool"] (spMixed K) := ⟨f13, _, m13, k13, ok_mixed (funD_of F13) B GTk, b13⟩
  have GTg : FnG l.prog w K mg base "_law_tags" 3 ["_law_urn", "_law_size_so"] (spTags K) := ⟨f14, _, m14, k14, ok_tags (funD_of F14) B GMi, b14⟩
  have GSa : FnG l.prog w K mg base "_law_same" 4 ["_law_got", "_law_goal"] (spSame K 3) := ⟨f12, _, m12, k12, ok_same (funD_of F12) B m12 k12 b12 3, b12⟩
  have GL0 : FnG l.prog w K mg base "_law_lists" 1 ["_law_matter"] (spLists K 0) := ⟨f15, _, m15, k15, ok_lists0 (funD_of F15) B, b15⟩
  have GL1 : FnG l.prog w K mg base "_law_lists" 2 ["_law_matter"] (spLists K 1) := ⟨f15, _, m15, k15, ok_lists1 (funD_of F15) B GL0, b15⟩
  have GL2 : FnG l.prog w K mg base "_law_lists" 3 ["_law_matter"] (spLists K 2) := ⟨f15, _, m15, k15, ok_lists2 (funD_of F15) B GL1, b15⟩
  have GCn : FnG l.prog w K mg base "_law_counted" 1 ["_law_jobs_so"] (spCounted K) := ⟨f16, _, m16, k16, ok_counted (funD_of F16) B, b16⟩
  have GBx : FnG l.prog w K mg base "_law_box" 1 ["_law_script", "_law_k"] (spBox K) := ⟨f8, _, m8, k8, ok_box (funD_of F8) B, b8⟩
  have GCe : FnG l.prog w K mg base "_law_cells" 1 ["_law_script", "_law_top"] (spCells K) := ⟨f10, _, m10, k10, ok_cells (funD_of F10) B, b10⟩
  have GRi : FnG l.prog w K mg base "_law_right" 5 ["_law_urn"] spRight := ⟨f18, _, m18, k18, ok_right (funD_of F18) TT GTk GTg GLo GCn GCr GTo GJo GL2 GSa GIC GBD hE, b18⟩
  have KC : KwG l.prog w K mg base "crowd_of" 1 "kinds" (spCrowdOf K) := ⟨f5, _, m5, k5, ok_crowdOf (funD_of F5) B, kb_one (fun _ => rfl) (fun _ => rfl)⟩
  have KT : KwG2 l.prog w K mg base "together" 1 "one" "other" (spTogether K) := ⟨f6, _, m6, k6, ok_together (funD_of F6) B, kb_swap (fun _ _ => rfl) (fun _ _ => rfl) (fun _ _ => rfl)⟩
  have KJ : KwG l.prog w K mg base "jobs_in" 1 "crowd" (spJobs K) := ⟨f7, _, m7, k7, ok_jobs (funD_of F7) B zs, kb_one (fun _ => rfl) (fun _ => rfl)⟩
  have KI : KwG2 l.prog w K mg base "is_crowd" 2 "book" "thing" (spIsCrowd K C) := ⟨f3, _, m3, k3, ok_isCrowd (funD_of F3) B GNu GRs GIn, kb_swap (fun _ _ => rfl) (fun _ _ => rfl) (fun _ _ => rfl)⟩
  have GHd : FnG l.prog w K mg base "_law_by_hand_right" 5 [] spHand := ⟨f17, _, m17, k17, ok_hand (funD_of F17) TT mC GOf GCr GTo GJo GSa GIC GBD hE KC KT KJ KI, b17⟩
  exact ok_law (funD_of F19) B GCe GHd GRi GBx
theorem walk {l : PySem.W.OpenLaw} {q : Program} {loose : List Str} {XP : (Str → Option Value) → Heap → Prop} {YP : World → Heap → Prop} {d : DefRec} {K : Params → PySem.W.Frag} (hn : l.most = some 63) (hdf : d.params.defaults = [])
    (hY : ∀ (w : World) (h : Heap), YP w h → (K w.params).In h)
    (F : ∀ (w : World) (mg : Str → Option Value) (fa : Addr) (h : Heap), (K w.params).In h → h.Ns mainGlobals mg → mg d.name = some (.ref fa) →
      ∃ fd : FuncData, (∀ (s : Shared) (u : Value), BindsTo s fd ⟨[u], []⟩ [("_law_script", u)]) ∧ ∀ base : Heap, (K w.params).In base → base.Ns mainGlobals mg → FnOk l.prog w (K w.params) mg base CX0 6 fa fd ["_law_script"] (spLaw (K w.params))) :
    PySem.W.WalkO q loose XP YP l.row.toRowW d [] (fun f vs => PySem.call f vs) :=
  L2.walk_of (n := 63) (k := 6) (x := "_law_script") (CX := fun _ => CX0) (sp := fun w => spLaw (K w.params)) hn (by decide) hdf ⟨rfl, by decide, by decide⟩ hY F (fun _ _ a ns hl _ hS => ⟨a, ns, rfl, hS, hl, fun _ => rfl⟩) fun _ _ _ _ _ z => z
end Sx

/-! End -/
set_option Elab.async false
set_option maxRecDepth 100000

open PySem PySem.W PyProof.Rows in
set_option maxRecDepth 100000 in
set_option maxHeartbeats 0 in
theorem PySem.Challenge.cw_onehostmore_k39_crowds_as_they_are_holds : PySem.Challenge.rw_onehostmore_k39_crowds_as_they_are.Holds := by
  w_on; o_law; k_head; (case hw => w_witness2)
  k_fill
  refine Sx.walk (l := PySem.Challenge.rw_onehostmore_k39_crowds_as_they_are) rfl rfl (fun w h Y => PySem.W.kIn_of Y) ?F
  case F =>
    intro w mg fa h KX G hmg
    refine' Sx.all_mk KX G hmg ?aC ?a1 ?l1 ?c1 ?k1 ?a2 ?l2 ?c2 ?k2 ?a3 ?l3 ?c3 ?k3 ?a4 ?l4 ?c4 ?k4 ?a5 ?l5 ?c5 ?k5 ?a6 ?l6 ?c6 ?k6 ?a7 ?l7 ?c7 ?k7 ?a8 ?l8 ?c8 ?k8 ?a9 ?l9 ?c9 ?k9 ?a10 ?l10 ?c10 ?k10 ?a11 ?l11 ?c11 ?k11 ?a12 ?l12 ?c12 ?k12 ?a13 ?l13 ?c13 ?k13 ?a14 ?l14 ?c14 ?k14 ?a15 ?l15 ?c15 ?k15 ?a16 ?l16 ?c16 ?k16 ?a17 ?l17 ?c17 ?k17 ?a18 ?l18 ?c18 ?k18 ?a19 ?l19 ?c19 ?k19 ?a20 ?i20 ?l20 ?c20 ?k20 ?a21 ?g21 ?t21 ?q21 ?l21 ?c21 ?k21 ?rd ?ga ?a22 ?q22 ?l22 ?c22 ?k22 ?a23 ?i23 ?l23 ?c23 ?k23 ?lT ?dT ?lE ?cE ?dE ?pg ?hd ?po ?sa ?mk ?kc ?nK ?nC ?nN ?z_sorted ?z_tuple ?z_min ?z_max ?z_len ?z_all ?z_isinstance ?z_abs ?z_list ?z_int ?z_range ?z_set ?z_zip ?z_enumerate ?z_dict ?z_str ?z_bool ?z_sum
    (case aC => k_is)
    (case a1 => k_is)
    (case l1 => k_is)
    (case c1 => k_is)
    (case k1 => k_is)
    (case a2 => k_is)
    (case l2 => k_is)
    (case c2 => k_is)
    (case k2 => k_is)
    (case a3 => k_is)
    (case l3 => k_is)
    (case c3 => k_is)
    (case k3 => k_is)
    (case a4 => k_is)
    (case l4 => k_is)
    (case c4 => k_is)
    (case k4 => k_is)
    (case a5 => k_is)
    (case l5 => k_is)
    (case c5 => k_is)
    (case k5 => k_is)
    (case a6 => k_is)
    (case l6 => k_is)
    (case c6 => k_is)
    (case k6 => k_is)
    (case a7 => k_is)
    (case l7 => k_is)
    (case c7 => k_is)
    (case k7 => k_is)
    (case a8 => k_is)
    (case l8 => k_is)
    (case c8 => k_is)
    (case k8 => k_is)
    (case a9 => k_is)
    (case l9 => k_is)
    (case c9 => k_is)
    (case k9 => k_is)
    (case a10 => k_is)
    (case l10 => k_is)
    (case c10 => k_is)
    (case k10 => k_is)
    (case a11 => k_is)
    (case l11 => k_is)
    (case c11 => k_is)
    (case k11 => k_is)
    (case a12 => k_is)
    (case l12 => k_is)
    (case c12 => k_is)
    (case k12 => k_is)
    (case a13 => k_is)
    (case l13 => k_is)
    (case c13 => k_is)
    (case k13 => k_is)
    (case a14 => k_is)
    (case l14 => k_is)
    (case c14 => k_is)
    (case k14 => k_is)
    (case a15 => k_is)
    (case l15 => k_is)
    (case c15 => k_is)
    (case k15 => k_is)
    (case a16 => k_is)
    (case l16 => k_is)
    (case c16 => k_is)
    (case k16 => k_is)
    (case a17 => k_is)
    (case l17 => k_is)
    (case c17 => k_is)
    (case k17 => k_is)
    (case a18 => k_is)
    (case l18 => k_is)
    (case c18 => k_is)
    (case k18 => k_is)
    (case a19 => k_is)
    (case l19 => k_is)
    (case c19 => k_is)
    (case k19 => k_is)
    (case a20 => k_is)
    (case i20 => k_is)
    (case l20 => k_is)
    (case c20 => k_is)
    (case k20 => k_is)
    (case a21 => k_is)
    (case g21 => k_is)
    (case t21 => k_is)
    (case q21 => k_is)
    (case l21 => k_is)
    (case c21 => k_is)
    (case k21 => k_is)
    (case rd => k_is)
    (case ga => k_is)
    (case a22 => k_is)
    (case q22 => k_is)
    (case l22 => k_is)
    (case c22 => k_is)
    (case k22 => k_is)
    (case a23 => k_is)
    (case i23 => k_is)
    (case l23 => k_is)
    (case c23 => k_is)
    (case k23 => k_is)
    (case lT => k_is)
    (case dT => rfl)
    (case lE => k_is)
    (case cE => rfl)
    (case dE => rfl)
    (case pg => k_is)
    (case hd => k_is)
    (case po => k_is)
    (case sa => k_is)
    (case mk => k_is)
    (case kc => k_is)
    (case nK => k_is)
    (case nC => k_is)
    (case nN => k_is)
    (case z_sorted => k_is)
    (case z_tuple => k_is)
    (case z_min => k_is)
    (case z_max => k_is)
    (case z_len => k_is)
    (case z_all => k_is)
    (case z_isinstance => k_is)
    (case z_abs => k_is)
    (case z_list => k_is)
    (case z_int => k_is)
    (case z_range => k_is)
    (case z_set => k_is)
    (case z_zip => k_is)
    (case z_enumerate => k_is)
    (case z_dict => k_is)
    (case z_str => k_is)
    (case z_bool => k_is)
    (case z_sum => k_is)
