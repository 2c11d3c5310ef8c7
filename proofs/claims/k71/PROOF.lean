import PyProof.Rows.All
import Wide.All
import OpenK.AllK
import Wide.FinOn
import HandS.TupSets
import HandS.SetBool
import HandS.Base
import HandS.Call
import HandS.List
import HandS.Comp
import HandS.Dict
import HandS.Set
import PyProof.EqAt
import PyProof.EqKinds
import PyProof.TupleCall
import PyProof.Rows.SortShell
import KE.KSortTup
import HandS.SortOrd
import HandS.SortRule
import PyProof.MinMaxWalk
import PyProof.WalksMore
import HandS.ForMost
import HandS.FltList
import HandS.Conv
import HandS.DictComp
import HandS.Defaults
import HandS.Evl
import HandS.Property
import HandS.ClsMeth
import HandS.IsInst
import HandS.FStr
import HandS.Exc
import HandS.Wide
import HandS.Deep
import HandS.DeepEq
import PyProof.P3In
import HandS.Zip
import HandS.Flow
import HandS.Style
import HandS.DictTup
import HandS.TryOnly
import HandS.SetTxt0
import PyProof.Rows.SetFrom
import HandS.TupAny
import HandS.TupMul
import HandS.Text
import KE.KStar
import HandS.WordsDict
import HandS.WideBits
import HandS.Iter
import KE.GoesEnum
import HandS.Strs
import KE.BitLaws
import PyProof.P3Eq
import PySem.Challenge.RW_onehostmore_k71_fours_against_an_order

set_option Elab.async false
set_option linter.all false
set_option maxRecDepth 100000
set_option maxHeartbeats 8000000

/-! SxTab -/
/-! Tables of sets of up to 4,914 members: every slot is met in time, whatever the hashes. -/
namespace Sx
open PySem PySem.Spec PyProof.Rows L2

/-! ### the round of the slots, for all masks that come -/
def gather (m : Nat) : Nat → Nat → Nat → Nat
  | 0, _, bits => bits
  | left + 1, i, bits => gather m left ((i * 5 + 1) % (m + 1)) (bits ||| (1 <<< i))
theorem lcg_head (m i : Nat) : ∀ k, lcgI m ((i * 5 + 1) % (m + 1)) k = lcgI m i (k + 1)
  | 0 => rfl
  | k + 1 => congrArg (fun z => (z * 5 + 1) % (m + 1)) (lcg_head m i k)
theorem lcg_plus (m i a : Nat) : ∀ k, lcgI m (lcgI m i a) k = lcgI m i (a + k)
  | 0 => rfl
  | k + 1 => congrArg (fun z => (z * 5 + 1) % (m + 1)) (lcg_plus m i a k)
theorem gather_bit (m j : Nat) : ∀ left i bits, (gather m left i bits).testBit j = true → bits.testBit j = true ∨ ∃ k, k < left ∧ lcgI m i k = j
  | 0, _, _, h => .inl h
  | left + 1, i, bits, h => by
    rcases gather_bit m j left _ _ h with q | ⟨k, hk, e⟩
    · rw [Nat.testBit_or, Bool.or_eq_true] at q
      rcases q with q | q
      · exact .inl q
      · rw [Nat.one_shiftLeft, Nat.testBit_two_pow] at q
        exact .inr ⟨0, Nat.succ_pos _, of_decide_eq_true q⟩
    · exact .inr ⟨k + 1, Nat.succ_lt_succ hk, (lcg_head m i k).symm.trans e⟩
/-- the masks of tables with room for 4,914 -/
def Msk (m : Nat) : Prop := m = 7 ∨ m = 31 ∨ m = 127 ∨ m = 511 ∨ m = 2047 ∨ m = 8191
structure Round (m : Nat) : Prop where
  all : gather m (m + 1) 0 0 = 2 ^ (m + 1) - 1
  back : lcgI m 0 (m + 1) = 0
theorem round7 : Round 7 := ⟨by decide +kernel, by decide +kernel⟩
theorem round31 : Round 31 := ⟨by decide +kernel, by decide +kernel⟩
theorem round127 : Round 127 := ⟨by decide +kernel, by decide +kernel⟩
theorem round511 : Round 511 := ⟨by decide +kernel, by decide +kernel⟩
theorem round2047 : Round 2047 := ⟨by decide +kernel, by decide +kernel⟩
theorem round8191 : Round 8191 := ⟨by decide +kernel, by decide +kernel⟩
theorem Msk.round {m : Nat} (h : Msk m) : Round m := by
  rcases h with e | e | e | e | e | e
  · rw [e]; exact round7
  · rw [e]; exact round31
  · rw [e]; exact round127
  · rw [e]; exact round511
  · rw [e]; exact round2047
  · rw [e]; exact round8191
theorem Msk.odd {m : Nat} (h : Msk m) : m % 2 = 1 := by
  rcases h with e | e | e | e | e | e <;> rw [e]
theorem Msk.big {m : Nat} (h : Msk m) : m ≤ 8191 := by
  rcases h with e | e | e | e | e | e <;> rw [e] <;> decide
theorem Round.some {m : Nat} (r : Round m) {j : Nat} (hj : j ≤ m) : ∃ k, k ≤ m ∧ lcgI m 0 k = j := by
  have b : (gather m (m + 1) 0 0).testBit j = true := by
    rw [r.all, Nat.testBit_two_pow_sub_one]
    exact decide_eq_true (Nat.lt_succ_of_le hj)
  rcases gather_bit m j _ _ _ b with q | ⟨k, hk, e⟩
  · simp at q
  · exact ⟨k, Nat.le_of_lt_succ hk, e⟩
theorem Round.turn {m : Nat} (r : Round m) (k : Nat) : lcgI m 0 (m + 1 + k) = lcgI m 0 k := by
  rw [← lcg_plus, r.back]
theorem Msk.all {m : Nat} (h : Msk m) {i j : Nat} (hi : i ≤ m) (hj : j ≤ m) : ∃ k, k ≤ m ∧ lcgI m i k = j := by
  obtain ⟨a, ha, ea⟩ := h.round.some hi
  obtain ⟨b, hb, eb⟩ := h.round.some hj
  subst ea
  by_cases c : a ≤ b
  · refine ⟨b - a, by omega, ?_⟩
    rw [lcg_plus, Nat.add_sub_of_le c, eb]
  · refine ⟨m + 1 + b - a, by omega, ?_⟩
    rw [lcg_plus, Nat.add_sub_of_le (by omega), h.round.turn, eb]
/-- each slot begins one of the first runs -/
theorem Msk.run {m : Nat} (hm : Msk m) (h : Int) {j : Nat} (hj : j ≤ m) : ∃ n, n ≤ m + 12 ∧ runI m (SetTable.bits h) n = j := by
  obtain ⟨k, hk, e⟩ := hm.all (runI_le m (SetTable.bits h) 12) hj
  exact ⟨12 + k, by omega, (runI_tail (bits_lt h) k).trans e⟩
theorem Msk.meets {m : Nat} (hm : Msk m) (h : Int) {j : Nat} (hj : j ≤ m) : ∃ k, k < 10 * SetTable.turns m ∧ way m h k = j := by
  obtain ⟨n, hn, e⟩ := hm.run h hj
  obtain ⟨k, hk, e2⟩ := run_nth m (SetTable.bits h) n
  refine ⟨k, by unfold SetTable.turns; omega, ?_⟩
  show (nth m (runAt m (SetTable.bits h % (m + 1)) (SetTable.bits h)) k).j = j
  rw [e2]
  exact e
theorem way_in {m : Nat} (h : Int) (k : Nat) : way m h k ≤ m := by
  have hi : SetTable.bits h % (m + 1) ≤ m := Nat.le_of_lt_succ (Nat.mod_lt _ (Nat.succ_pos _))
  obtain ⟨a, b, _⟩ := runEnd_bd hi
  have q := nth_in k (runAt m (SetTable.bits h % (m + 1)) (SetTable.bits h)) (m := m) (by
    show SetTable.bits h % (m + 1) + (SetTable.runEnd m (SetTable.bits h % (m + 1)) - SetTable.bits h % (m + 1)) ≤ m
    omega)
  exact Nat.le_trans (Nat.le_add_right _ _) q

/-! ### a table in which all is found again -/
structure Tb (t : SetTable) (hs : List Int) : Prop where
  up : Ris t.place.toList
  nod : t.dummies = #[]
  len : t.place.size = hs.length
  msk : Msk t.mask
  low : ∀ x ∈ t.place.toList, x ≤ t.mask
  again : ∀ (i : Nat) (h : Int) (j : Nat), hs[i]? = some h → t.place.toList[i]? = some j → ∃ k, way t.mask h k = j ∧ ∀ c, c < k → way t.mask h c ∈ t.place.toList
/-- K is the first free step of h -/
structure Fst (t : SetTable) (h : Int) (K : Nat) : Prop where
  free : way t.mask h K ∉ t.place.toList
  full : ∀ c, c < K → way t.mask h c ∈ t.place.toList
theorem Tb.first {t : SetTable} {hs : List Int} (T : Tb t hs) (hl : hs.length ≤ t.mask) (h : Int) : ∃ K, K < 10 * SetTable.turns t.mask ∧ Fst t h K := by
  obtain ⟨j, hj, hn⟩ := st_missing t.place.toList (t.mask + 1) (by rw [Array.length_toList, T.len]; omega)
  obtain ⟨k, hk, e⟩ := T.msk.meets h (Nat.le_of_lt_succ hj)
  have start : way t.mask h k ∉ t.place.toList := fun z => hn (e ▸ z)
  obtain ⟨K, a, b, c⟩ := st_least (p := fun k => way t.mask h k ∉ t.place.toList) k start
  exact ⟨K, Nat.lt_of_le_of_lt a hk, b, fun q hq => Classical.byContradiction fun z => c q hq z⟩
/-- what has this hash stands ahead of the first free step -/
theorem Tb.ahead {t : SetTable} {hs : List Int} (T : Tb t hs) {h : Int} {K i j : Nat} (F : Fst t h K) (hi : hs[i]? = some h) (hj : t.place.toList[i]? = some j) : ∃ k, k < K ∧ way t.mask h k = j := by
  obtain ⟨k, e, b⟩ := T.again i h j hi hj
  refine ⟨k, ?_, e⟩
  rcases Nat.lt_or_ge k K with c | c
  · exact c
  · exfalso
    rcases Nat.lt_or_ge K k with d | d
    · exact F.free (b K d)
    · have ek : k = K := Nat.le_antisymm d c
      subst ek
      rw [← e] at hj
      exact F.free (List.mem_of_getElem? hj)
/-- how many stand ahead of the step's slot -/
abbrev bel (t : SetTable) (h : Int) (K : Nat) : Nat := SetTable.below t.place (way t.mask h K)
theorem Tb.bel_le {t : SetTable} {hs : List Int} (T : Tb t hs) (h : Int) (K : Nat) : bel t h K ≤ hs.length := by
  have q := (below_cut T.up (way t.mask h K)).1
  rw [← T.len]
  exact q
theorem Tb.put {t : SetTable} {hs : List Int} (T : Tb t hs) {h : Int} {K : Nat} (F : Fst t h K) : Tb (t.put (way t.mask h K)).1 (hs.take (bel t h K) ++ h :: hs.drop (bel t h K)) := by
  have pl := put_place t (way t.mask h K)
  have b1 := T.bel_le h K
  have len0 : t.place.toList.length = hs.length := by rw [Array.length_toList]; exact T.len
  have b2 : bel t h K ≤ t.place.toList.length := by rw [len0]; exact b1
  have more : ∀ {x : Nat}, x ∈ t.place.toList → x ∈ (t.put (way t.mask h K)).1.place.toList := fun {x} z => by
    rw [pl]
    exact mem_ins.2 (.inr z)
  refine ⟨ris_insert T.up fun z => ?_, put_dm T.nod _, ?_, T.msk, fun x z => ?_, fun i g j e1 e2 => ?_⟩
  · exact F.free (List.mem_of_getElem? (by rw [Array.getElem?_toList]; exact z))
  · rw [len_ins _ b1, ← Array.length_toList, pl, len_ins _ b2, len0]
  · rw [pl] at z
    rcases mem_ins.1 z with z | z
    · rw [z]
      exact way_in h K
    · exact T.low x z
  · rw [tins_get _ b1] at e1
    rw [pl, tins_get _ b2] at e2
    rcases Nat.lt_trichotomy i (bel t h K) with c | c | c
    · rw [if_pos c] at e1 e2
      obtain ⟨k, e, z⟩ := T.again i g j e1 e2
      exact ⟨k, e, fun q hq => more (z q hq)⟩
    · rw [if_neg (by omega), if_pos c] at e1 e2
      cases e1
      cases e2
      exact ⟨K, rfl, fun q hq => more (F.full q hq)⟩
    · rw [if_neg (by omega), if_neg (by omega)] at e1 e2
      obtain ⟨k, e, z⟩ := T.again (i - 1) g j e1 e2
      exact ⟨k, e, fun q hq => more (z q hq)⟩
theorem Tb.fill {t : SetTable} {hs : List Int} (T : Tb t hs) {h : Int} {K : Nat} (F : Fst t h K) : (t.put (way t.mask h K)).1.fill = hs.length + 1 := by
  have a := (T.put F).len
  rw [len_ins _ (T.bel_le h K)] at a
  show (t.put (way t.mask h K)).1.place.size + (t.put (way t.mask h K)).1.dummies.size = hs.length + 1
  rw [a, put_dm T.nod]
  rfl

/-! ### all laid anew -/
theorem find_free {m : Nat} (hm : Msk m) (owner : Array (Option Nat)) (h : Int) {j : Nat} (hj : j ≤ m) (hf : oAt owner j = none) :
    ∃ K, SetTable.layClean.free m owner (SetTable.turns m) (SetTable.bits h % (m + 1)) (SetTable.bits h) = some (way m h K) ∧ oAt owner (way m h K) = none ∧ ∀ c, c < K → oAt owner (way m h c) ≠ none := by
  obtain ⟨n, hn, e⟩ := hm.run h hj
  have there : way m h (off m (SetTable.bits h % (m + 1)) (SetTable.bits h) n) = j := by
    unfold way
    rw [nth_off, itL_run]
    exact e
  obtain ⟨K, a, b, c⟩ := st_least (p := fun k => oAt owner (way m h k) = none) _ (show oAt owner (way m h (off m (SetTable.bits h % (m + 1)) (SetTable.bits h) n)) = none by rw [there]; exact hf)
  refine ⟨K, free_spec m owner (SetTable.turns m) n _ _ K (by unfold SetTable.turns; omega) a (fun k hk => ?_) ?_, b, c⟩
  · have q := c k hk
    rw [Option.isNone_eq_false_iff]
    exact Option.isSome_iff_ne_none.mpr q
  · rw [Option.isNone_iff_eq_none]
    exact b
theorem own_step {m : Nat} (hm : Msk m) {done : List Int} {owner : Array (Option Nat)} (W : Own m done owner) (hl : done.length ≤ m) (h : Int) :
    ∃ j, SetTable.layClean.free m owner (SetTable.turns m) (SetTable.bits h % (m + 1)) (SetTable.bits h) = some j ∧ Own m (done ++ [h]) (owner.setIfInBounds j (some done.length)) := by
  obtain ⟨ps, n1, n2⟩ := W.ps
  obtain ⟨j0, l0, z0⟩ := st_missing ps (m + 1) (by omega)
  have f0 : oAt owner j0 = none := Classical.byContradiction fun z => z0 (n2 j0 (Nat.le_of_lt_succ l0) z)
  obtain ⟨K, e1, e2, e3⟩ := find_free hm owner h (Nat.le_of_lt_succ l0) f0
  have inside : way m h K < owner.size := by
    rw [W.sz]
    exact Nat.lt_succ_of_le (way_in h K)
  have here := oAt_set_self (some done.length) inside
  have stay : ∀ {i : Nat}, oAt owner i ≠ none → oAt (owner.setIfInBounds (way m h K) (some done.length)) i ≠ none := fun {i} z => by
    by_cases c : i = way m h K
    · rw [c, here]
      exact fun q => nomatch q
    · rw [oAt_set_ne _ c]
      exact z
  refine ⟨way m h K, e1, ?_, fun j k hj e => ?_, fun k hk => ?_, way m h K :: ps, ?_, fun j hj e => ?_⟩
  · rw [Array.size_setIfInBounds]
    exact W.sz
  · by_cases c : j = way m h K
    · rw [c, here] at e
      cases e
      exact ⟨h, K, by rw [List.getElem?_append_right (Nat.le_refl _), Nat.sub_self]; rfl, c.symm, fun q hq => stay (e3 q hq)⟩
    · rw [oAt_set_ne _ c] at e
      obtain ⟨g, L, a, b, d⟩ := W.at_ j k hj e
      exact ⟨g, L, by rw [List.getElem?_append_left (List.getElem?_eq_some_iff.mp a).1]; exact a, b, fun q hq => stay (d q hq)⟩
  · rw [List.length_append, List.length_singleton] at hk
    rcases Nat.lt_or_ge k done.length with c | c
    · obtain ⟨j, hj, e⟩ := W.all k c
      refine ⟨j, hj, ?_⟩
      rw [oAt_set_ne _ (fun z => by rw [z, e2] at e; cases e)]
      exact e
    · have ek : k = done.length := by omega
      subst ek
      exact ⟨_, way_in h K, here⟩
  · rw [List.length_cons, List.length_append, n1]
    rfl
  · by_cases c : j = way m h K
    · rw [c]
      exact List.mem_cons_self
    · rw [oAt_set_ne _ c] at e
      exact List.mem_cons_of_mem _ (n2 j hj e)
theorem fold_step {m : Nat} (hm : Msk m) : ∀ (rest done : List Int) (owner : Array (Option Nat)), Own m done owner → done.length + rest.length ≤ m →
    ∃ o2, rest.foldl (stepF m) (some (owner, done.length)) = some (o2, (done ++ rest).length) ∧ Own m (done ++ rest) o2
  | [], done, owner, W, _ => ⟨owner, by simp, by simpa using W⟩
  | h :: rest, done, owner, W, hl => by
    have hl' : done.length + (rest.length + 1) ≤ m := hl
    obtain ⟨j, e, W2⟩ := own_step hm W (by omega) h
    have grown : (done ++ [h]).length = done.length + 1 := by simp
    obtain ⟨o2, f, W3⟩ := fold_step hm rest (done ++ [h]) _ W2 (by rw [grown]; omega)
    rw [List.append_assoc] at f W3
    rw [grown] at f
    exact ⟨o2, (by rw [List.foldl_cons, stepF_some e]; exact f), W3⟩
theorem clean_ok {m : Nat} (hm : Msk m) {hs : Array Int} (hn : hs.size ≤ m) : ∃ owner, SetTable.layClean m hs = some owner ∧ Own m hs.toList owner := by
  obtain ⟨owner, f, W⟩ := fold_step hm hs.toList [] _ (Own.init m) (by rw [Array.length_toList]; simpa using hn)
  rw [List.nil_append] at f W
  refine ⟨owner, ?_, W⟩
  rw [layClean_eq]
  exact congrArg (Option.map (·.1)) f
theorem anew_ok (t : SetTable) {hs : Array Int} {wanted M : Nat} (hw : SetTable.sizeAbove wanted - 1 = M) (hM : Msk M) (hn : hs.size ≤ M) :
    ∃ t' order, t.relaid hs wanted = some (t', order) ∧ order.toList.Perm (List.range hs.size) ∧ Tb t' (order.toList.map fun i => hs.getD i 0) ∧ t'.mask = M ∧ t'.led = t.led ∧ t'.plain = t.plain := by
  obtain ⟨owner, e, W⟩ := clean_ok hM hn
  have made : t.relaid hs wanted = some (tabOf t M owner, ((liveOf M owner).map (·.2)).toArray) := by
    rw [relaid_eq, hw, e]
    rfl
  obtain ⟨rise, within⟩ := ris_live (fun j => owner.getD j none) (List.range (M + 1)) (by
    unfold Ris
    first | exact List.pairwise_lt_range | exact List.pairwise_lt_range _)
  have rise1 : Ris ((liveOf M owner).map (·.1)) := rise
  have within1 : ∀ x ∈ (liveOf M owner).map (·.1), x ∈ List.range (M + 1) := within
  have numbers : ∀ k, k < hs.size → k ∈ (liveOf M owner).map (·.2) := fun k hk => by
    obtain ⟨j, b1, b2⟩ := W.all k (by rw [Array.length_toList]; exact hk)
    exact List.mem_map.mpr ⟨(j, k), (mem_live W.sz).2 ⟨b1, b2⟩, rfl⟩
  have count : (liveOf M owner).length = hs.size := by
    obtain ⟨ps, p1, p2⟩ := W.ps
    have a := nat_nodup_len ((liveOf M owner).map (·.1)) ps (List.Pairwise.imp (fun {a b} (z : a < b) => Nat.ne_of_lt z) (show List.Pairwise (fun a b : Nat => a < b) ((liveOf M owner).map (·.1)) from rise1)) fun x hx => by
      obtain ⟨⟨y, k⟩, hq, ey⟩ := List.mem_map.mp hx
      cases ey
      obtain ⟨b1, b2⟩ := (mem_live W.sz).1 hq
      exact p2 _ b1 (by rw [b2]; exact fun z => nomatch z)
    have b := nat_nodup_len (List.range hs.size) ((liveOf M owner).map (·.2)) List.nodup_range fun k hk => numbers k (List.mem_range.mp hk)
    have hz : hs.toList.length = hs.size := Array.length_toList
    rw [List.length_map, p1, hz] at a
    rw [List.length_map, List.length_range] at b
    omega
  refine ⟨_, _, made, perm_range hs.size _ (by show ((liveOf M owner).map (·.2)).length = _; rw [List.length_map, count]) numbers, ⟨rise1, rfl, ?_, hM, fun x hx => Nat.le_of_lt_succ (List.mem_range.mp (within1 x hx)), fun i h j h1 h2 => ?_⟩, rfl, rfl, rfl⟩
  · show ((liveOf M owner).map (·.1)).toArray.size = (((liveOf M owner).map (·.2)).map fun i => hs.getD i 0).length
    simp
  · have g1 : (((liveOf M owner).map (·.2)).map fun i => hs.getD i 0)[i]? = some h := h1
    have g2 : ((liveOf M owner).map (·.1))[i]? = some j := h2
    rw [List.map_map, List.getElem?_map] at g1
    rw [List.getElem?_map] at g2
    obtain ⟨⟨y, k⟩, hq, ey⟩ := Option.map_eq_some_iff.mp g2
    rw [hq] at g1
    cases ey
    obtain ⟨b1, b2⟩ := (mem_live W.sz).1 (List.mem_of_getElem? hq)
    obtain ⟨h0, K, a1, a2, a3⟩ := W.at_ y k b1 b2
    have eh : h0 = h := by
      have z : hs.getD k 0 = h := Option.some.inj g1
      rw [← z, Array.getD_eq_getD_getElem?, ← Array.getElem?_toList, a1]
      rfl
    subst eh
    refine ⟨K, a2, fun c hc => ?_⟩
    show way M h0 c ∈ (liveOf M owner).map (·.1)
    obtain ⟨k2, z⟩ := Option.ne_none_iff_exists'.mp (a3 c hc)
    exact List.mem_map.mpr ⟨(way M h0 c, k2), (mem_live W.sz).2 ⟨way_in h0 c, z⟩, rfl⟩
theorem grown5 : SetTable.sizeAbove (SetTable.grown 5) = 32 := by decide +kernel
theorem grown19 : SetTable.sizeAbove (SetTable.grown 19) = 128 := by decide +kernel
theorem grown77 : SetTable.sizeAbove (SetTable.grown 77) = 512 := by decide +kernel
theorem grown307 : SetTable.sizeAbove (SetTable.grown 307) = 2048 := by decide +kernel
theorem grown1229 : SetTable.sizeAbove (SetTable.grown 1229) = 8192 := by decide +kernel
end Sx

/-! SxSet -/
/-! Sets of tuples of ints and texts, up to 4,000 of them. -/
namespace Sx
open PySem PySem.Spec PyProof.Rows L2

/-- the tuple at a has the keys k -/
abbrev IsK (P : Program) (w : World) (h : Heap) (k : List Key) (a : Addr) : Prop := IsTupleKey (mixKind P w) h k a
abbrev kh (P : Program) (w : World) (k : List Key) : Int := tupleKeyHash (mixKind P w) k

section
variable {P : Program} {w : World} {A : Around} {E : Value → Shared → Prop} {s : Shared}
/-- ints and texts: what the model asks of an item -/
theorem flat_items {k : List Key} {vs : List Value} (h : ItemsAre (mixKind P w) k vs) : ∀ v ∈ vs, (∀ n, ofAClassStatement n v = pure false) ∧ ∀ n, hashByValue n v = pure (plainKind v) := by
  induction h with
  | nil => exact fun v hv => nomatch hv
  | @cons k0 u ks us h1 _ ih =>
    intro v hv
    rcases List.mem_cons.mp hv with e | hv
    · subst e
      rcases keyIs_shape (k := k0) (v := v) h1 with ⟨i, t, _, e⟩ | ⟨x, t, _, e⟩ <;> subst e <;> exact ⟨fun n => by cases n <;> rfl, fun n => hashByValue_scannable n rfl⟩
    · exact ih v hv
theorem noClass {k : List Key} {b : Addr} {Q : Bool → Shared → Prop} (hk : IsK P w s.heap k b) (h : Q false s) : wpAny (model P w) A (ofAClassStatement 8 (.ref b)) Q E s := by
  have hT := hk.typeIs
  obtain ⟨o, its, n, ho, _, hd, hi⟩ := hk
  unfold ofAClassStatement
  refine wpAny_bind (wpAny_typeOf hT ?_)
  have e : (("tuple" : String) == "tuple") = true := by decide
  simp only [e, if_true, Bool.not_true, Bool.false_eq_true, if_false]
  try refine wpAny_bind (wpAny_pure ?_)
  try simp only [Bool.not_true, Bool.false_eq_true, if_false]
  show wpAny _ _ (seqItems? (.ref b) >>= _) _ _ s
  refine wpAny_bind (wpAny_seqItems ho hd (wpAny_bind ?_))
  show wpAny _ _ (forIn its _ _) _ _ s
  rw [← Array.forIn_toList]
  refine wpAny_forIn_list _ (fun left r s' => (r.1 = none ∧ s' = s) ∧ ∀ v ∈ left, ofAClassStatement 7 v = pure false) _ ?_ ?_ _ _ ⟨⟨rfl, rfl⟩, fun v hv => (flat_items hi v hv).1 7⟩
  · rintro v left r s' ⟨⟨hr, e⟩, every⟩
    subst e
    rw [every v List.mem_cons_self]
    refine wpAny_bind (wpAny_pure ?_)
    simp only [Bool.false_eq_true, if_false]
    exact wpAny_pure ⟨⟨rfl, rfl⟩, fun u hu => every u (List.mem_cons_of_mem _ hu)⟩
  · rintro ⟨r1, r2⟩ s' ⟨⟨hr, e⟩, _⟩
    subst e
    simp only at hr
    subst hr
    exact wpAny_pure h
theorem byValue {k : List Key} {b : Addr} {Q : Bool → Shared → Prop} (hk : IsK P w s.heap k b) (h : ∀ y, Q y s) : wpAny (model P w) A (hashByValue 8 (.ref b)) Q E s := by
  have hT := hk.typeIs
  obtain ⟨o, its, n, ho, _, hd, hi⟩ := hk
  unfold hashByValue
  refine wpAny_bind (wpAny_specialOf hT F.slot_tuple_hash.lookup ?_)
  show wpAny _ _ (seqItems? (.ref b) >>= _) _ _ s
  refine wpAny_bind (wpAny_seqItems ho hd (wpAny_bind ?_))
  show wpAny _ _ (forIn its _ _) _ _ s
  rw [← Array.forIn_toList]
  refine wpAny_forIn_list _ (fun left r s' => (r.1 = none ∧ s' = s) ∧ ∀ v ∈ left, hashByValue 7 v = pure (plainKind v)) _ ?_ ?_ _ _ ⟨⟨rfl, rfl⟩, fun v hv => (flat_items hi v hv).2 7⟩
  · rintro v left r s' ⟨⟨hr, e⟩, every⟩
    subst e
    rw [every v List.mem_cons_self]
    refine wpAny_bind (wpAny_pure ?_)
    cases plainKind v with
    | true =>
      simp only [Bool.not_true, Bool.false_eq_true, if_false]
      exact wpAny_pure ⟨⟨rfl, rfl⟩, fun u hu => every u (List.mem_cons_of_mem _ hu)⟩
    | false =>
      simp only [Bool.not_false, if_true]
      refine wpAny_pure ?_
      show wpAny _ _ (pure false) _ _ _
      exact wpAny_pure (h false)
  · rintro ⟨r1, r2⟩ s' ⟨⟨hr, e⟩, _⟩
    subst e
    simp only at hr
    subst hr
    exact wpAny_pure (h true)
/-- looking for such a tuple among such tuples shows nothing -/
theorem unseen {k : List Key} {b : Addr} {Q : Bool → Shared → Prop} (hk : IsK P w s.heap k b) {ys : List Value} (hy : ∀ y ∈ ys, ∃ g c, y = Value.ref c ∧ IsK P w s.heap g c) (h : Q false s) :
    wpAny (model P w) A (searchCouldBeSeen (.ref b) ys) Q E s := by
  unfold searchCouldBeSeen
  refine wpAny_bind ?_
  refine wpAny_forIn_list _ (fun left r s' => (r.1 = none ∧ s' = s) ∧ ∀ y ∈ left, ∃ g c, y = Value.ref c ∧ IsK P w s.heap g c) _ ?_ ?_ _ _ ⟨⟨rfl, rfl⟩, hy⟩
  · rintro v left r s' ⟨⟨hr, e⟩, every⟩
    subst e
    obtain ⟨g, c, ev, hc⟩ := every v List.mem_cons_self
    subst ev
    have others := fun u (hu : u ∈ left) => every u (List.mem_cons_of_mem _ hu)
    dsimp only
    by_cases hv : (b == c || (carriedByValue (.ref b) && carriedByValue (.ref c))) = true
    · exact wp_if_pos hv (wpAny_pure ⟨⟨rfl, rfl⟩, others⟩)
    · refine wp_if_neg hv (wpAny_bind (wpAny_eqIsQuiet_tuple hk ?_))
      simp only [Bool.not_true, Bool.false_eq_true, if_false]
      refine wpAny_bind (wpAny_eqIsQuiet_tuple hc ?_)
      simp only [Bool.not_true, Bool.false_eq_true, if_false]
      refine wpAny_bind (noClass hk ?_)
      simp only [Bool.false_eq_true, if_false]
      refine wpAny_bind (noClass hc ?_)
      simp only [Bool.false_eq_true, if_false]
      exact wpAny_pure ⟨⟨rfl, rfl⟩, others⟩
  · rintro ⟨r1, r2⟩ s' ⟨⟨hr, e⟩, _⟩
    subst e
    simp only at hr
    subst hr
    exact wpAny_pure h

/-! ### what such a set is -/
abbrev Row := Addr × List Key
def rows (P : Program) (w : World) (L : List Row) : List (Int × Value) := L.map fun p => (kh P w p.2, Value.ref p.1)
def hs (P : Program) (w : World) (L : List Row) : List Int := L.map fun p => kh P w p.2
/-- the set at a, without its tuples -/
structure SetX (P : Program) (w : World) (h : Heap) (a : Addr) (L : List Row) (es : Array (Int × Value)) (ep : Nat) (t : SetTable) : Prop where
  obj : ∃ o, h.get? a = some o ∧ o.ExactSet ∧ o.data = .set es ep t
  are : es.toList = rows P w L
  tab : Tb t (hs P w L)
  one : (L.map (·.2)).Nodup
  led : w.params.followText "set-order" = true ∨ t.led = true
  room : L.length * 5 < t.mask * 3
  few : L.length ≤ 4000
def Tups (P : Program) (w : World) (h : Heap) (L : List Row) : Prop := ∀ p ∈ L, IsK P w h p.2 p.1
variable {a : Addr} {L : List Row} {es : Array (Int × Value)} {ep : Nat} {t : SetTable}
theorem rows_len {es : Array (Int × Value)} (e : es.toList = rows P w L) : es.size = L.length := by
  rw [← Array.length_toList, e]
  exact List.length_map _
theorem hs_len : (hs P w L).length = L.length := List.length_map _
theorem SetX.fits (R : SetX P w s.heap a L es ep t) : t.fits es.size = true := by
  have h1 := R.tab.len
  rw [hs_len] at h1
  have h2 := rows_len R.are
  have h3 := R.room
  unfold SetTable.fits SetTable.fill
  rw [R.tab.nod, Bool.and_eq_true, beq_iff_eq, decide_eq_true_eq]
  exact ⟨by omega, by show t.place.size + 0 ≤ t.mask; omega⟩
theorem row_at {es : Array (Int × Value)} (e : es.toList = rows P w L) {i : Nat} {p : Row} (h : L[i]? = some p) : es[i]? = some (kh P w p.2, Value.ref p.1) := by
  rw [← Array.getElem?_toList, e]
  show (L.map _)[i]? = _
  rw [List.getElem?_map, h]
  rfl
theorem SetX.calm (R : SetX P w s.heap a L es ep t) : ¬ t.gaveWay = true := by
  unfold SetTable.gaveWay
  rw [R.tab.msk.odd]
  decide

/-! ### the search -/
abbrev hAt (es : Array (Int × Value)) (i : Nat) : Int := (es[i]?.map (·.1)).getD 0
/-- the q-th state of the search for h -/
abbrev stp (m : Nat) (h : Int) (q : Nat) : SetTable.Probe := nth m (runAt m (SetTable.bits h % (m + 1)) (SetTable.bits h)) q
theorem stp_dummy (m : Nat) (h : Int) : ∀ q, (stp m h q).dummy = none
  | 0 => rfl
  | q + 1 => by
    show (nth m _ (q + 1)).dummy = none
    rw [nth_succ]
    unfold adv
    split <;> exact stp_dummy m h q
theorem stp_on (m : Nat) (h : Int) (c q : Nat) : nth m (stp m h c) q = stp m h (c + q) := (nth_add m c _ q).symm
theorem seek (R : SetX P w s.heap a L es ep t) (Ts : Tups P w s.heap L) {x : Addr} {k : List Key} (hx : IsK P w s.heap k x) (hu : A.units < cLine) {K : Nat} (hKf : K < 10 * SetTable.turns t.mask) (F : Fst t (kh P w k) K)
    {Q : SetFound → Shared → Prop} (hin : k ∈ L.map (·.2) → Q (.there none) s) (hout : k ∉ L.map (·.2) → Q (.free (way t.mask (kh P w k) K) false) s) :
    ∀ (f c : Nat) (at_ : Option SetTable.Probe), at_.getD (t.probeStart (kh P w k)) = stp t.mask (kh P w k) c → c ≤ K → K - c < f →
      (∀ (i : Nat) (p : Row), L[i]? = some p → p.2 = k → ∃ c', c ≤ c' ∧ c' < K ∧ t.place.toList[i]? = some (way t.mask (kh P w k) c')) →
      wpAny (model P w) A (setSearchFrom a (.ref x) (kh P w k) true f at_) Q E s
  | 0, c, _, _, _, hf, _ => absurd hf (Nat.not_lt_zero _)
  | f + 1, c, at_, hst, hc, hf, hre => by
    obtain ⟨o, ho, hex, hd⟩ := R.obj
    rw [setSearchFrom_succ]
    refine wpAny_bind (wpAny_setState_of ho hd R.fits ?_)
    refine wp_if_neg R.calm ?_
    try refine wpAny_bind (wpAny_pure ?_)
    have slotOf : ∀ q, (nth t.mask (stp t.mask (kh P w k) c) q).j = way t.mask (kh P w k) (c + q) := fun q => congrArg SetTable.Probe.j (stp_on _ _ c q)
    have toK : c + (K - c) = K := by omega
    have found := go_spec t R.tab.up R.tab.nod (fun i => (es[i]?.map (·.1)).getD 0) (kh P w k) (10 * SetTable.turns t.mask) (K - c) (stp t.mask (kh P w k) c) (stp_dummy _ _ _) (by omega)
      (fun q hq => by rw [slotOf]; exact F.full _ (by omega)) (by rw [slotOf, toK]; exact F.free)
    have hashAt : ∀ (i : Nat) (p : Row), L[i]? = some p → hAt es i = kh P w p.2 := fun i p hp => by
      unfold hAt
      rw [row_at R.are hp]
      rfl
    -- what has the key isn't passed
    have passed : ∀ {q' i0 : Nat} {p0 : Row}, L[i0]? = some p0 → p0.2 = k → (∀ c' i', c' < q' → t.place.toList[i']? = some (nth t.mask (stp t.mask (kh P w k) c) c').j → hAt es i' ≠ kh P w k) →
        ∀ {c' : Nat}, c ≤ c' → t.place.toList[i0]? = some (way t.mask (kh P w k) c') → c' < c + q' → False := fun {q' i0 p0} h0 e0 no {c'} l1 l2 l3 => by
      refine no (c' - c) i0 (by omega) (by rw [slotOf, Nat.add_sub_of_le l1]; exact l2) ?_
      rw [hashAt i0 p0 h0, e0]
    rcases found with ⟨q, i, hq, hi, hh, no, e⟩ | ⟨no, e⟩
    · have e' : t.probe (fun i => (es[i]?.map (·.1)).getD 0) (kh P w k) (at_.getD (t.probeStart (kh P w k))) = some (.candidate (way t.mask (kh P w k) (c + q)) i (stp t.mask (kh P w k) (c + (q + 1)))) := by
        rw [hst]
        unfold SetTable.probe
        rw [e, slotOf, stp_on]
      rw [e']
      rw [slotOf] at hi
      have hiL : i < L.length := by
        have h1 := (List.getElem?_eq_some_iff.mp hi).1
        have h2 := R.tab.len
        rw [hs_len] at h2
        rw [Array.length_toList] at h1
        omega
      obtain ⟨p, hp⟩ : ∃ p, L[i]? = some p := ⟨_, List.getElem?_eq_getElem hiL⟩
      have pm : p ∈ L := List.mem_of_getElem? hp
      have live : t.slot (way t.mask (kh P w k) (c + q)) = .live i := slot_live R.tab.up hi
      have tail : wpAny (model P w) A (searchRest a (.ref x) (kh P w k) true f es t (way t.mask (kh P w k) (c + q)) i (stp t.mask (kh P w k) (c + (q + 1)))) Q E s := by
        unfold searchRest
        rw [row_at R.are hp]
        refine wpAny_bind (wpAny_holding (wpAny_eqBool_tuple hu (Ts p pm) hx ?_))
        refine wpAny_bind (wpAny_setState_of ho hd R.fits ?_)
        by_cases same : p.2 = k
        · refine wp_if_pos (by simp [same]) (wpAny_pure (hin ?_))
          exact List.mem_map.mpr ⟨p, pm, same⟩
        · refine wp_if_neg (by simp [same]) ?_
          try refine wpAny_bind (wpAny_pure ?_)
          rw [sameMem]
          simp only [if_true, live, row_at R.are hp]
          refine wpAny_bind (wpAny_isSame_ref_self (wpAny_bind (wpAny_pure ?_)))
          simp only [if_true]
          refine wp_if_neg (by simp [same]) ?_
          refine seek R Ts hx hu hKf F hin hout f (c + (q + 1)) _ rfl (by omega) (by omega) fun i0 p0 h0 e0 => ?_
          obtain ⟨c', l1, l2, l3⟩ := hre i0 p0 h0 e0
          refine ⟨c', ?_, l2, l3⟩
          rcases Nat.lt_trichotomy c' (c + q) with z | z | z
          · exact (passed (q' := q) h0 e0 no l1 l3 z).elim
          · rw [z] at l3
            have z2 := slot_live R.tab.up l3
            rw [live] at z2
            cases z2
            rw [hp] at h0
            cases h0
            exact absurd e0 same
          · omega
      by_cases hl : t.led = true
      · refine wp_if_neg (by simp [hl]) ?_
        try refine wpAny_bind (wpAny_pure ?_)
        exact tail
      · refine wp_if_pos (by simp [hl]) (wpAny_bind (unseen hx (fun y hy => ?_) ?_))
        · obtain ⟨e1, h1, h2⟩ := List.mem_map.mp hy
          have h3 : e1 ∈ es.toList := by
            have : e1 ∈ es ∧ e1.1 = kh P w k := by simpa using h1
            simpa using this.1
          rw [R.are] at h3
          obtain ⟨p2, hp2, e2⟩ := List.mem_map.mp h3
          exact ⟨p2.2, p2.1, by rw [← h2, ← e2], Ts p2 hp2⟩
        · refine wp_if_neg (by decide) ?_
          try refine wpAny_bind (wpAny_pure ?_)
          exact tail
    · have e' : t.probe (fun i => (es[i]?.map (·.1)).getD 0) (kh P w k) (at_.getD (t.probeStart (kh P w k))) = some (.empty (way t.mask (kh P w k) K) none) := by
        rw [hst]
        unfold SetTable.probe
        rw [e, slotOf, toK]
      rw [e']
      refine wpAny_pure (hout fun hm => ?_)
      obtain ⟨p0, m0, e0⟩ := List.mem_map.mp hm
      obtain ⟨i0, h0⟩ := List.getElem?_of_mem m0
      obtain ⟨c', l1, l2, l3⟩ := hre i0 p0 h0 e0
      exact passed (q' := K - c) h0 e0 no l1 l3 (by omega)
theorem seek0 (R : SetX P w s.heap a L es ep t) (Ts : Tups P w s.heap L) {x : Addr} {k : List Key} (hx : IsK P w s.heap k x) (hu : A.units < cLine) {Q : SetFound → Shared → Prop}
    (hin : k ∈ L.map (·.2) → Q (.there none) s) (hout : ∀ K, k ∉ L.map (·.2) → Fst t (kh P w k) K → Q (.free (way t.mask (kh P w k) K) false) s) :
    wpAny (model P w) A (setSearch a (.ref x) (kh P w k) true) Q E s := by
  have room := R.room
  obtain ⟨K, hKf, F⟩ := R.tab.first (by rw [hs_len]; omega) (kh P w k)
  have big := R.tab.msk.big
  unfold setSearch
  refine seek R Ts hx hu hKf F hin (fun z => hout K z F) 100000 0 none rfl (Nat.zero_le _) (by unfold SetTable.turns at hKf; omega) fun i p hp e => ?_
  have h1 : (hs P w L)[i]? = some (kh P w k) := by
    show (L.map _)[i]? = _
    rw [List.getElem?_map, hp, ← e]
    rfl
  have h2 : i < t.place.toList.length := by
    have z := R.tab.len
    rw [hs_len] at z
    have y := (List.getElem?_eq_some_iff.mp hp).1
    rw [Array.length_toList]
    omega
  obtain ⟨c, hc, ec⟩ := R.tab.ahead F h1 (List.getElem?_eq_getElem h2)
  exact ⟨c, Nat.zero_le _, hc, by rw [ec]; exact List.getElem?_eq_getElem h2⟩
end

/-! ### laying anew, adding -/
section
variable {P : Program} {w : World} {A : Around} {E : Value → Shared → Prop} {s : Shared} {a : Addr} {L : List Row} {es : Array (Int × Value)} {ep : Nat} {t : SetTable}
/-- a tuple isn't the set, so it stays -/
theorem isK_but {h h' : Heap} {k : List Key} {b : Addr} {o : Obj} (hb : IsK P w h k b) (ho : h.get? a = some o) (hd : o.data = .set es ep t) (sb : Heap.SameBut a h h') : IsK P w h' k b := by
  obtain ⟨ob, its, n, e, c, d, i⟩ := hb
  refine ⟨ob, its, n, (sb.2 b fun z => ?_).trans e, c, d, i⟩
  subst z
  rw [ho] at e
  cases e
  rw [hd] at d
  cases d
theorem isK_stay {h h' : Heap} {k : List Key} {b : Addr} (x : IsK P w h k b) (hk : ∀ c o, h.get? c = some o → h'.get? c = some o) : IsK P w h' k b := by
  obtain ⟨o, its, n, ho, r⟩ := x
  exact ⟨o, its, n, hk b o ho, r⟩
theorem ordered (L : List Row) {es : Array (Int × Value)} {order : Array Nat} (hr : es.toList = rows P w L) (hp : order.toList.Perm (List.range L.length)) :
    ∃ L2 : List Row, (order.filterMap (es[·]?)).toList = rows P w L2 ∧ L2.Perm L ∧ hs P w L2 = order.toList.map fun i => (es.map (·.1)).getD i 0 := by
  have each : ∀ l : List Nat, (∀ i ∈ l, i < L.length) → l.filterMap (fun i => es[i]?) = rows P w (l.filterMap fun i => L[i]?) ∧ hs P w (l.filterMap fun i => L[i]?) = l.map fun i => (es.map (·.1)).getD i 0 := by
    intro l
    induction l with
    | nil => exact fun _ => ⟨rfl, rfl⟩
    | cons i l ih =>
      intro hl
      obtain ⟨p, hp⟩ : ∃ p, L[i]? = some p := ⟨_, List.getElem?_eq_getElem (hl i List.mem_cons_self)⟩
      obtain ⟨e1, e2⟩ := ih fun j hj => hl j (List.mem_cons_of_mem _ hj)
      have er := row_at hr hp
      have eh : (es.map (·.1)).getD i 0 = kh P w p.2 := by
        rw [Array.getD_eq_getD_getElem?, Array.getElem?_map, er]
        rfl
      rw [List.filterMap_cons_some er, List.filterMap_cons_some hp, e1, List.map_cons, ← e2, eh]
      exact ⟨rfl, rfl⟩
  obtain ⟨e1, e2⟩ := each order.toList fun i hi => List.mem_range.mp (hp.mem_iff.mp hi)
  refine ⟨_, by first | (rw [Array.toList_filterMap]; exact e1) | simpa using e1, ?_, e2⟩
  have whole : ∀ n, n ≤ L.length → (List.range n).filterMap (fun i => L[i]?) = L.take n := by
    intro n
    induction n with
    | zero => exact fun _ => rfl
    | succ n ih =>
      intro hn
      rw [List.range_succ, List.filterMap_append, ih (Nat.le_of_lt hn), List.take_succ, List.getElem?_eq_getElem hn, List.filterMap_cons_some (List.getElem?_eq_getElem hn)]
      rfl
  have z := hp.filterMap fun i => L[i]?
  rw [whole L.length (Nat.le_refl _), List.take_length] at z
  exact z
/-- behind a store -/
theorem stored {o : Obj} {es es' : Array (Int × Value)} {t t' : SetTable} (ho : s.heap.get? a = some o) (hd : o.data = .set es ep t) : (s.heap.update a (Obj.putSet es' t')).get? a = some { o with data := .set es' (ep + 1) t' } := store_at ho hd
theorem relay {o : Obj} (ho : s.heap.get? a = some o) (hex : o.ExactSet) (hd : o.data = .set es ep t) (are : es.toList = rows P w L) (hfit : t.fits es.size = true) (one : (L.map (·.2)).Nodup)
    (ld : w.params.followText "set-order" = true ∨ t.led = true) (few : L.length ≤ 4000) {wanted M : Nat}
    (hw : SetTable.sizeAbove wanted = M + 1) (hM : Msk M) (hn : L.length * 5 < M * 3) {Q : Unit → Shared → Prop}
    (hQ : ∀ h' L' es' ep' t', Heap.SameBut a s.heap h' → SetX P w h' a L' es' ep' t' → L'.Perm L → Q () { s with heap := h' }) : wpAny (model P w) A (setRelay a wanted) Q E s := by
  have size := rows_len are
  have big := hM.big
  obtain ⟨t', order, e, hp, T, em, el, ep'⟩ := anew_ok t (hs := es.map (·.1)) (wanted := wanted) (M := M) (by omega) hM (by rw [Array.size_map]; omega)
  rw [Array.size_map, size] at hp
  obtain ⟨L2, r1, r2, r3⟩ := ordered L are hp
  rw [← r3] at T
  have size2 : (order.filterMap (es[·]?)).size = es.size := by rw [rows_len r1, r2.length_eq, size]
  rw [setRelay_eq]
  refine wpAny_bind (wpAny_setState_of ho hd hfit ?_)
  refine wp_if_neg (by rw [sizeLine_eq]; omega) ?_
  try refine wpAny_bind (wpAny_pure ?_)
  rw [e]
  refine wpAny_bind (wp_if_neg (by rw [size2]; simp) ?_)
  try refine wpAny_bind (wpAny_pure ?_)
  refine wpAny_pure ?_
  refine wpAny_storeSet_of ho hd ?_ (by rw [size2, size, sizeLine_eq]; omega)
  refine hQ _ L2 _ (ep + 1) t' (Heap.SameBut.update ..) ⟨⟨_, stored ho hd, ⟨hex.1, hex.2.1, hex.2.2⟩, rfl⟩, r1, T, (r2.map (·.2)).nodup_iff.mpr one, by rw [el]; exact ld, ?_, by rw [r2.length_eq]; exact few⟩ r2
  rw [r2.length_eq, em]
  exact hn
theorem adding (R : SetX P w s.heap a L es ep t) (Ts : Tups P w s.heap L) {x : Addr} {k : List Key} (hx : IsK P w s.heap k x) (hu : A.units < cLine) (hfew : L.length < 4000) {Q : Bool → Shared → Prop}
    (hQ : ∀ b h' L' es' ep' t', Heap.SameBut a s.heap h' → SetX P w h' a L' es' ep' t' → (k ∈ L.map (·.2) → L' = L) → (k ∉ L.map (·.2) → L'.Perm ((x, k) :: L)) → Q b { s with heap := h' }) :
    wpAny (model P w) A (setAddHashed a (.ref x) (kh P w k)) Q E s := by
  obtain ⟨o, ho, hex, hd⟩ := R.obj
  have size := rows_len R.are
  have room := R.room
  unfold setAddHashed
  refine wpAny_holding ?_
  rw [show (100000 : Nat) = 99999 + 1 from rfl, setAddHashedIn_succ]
  refine wpAny_bind (wpAny_setState_of ho hd R.fits ?_)
  refine wp_if_neg (by simp [byScan, Value.scannable]) ?_
  try refine wpAny_bind (wpAny_pure ?_)
  refine wpAny_bind (seek0 R Ts hx hu (fun hm => ?_) fun K hm F => ?_)
  · exact wpAny_pure (hQ false s.heap L es ep t (Heap.SameBut.refl a s.heap) R (fun _ => rfl) fun z => absurd hm z)
  · refine wpAny_bind (wpAny_setState_of ho hd R.fits ?_)
    dsimp only
    have T1 := R.tab.put F
    have f1 := R.tab.fill F
    have isP : (t.put (way t.mask (kh P w k) K)).2 = bel t (kh P w k) K := rfl
    have ld1 : w.params.followText "set-order" = true ∨ (t.put (way t.mask (kh P w k) K)).1.led = true := R.led
    have m1 : (t.put (way t.mask (kh P w k) K)).1.mask = t.mask := rfl
    have b1 := R.tab.bel_le (kh P w k) K
    generalize bel t (kh P w k) K = p at T1 isP b1
    generalize t.put (way t.mask (kh P w k) K) = pt at T1 f1 isP ld1 m1 ⊢
    obtain ⟨t1, p1⟩ := pt
    dsimp only at T1 f1 isP ld1 m1 ⊢
    subst isP
    have any : ∀ y : Bool, ∃ t2, (if y = true then t1 else { t1 with plain := false }) = t2 ∧ Tb t2 ((hs P w L).take p1 ++ kh P w k :: (hs P w L).drop p1) ∧ t2.fill = (hs P w L).length + 1 ∧ (w.params.followText "set-order" = true ∨ t2.led = true) ∧ t2.mask = t.mask := fun y => by
      cases y with
      | true => exact ⟨t1, rfl, T1, f1, ld1, m1⟩
      | false => exact ⟨_, rfl, ⟨T1.up, T1.nod, T1.len, T1.msk, T1.low, T1.again⟩, f1, ld1, m1⟩
    have are1 : (SetTable.insertAt es p1 (kh P w k, Value.ref x)).toList = rows P w (L.take p1 ++ (x, k) :: L.drop p1) := by
      rw [SetTable.toList_insertAt, R.are]
      unfold rows
      rw [List.map_append, List.map_cons, List.map_take, List.map_drop]
    have pm : (L.take p1 ++ (x, k) :: L.drop p1).Perm ((x, k) :: L) := by
      have z : (L.take p1 ++ (x, k) :: L.drop p1).Perm ((x, k) :: (L.take p1 ++ L.drop p1)) := List.perm_middle
      rw [List.take_append_drop] at z
      exact z
    have hs1 : hs P w (L.take p1 ++ (x, k) :: L.drop p1) = (hs P w L).take p1 ++ kh P w k :: (hs P w L).drop p1 := by
      unfold hs
      rw [List.map_append, List.map_cons, List.map_take, List.map_drop]
    rw [← hs1] at any
    have one1 : ((L.take p1 ++ (x, k) :: L.drop p1).map (·.2)).Nodup := (pm.map (·.2)).nodup_iff.mpr (List.nodup_cons.mpr ⟨hm, R.one⟩)
    have len1 := pm.length_eq
    have size1 := rows_len are1
    generalize SetTable.insertAt es p1 (kh P w k, Value.ref x) = es1 at are1 size1 ⊢
    generalize L.take p1 ++ (x, k) :: L.drop p1 = L1 at pm len1 any one1 are1 size1
    rw [List.length_cons] at len1
    have go0 : ∀ y : Bool, wpAny (model P w) A (do
        storeSet a es1 (if y = true then t1 else { t1 with plain := false })
        if (!false && (if y = true then t1 else { t1 with plain := false }).tooFull) = true then setRelay a (SetTable.grown (es.size + 1))
        return true) Q E s := fun y => by
      obtain ⟨t2, et, T1, f1, ld1, m1⟩ := any y
      rw [et]
      clear et any
      rw [hs_len] at f1
      revert T1 f1 ld1 m1
      generalize t2 = t1
      intro T1 f1 ld1 m1
      refine wpAny_bind (wpAny_storeSet_of ho hd ?_ (by rw [size1, sizeLine_eq]; omega))
      have sb : Heap.SameBut a s.heap (s.heap.update a (Obj.putSet es1 t1)) := Heap.SameBut.update ..
      have ho1 := stored (es' := es1) (t' := t1) ho hd
      generalize s.heap.update a (Obj.putSet es1 t1) = h1 at sb ho1 ⊢
      by_cases hf : t1.tooFull = true
      · first
          | (refine wpAny_bind ?_; refine wp_if_pos (by simp [hf]) ?_)
          | (refine wp_if_pos (by simp [hf]) ?_; refine wpAny_bind ?_)
        have full : (L.length + 1) * 5 ≥ t1.mask * 3 := by
          have z := hf
          unfold SetTable.tooFull at z
          rw [decide_eq_true_eq, f1] at z
          exact z
        rw [m1] at full
        rw [size]
        have hfit1 : t1.fits es1.size = true := by
          have z := T1.len
          rw [hs_len] at z
          unfold SetTable.fits SetTable.fill
          rw [T1.nod, Bool.and_eq_true, beq_iff_eq, decide_eq_true_eq]
          have big := R.tab.msk.odd
          refine ⟨by omega, ?_⟩
          show t1.place.size + 0 ≤ t1.mask
          rcases R.tab.msk with e | e | e | e | e | e <;> omega
        have go : ∀ M, SetTable.sizeAbove (SetTable.grown (L.length + 1)) = M + 1 → Msk M → (L.length + 1) * 5 < M * 3 →
            wpAny (model P w) A (setRelay a (SetTable.grown (L.length + 1))) (fun _ s' => wpAny (model P w) A (pure true) Q E s') E { s with heap := h1 } := fun M w1 w2 w3 => by
          refine relay (s := { s with heap := h1 }) ho1 ⟨hex.1, hex.2.1, hex.2.2⟩ rfl are1 hfit1 one1 ld1 (by omega) w1 w2 (by rw [len1]; exact w3) ?_
          intro h2 L2 es2 ep2 t2 sb2 R2 pm2
          exact wpAny_pure (hQ true h2 L2 es2 ep2 t2 (sb.trans sb2) R2 (fun z => absurd z hm) fun _ => pm2.trans pm)
        rcases R.tab.msk with e | e | e | e | e | e
        · have l4 : L.length = 4 := by omega
          exact go 31 (by rw [l4, grown5]) (.inr (.inl rfl)) (by omega)
        · have l4 : L.length = 18 := by omega
          exact go 127 (by rw [l4, grown19]) (.inr (.inr (.inl rfl))) (by omega)
        · have l4 : L.length = 76 := by omega
          exact go 511 (by rw [l4, grown77]) (.inr (.inr (.inr (.inl rfl)))) (by omega)
        · have l4 : L.length = 306 := by omega
          exact go 2047 (by rw [l4, grown307]) (.inr (.inr (.inr (.inr (.inl rfl))))) (by omega)
        · have l4 : L.length = 1228 := by omega
          exact go 8191 (by rw [l4, grown1229]) (.inr (.inr (.inr (.inr (.inr rfl))))) (by omega)
        · omega
      · first
          | refine wp_if_neg (by simp [hf]) ?_
          | (refine wpAny_bind ?_; refine wp_if_neg (by simp [hf]) ?_; refine wpAny_pure ?_)
        refine wpAny_pure (hQ true h1 L1 es1 (ep + 1) t1 sb ⟨⟨_, ho1, ⟨hex.1, hex.2.1, hex.2.2⟩, rfl⟩, are1, T1, one1, ld1, ?_, by omega⟩ (fun z => absurd z hm) fun _ => pm)
        have z := hf
        unfold SetTable.tooFull at z
        rw [decide_eq_true_eq, f1] at z
        omega
    by_cases pl : t1.plain = true
    · first
        | (refine wpAny_bind ?_; refine wp_if_pos pl ?_; exact byValue hx go0)
        | refine wp_if_pos pl (wpAny_bind (byValue hx go0))
    · first
        | (refine wpAny_bind ?_; refine wp_if_neg pl ?_; exact wpAny_pure (go0 true))
        | refine wp_if_neg pl (wpAny_bind (wpAny_pure (go0 true)))
end
end Sx

/-! SxComp -/
/-! Set comprehensions whose elements are tuples of ints and texts. -/
namespace Sx
open PySem PySem.Spec PyProof.Rows L2

/-- the set of tuples at a: its rows -/
def SetK (P : Program) (w : World) (a : Addr) (L : List Row) : HO := .ext fun h => ∃ es ep t, SetX P w h a L es ep t
theorem setK_ok {P : Program} {w : World} {H : Hp} {h : Heap} {a : Addr} {L : List Row} {es : Array (Int × Value)} {ep : Nat} {t : SetTable} (R : SetX P w h a L es ep t) : ObjOk P w H h a (SetK P w a L) := by
  refine ⟨⟨es, ep, t, R⟩, ?_, fun h1 h2 p k => ?_⟩
  · obtain ⟨o, ho, _⟩ := R.obj
    exact ⟨o, ho⟩
  · obtain ⟨es, ep, t, R1⟩ := p
    obtain ⟨o, ho, r⟩ := R1.obj
    exact ⟨es, ep, t, ⟨o, k o ho, r⟩, R1.are, R1.tab, R1.one, R1.led, R1.room, R1.few⟩
theorem items_mix {P : Program} {w : World} : ∀ {k : List Key} {us : List Value}, Vals (k.map kV) us → ItemsAre (mixKind P w) k us
  | [], _, .nil => .nil
  | .inl n :: k, _, .cons r t => by
    obtain ⟨tk, e⟩ := r
    subst e
    exact .cons (mixKind_int P w n tk) (items_mix t)
  | .inr z :: k, _, .cons r t => by
    obtain ⟨tk, e⟩ := r
    subst e
    exact .cons (mixKind_str P w z tk) (items_mix t)
/-- all rows' tuples stand -/
def Rws (K : PySem.W.Frag) (H : Hp) (L : List Row) : Prop := ∀ p ∈ L, SqT K H p.1 (p.2.map kV)
section
variable {X : Cx} {pins : List (Addr × Obj)} {σ : L2.St} {H : Hp} {s : Shared}
theorem isK_of (I : Inv X pins σ H s) {b : Addr} {k : List Key} (h : SqT X.K H b (k.map kV)) : IsK X.prog X.w s.heap k b := by
  obtain ⟨its, r, ⟨o, ho, hc, n, hd⟩, _⟩ := I.tuple h
  exact ⟨o, its.toArray, n, ho, hc, hd, by simpa using items_mix r⟩
/-- found.add(t) -/
theorem addK_ok {E : Value → Shared → Prop} {D a : Addr} {k : List Key} {L : List Row} {Q : Value → Shared → Prop} (I : Inv X pins σ H s) (hu : X.A.units + 1 < cLine) (hD : H D = some (SetK X.prog X.w D L)) (hx : SqT X.K H a (k.map kV)) (hL : Rws X.K H L) (few : L.length < 4000)
    (h : ∀ L' s', (k ∈ L.map (·.2) → L' = L) → (k ∉ L.map (·.2) → L'.Perm ((a, k) :: L)) → Inv X pins σ (upd H D (SetK X.prog X.w D L')) s' → Q .none s') :
    wpAny (model X.prog X.w) X.A (call (.builtin "set.add") [.ref D, .ref a]) Q E s := by
  obtain ⟨es, ep, t, R⟩ := (show ObjOk X.prog X.w H s.heap D (SetK X.prog X.w D L) from I.hok D _ hD).1
  have Ts : Tups X.prog X.w s.heap L := fun p hp => isK_of I (hL p hp)
  have hk := isK_of I hx
  obtain ⟨o, ho, hex, hd⟩ := id R.obj
  refine wpAny_call_entry F.slot_set_add ⟨o, ho, hex.1⟩ F.entry_set_add ?_ (F.args_set_add_2 _ _)
  unfold Builtin.«set.add» Builtin.Frozenset.oneOther
  simp only [List.isEmpty_nil, bind_assoc]
  unfold Builtin.Frozenset.addrOf setAdd
  refine wpAny_bind (wpAny_pure ?_)
  try dsimp only
  refine wpAny_bind (wpAny_pure ?_)
  try dsimp only
  refine wpAny_bind (wpAny_holding (wpAny_bind (wpAny_pyHash_tuple (by first | exact hu | omega | exact Nat.lt_of_succ_lt hu) hk ?_)))
  refine adding (s := { s with toks := s.toks + (k.length + 1) }) R Ts hk (by first | exact hu | omega | exact Nat.lt_of_succ_lt hu) few fun b h' L' es' ep' t' sb R' c1 c2 => ?_
  show wpAny _ _ (ret Value.none) _ _ _
  obtain ⟨o', ho', _⟩ := id R'.obj
  exact wpAny_pure ⟨_, rfl, h L' _ c1 c2 (I.write (e := D) (t' := s.toks + (k.length + 1)) (by rw [hD]; trivial) (.inl rfl) (fun b u hb z => (sb.2 b hb).trans z) ⟨o', ho'⟩ (setK_ok R'))⟩
theorem freshK {h : Heap} (P : Program) (w : World) : SetX P w (h.push { cls := .type "set", dict := none, data := .set #[] 0 (.fresh 0 0 (!w.params.followText "set-order")) }) h.objs.size [] #[] 0 (.fresh 0 0 (!w.params.followText "set-order")) where
  obj := ⟨_, Heap.get?_push_size _ rfl, ⟨rfl, rfl, rfl⟩, rfl⟩
  are := rfl
  tab := ⟨List.Pairwise.nil, rfl, rfl, .inl rfl, fun x hx => (by cases hx), fun i h j hi => (by simp [hs] at hi)⟩
  one := List.nodup_nil
  led := by
    show _ ∨ (!w.params.followText "set-order") = true
    cases w.params.followText "set-order" with
    | true => exact .inl rfl
    | false => exact .inr rfl
  room := by
    show 0 * 5 < 7 * 3
    decide
  few := Nat.zero_le _
end

section
variable {X : Cx}
/-- {elt for target in iter if ..}, elt a tuple of ints and texts -/
def tSk (K : PySem.W.Frag) (P : Program) (w : World) (wi : TI) (g : TG) (tt : TT) (te : TE) (vs : List Nat) : TE := fun σ H Q => wi σ H fun J H1 => ∀ D, H1 D = none → ∃ W : Nat → Nat → Hp → Prop, (∃ m, W 0 m (upd H1 D (SetK P w D []))) ∧ ∀ i m H, W i m H →
  (J.stop i H ∧ Q (.ref D) H) ∨ (J.go i H ∧ ∃ Nx : Hp → Prop, (∀ H', Nx H' → ∃ m', m' < m ∧ W (i + 1) m' H') ∧ ∀ x H', J.yld i H x H' → g x (wipe σ vs) H' fun σ2 H2 => wipe σ2 vs = wipe σ vs ∧ tt σ2 H2 fun b H3 =>
    if b = true then te σ2 H3 fun y H4 => ∃ (a : Addr) (k : List Key) (L : List Row), y = .ref a ∧ SqT K H4 a (k.map kV) ∧ H4 D = some (SetK P w D L) ∧ Rws K H4 L ∧ L.length < 4000 ∧
      ∀ L', (k ∈ L.map (·.2) → L' = L) → (k ∉ L.map (·.2) → L'.Perm ((a, k) :: L)) → Nx (upd H4 D (SetK P w D L')) else Nx H3)
theorem sk_core {pins : List (Addr × Obj)} {s : Shared} {σ : L2.St} {H : Hp} {Q : VK} {elt tg iter : Expr} {ifs : List Expr} {scope : Scope} {own : List (PySem.Str × Nat)} {pos pos' : Pos} {wi : TI} {g : TG} {tt : TT} {te : TE} {use : Option (Value → Sem Unit)} {Qf : Value → Shared → Prop}
    (hc : X.calm = true) (hu : X.A.units + 1 < cLine) (hN : X.N.Nodup) (I : Inv X pins σ H s) (hi : PI X tg iter wi) (ok : BlkOk X.N X.env.scope scope own)
    (hg : ∀ (s : Shared) (H : Hp) (C : Addr) (cl : List (PySem.Str × Addr)) (fp : List Addr), PG (X.blk s H scope (compEnvC scope cl C X.env) fp) tg g)
    (ht : ∀ (s : Shared) (H : Hp) (C : Addr) (cl : List (PySem.Str × Addr)) (fp : List Addr), PTs (X.blk s H scope (compEnvC scope cl C X.env) fp) ifs tt)
    (he : ∀ (s : Shared) (H : Hp) (C : Addr) (cl : List (PySem.Str × Addr)) (fp : List Addr), PE (X.blk s H scope (compEnvC scope cl C X.env) fp) elt te)
    (fold : ∀ x, foldedSetIterable iter X.env x = pure x)
    (h : tSk X.K X.prog X.w wi g tt te (own.map (·.2)) σ H Q)
    (back : ∀ D C s' m H', Inv X pins σ H' s' → Q (.ref D) H' → s'.heap.Ns C m → FpOk X pins H' C → compPost (model X.prog X.w) X.A X.xe use Qf (.ref D) C (.ok .next) s') :
    wpAny (model X.prog X.w) X.A (comprehension (.SetComp elt [⟨tg, iter, ifs, 0⟩] scope pos) scope X.env pos' (newSet (.type "set")) false (eval iter X.env) use) Qf X.xe s := by
  have frees : ∀ y ∈ scope.names, y.2 = .free → ∃ c, X.env.cells.lookup y.1 = some c := fun y hy e => by
    rcases ok.free y hy e with q | q
    · exact I.ok.has _ (.inl q)
    · exact I.ok.has _ (.inr q)
  refine wpAny_comprehension_free (use := use) rfl fold (closure_ok frees) ok.kind (fun y hy e => by rw [ok.uniq y hy, e]) (thn (hi.run pins s σ H _ I h) fun xv s1 hx => thn hx fun itv s2 h2 => ?_)
  obtain ⟨it, fp, tn, J, H2, e, I2, T, st2, f2, q⟩ := h2
  subst e
  refine PpSet.newSet_ok (newEnv_comp ?_)
  generalize hD : s2.heap.objs.size = D
  have free0 : H2 D = none := I2.hok.fresh (Nat.le_of_eq hD)
  obtain ⟨W, ⟨m0, w0⟩, turn⟩ := q D free0
  generalize es3 : ({ s2 with heap := s2.heap.push { cls := .type "set", dict := none, data := .set #[] 0 (.fresh 0 0 (!X.w.params.followText "set-order")) } } : Shared) = s3
  have keep3 : ∀ b o, s2.heap.get? b = some o → s3.heap.get? b = some o := fun b o z => by
    rw [← es3]
    exact Heap.get?_push_of_some _ z
  have size3 : s3.heap.objs.size = s2.heap.objs.size + 1 := by
    rw [← es3]
    exact Heap.size_push ..
  have J3 : Inv X pins σ (upd H2 D (SetK X.prog X.w D [])) s3 := by
    rw [← es3]
    refine I2.laid (t' := s2.toks) (fun b o z => Heap.get?_push_of_some _ z) (Nat.le_of_eq hD) ?_
    rw [← hD]
    exact setK_ok (freshK X.prog X.w)
  have old : ∀ b ∈ fp, b < s2.heap.objs.size := fun b hb => by
    obtain ⟨o, z, _⟩ := T.obj _ _ st2 b hb
    exact Heap.lt_size z
  have feet : ∀ b ∈ fp, FpOk X pins (upd H2 D (SetK X.prog X.w D [])) b ∧ b < s3.heap.objs.size := fun b hb => by
    have lt := old b hb
    refine ⟨⟨?_, (f2 b hb).2⟩, by rw [size3]; exact Nat.lt_succ_of_lt lt⟩
    rw [upd_ne (by rw [← hD]; exact Nat.ne_of_lt lt)]
    exact (f2 b hb).1
  have st3 : tn 0 s3.heap := T.keep _ _ _ st2 fun b _ o z => keep3 b o z
  have J4 := block_start J3 ok hN feet
  have pg := hg s3 (upd H2 D (SetK X.prog X.w D [])) s3.heap.objs.size (cellsFrom (s3.heap.objs.size + 1) scope.names (cloFrom X.env.cells scope.names [])) fp
  have pt := ht s3 (upd H2 D (SetK X.prog X.w D [])) s3.heap.objs.size (cellsFrom (s3.heap.objs.size + 1) scope.names (cloFrom X.env.cells scope.names [])) fp
  have pe := he s3 (upd H2 D (SetK X.prog X.w D [])) s3.heap.objs.size (cellsFrom (s3.heap.objs.size + 1) scope.names (cloFrom X.env.cells scope.names [])) fp
  show codeAny _ _ (.compStart (.SetComp elt [⟨tg, iter, ifs, 0⟩] scope pos) 0 (.ref it) (.ref D) (compEnvC scope (cellsFrom (s3.heap.objs.size + 1) scope.names (cloFrom X.env.cells scope.names [])) s3.heap.objs.size X.env)) (compPost (model X.prog X.w) X.A X.xe use Qf (.ref D) s3.heap.objs.size) { s3 with heap := pushCells (s3.heap.push { cls := .type "dict", data := .dict #[] }) scope.names }
  have none0 : ∀ b ∈ fp, (upd H2 D (SetK X.prog X.w D [])) b = none := fun b hb => (feet b hb).1.1
  generalize hce : compEnvC scope (cellsFrom (s3.heap.objs.size + 1) scope.names (cloFrom X.env.cells scope.names [])) s3.heap.objs.size X.env = ce at J4 pg pt pe ⊢
  have locals : ce.locals = s3.heap.objs.size := by
    rw [← hce]
    rfl
  generalize hH3 : upd H2 D (SetK X.prog X.w D []) = H3 at J3 J4 pg pt pe w0 none0 feet
  generalize es4 : ({ s3 with heap := pushCells (s3.heap.push { cls := .type "dict", data := .dict #[] }) scope.names } : Shared) = s4 at J4 ⊢
  have st4 : tn 0 s4.heap := T.keep _ _ _ st3 fun b _ o z => by
    rw [← es4]
    exact pushCells_keeps _ _ _ _ (Heap.get?_push_of_some _ z)
  have still : ∀ {σ' : L2.St} {H' : Hp} {s' : Shared}, Inv (X.blk s3 H3 scope ce fp) [] σ' H' s' → (∀ b ∈ fp, H' b = none) → ∀ b ∈ fp, FpOk (X.blk s3 H3 scope ce fp) [] H' b := fun {σ' H' s'} I' hn b hb =>
    ⟨hn b hb, (I'.ok.exf b hb).1, I'.ok.exfs b hb, .inl hb, fun x c z => (I'.ok.exf b hb).2 x c z, fun p hp => absurd (show p ∈ ([] : List (Addr × Obj)) ++ [] from hp) (by simp)⟩
  refine PpSet.codeAny_compStart_set ?_ (T.self X.A 0 _ _ _ st4 ?_)
  all_goals
    refine PpSet.compLoopS_any (fun n s' => ∃ i H', Inv (X.blk s3 H3 scope ce fp) [] (wipe σ (own.map (·.2))) H' s' ∧ tn i s'.heap ∧ (∀ b ∈ fp, H' b = none) ∧ W i n H') ?_ m0 ⟨0, H3, J4, st4, none0, w0⟩
    rintro n s5 ⟨i, H5, I5, st5, n5, w5⟩
    rcases turn i n H5 w5 with ⟨stop, qq⟩ | ⟨go, Nx, hNx, step⟩
    · refine thnF (T.done (X.blk s3 H3 scope ce fp) rfl rfl rfl hc i [] s5 _ H5 (fun _ _ => False) I5 (still I5 n5) st5 stop) fun r s6 ⟨hr, I6⟩ => ?_
      subst hr
      have I7 : Inv X pins σ H5 s6 := J3.call' (ch := fp) I6.os I6.base I6.hok I6.bare fun b hb => ⟨(feet b hb).1.2.2.2.1, (feet b hb).1.2.1, (feet b hb).1.2.2.2.2.1, (feet b hb).1.2.2.2.2.2⟩
      have nC : H5 s3.heap.objs.size = none := by
        rw [← locals]
        exact I6.free
      obtain ⟨m, hn, _⟩ := I6.loc
      have hn : s6.heap.Ns ce.locals m := hn
      rw [locals] at hn
      exact back D s3.heap.objs.size s6 m H5 I7 qq hn (J3.fpOk (Nat.le_refl _) nC)
    · refine thnF (T.item (X.blk s3 H3 scope ce fp) rfl rfl rfl hc i [] s5 _ H5 (fun _ _ => False) I5 (still I5 n5) st5 go) fun r s6 ⟨u, hr, h6⟩ => ?_
      subst hr
      refine thnF h6 fun _ s7 ⟨x, H7, I7, r7, y7, st7, n7⟩ => ?_
      have I7' := I7.pinned (still I7 n7) (T.obj _ _ st7)
      refine thnF (pg.run _ s7 _ H7 x u _ I7' r7 (step x H7 y7)) fun _ s8 ⟨σ8, H8, I8, hw8, q8⟩ => ?_
      refine thnF (pt.run _ s8 σ8 H8 _ I8 q8) fun b s9 ⟨H9, I9, q9⟩ => ?_
      have fin : ∀ {s' : Shared} {H' : Hp}, Inv (X.blk s3 H3 scope ce fp) ([] ++ pinsAt fp s7.heap) σ8 H' s' → Nx H' → ∃ m, m < n ∧ ∃ i H', Inv (X.blk s3 H3 scope ce fp) [] (wipe σ (own.map (·.2))) H' s' ∧ tn i s'.heap ∧ (∀ b ∈ fp, H' b = none) ∧ W i m H' := fun {s' H'} I' nx => by
        obtain ⟨m', hm, w'⟩ := hNx H' nx
        have pinned : ∀ b ∈ fp, ∀ o, s7.heap.get? b = some o → s'.heap.get? b = some o ∧ H' b = none := fun b hb o z => by
          have y := I'.pin (b, o) (List.mem_append_right _ (List.mem_append_right _ (mem_pinsAt hb z)))
          exact ⟨y.1, y.2.1⟩
        have len : (wipe σ (own.map (·.2))).length = σ8.length := by rw [← hw8, wipe_length]
        refine ⟨m', hm, i + 1, H', (I'.unpinned (pins := [])).weak len (fun j v z => ?_), T.keep _ _ _ st7 fun b hb o z => (pinned b hb o z).1, fun b hb => ?_, w'⟩
        · rw [← hw8] at z
          exact (wipe_some z).1
        · obtain ⟨o, z, _⟩ := T.obj _ _ st7 b hb
          exact (pinned b hb o z).2
      cases b with
      | false =>
        simp only [Bool.false_eq_true, if_false] at q9 ⊢
        exact fin I9 q9
      | true =>
        simp only [if_true] at q9 ⊢
        refine thnF (pe.run _ s9 σ8 H9 _ I9 q9) fun z s10 ⟨yv, H10, I10, r10, a, k, L, ey, ht10, hD10, hL10, few, nx⟩ => ?_
        subst ey
        cases (show z = Value.ref a from r10)
        exact addK_ok (X := X.blk s3 H3 scope ce fp) I10 hu hD10 ht10 hL10 few fun L' s11 c1 c2 I11 => fin I11 (nx L' c1 c2)
theorem pe_sk {elt tg iter : Expr} {ifs : List Expr} {scope : Scope} {own : List (PySem.Str × Nat)} {pos : Pos} {wi : TI} {g : TG} {tt : TT} {te : TE} (hc : X.calm = true) (hu : X.A.units + 1 < cLine) (hN : X.N.Nodup) (hi : PI X tg iter wi) (ok : BlkOk X.N X.env.scope scope own)
    (hg : ∀ (s : Shared) (H : Hp) (C : Addr) (cl : List (PySem.Str × Addr)) (fp : List Addr), PG (X.blk s H scope (compEnvC scope cl C X.env) fp) tg g)
    (ht : ∀ (s : Shared) (H : Hp) (C : Addr) (cl : List (PySem.Str × Addr)) (fp : List Addr), PTs (X.blk s H scope (compEnvC scope cl C X.env) fp) ifs tt)
    (he : ∀ (s : Shared) (H : Hp) (C : Addr) (cl : List (PySem.Str × Addr)) (fp : List Addr), PE (X.blk s H scope (compEnvC scope cl C X.env) fp) elt te) (fold : ∀ x, foldedSetIterable iter X.env x = pure x := by intro _; rfl) :
    PE X (.SetComp elt [⟨tg, iter, ifs, 0⟩] scope pos) (tSk X.K X.prog X.w wi g tt te (own.map (·.2))) := by
  refine ⟨fun pins s σ H Q I h => ?_⟩
  rw [PpSet.eval_SetComp]
  refine sk_core hc hu hN I hi ok hg ht he fold h fun D C s' m H' I' q hn f => ⟨m, hn, fun h'' sb => ?_⟩
  obtain ⟨f0, f1, f2, f3, f4, f5⟩ := f
  exact ⟨.ref D, H', I'.turned (t' := s'.toks) (fun b o hb z => (sb.2 b hb).trans z) f0 f1 f3 f4 f5, rfl, q⟩
end
end Sx

/-! SxSort -/
/-! The order of texts, of tuples of texts; sorted of tuples of texts in a list, in a set. -/
namespace Sx
open PySem PySem.Spec PyProof.Rows L2

/-! ### texts, as Python orders them -/
theorem ln_irr : ∀ l : List Nat, ¬ l < l
  | [], h => by simp at h
  | a :: l, h => by
    rw [List.cons_lt_cons_iff] at h
    rcases h with h | ⟨_, h⟩
    · exact Nat.lt_irrefl a h
    · exact ln_irr l h
theorem ln_tri : ∀ a b : List Nat, a < b ∨ a = b ∨ b < a
  | [], [] => .inr (.inl rfl)
  | [], b :: bs => .inl (by simp)
  | a :: as, [] => .inr (.inr (by simp))
  | a :: as, b :: bs => by
    rw [List.cons_lt_cons_iff, List.cons_lt_cons_iff]
    rcases Nat.lt_trichotomy a b with h | h | h
    · exact .inl (.inl h)
    · subst h
      rcases ln_tri as bs with q | q | q
      · exact .inl (.inr ⟨rfl, q⟩)
      · exact .inr (.inl (by rw [q]))
      · exact .inr (.inr (.inr ⟨rfl, q⟩))
    · exact .inr (.inr (.inl h))
theorem ln_tr : ∀ {a b c : List Nat}, a < b → b < c → a < c
  | [], _, [], _, h => by simp at h
  | [], _, c :: cs, _, _ => by simp
  | a :: as, [], _, h, _ => by simp at h
  | a :: as, b :: bs, [], _, h => by simp at h
  | a :: as, b :: bs, c :: cs, h, g => by
    rw [List.cons_lt_cons_iff] at h g ⊢
    rcases h with h | ⟨h, h2⟩
    · rcases g with g | ⟨g, g2⟩
      · exact .inl (Nat.lt_trans h g)
      · exact .inl (by rw [← g]; exact h)
    · rcases g with g | ⟨g, g2⟩
      · exact .inl (by rw [h]; exact g)
      · exact .inr ⟨h.trans g, ln_tr h2 g2⟩
abbrev ltS (a b : Str) : Bool := decide (a.cps.toList < b.cps.toList)
theorem str_ext {a b : Str} (h : a.cps.toList = b.cps.toList) : a = b := by
  obtain ⟨a⟩ := a
  obtain ⟨b⟩ := b
  exact congrArg Str.mk (Array.toList_inj.mp h)
theorem ltS_irr (a : Str) : ltS a a = false := decide_eq_false (ln_irr _)
theorem ltS_tri (a b : Str) : ltS a b = true ∨ a = b ∨ ltS b a = true := by
  rcases ln_tri a.cps.toList b.cps.toList with h | h | h
  · exact .inl (decide_eq_true h)
  · exact .inr (.inl (str_ext h))
  · exact .inr (.inr (decide_eq_true h))
theorem ltS_tr {a b c : Str} (h : ltS a b = true) (g : ltS b c = true) : ltS a c = true := decide_eq_true (ln_tr (of_decide_eq_true h) (of_decide_eq_true g))
theorem ltS_asym {a b : Str} (h : ltS a b = true) : ltS b a = false := by
  cases q : ltS b a with
  | false => rfl
  | true =>
    have z := ltS_tr h q
    rw [ltS_irr] at z
    cases z
/-! ### lists of texts, one after another -/
def ltL : List Str → List Str → Bool
  | [], [] => false
  | [], _ :: _ => true
  | _ :: _, [] => false
  | a :: as, b :: bs => if a = b then ltL as bs else ltS a b
theorem ltL_irr : ∀ l : List Str, ltL l l = false
  | [] => rfl
  | a :: l => by
    show (if a = a then ltL l l else ltS a a) = false
    rw [if_pos rfl]
    exact ltL_irr l
theorem ltL_tri : ∀ a b : List Str, ltL a b = true ∨ a = b ∨ ltL b a = true
  | [], [] => .inr (.inl rfl)
  | [], b :: bs => .inl rfl
  | a :: as, [] => .inr (.inr rfl)
  | a :: as, b :: bs => by
    unfold ltL
    by_cases e : a = b
    · subst e
      rw [if_pos rfl, if_pos rfl]
      rcases ltL_tri as bs with q | q | q
      · exact .inl q
      · exact .inr (.inl (by rw [q]))
      · exact .inr (.inr q)
    · rw [if_neg e, if_neg (Ne.symm e)]
      rcases ltS_tri a b with q | q | q
      · exact .inl q
      · exact absurd q e
      · exact .inr (.inr q)
theorem ltL_tr : ∀ {a b c : List Str}, ltL a b = true → ltL b c = true → ltL a c = true
  | [], [], _, h, _ => by cases h
  | [], _ :: _, [], _, h => by cases h
  | [], _, c :: cs, _, _ => rfl
  | a :: as, [], _, h, _ => by cases h
  | a :: as, b :: bs, [], _, h => by cases h
  | a :: as, b :: bs, c :: cs, h, g => by
    unfold ltL at h g ⊢
    by_cases e : a = b
    · subst e
      rw [if_pos rfl] at h
      by_cases f : a = c
      · subst f
        rw [if_pos rfl] at g ⊢
        exact ltL_tr h g
      · rw [if_neg f] at g ⊢
        exact g
    · rw [if_neg e] at h
      by_cases f : b = c
      · subst f
        rw [if_neg e]
        exact h
      · rw [if_neg f] at g
        have z := ltS_tr h g
        have n : a ≠ c := fun q => by
          rw [q, ltS_irr] at z
          cases z
        rw [if_neg n]
        exact z
theorem ltL_asym {a b : List Str} (h : ltL a b = true) : ltL b a = false := by
  cases q : ltL b a with
  | false => rfl
  | true =>
    have z := ltL_tr h q
    rw [ltL_irr] at z
    cases z
theorem ltL_not {a b : List Str} (h : ltL b a = false) : a = b ∨ ltL a b = true := by
  rcases ltL_tri a b with q | q | q
  · exact .inr q
  · exact .inl q
  · rw [h] at q
    cases q
theorem swo_L {α : Type} (k : α → List Str) : SrtO.Swo fun x y => ltL (k x) (k y) := by
  refine ⟨fun x y h => ltL_asym h, fun x y z h1 h2 => ?_⟩
  rcases ltL_not h1 with e | h1
  · rcases ltL_not h2 with e2 | h2
    · rw [e, e2]
      exact ltL_irr _
    · rw [e]
      exact ltL_asym h2
  · rcases ltL_not h2 with e2 | h2
    · rw [← e2]
      exact ltL_asym h1
    · exact ltL_asym (ltL_tr h1 h2)

/-! ### tuples of texts compared by the sort -/
def IsTP (h : Heap) (v : Value) (ks : List Str) : Prop := ∃ a o its n, v = .ref a ∧ h.get? a = some o ∧ o.cls = .type "tuple" ∧ o.data = .seq its n ∧ Vals (ks.map V.str) its.toList
theorem IsTP.stay {h h' : Heap} {v : Value} {ks : List Str} (p : IsTP h v ks) (k : ∀ b o, h.get? b = some o → o.cls = .type "tuple" → h'.get? b = some o) : IsTP h' v ks := by
  obtain ⟨a, o, its, n, e, ho, hc, r⟩ := p
  exact ⟨a, o, its, n, e, k _ _ ho hc, hc, r⟩
section
variable {prog : Program} {w : World} {A : Around} {E : Value → Shared → Prop} {s : Shared}
theorem kat_texts {fin : Bool} {Q : Bool → Shared → Prop} : ∀ (ks ls : List Str) (us vs : List Value) (i : Nat), Vals (ks.map V.str) us → Vals (ls.map V.str) vs → fin = decide (ks.length < ls.length) → Q (ltL ks ls) s →
    PySem.W.KatLex prog w A true fin Q (us.zip vs) i s
  | [], [], _, _, i, .nil, .nil, e, h => PySem.W.kat_nil (by rw [e]; exact h)
  | [], b :: ls, _, _, i, .nil, .cons _ _, e, h => PySem.W.kat_nil (by rw [e]; exact h)
  | a :: ks, [], _, _, i, .cons _ _, .nil, e, h => PySem.W.kat_nil (by rw [e]; exact h)
  | a :: ks, b :: ls, _, _, i, .cons ra ras, .cons rb rbs, e, h => by
    obtain ⟨t, ea⟩ := ra
    obtain ⟨u, eb⟩ := rb
    subst ea
    subst eb
    unfold ltL at h
    refine PySem.W.kat_cons (wpAny_eqBool_str ?_)
    refine PySem.W.kat_go (fun e1 => ?_) (fun e1 => ?_)
    · rw [if_pos (by simpa using e1)] at h
      exact PySem.W.kat_yes (kat_texts ks ls _ _ (i + 1) ras rbs (by rw [e]; simp) h)
    · rw [if_neg (by simpa using e1)] at h
      refine PySem.W.kat_no ?_
      cases i with
      | zero => exact oneLt_str h
      | succ i =>
        show wpAny _ _ (oneLt' (true && false) _ _) _ _ _
        exact PySem.W.kat_one _ _ (PyProof.Rows.lt_str h)
theorem texts_cmp {vs : List Value} {k : Value → List Str} (hp : ∀ v ∈ vs, IsTP s.heap v (k v)) : SrtO.Cmp prog w A s (tuples' true) (fun p => p.1 ∈ vs) (SrtO.lt2 fun v u => ltL (k v) (k u)) := by
  intro p q hm hm'
  obtain ⟨a, o, its, n, e, ho, hc, hd, r⟩ := hp _ hm
  obtain ⟨a', o', its', n', e', ho', hc', hd', r'⟩ := hp _ hm'
  show wpAny (model prog w) A (keyLt' (tuples' true) p.1 q.1) (fun r s' => s' = s ∧ r = ltL (k p.1) (k q.1)) (fun _ _ => False) s
  generalize k p.1 = kp at r ⊢
  generalize k q.1 = kq at r' ⊢
  rw [e, e']
  refine PySem.W.kat_lt ho hd ho' hd' (kat_texts kp kq _ _ 0 r r' ?_ ⟨rfl, rfl⟩)
  have l1 : kp.length = its.size := by simpa using Paired.length r
  have l2 : kq.length = its'.size := by simpa using Paired.length r'
  rw [l1, l2]
theorem texts_first {h : Heap} : ∀ {vs : List Value}, (∀ v ∈ vs, ∃ k, k ≠ [] ∧ IsTP h v k) → ∃ fs : List Value, PySem.W.KatTups h vs fs ∧ fs.length = vs.length ∧ ∀ f ∈ fs, ∃ x t, f = Value.str x t
  | [], _ => ⟨[], PySem.W.KatTups.nil, rfl, fun _ hm => nomatch hm⟩
  | v :: vs, hp => by
    obtain ⟨fs, h1, h2, h3⟩ := texts_first (vs := vs) fun u hu => hp u (List.mem_cons_of_mem _ hu)
    obtain ⟨k, ne, a, o, its, n, e, ho, hc, hd, r⟩ := hp v List.mem_cons_self
    subst e
    match k, its, ne, r, hd with
    | [], _, ne, _, _ => exact absurd rfl ne
    | x :: k, ⟨u :: us⟩, _, .cons ru _, hd =>
      obtain ⟨t, eu⟩ := ru
      subst eu
      refine ⟨.str x t :: fs, PySem.W.KatTups.cons ho hc hd rfl h1, by rw [List.length_cons, List.length_cons, h2], fun f hm => ?_⟩
      rcases List.mem_cons.mp hm with z | z
      · exact ⟨x, t, z⟩
      · exact h3 f z
theorem texts_sortable {a : Addr} {vs : List Value} {k : Value → List Str} (h0 : 0 < vs.length) (hp : ∀ v ∈ vs, k v ≠ [] ∧ IsTP s.heap v (k v)) (ha : ∀ o, s.heap.get? a = some o → o.cls ≠ .type "tuple") : SrtO.SortableO prog w A s a vs fun v u => ltL (k v) (k u) := by
  intro h' keep
  have hp' : ∀ v ∈ vs, IsTP h' v (k v) := fun v hm => (hp v hm).2.stay fun b o e c => keep b o (fun z => by subst z; exact ha o e c) e
  obtain ⟨fs, h1, h2, h3⟩ := texts_first fun v hm => ⟨_, (hp v hm).1, hp' v hm⟩
  refine ⟨tuples' true, fun Q E hq => ?_, texts_cmp hp'⟩
  refine PySem.W.kat_kind (T := .type "str") h1 (by omega) (fun f hm => ?_) (by rfl) ?_
  · obtain ⟨x, t, e⟩ := h3 f hm
    subst e
    exact PySem.W.Looks.now
  · have e : (Value.type "str" != Value.type "tuple") = true := by first | decide +kernel | rfl | decide
    rw [e]
    exact hq
/-- sorted(l) of tuples of texts -/
theorem sorted_texts {l : Addr} {vs : List Value} {k : Value → List Str} {Q : Value → Shared → Prop} (hl : s.heap.IsList l vs.toArray) (hz : vs.length ≤ sizeLine) (hp : ∀ v ∈ vs, k v ≠ [] ∧ IsTP s.heap v (k v))
    (h : ∀ (h' : Heap) (d : Addr) (out : List Value), out.Perm vs → out.Pairwise (fun v u => ltL (k u) (k v) = false) → (∀ b o, s.heap.get? b = some o → h'.get? b = some o) → s.heap.objs.size ≤ d → (∃ n, h'.get? d = some (seqObj "list" out.toArray n)) → Q (.ref d) { s with heap := h' }) :
    wpAny (model prog w) A (call (.builtin "sorted") [.ref l]) Q E s := by
  refine SrtO.sorted_ord (swo_L k) hl hz (fun h2 h₁ a ha kk => ?_) fun out hs hb => ?_
  · refine texts_sortable (s := { s with heap := h₁ }) (by omega) (fun v hm => ⟨(hp v hm).1, (hp v hm).2.stay fun b o e _ => (kk b o e).2⟩) fun o e => ?_
    have e' : some o = some (seqObj "list" vs.toArray 0) := e.symm.trans ha
    cases e'
    intro c
    exact absurd (Value.type.inj c) (by decide)
  · exact h _ _ out hb.perm hs (fun b o e => sortedAll_old e) (Nat.le_succ _) (sortedAll_at s.heap vs out.toArray)
end

/-! ### as rules of the layer -/
/-- sorted(xs), xs a list of tuples of texts, none empty -/
def rSortTL (K : PySem.W.Frag) : List V → Hp → VK → Prop := fun vs H Q => ∃ (a : Addr) (xs : List V) (k : V → List Str), vs = [V.ref a] ∧ SqL K H a xs ∧ (∀ x ∈ xs, k x ≠ [] ∧ ∃ t, x = V.ref t ∧ SqT K H t ((k x).map V.str)) ∧
  ∀ ys p, ys.Perm xs → ys.Pairwise (fun x y => ltL (k y) (k x) = false) → H p = none → Q (.ref p) (upd H p (.lst ys))
/-- sorted(s), s a set of tuples of texts, none empty -/
def rSortSK (K : PySem.W.Frag) (P : Program) (w : World) : List V → Hp → VK → Prop := fun vs H Q => ∃ (a : Addr) (L : List Row) (k : Addr → List Str), vs = [V.ref a] ∧ H a = some (SetK P w a L) ∧ Rws K H L ∧ (∀ p ∈ L, k p.1 ≠ [] ∧ p.2 = (k p.1).map Sum.inr) ∧
  ∀ (as : List Addr) (p : Addr), as.Perm (L.map (·.1)) → as.Pairwise (fun x y => ltL (k y) (k x) = false) → H p = none → Q (.ref p) (upd H p (.lst (as.map V.ref)))
section
variable {X : Cx} {pins : List (Addr × Obj)} {σ : L2.St} {H : Hp} {s : Shared}
theorem isTP_of (I : Inv X pins σ H s) {t : Addr} {ks : List Str} (h : SqT X.K H t (ks.map V.str)) : IsTP s.heap (.ref t) ks := by
  obtain ⟨its, r, ⟨o, ho, hc, n, hd⟩, _⟩ := I.tuple h
  exact ⟨t, o, its.toArray, n, rfl, ho, hc, hd, by simpa using r⟩
theorem cr_sortTL : CallR X (.builtin "sorted") (rSortTL X.K) := by
  intro pins s σ H vs us Q I r h
  obtain ⟨a, xs, k, rfl, hs, hx, q⟩ := h
  obtain ⟨its, rv, hl, hz⟩ := I.list hs
  rw [Vals.ref1 r]
  obtain ⟨e1, e2⟩ := refs_back rv fun x m => by
    obtain ⟨_, t, e, _⟩ := hx x m
    exact ⟨t, e⟩
  refine sorted_texts (k := fun u => k (backV u)) hl.isList (by rw [← rv.length]; exact hz) (fun v hv => ?_) fun h' d out pm pw kp hd hn => ?_
  · obtain ⟨t, rfl⟩ := e2 v hv
    have hm : V.ref t ∈ xs := by
      rw [e1]
      exact List.mem_map.mpr ⟨_, hv, rfl⟩
    obtain ⟨ne, t', e, ht⟩ := hx _ hm
    cases e
    exact ⟨ne, isTP_of I ht⟩
  · have h3 : ∀ u ∈ out, ∃ a, u = Value.ref a := fun u hu => e2 u (pm.mem_iff.mp hu)
    obtain ⟨n, hn⟩ := hn
    have pm' : (out.map backV).Perm xs := by
      rw [e1]
      exact pm.map backV
    exact ⟨.ref d, upd H d (.lst (out.map backV)), I.laid (t' := s.toks) kp hd ⟨by rw [pm'.length_eq]; exact hz, out, n, vals_back h3, hn⟩, rfl, q _ d pm' (List.pairwise_map.mpr pw) (I.hok.fresh hd)⟩
theorem back_refs : ∀ as : List Addr, (as.map Value.ref).map backV = as.map V.ref
  | [] => rfl
  | a :: as => congrArg (V.ref a :: ·) (back_refs as)
theorem refs_all : ∀ vs : List Value, (∀ v ∈ vs, ∃ a, v = Value.ref a) → ∃ as : List Addr, vs = as.map Value.ref
  | [], _ => ⟨[], rfl⟩
  | v :: vs, h => by
    obtain ⟨a, e⟩ := h v List.mem_cons_self
    obtain ⟨as, e2⟩ := refs_all vs fun u hu => h u (List.mem_cons_of_mem _ hu)
    exact ⟨a :: as, by rw [e, e2]; rfl⟩
theorem ref_inj {a b : Addr} (h : Value.ref a = Value.ref b) : a = b := by cases h; rfl
theorem perm_refs {as bs : List Addr} (h : (as.map Value.ref).Perm (bs.map Value.ref)) : as.Perm bs := by
  have back : ∀ l : List Addr, (l.map Value.ref).map (fun v => match v with | .ref a => a | _ => 0) = l := fun l => by
    induction l with
    | nil => rfl
    | cons a l ih => exact congrArg (a :: ·) ih
  have q := h.map (fun v => match v with | .ref a => a | _ => (0 : Addr))
  rw [back, back] at q
  exact q
theorem vals_refs : ∀ as : List Addr, Vals (as.map V.ref) (as.map Value.ref)
  | [] => .nil
  | a :: as => .cons rfl (vals_refs as)
theorem cr_sortSK (hc : X.calm = true) : CallR X (.builtin "sorted") (rSortSK X.K X.prog X.w) := by
  intro pins s σ H vs us Q I r h
  obtain ⟨a, L, k, rfl, ha, hL, hk, q⟩ := h
  obtain ⟨es, ep, t, R⟩ := (show ObjOk X.prog X.w H s.heap a (SetK X.prog X.w a L) from I.hok a _ ha).1
  obtain ⟨o, ho, hex, hd⟩ := id R.obj
  have size := rows_len R.are
  have few := R.few
  rw [Vals.ref1 r]
  refine Calls.call_function_entry kind_sorted plain_sorted entry_sorted (args_sorted1 _) ?_
  unfold Builtin.«sorted»
  refine wpAny_bind (m := checkCount "sorted" 1 1 _) (wpAny_pure ?_)
  refine wpAny_bind (collect_set (A := X.A.in1) (I.ok.hd hc) ⟨o, ho, hex.1, hd⟩ R.fits (by unfold scanBound; omega) R.tab.up R.led fun s1 vs k1 hz g1 o1 pm => ?_)
  have hes : es.toList.map (·.2) = (L.map (·.1)).map Value.ref := by
    rw [R.are]
    unfold rows
    rw [List.map_map, List.map_map]
    rfl
  rw [hes] at pm
  obtain ⟨as, eas⟩ := refs_all vs fun v hv => by
    obtain ⟨b, _, e⟩ := List.mem_map.mp (pm.mem_iff.mp hv)
    exact ⟨b, e.symm⟩
  subst eas
  have pas := perm_refs pm
  have len : (as.map Value.ref).length ≤ sizeLine := by
    rw [List.length_map, pas.length_eq, List.length_map, sizeLine_eq]
    omega
  refine wpAny_bind (wpAny_newList ?_ len)
  have hoL : (s1.heap.push (seqObj "list" (as.map Value.ref).toArray 0)).get? s1.heap.objs.size = some (seqObj "list" (as.map Value.ref).toArray 0) := Heap.get?_push_size _ rfl
  let kv : Value → List Str := fun v => match v with | .ref b => k b | _ => []
  have hp : ∀ v ∈ as.map Value.ref, kv v ≠ [] ∧ IsTP (s1.heap.push (seqObj "list" (as.map Value.ref).toArray 0)) v (kv v) := fun v hv => by
    obtain ⟨b, hb, e⟩ := List.mem_map.mp hv
    subst e
    obtain ⟨p, hp, e⟩ := List.mem_map.mp (pas.mem_iff.mp hb)
    subst e
    refine ⟨(hk p hp).1, (isTP_of I (t := p.1) (ks := k p.1) ?_).stay fun c u e _ => Heap.get?_push_of_some _ (k1 c u e)⟩
    have z := hL p hp
    rw [(hk p hp).2, List.map_map] at z
    exact z
  refine wpAny_bind (wpAny_holding (wpAny_call_entry slot_list_sort ⟨_, hoL, rfl⟩ entry_list_sort (SrtO.list_sort_ord (s := { s1 with heap := s1.heap.push (seqObj "list" (as.map Value.ref).toArray 0) }) (swo_L kv) hoL len (fun h2 => texts_sortable (by omega) hp fun o' e c => ?_) fun out hs hb => ⟨_, rfl, ?_⟩) (args_list_sort _)))
  · have e' : some o' = some (seqObj "list" (as.map Value.ref).toArray 0) := e.symm.trans hoL
    cases e'
    exact absurd (Value.type.inj c) (by decide)
  · obtain ⟨c, hc'⟩ := sortedHeap_at (vs := as.map Value.ref) (out := out.toArray) hoL
    obtain ⟨bs, ebs⟩ := refs_all out fun v hv => by
      obtain ⟨b, _, e⟩ := List.mem_map.mp (hb.perm.mem_iff.mp hv)
      exact ⟨b, e.symm⟩
    subst ebs
    have pbs := perm_refs hb.perm
    have pw : bs.Pairwise fun x y => ltL (k y) (k x) = false := List.pairwise_map.mp hs
    have hn : H s1.heap.objs.size = none := I.hok.fresh hz
    have kk : ∀ b u, s.heap.get? b = some u → (sortedHeap (s1.heap.push (seqObj "list" (as.map Value.ref).toArray 0)) s1.heap.objs.size (as.map Value.ref) (bs.map Value.ref).toArray).get? b = some u := fun b u e => by
      have z := k1 b u e
      have lt := Heap.lt_size z
      rw [sortedHeap_old (Nat.ne_of_lt lt) (by rw [size_push']; exact Nat.lt_succ_of_lt lt)]
      exact Heap.get?_push_of_some _ z
    have blen : (bs.map V.ref).length ≤ sizeLine := by
      rw [List.length_map, pbs.length_eq, pas.length_eq, List.length_map, sizeLine_eq]
      omega
    have J := I.call' (s' := { s1 with heap := sortedHeap (s1.heap.push (seqObj "list" (as.map Value.ref).toArray 0)) s1.heap.objs.size (as.map Value.ref) (bs.map Value.ref).toArray }) (ch := []) o1 (Un.laid kk hz hn)
      (HOk.laid (o := .lst (bs.map V.ref)) I.hok kk hz ⟨blen, bs.map Value.ref, c, vals_refs bs, by simpa using hc'⟩) (by rw [g1]; exact I.bare) (fun _ z => nomatch z)
    exact wpAny_pure ⟨_, rfl, .ref s1.heap.objs.size, _, J, rfl, q bs s1.heap.objs.size (pbs.trans pas) pw hn⟩
end
end Sx

/-! SxCalls -/
/-! min, max, sorted of texts in lists and tuples; loops over either. -/
namespace Sx
open PySem PySem.Spec PyProof.Rows L2

/-- xs stand in a list or a tuple at a -/
def Sq (K : PySem.W.Frag) (H : Hp) (a : Addr) (xs : List V) : Prop := SqL K H a xs ∨ SqT K H a xs
section
variable {prog : Program} {w : World} {A : Around} {E : Value → Shared → Prop} {s : Shared} {l : Addr} {vs : List Value}
def sv : Value → Str
  | .str x _ => x
  | _ => ⟨#[]⟩
theorem sv_of {ks : List Str} {us : List Value} (r : Vals (ks.map V.str) us) : us.map sv = ks ∧ ∀ u ∈ us, ∃ t, u = .str (sv u) t := by
  induction ks generalizing us with
  | nil =>
    cases r
    exact ⟨rfl, fun u hu => nomatch hu⟩
  | cons k ks ih =>
    cases r with
    | cons h1 h2 =>
      obtain ⟨t, e⟩ := h1
      subst e
      obtain ⟨e1, e2⟩ := ih h2
      refine ⟨by rw [List.map_cons, e1]; rfl, fun u hu => ?_⟩
      rcases List.mem_cons.mp hu with z | z
      · exact ⟨t, by rw [z]; rfl⟩
      · exact e2 u z
theorem of_sv : ∀ {us : List Value}, (∀ u ∈ us, ∃ t, u = .str (sv u) t) → Vals ((us.map sv).map V.str) us
  | [], _ => .nil
  | u :: us, h => by
    obtain ⟨t, e⟩ := h u List.mem_cons_self
    exact .cons ⟨t, e⟩ (of_sv fun v hv => h v (List.mem_cons_of_mem _ hv))
theorem cmp_gt {its : Array Value} (h : ∀ u ∈ its.toList, ∃ t, u = .str (sv u) t) : CmpOf prog w A .Gt (fun i v => its[i]? = some v) (fun i j => ltS (sv (its[j]?.getD .none)) (sv (its[i]?.getD .none))) := fun i j vi vj s Q E hi hj hq => by
  dsimp only at hi hj hq
  rw [hi, hj] at hq
  obtain ⟨t, e⟩ := h vi (List.mem_of_getElem? (by rw [Array.getElem?_toList]; exact hi))
  obtain ⟨u, e2⟩ := h vj (List.mem_of_getElem? (by rw [Array.getElem?_toList]; exact hj))
  rw [e, e2] at hq ⊢
  exact richCompare_gives (op := .Gt) (typeIs_str s _ t) (typeIs_str s _ u) F.slot_str_gt F.entry_str_gt (F.args_str_gt_2 _ _) (gives_str_gt _ _ t u) (fun e => nomatch e) hq
theorem cmp_lt {its : Array Value} (h : ∀ u ∈ its.toList, ∃ t, u = .str (sv u) t) : CmpOf prog w A .Lt (fun i v => its[i]? = some v) (fun i j => ltS (sv (its[i]?.getD .none)) (sv (its[j]?.getD .none))) := fun i j vi vj s Q E hi hj hq => by
  dsimp only at hi hj hq
  rw [hi, hj] at hq
  obtain ⟨t, e⟩ := h vi (List.mem_of_getElem? (by rw [Array.getElem?_toList]; exact hi))
  obtain ⟨u, e2⟩ := h vj (List.mem_of_getElem? (by rw [Array.getElem?_toList]; exact hj))
  rw [e, e2] at hq ⊢
  exact richCompare_gives (op := .Lt) (typeIs_str s _ t) (typeIs_str s _ u) F.slot_str_lt F.entry_str_lt (F.args_str_lt_2 _ _) (gives_str_lt _ _ t u) (fun e => nomatch e) hq
theorem iter_tup {its : Array Value} {Q : Value → Shared → Prop} (hl : s.heap.IsTuple l its)
    (h : ∀ s₂ : Shared, s₂ = { s with heap := s.heap.push { cls := .type "tuple_iterator", data := .fields #[.ref l, .int 0 0] } } →
      (s₂.heap.IsTupleIter s.heap.objs.size l 0 ∧ s₂.heap.IsTuple l its) → (∀ b ∈ [s.heap.objs.size, l], b < s₂.heap.objs.size) → l ≠ s.heap.objs.size → Q (.ref s.heap.objs.size) s₂) : wpAny (model prog w) A (pyIter (.ref l)) Q E s := by
  obtain ⟨o, e, c, n, d⟩ := id hl
  have lt : l < s.heap.objs.size := Heap.lt_size e
  refine wpAny_pyIter_tuple hl (h _ rfl ⟨⟨_, Heap.get?_push_size _ rfl, rfl, rfl⟩, ⟨o, Heap.get?_push_of_some _ e, c, n, d⟩⟩ (fun b hb => ?_) (Nat.ne_of_lt lt))
  show b < (s.heap.push _).objs.size
  rw [Heap.size_push]
  rcases List.mem_cons.mp hb with z | hb
  · rw [z]; exact Nat.lt_succ_self _
  · rw [List.mem_singleton.mp hb]; exact Nat.lt_succ_of_lt lt
theorem kept_tup {h' : Heap} (hk : ∀ b o, b ∉ [s.heap.objs.size] → (s.heap.push { cls := .type "tuple_iterator", data := .fields #[.ref l, .int 0 0] }).get? b = some o → h'.get? b = some o) :
    ∀ b o, s.heap.get? b = some o → h'.get? b = some o := fun b o e => hk b o (fun z => by
      rw [List.mem_singleton.mp z] at e
      exact Nat.lt_irrefl _ (Heap.lt_size e)) (Heap.get?_push_of_some _ e)
/-- of two texts the greater, the lesser -/
def mxS (a b : Str) : Str := if ltS a b = true then b else a
def mnS (a b : Str) : Str := if ltS b a = true then b else a
theorem max_two {a b : Str} {t u : Tok} {Q : Value → Shared → Prop} (hh : A.handled = none) (hl : s.heap.IsList l #[.str a t, .str b u] ∨ s.heap.IsTuple l #[.str a t, .str b u])
    (h : ∀ v h' tk, (∃ t, v = .str (mxS a b) t) → (∀ d o, s.heap.get? d = some o → h'.get? d = some o) → Q v { s with heap := h', toks := tk }) : wpAny (model prog w) A (call (.builtin "max") [.ref l]) Q E s := by
  have every : ∀ v ∈ (#[.str a t, .str b u] : Array Value).toList, ∃ t, v = .str (sv v) t := fun v hv => by
    rcases List.mem_cons.mp hv with z | hv
    · exact ⟨t, by rw [z]; rfl⟩
    · exact ⟨u, by rw [List.mem_singleton.mp hv]; rfl⟩
  have pick : ∀ v, (#[.str a t, .str b u] : Array Value)[argBest (fun i j => ltS (sv ((#[.str a t, .str b u] : Array Value)[j]?.getD .none)) (sv ((#[.str a t, .str b u] : Array Value)[i]?.getD .none))) (2 - 1)]? = some v → ∃ t, v = .str (mxS a b) t := fun v hv => by
    cases q : ltS a b with
    | true =>
      have e : argBest (fun i j => ltS (sv ((#[.str a t, .str b u] : Array Value)[j]?.getD .none)) (sv ((#[.str a t, .str b u] : Array Value)[i]?.getD .none))) (2 - 1) = 1 := by
        show (if ltS a b = true then 0 + 1 else 0) = 1
        rw [q]; rfl
      rw [e] at hv
      exact ⟨u, by unfold mxS; rw [q]; exact (Option.some.inj hv).symm⟩
    | false =>
      have e : argBest (fun i j => ltS (sv ((#[.str a t, .str b u] : Array Value)[j]?.getD .none)) (sv ((#[.str a t, .str b u] : Array Value)[i]?.getD .none))) (2 - 1) = 0 := by
        show (if ltS a b = true then 0 + 1 else 0) = 0
        rw [q]; rfl
      rw [e] at hv
      exact ⟨t, by unfold mxS; rw [q]; exact (Option.some.inj hv).symm⟩
  rcases hl with hl | hl
  · refine call_max_walk (iter_anyList hl fun s₂ e st hfp ne => ?_)
    subst e
    exact ⟨_, _, _, _, _, _, _, rfl, Walks.list (A := A.in1) hh _ l ne #[.str a t, .str b u], st, hfp, by simp, cmp_gt every, fun v h' tk hP hk => h v h' tk (pick v hP) (PySem.old_kept hk)⟩
  · refine call_max_walk (iter_tup hl fun s₂ e st hfp ne => ?_)
    subst e
    exact ⟨_, _, _, _, _, _, _, rfl, Walks.tuple (A := A.in1) hh _ l ne #[.str a t, .str b u], st, hfp, by simp, cmp_gt every, fun v h' tk hP hk => h v h' tk (pick v hP) (kept_tup hk)⟩
theorem min_two {a b : Str} {t u : Tok} {Q : Value → Shared → Prop} (hh : A.handled = none) (hl : s.heap.IsList l #[.str a t, .str b u] ∨ s.heap.IsTuple l #[.str a t, .str b u])
    (h : ∀ v h' tk, (∃ t, v = .str (mnS a b) t) → (∀ d o, s.heap.get? d = some o → h'.get? d = some o) → Q v { s with heap := h', toks := tk }) : wpAny (model prog w) A (call (.builtin "min") [.ref l]) Q E s := by
  have every : ∀ v ∈ (#[.str a t, .str b u] : Array Value).toList, ∃ t, v = .str (sv v) t := fun v hv => by
    rcases List.mem_cons.mp hv with z | hv
    · exact ⟨t, by rw [z]; rfl⟩
    · exact ⟨u, by rw [List.mem_singleton.mp hv]; rfl⟩
  have pick : ∀ v, (#[.str a t, .str b u] : Array Value)[argBest (fun i j => ltS (sv ((#[.str a t, .str b u] : Array Value)[i]?.getD .none)) (sv ((#[.str a t, .str b u] : Array Value)[j]?.getD .none))) (2 - 1)]? = some v → ∃ t, v = .str (mnS a b) t := fun v hv => by
    cases q : ltS b a with
    | true =>
      have e : argBest (fun i j => ltS (sv ((#[.str a t, .str b u] : Array Value)[i]?.getD .none)) (sv ((#[.str a t, .str b u] : Array Value)[j]?.getD .none))) (2 - 1) = 1 := by
        show (if ltS b a = true then 0 + 1 else 0) = 1
        rw [q]; rfl
      rw [e] at hv
      exact ⟨u, by unfold mnS; rw [q]; exact (Option.some.inj hv).symm⟩
    | false =>
      have e : argBest (fun i j => ltS (sv ((#[.str a t, .str b u] : Array Value)[i]?.getD .none)) (sv ((#[.str a t, .str b u] : Array Value)[j]?.getD .none))) (2 - 1) = 0 := by
        show (if ltS b a = true then 0 + 1 else 0) = 0
        rw [q]; rfl
      rw [e] at hv
      exact ⟨t, by unfold mnS; rw [q]; exact (Option.some.inj hv).symm⟩
  rcases hl with hl | hl
  · refine call_min_walk (iter_anyList hl fun s₂ e st hfp ne => ?_)
    subst e
    exact ⟨_, _, _, _, _, _, _, rfl, Walks.list (A := A.in1) hh _ l ne #[.str a t, .str b u], st, hfp, by simp, cmp_lt every, fun v h' tk hP hk => h v h' tk (pick v hP) (PySem.old_kept hk)⟩
  · refine call_min_walk (iter_tup hl fun s₂ e st hfp ne => ?_)
    subst e
    exact ⟨_, _, _, _, _, _, _, rfl, Walks.tuple (A := A.in1) hh _ l ne #[.str a t, .str b u], st, hfp, by simp, cmp_lt every, fun v h' tk hP hk => h v h' tk (pick v hP) (kept_tup hk)⟩
/-- collect of a tuple -/
theorem collect_tup {Q : List Value → Shared → Prop} (hl : s.heap.IsTuple l vs.toArray) (hz : vs.length ≤ sizeLine)
    (h : ∀ h', (∀ b o, s.heap.get? b = some o → h'.get? b = some o) → s.heap.objs.size ≤ h'.objs.size → Q vs { s with heap := h' }) : wpAny (model prog w) A (collect (.ref l)) Q E s := by
  obtain ⟨o, ho, hc, n, hd⟩ := id hl
  unfold collect
  refine wpAny_bind (wpAny_runValue (codeAny_builtin entry_proto_collect' ?_))
  show wpAny _ _ (do again (.builtin "list.__iadd__" ⟨[← newList [], .ref l], []⟩)) _ _ s
  refine wpAny_bind (wpAny_newList (wpAny_pure ⟨Code.quiet_builtin _ (by decide +kernel), codeAny_builtin entry_list_iadd' ?_⟩))
  show wpAny _ _ (Builtin.List.listExtendWith (.ref s.heap.objs.size) (.ref l) (.ref s.heap.objs.size)) _ _ { s with heap := s.heap.push (seqObj "list" #[] 0) }
  unfold Builtin.List.listExtendWith
  have ho' : (s.heap.push (seqObj "list" #[] 0)).get? l = some o := Heap.get?_push_of_some _ ho
  refine wpAny_bind (wpAny_typeOf (T := "tuple") ⟨o, ho', hc⟩ ?_)
  have ht : (Value.type "tuple" == Value.type "tuple") = true := by rfl
  rw [if_pos (by rw [ht]; simp)]
  refine wpAny_bind (listItems_at ho' hd (listItems_at (xs := #[]) (n := 0) (Heap.get?_push_size _ rfl) rfl ?_ |> wpAny_bind))
  rw [if_neg (by simp)]
  refine wpAny_bind (listUpdate_at (xs := #[]) (n := 0) (Heap.get?_push_size _ rfl) rfl ?_ (Nat.zero_le _) (by simp only [Array.size_append, List.size_toArray, List.length_nil]; omega))
  refine wpAny_pure ?_
  show wpAny (model prog w) A (do
      let o ← load s.heap.objs.size
      match o.data with
      | .seq xs _ => pure xs.toList
      | _ => unsupported "internal:collect") Q E { s with heap := (s.heap.push (seqObj "list" #[] 0)).update s.heap.objs.size (Obj.mapSeq (· ++ vs.toArray)) }
  refine wpAny_bind (wpAny_load (get?_update_seq (Heap.get?_push_size _ rfl) _) ?_)
  show wpAny _ _ (pure ((#[] : Array Value) ++ vs.toArray).toList) Q E _
  rw [show ((#[] : Array Value) ++ vs.toArray).toList = vs by simp]
  refine wpAny_pure (h _ (fun b u e => ?_) ?_)
  · rw [Heap.get?_update_ne _ _ _ _ (Nat.ne_of_lt (Heap.lt_size e))]
    exact Heap.get?_push_of_some _ e
  · rw [Heap.size_update, Heap.size_push]
    exact Nat.le_succ _
theorem collect_lst {Q : List Value → Shared → Prop} (hl : s.heap.IsList l vs.toArray) (hz : vs.length ≤ sizeLine)
    (h : ∀ h', (∀ b o, s.heap.get? b = some o → h'.get? b = some o) → s.heap.objs.size ≤ h'.objs.size → Q vs { s with heap := h' }) : wpAny (model prog w) A (collect (.ref l)) Q E s := by
  refine collect_list hl (h _ (fun b u e => ?_) ?_) hz
  · rw [Heap.get?_update_ne _ _ _ _ (Nat.ne_of_lt (Heap.lt_size e))]
    exact Heap.get?_push_of_some _ e
  · rw [Heap.size_update, Heap.size_push]
    exact Nat.le_succ _
theorem swo_S {α : Type} (k : α → Str) : SrtO.Swo fun x y => ltS (k x) (k y) := by
  refine ⟨fun x y h => ltS_asym h, fun x y z h1 h2 => ?_⟩
  rcases ltS_tri (k x) (k y) with q | q | q
  · rcases ltS_tri (k y) (k z) with p | p | p
    · exact ltS_asym (ltS_tr q p)
    · rw [← p]; exact h1
    · rw [h2] at p; cases p
  · rw [q]; exact h2
  · rw [h1] at q; cases q
theorem txt_sortable {a : Addr} (h2 : 2 ≤ vs.length) (hv : ∀ u ∈ vs, ∃ t, u = .str (sv u) t) : SrtO.SortableO prog w A s a vs fun v u => ltS (sv v) (sv u) := by
  intro h' _
  refine ⟨oneType', fun Q E hq => ?_, fun p q hm hm' => ?_⟩
  · match vs, h2, hv with
    | v1 :: v2 :: rest, _, hv =>
      rw [keyKind_strs (Vals.strs (of_sv hv))]
      exact wpAny_pure hq
    | [], h, _ => exact absurd h (by decide)
    | [v], h, _ => exact absurd h (by simp)
  · obtain ⟨t, e⟩ := hv _ hm
    obtain ⟨u, e'⟩ := hv _ hm'
    show wpAny (model prog w) A (keyLt' oneType' p.1 q.1) (fun r s' => s' = _ ∧ r = ltS (sv p.1) (sv q.1)) (fun _ _ => False) _
    rw [e, e', keyLt'_oneType]
    exact oneLt_str ⟨rfl, rfl⟩
/-- sorted of texts, behind their collecting -/
theorem sorted_txt {x : Value} {Q : Value → Shared → Prop} (hv : ∀ u ∈ vs, ∃ t, u = .str (sv u) t) (hz : vs.length ≤ sizeLine)
    (hc : ∀ Q' : List Value → Shared → Prop, (∀ h', (∀ b o, s.heap.get? b = some o → h'.get? b = some o) → s.heap.objs.size ≤ h'.objs.size → Q' vs { s with heap := h' }) → wpAny (model prog w) A.in1 (collect x) Q' (fun _ _ => False) s)
    (h : ∀ h' d (out : List Value), out.Perm vs → out.Pairwise (fun v u => ltS (sv u) (sv v) = false) → (∀ b o, s.heap.get? b = some o → h'.get? b = some o) → s.heap.objs.size ≤ d → (∃ n, h'.get? d = some (seqObj "list" out.toArray n)) → Q (.ref d) { s with heap := h' }) :
    wpAny (model prog w) A (call (.builtin "sorted") [x]) Q E s := by
  refine Calls.call_function_entry kind_sorted plain_sorted entry_sorted (args_sorted1 _) ?_
  unfold Builtin.«sorted»
  refine wpAny_bind (m := checkCount "sorted" 1 1 _) (wpAny_pure ?_)
  refine wpAny_bind (wpAny_mono (hc _ fun h1 k1 z1 => ?_) (fun _ _ q => q) fun _ _ q => q.elim)
  refine wpAny_bind (wpAny_newList ?_ hz)
  have hoL : (h1.push (seqObj "list" vs.toArray 0)).get? h1.objs.size = some (seqObj "list" vs.toArray 0) := Heap.get?_push_size _ rfl
  refine wpAny_bind (wpAny_holding (wpAny_call_entry slot_list_sort ⟨_, hoL, rfl⟩ entry_list_sort (SrtO.list_sort_ord (s := { s with heap := h1.push (seqObj "list" vs.toArray 0) }) (swo_S sv) hoL hz (fun h2 => txt_sortable h2 hv) fun out hs hb => ⟨_, rfl, ?_⟩) (args_list_sort _)))
  refine wpAny_pure ⟨_, rfl, h _ h1.objs.size out hb.perm hs (fun b u e => ?_) z1 (sortedHeap_at (vs := vs) (out := out.toArray) hoL)⟩
  have z := k1 b u e
  have lt := Heap.lt_size z
  rw [sortedHeap_old (Nat.ne_of_lt lt) (by rw [size_push']; exact Nat.lt_succ_of_lt lt)]
  exact Heap.get?_push_of_some _ z
end

section
variable {X : Cx} {pins : List (Addr × Obj)} {σ : L2.St} {H : Hp} {s : Shared}
theorem two_of (I : Inv X pins σ H s) {l : Addr} {a b : Str} (h : Sq X.K H l [.str a, .str b]) : ∃ t u, s.heap.IsList l #[.str a t, .str b u] ∨ s.heap.IsTuple l #[.str a t, .str b u] := by
  rcases h with h | h
  · obtain ⟨its, r, hl, _⟩ := I.list h
    obtain ⟨u1, u2, rfl, ⟨t, rfl⟩, ⟨u, rfl⟩⟩ := vals2 r
    exact ⟨t, u, .inl hl.isList⟩
  · obtain ⟨its, r, ht, _⟩ := I.tuple h
    obtain ⟨u1, u2, rfl, ⟨t, rfl⟩, ⟨u, rfl⟩⟩ := vals2 r
    exact ⟨t, u, .inr ht⟩
/-- max, min of a pair of texts -/
def rMxS (K : PySem.W.Frag) : List V → Hp → VK → Prop := fun vs H Q => ∃ l a b, vs = [V.ref l] ∧ Sq K H l [.str a, .str b] ∧ Q (.str (mxS a b)) H
def rMnS (K : PySem.W.Frag) : List V → Hp → VK → Prop := fun vs H Q => ∃ l a b, vs = [V.ref l] ∧ Sq K H l [.str a, .str b] ∧ Q (.str (mnS a b)) H
theorem cr_mxS (hc : X.calm = true) : CallR X (.builtin "max") (rMxS X.K) := by
  intro pins s σ H vs us Q I r h
  obtain ⟨l, a, b, rfl, hs, q⟩ := h
  obtain ⟨t, u, hl⟩ := two_of I hs
  rw [Vals.ref1 r]
  refine max_two (I.ok.hd hc) hl fun v h' tk ⟨t', e⟩ hk => ⟨.str (mxS a b), H, I.kept hk, ⟨t', e⟩, q⟩
theorem cr_mnS (hc : X.calm = true) : CallR X (.builtin "min") (rMnS X.K) := by
  intro pins s σ H vs us Q I r h
  obtain ⟨l, a, b, rfl, hs, q⟩ := h
  obtain ⟨t, u, hl⟩ := two_of I hs
  rw [Vals.ref1 r]
  refine min_two (I.ok.hd hc) hl fun v h' tk ⟨t', e⟩ hk => ⟨.str (mnS a b), H, I.kept hk, ⟨t', e⟩, q⟩
/-- sorted of texts in a list or a tuple -/
def rSortX (K : PySem.W.Frag) : List V → Hp → VK → Prop := fun vs H Q => ∃ l ks, vs = [V.ref l] ∧ Sq K H l (ks.map V.str) ∧
  ∀ (ys : List Str) (p : Addr), ys.Perm ks → ys.Pairwise (fun x y => ltS y x = false) → H p = none → Q (.ref p) (upd H p (.lst (ys.map V.str)))
theorem cr_sortX : CallR X (.builtin "sorted") (rSortX X.K) := by
  intro pins s σ H vs us Q I r h
  obtain ⟨l, ks, rfl, hs, q⟩ := h
  rw [Vals.ref1 r]
  have both : ∃ its : List Value, Vals (ks.map V.str) its ∧ its.length ≤ sizeLine ∧ (s.heap.IsList l its.toArray ∨ s.heap.IsTuple l its.toArray) := by
    rcases hs with h | h
    · obtain ⟨its, r, hl, hz⟩ := I.list h
      exact ⟨its, r, by rw [← Paired.length r]; exact hz, .inl hl.isList⟩
    · obtain ⟨its, r, ht, hz⟩ := I.tuple h
      exact ⟨its, r, by rw [← Paired.length r]; exact hz, .inr ht⟩
  obtain ⟨its, rv, hz, hl⟩ := both
  obtain ⟨e1, e2⟩ := sv_of rv
  refine sorted_txt e2 hz (fun Q' hq => ?_) fun h' d out pm pw kp hd hn => ?_
  · rcases hl with hl | hl
    · exact collect_lst hl hz hq
    · exact collect_tup hl hz hq
  · obtain ⟨n, hn⟩ := hn
    have e3 : ∀ u ∈ out, ∃ t, u = .str (sv u) t := fun u hu => e2 u (pm.mem_iff.mp hu)
    have pm' : (out.map sv).Perm ks := by
      rw [← e1]
      exact pm.map sv
    have len : ((out.map sv).map V.str).length ≤ sizeLine := by
      rw [List.length_map, List.length_map, pm.length_eq]
      exact hz
    exact ⟨.ref d, upd H d (.lst ((out.map sv).map V.str)), I.laid (t' := s.toks) kp hd ⟨len, out, n, of_sv e3, hn⟩, rfl, q (out.map sv) d pm' (List.pairwise_map.mpr pw) (I.hok.fresh hd)⟩
/-- what is walked may be this or that: the reading tells which -/
def iOr (w1 w2 : TI) : TI := fun σ H R => w1 σ H R ∨ w2 σ H R
theorem pi_or {tg iter : Expr} {w1 w2 : TI} (h1 : PI X tg iter w1) (h2 : PI X tg iter w2) : PI X tg iter (iOr w1 w2) :=
  ⟨fun pins s σ H R I h => h.elim (h1.run pins s σ H R I) (h2.run pins s σ H R I)⟩
/-- a list or a tuple that a name holds -/
abbrev iSq (K : PySem.W.Frag) (te : TE) : TI := iOr (iList K te) (iTup K te)
theorem pi_sq {tg e : Expr} {te : TE} (he : PE X e te) : PI X tg e (iSq X.K te) := pi_or (pi_list he) (pi_tup he)
end
theorem Sq.same {K : PySem.W.Frag} {H H' : Hp} {a : Addr} {xs : List V} (e : ∀ b o, H b = some o → H' b = some o) (h : Sq K H a xs) : Sq K H' a xs := by
  rcases h with h | h
  · exact .inl (Same.seq e h)
  · rcases h with (h | ⟨o, h⟩) | h
    · exact .inr (.inl (.inl (e _ _ h)))
    · exact .inr (.inl (.inr ⟨o, e _ _ h⟩))
    · exact .inr (.inr h)
/-- the heap without what stands at p -/
def er (p : Addr) (H : Hp) : Hp := fun b => if b = p then none else H b
theorem er_ne {p b : Addr} {H : Hp} (h : b ≠ p) : er p H b = H b := if_neg h
theorem er_self {p : Addr} {H : Hp} : er p H p = none := if_pos rfl
theorem er_some {p b : Addr} {H : Hp} {o : HO} (h : er p H b = some o) : b ≠ p ∧ H b = some o := by
  by_cases e : b = p
  · rw [e, er_self] at h; cases h
  · rw [er_ne e] at h; exact ⟨e, h⟩
theorem er_same (p : Addr) (H : Hp) : Same (er p H) H := fun b o h => (er_some h).2
theorem er_keep {p : Addr} {H H' : Hp} (k : ∀ b o, H b = some o → b ≠ p → H' b = some o) : Same (er p H) H' := fun b o h => k b o (er_some h).2 (er_some h).1
theorem er_mono {p : Addr} {H H' : Hp} (k : Same H H') : Same (er p H) (er p H') := fun b o h => by
  obtain ⟨n, q⟩ := er_some h
  rw [er_ne n]
  exact k b o q
theorem sqT_same {K : PySem.W.Frag} {H H' : Hp} {a : Addr} {xs : List V} (e : Same H H') (h : SqT K H a xs) : SqT K H' a xs := by
  rcases h with (h | ⟨o, h⟩) | h
  · exact .inl (.inl (e _ _ h))
  · exact .inl (.inr ⟨o, e _ _ h⟩)
  · exact .inr h
/-- what is no list, no tuple and not locked doesn't matter -/
theorem Sq.er {K : PySem.W.Frag} {H : Hp} {p a C dx : Addr} {fs : List (Str × V)} {xs : List V} (hp : H p = some (.ins C dx fs)) (h : Sq K H a xs) : Sq K (er p H) a xs := by
  have k : ∀ {o : HO}, H a = some o → (∀ C dx fs, o ≠ .ins C dx fs) → Sx.er p H a = some o := fun {o} e n => by
    refine (er_ne fun z => ?_).trans e
    rw [z, hp] at e
    cases e
    exact n _ _ _ rfl
  rcases h with ((h | ⟨o, h⟩) | h) | ((h | ⟨o, h⟩) | h)
  · exact .inl (.inl (.inl (k h fun _ _ _ z => nomatch z)))
  · exact .inl (.inl (.inr ⟨o, k h fun _ _ _ z => nomatch z⟩))
  · exact .inl (.inr h)
  · exact .inr (.inl (.inl (k h fun _ _ _ z => nomatch z)))
  · exact .inr (.inl (.inr ⟨o, k h fun _ _ _ z => nomatch z⟩))
  · exact .inr (.inr h)
/-- for x in y, y a name that holds a list or a tuple -/
theorem for_sq {K : PySem.W.Frag} {i : Nat} {a : Addr} {xs : List V} {g : TG} {tb : TS} {D : Ends} {σ : L2.St} {H Hx : Hp} (hv : σ[i]? = some (some (.ref a))) (hx : Sq K Hx a xs) (Pv : Nat → L2.St → Hp → Prop) (h0 : Pv 0 σ H) (hl : ∀ i σ' H', Pv i σ' H' → Same Hx H')
    (hs : ∀ i x σ' H', xs[i]? = some x → Pv i σ' H' → g x σ' H' fun σ2 H2 => tb { D with nx := Pv (i + 1), ct := Pv (i + 1), bk := D.nx } σ2 H2) (hd : ∀ σ' H', Pv xs.length σ' H' → D.nx σ' H') : tFor (iSq K (tVar i)) g tb D σ H := by
  rcases hx with hx | hx
  · exact .inl ⟨_, hv, a, rfl, ⟨xs, Same.seq (hl _ _ _ h0) hx⟩, for_list (xs := xs) Pv h0 (fun i σ' H' _ p => Same.seq (hl i σ' H' p) hx) hs hd⟩
  · exact .inr ⟨_, hv, a, rfl, ⟨xs, sqT_same (hl _ _ _ h0) hx⟩, for_tup (xs := xs) Pv h0 (fun i σ' H' _ p => sqT_same (hl i σ' H' p) hx) hs hd⟩
end Sx

/-! SxOrd -/
/-! Lists put in order without doubles; what a Book holds. -/
namespace Sx
open PySem PySem.Spec PyProof.Rows L2

structure Tot {α : Type} (lt : α → α → Bool) : Prop where
  irr : ∀ a, lt a a = false
  tr : ∀ {a b c}, lt a b = true → lt b c = true → lt a c = true
  tri : ∀ a b, lt a b = true ∨ a = b ∨ lt b a = true
section
variable {α : Type} {lt : α → α → Bool}
theorem Tot.asym (O : Tot lt) {a b : α} (h : lt a b = true) : lt b a = false := by
  cases q : lt b a with
  | false => rfl
  | true =>
    have z := O.tr h q
    rw [O.irr] at z
    cases z
theorem Tot.eq (O : Tot lt) {a b : α} (h : lt a b = false) (g : lt b a = false) : a = b := by
  rcases O.tri a b with q | q | q
  · rw [h] at q; cases q
  · exact q
  · rw [g] at q; cases q
def ins (lt : α → α → Bool) (x : α) : List α → List α
  | [] => [x]
  | y :: l => if lt x y = true then x :: y :: l else if lt y x = true then y :: ins lt x l else y :: l
def srt (lt : α → α → Bool) (l : List α) : List α := l.foldr (ins lt) []
abbrev Up (lt : α → α → Bool) (l : List α) : Prop := l.Pairwise fun a b => lt a b = true
theorem mem_ins' (O : Tot lt) {x z : α} : ∀ {l : List α}, z ∈ ins lt x l ↔ z = x ∨ z ∈ l
  | [] => by simp [ins]
  | y :: l => by
    unfold ins
    by_cases h : lt x y = true
    · rw [if_pos h, List.mem_cons]
    · rw [if_neg h]
      by_cases g : lt y x = true
      · rw [if_pos g, List.mem_cons, mem_ins' O (l := l), List.mem_cons]
        constructor
        · rintro (q | q | q)
          · exact .inr (.inl q)
          · exact .inl q
          · exact .inr (.inr q)
        · rintro (q | q | q)
          · exact .inr (.inl q)
          · exact .inl q
          · exact .inr (.inr q)
      · rw [if_neg g]
        have e : x = y := O.eq (by simpa using h) (by simpa using g)
        subst e
        rw [List.mem_cons]
        constructor
        · intro q; exact .inr q
        · rintro (q | q)
          · exact .inl q
          · exact q
theorem up_ins (O : Tot lt) {x : α} : ∀ {l : List α}, Up lt l → Up lt (ins lt x l)
  | [], _ => by simp [ins, Up]
  | y :: l, h => by
    obtain ⟨h1, h2⟩ := List.pairwise_cons.mp h
    unfold ins
    by_cases c : lt x y = true
    · rw [if_pos c]
      refine List.pairwise_cons.mpr ⟨fun z hz => ?_, h⟩
      rcases List.mem_cons.mp hz with e | hz
      · rw [e]; exact c
      · exact O.tr c (h1 z hz)
    · rw [if_neg c]
      by_cases g : lt y x = true
      · rw [if_pos g]
        refine List.pairwise_cons.mpr ⟨fun z hz => ?_, up_ins O h2⟩
        rcases (mem_ins' O).mp hz with e | hz
        · rw [e]; exact g
        · exact h1 z hz
      · rw [if_neg g]
        exact h
theorem mem_srt (O : Tot lt) {z : α} : ∀ {l : List α}, z ∈ srt lt l ↔ z ∈ l
  | [] => Iff.rfl
  | x :: l => by
    show z ∈ ins lt x (srt lt l) ↔ _
    rw [mem_ins' O, mem_srt O, List.mem_cons]
theorem up_srt (O : Tot lt) : ∀ l : List α, Up lt (srt lt l)
  | [] => List.Pairwise.nil
  | x :: l => up_ins O (up_srt O l)
theorem up_nodup (O : Tot lt) {l : List α} (h : Up lt l) : l.Nodup := h.imp fun {a b} q e => by
  rw [e, O.irr] at q
  cases q
/-- there is one ascending list of the same members -/
theorem up_one (O : Tot lt) : ∀ {l m : List α}, Up lt l → Up lt m → (∀ z, z ∈ l ↔ z ∈ m) → l = m
  | [], [], _, _, _ => rfl
  | [], y :: m, _, _, h => absurd ((h y).mpr List.mem_cons_self) (by simp)
  | x :: l, [], _, _, h => absurd ((h x).mp List.mem_cons_self) (by simp)
  | x :: l, y :: m, hl, hm, h => by
    obtain ⟨a1, a2⟩ := List.pairwise_cons.mp hl
    obtain ⟨b1, b2⟩ := List.pairwise_cons.mp hm
    have e : x = y := by
      rcases List.mem_cons.mp ((h x).mp List.mem_cons_self) with q | q
      · exact q
      · rcases List.mem_cons.mp ((h y).mpr List.mem_cons_self) with p | p
        · exact p.symm
        · have z := O.asym (b1 x q)
          rw [a1 y p] at z
          cases z
    subst e
    have no : ∀ {k : List α}, (∀ z ∈ k, lt x z = true) → x ∉ k := fun k m => by
      have z := k x m
      rw [O.irr] at z
      cases z
    rw [up_one O a2 b2 fun z => ?_]
    have q := h z
    rw [List.mem_cons, List.mem_cons] at q
    constructor
    · intro hz
      rcases q.mp (.inr hz) with e | w
      · rw [e] at hz; exact absurd hz (no a1)
      · exact w
    · intro hz
      rcases q.mpr (.inr hz) with e | w
      · rw [e] at hz; exact absurd hz (no b1)
      · exact w
theorem srt_self (O : Tot lt) {l : List α} (h : Up lt l) : srt lt l = l := up_one O (up_srt O l) h fun z => mem_srt O
theorem srt_same (O : Tot lt) {l m : List α} (h : ∀ z, z ∈ l ↔ z ∈ m) : srt lt l = srt lt m := up_one O (up_srt O l) (up_srt O m) fun z => by rw [mem_srt O, mem_srt O, h]
/-- sorted as Python says (no double there) is ascending -/
theorem up_of (O : Tot lt) : ∀ {l : List α}, l.Nodup → l.Pairwise (fun x y => lt y x = false) → Up lt l
  | [], _, _ => List.Pairwise.nil
  | x :: l, n, h => by
    obtain ⟨n1, n2⟩ := List.nodup_cons.mp n
    obtain ⟨h1, h2⟩ := List.pairwise_cons.mp h
    refine List.pairwise_cons.mpr ⟨fun z hz => ?_, up_of O n2 h2⟩
    rcases O.tri x z with q | q | q
    · exact q
    · rw [q] at n1; exact absurd hz n1
    · rw [h1 z hz] at q; cases q
end
theorem ltCps_is : ∀ a b : List Nat, ltCps a b = decide (a < b)
  | [], [] => rfl
  | [], b :: bs => (decide_eq_true (by simp)).symm
  | a :: as, [] => (decide_eq_false (by simp)).symm
  | a :: as, b :: bs => by
    show (decide (a < b) || (a == b && ltCps as bs)) = _
    rw [ltCps_is as bs, Bool.eq_iff_iff, decide_eq_true_eq, List.cons_lt_cons_iff, Bool.or_eq_true, Bool.and_eq_true, decide_eq_true_eq, beq_iff_eq, decide_eq_true_eq]
theorem rising_pw : ∀ (r : List Str) (p : Str), risingS p r = true → (p :: r).Pairwise fun x y => ltS y x = false
  | [], p, _ => List.pairwise_singleton _ _
  | x :: r, p, h => by
    unfold risingS at h
    rw [Bool.and_eq_true, Bool.not_eq_true', ltCps_is] at h
    have ih := rising_pw r x h.2
    have ih2 := List.pairwise_cons.mp ih
    refine List.pairwise_cons.mpr ⟨fun z hz => ?_, ih⟩
    rcases List.mem_cons.mp hz with e | hz
    · rw [e]; exact h.1
    · have a := ih2.1 z hz
      cases q : ltS z p with
      | false => rfl
      | true =>
        rcases ltS_tri p x with c | c | c
        · rw [ltS_tr q c] at a; cases a
        · rw [← c, q] at a; cases a
        · have b := h.1
          rw [show decide (x.cps.toList < p.cps.toList) = ltS x p from rfl, c] at b
          cases b
theorem sortedS_pw {l : List Str} (h : sortedS l = true) : l.Pairwise fun x y => ltS y x = false := by
  cases l with
  | nil => exact List.Pairwise.nil
  | cons x r => exact rising_pw r x h
theorem totS : Tot ltS := ⟨ltS_irr, ltS_tr, ltS_tri⟩
def ltP (p q : Str × Str) : Bool := ltL [p.1, p.2] [q.1, q.2]
theorem totP : Tot ltP := by
  refine ⟨fun a => ltL_irr _, fun h g => ltL_tr h g, fun a b => ?_⟩
  rcases ltL_tri [a.1, a.2] [b.1, b.2] with q | q | q
  · exact .inl q
  · refine .inr (.inl (Prod.ext ?_ ?_))
    · exact (List.cons.inj q).1
    · exact (List.cons.inj (List.cons.inj q).2).1
  · exact .inr (.inr q)
/-- the pair, the lesser text first -/
def nrm (p : Str × Str) : Str × Str := (mnS p.1 p.2, mxS p.1 p.2)
/-- who clashes with k, by ascending pairs -/
def nearM (cs : List (Str × Str)) (k : Str) : List Str := cs.filterMap fun c => if c.1 = k then some c.2 else if c.2 = k then some c.1 else none
theorem nearM_snoc (cs : List (Str × Str)) (c : Str × Str) (k : Str) : nearM (cs ++ [c]) k = nearM cs k ++ (if c.1 = k then [c.2] else if c.2 = k then [c.1] else []) := by
  unfold nearM
  rw [List.filterMap_append]
  by_cases h : c.1 = k
  · simp [List.filterMap_cons, h]
  · by_cases g : c.2 = k
    · simp [List.filterMap_cons, h, g]
    · simp [List.filterMap_cons, h, g]
theorem paired_get {α β : Type} {F : α → β → Prop} : ∀ {xs : List α} {ys : List β} {i : Nat} {x : α}, Paired F xs ys → xs[i]? = some x → ∃ y, ys[i]? = some y ∧ F x y
  | _, _, _, _, .nil, e => by simp at e
  | _, _, 0, x, .cons r _, e => by
    cases e
    exact ⟨_, rfl, r⟩
  | _, _, i + 1, x, .cons _ t, e => paired_get (i := i) t e
theorem paired_imp {α β : Type} {F G : α → β → Prop} (f : ∀ a b, F a b → G a b) : ∀ {xs : List α} {ys : List β}, Paired F xs ys → Paired G xs ys
  | _, _, .nil => .nil
  | _, _, .cons r t => .cons (f _ _ r) (paired_imp f t)
/-- more of a kind than there are: not without doubles -/
theorem few_of {α : Type} [DecidableEq α] : ∀ {l m : List α}, l.Nodup → (∀ z ∈ l, z ∈ m) → l.length ≤ m.length
  | [], _, _, _ => Nat.zero_le _
  | x :: l, m, n, h => by
    obtain ⟨n1, n2⟩ := List.nodup_cons.mp n
    have hx := h x List.mem_cons_self
    have q := few_of (l := l) (m := m.erase x) n2 fun z hz => (List.mem_erase_of_ne (fun e : z = x => n1 (by rw [← e]; exact hz))).mpr (h z (List.mem_cons_of_mem _ hz))
    rw [List.length_erase_of_mem hx] at q
    have p : 0 < m.length := List.length_pos_of_mem hx
    rw [List.length_cons]
    omega
/-- tuple(xs) of a list, of a tuple -/
def rTupOf (K : PySem.W.Frag) : List V → Hp → VK → Prop := fun xs H Q => ∃ p ys, xs = [.ref p] ∧ ((SqL K H p ys ∧ ∀ l, H l = none → Q (.ref l) (upd H l (.tup ys))) ∨ (SqT K H p ys ∧ Q (.ref p) H))
theorem cr_tupOf {X : Cx} : CallR X (.type "tuple") (rTupOf X.K) := call_tuple_of
/-! the built-in names -/
theorem bt_sorted : bootBuiltins "sorted" = some (.builtin "sorted") := by decide +kernel
theorem bt_min : bootBuiltins "min" = some (.builtin "min") := by decide +kernel
theorem bt_max : bootBuiltins "max" = some (.builtin "max") := by decide +kernel
theorem bt_len : bootBuiltins "len" = some (.builtin "len") := by decide +kernel
theorem bt_all : bootBuiltins "all" = some (.builtin "all") := by decide +kernel
theorem bt_isinstance : bootBuiltins "isinstance" = some (.builtin "isinstance") := by decide +kernel
theorem bt_abs : bootBuiltins "abs" = some (.builtin "abs") := by decide +kernel
theorem bt_tuple : bootBuiltins "tuple" = some (.type "tuple") := by decide +kernel
theorem bt_list : bootBuiltins "list" = some (.type "list") := by decide +kernel
theorem bt_int : bootBuiltins "int" = some (.type "int") := by decide +kernel
theorem bt_range : bootBuiltins "range" = some (.type "range") := by decide +kernel
theorem bt_set : bootBuiltins "set" = some (.type "set") := by decide +kernel
theorem bt_zip : bootBuiltins "zip" = some (.type "zip") := by decide +kernel
theorem bt_enumerate : bootBuiltins "enumerate" = some (.type "enumerate") := by decide +kernel
theorem bt_dict : bootBuiltins "dict" = some (.type "dict") := by decide +kernel
theorem bt_str : bootBuiltins "str" = some (.type "str") := by decide +kernel
theorem bt_bool : bootBuiltins "bool" = some (.type "bool") := by decide +kernel
end Sx

/-! SxKeys -/
namespace Sx
open PySem PySem.Spec PyProof.Rows L2
/-! ### comprehensions over lists or tuples, over a dict's keys -/
theorem sk_sq {K : PySem.W.Frag} {P : Program} {w : World} {i : Nat} {a : Addr} {xs : List V} {g : TG} {tt : TT} {te : TE} {vs : List Nat} {σ : L2.St} {H Hx : Hp} {Q : VK} (hv : σ[i]? = some (some (.ref a))) (hx : Sq K Hx a xs) (hH : Same Hx H) (Pv : Addr → Nat → Hp → Prop)
    (h0 : ∀ D, H D = none → Pv D 0 (upd H D (SetK P w D []))) (hl : ∀ D j H', Pv D j H' → Same Hx H')
    (hs : ∀ D j x H', xs[j]? = some x → Pv D j H' → g x (wipe σ vs) H' fun σ2 H2 => wipe σ2 vs = wipe σ vs ∧ tt σ2 H2 fun b H3 =>
      if b = true then te σ2 H3 fun y H4 => ∃ (a : Addr) (k : List Key) (L : List Row), y = .ref a ∧ SqT K H4 a (k.map kV) ∧ H4 D = some (SetK P w D L) ∧ Rws K H4 L ∧ L.length < 4000 ∧
        ∀ L', (k ∈ L.map (·.2) → L' = L) → (k ∉ L.map (·.2) → L'.Perm ((a, k) :: L)) → Pv D (j + 1) (upd H4 D (SetK P w D L')) else Pv D (j + 1) H3)
    (hd : ∀ D H', H D = none → Pv D xs.length H' → Q (.ref D) H') : tSk K P w (iSq K (tVar i)) g tt te vs σ H Q := by
  rcases hx with hx | hx
  · refine .inl ⟨_, hv, a, rfl, ⟨xs, Same.seq hH hx⟩, fun D hD => ⟨fun j m H' => m = xs.length - j ∧ j ≤ xs.length ∧ Pv D j H', ⟨xs.length, rfl, Nat.zero_le _, h0 D hD⟩, ?_⟩⟩
    rintro j m H' ⟨rfl, hj, p⟩
    have sq := Same.seq (hl D j H' p) hx
    rcases Nat.lt_or_ge j xs.length with lt | ge
    · exact .inr ⟨⟨xs, xs[j], sq, List.getElem?_eq_getElem lt⟩, Pv D (j + 1), fun H2 p2 => ⟨xs.length - (j + 1), by omega, rfl, lt, p2⟩, fun x H2 ⟨e, y⟩ => by rw [e]; exact hs D j x H' (y xs sq) p⟩
    · have e : j = xs.length := Nat.le_antisymm hj ge
      subst e
      exact .inl ⟨⟨xs, sq, Nat.le_refl _⟩, hd D H' hD p⟩
  · refine .inr ⟨_, hv, a, rfl, ⟨xs, sqT_same hH hx⟩, fun D hD => ⟨fun j m H' => m = xs.length - j ∧ j ≤ xs.length ∧ Pv D j H', ⟨xs.length, rfl, Nat.zero_le _, h0 D hD⟩, ?_⟩⟩
    rintro j m H' ⟨rfl, hj, p⟩
    have sq := sqT_same (hl D j H' p) hx
    rcases Nat.lt_or_ge j xs.length with lt | ge
    · exact .inr ⟨⟨xs, xs[j], sq, List.getElem?_eq_getElem lt⟩, Pv D (j + 1), fun H2 p2 => ⟨xs.length - (j + 1), by omega, rfl, lt, p2⟩, fun x H2 ⟨e, y⟩ => by rw [e]; exact hs D j x H' (y xs sq) p⟩
    · have e : j = xs.length := Nat.le_antisymm hj ge
      subst e
      exact .inl ⟨⟨xs, sq, Nat.le_refl _⟩, hd D H' hD p⟩
/-- {k: v for k in d} while d is locked -/
theorem dc_keys {i j : Nat} {d : Addr} {od : Obj} {kvs : List (Key × V)} {tt : TT} {tk tv : TE} {vs : List Nat} {σ : L2.St} {H : Hp} {Q : VK} (hv : σ[i]? = some (some (.ref d))) (hd : H d = some (.frz od (.dK kvs))) (Pv : Addr → Nat → Hp → Prop)
    (h0 : ∀ D, H D = none → Pv D 0 (upd H D (.dK []))) (hl : ∀ D n H', Pv D n H' → H' d = some (.frz od (.dK kvs)))
    (hs : ∀ D n k v H', kvs[n]? = some (k, v) → Pv D n H' → wipe ((wipe σ vs).set j (some (kV k))) vs = wipe σ vs ∧ tt ((wipe σ vs).set j (some (kV k))) H' fun b H3 =>
      if b = true then tk ((wipe σ vs).set j (some (kV k))) H3 fun y H4 => tv ((wipe σ vs).set j (some (kV k))) H4 fun z H5 => ∃ kvs k, y = kV k ∧ H5 D = some (.dK kvs) ∧ kvs.length < sizeLine ∧ Pv D (n + 1) (upd H5 D (.dK (putK kvs k z))) else Pv D (n + 1) H3)
    (hq : ∀ D H', H D = none → Pv D kvs.length H' → Q (.ref D) H') : tDc (iKeys (tVar i)) (gName j) tt tk tv vs σ H Q := by
  refine ⟨_, hv, d, od, rfl, .inl ⟨kvs, hd, fun D hD => ⟨fun n m H' => m = kvs.length - n ∧ n ≤ kvs.length ∧ Pv D n H', ⟨kvs.length, rfl, Nat.zero_le _, h0 D hD⟩, ?_⟩⟩⟩
  rintro n m H' ⟨rfl, hn, p⟩
  have hf := hl D n H' p
  rcases Nat.lt_or_ge n kvs.length with lt | ge
  · refine .inr ⟨⟨hf, lt⟩, Pv D (n + 1), fun H2 p2 => ⟨kvs.length - (n + 1), by omega, rfl, lt, p2⟩, fun x H2 ⟨e, k, v, hk, ex⟩ => ?_⟩
    subst e
    subst ex
    exact hs D n k v _ hk p
  · have e : n = kvs.length := Nat.le_antisymm hn ge
    subst e
    exact .inl ⟨⟨hf, Nat.le_refl _⟩, hq D H' hD p⟩
end Sx

/-! SxBk -/
namespace Sx
open PySem PySem.Spec PyProof.Rows L2
/-! ### a Book as it stands -/
def bkF (ak ac an : Addr) : List (Str × V) := putF "_near" (.ref an) (putF "_clashes" (.ref ac) (putF "_kinds" (.ref ak) []))
theorem n1 : ¬ (("_clashes" : Str) = "_near") := by decide +kernel
theorem n2 : ¬ (("_kinds" : Str) = "_near") := by decide +kernel
theorem n3 : ¬ (("_kinds" : Str) = "_clashes") := by decide +kernel
theorem bkF_near (ak ac an : Addr) : (bkF ak ac an).lookup ("_near" : Str) = some (.ref an) := by
  unfold bkF
  rw [lookup_putF, if_pos rfl]
theorem bkF_clashes (ak ac an : Addr) : (bkF ak ac an).lookup ("_clashes" : Str) = some (.ref ac) := by
  unfold bkF
  rw [lookup_putF, if_neg n1, lookup_putF, if_pos rfl]
theorem bkF_kinds (ak ac an : Addr) : (bkF ak ac an).lookup ("_kinds" : Str) = some (.ref ak) := by
  unfold bkF
  rw [lookup_putF, if_neg n2, lookup_putF, if_neg n3, lookup_putF, if_pos rfl]
theorem bkF_no (ak ac an : Addr) {m : Str} (h1 : ¬ m = "_near") (h2 : ¬ m = "_clashes") (h3 : ¬ m = "_kinds") : (bkF ak ac an).lookup m = none := by
  unfold bkF
  rw [lookup_putF, if_neg h1, lookup_putF, if_neg h2, lookup_putF, if_neg h3]
  rfl
/-- pairs of texts, each a tuple of its own at ts -/
def Prs (K : PySem.W.Frag) (H : Hp) (ts : List Addr) (cs : List (Str × Str)) : Prop := Paired (fun t c => SqT K H t [.str c.1, .str c.2]) ts cs
/-- a Book stands at p -/
structure BookAt (K : PySem.W.Frag) (C : Addr) (H : Hp) (p : Addr) (ks : List Str) (cs : List (Str × Str)) : Prop where
  ex : ∃ dx ak ac an kvs ts, H p = some (.ins C dx (bkF ak ac an)) ∧ SqT K H ak (ks.map V.str) ∧ SqT K H ac (ts.map V.ref) ∧ Prs K H ts cs ∧ H an = some (.dK kvs) ∧
    (∀ k, k ∈ ks → ∃ t, valV kvs (.inr k) = some (.ref t) ∧ SqT K H t ((nearM cs k).map V.str)) ∧ (∀ k, k ∉ ks → valV kvs (.inr k) = none)
theorem BookAt.same {K : PySem.W.Frag} {C : Addr} {H H' : Hp} {p : Addr} {ks : List Str} {cs : List (Str × Str)} (e : Same H H') (b : BookAt K C H p ks cs) : BookAt K C H' p ks cs := by
  obtain ⟨dx, ak, ac, an, kvs, ts, h1, h2, h3, h4, h5, h6, h7⟩ := b.ex
  refine ⟨dx, ak, ac, an, kvs, ts, e _ _ h1, sqT_same e h2, sqT_same e h3, paired_imp (fun _ _ z => sqT_same e z) h4, e _ _ h5, fun k hk => ?_, h7⟩
  obtain ⟨t, a, b⟩ := h6 k hk
  exact ⟨t, a, sqT_same e b⟩

end Sx

/-! BookA -/
namespace Sx
open PySem PySem.Spec PyProof.Rows L2

def top (i : Nat) : Stmt := PySem.Challenge.pw_onehostmore_k71_fours_against_an_order.main.body.getD i (.Pass ⟨0, 0, 0, 0⟩)
abbrev cBook : Stmt := top 10
abbrev sInit : Stmt := inClass cBook 0

/-! ### Book.__init__ -/
def strOf : V → Option Str
  | .str z => some z
  | _ => none
structure TBook (K : PySem.W.Frag) (mg : Str → Option Value) (C : Addr) : Prop where
  cl : Cls K C
  nK : NoAttr K C "_kinds"
  nC : NoAttr K C "_clashes"
  nN : NoAttr K C "_near"
  sorted : mg "sorted" = none
  tuple : mg "tuple" = none
  min : mg "min" = none
  max : mg "max" = none
def spInit (K : PySem.W.Frag) (C : Addr) : Sp := fun vs H Q _ => ∃ (p dx lk lc : Addr) (ts : List Addr) (ks : List Str) (ps : List (Str × Str)), vs = [.ref p, .ref lk, .ref lc] ∧ H p = some (.ins C dx []) ∧
  Sq K H lk (ks.map V.str) ∧ Sq K H lc (ts.map V.ref) ∧ Paired (fun t c => Sq K H t [.str c.1, .str c.2]) ts ps ∧ ks.Nodup ∧ ks.length ≤ 40 ∧ (∀ c ∈ ps, c.1 ∈ ks ∧ c.2 ∈ ks) ∧
  ∀ H', BookAt K C H' p (srt ltS ks) (srt ltP (ps.map nrm)) → (∀ b o, H b = some o → b ≠ p → H' b = some o) → Q .non H'
/-- the dict near while it is filled: nl tells the address of each kind's list, g what stands in it -/
structure NL (H0 H : Hp) (p d : Addr) (nl : List (Str × Addr)) (g : Str → List Str) : Prop where
  dic : H d = some (.dK (nl.map fun q => (Sum.inr q.1, V.ref q.2)))
  one : (nl.map (·.1)).Nodup
  adr : (nl.map (·.2)).Nodup
  lst : ∀ q ∈ nl, H q.2 = some (.lst ((g q.1).map V.str))
  new : ∀ q ∈ nl, H0 q.2 = none
  nd : H0 d = none
  keep : ∀ b o, H0 b = some o → b ≠ p → H b = some o
theorem nl_val : ∀ {nl : List (Str × Addr)} {k : Str} {a : Addr}, (nl.map (·.1)).Nodup → (k, a) ∈ nl → valV (nl.map fun q => ((Sum.inr q.1 : Key), V.ref q.2)) (Sum.inr k) = some (.ref a)
  | [], _, _, _, h => by simp at h
  | q :: nl, k, a, n, h => by
    obtain ⟨n1, n2⟩ := List.nodup_cons.mp n
    unfold valV
    rw [List.map_cons, List.find?_cons]
    by_cases e : q.1 = k
    · have z : decide ((Sum.inr q.1 : Key) = Sum.inr k) = true := decide_eq_true (by rw [e])
      simp only [z]
      rcases List.mem_cons.mp h with w | w
      · rw [← w]; rfl
      · exact absurd (List.mem_map.mpr ⟨(k, a), w, rfl⟩) (by rw [← e]; exact n1)
    · have z : decide ((Sum.inr q.1 : Key) = Sum.inr k) = false := decide_eq_false fun w => e (Sum.inr.inj w)
      simp only [z]
      rcases List.mem_cons.mp h with w | w
      · exact absurd (by rw [← w]) e
      · exact nl_val n2 w
theorem nl_no : ∀ {nl : List (Str × Addr)} {k : Str}, k ∉ nl.map (·.1) → valV (nl.map fun q => ((Sum.inr q.1 : Key), V.ref q.2)) (Sum.inr k) = none
  | [], _, _ => rfl
  | q :: nl, k, h => by
    unfold valV
    rw [List.map_cons, List.find?_cons]
    have z : decide ((Sum.inr q.1 : Key) = Sum.inr k) = false := decide_eq_false fun w => h (by rw [← Sum.inr.inj w]; exact List.mem_cons_self)
    simp only [z]
    exact nl_no fun w => h (List.mem_cons_of_mem _ w)
theorem nl_at {nl : List (Str × Addr)} {k : Str} (h : k ∈ nl.map (·.1)) : ∃ a, (k, a) ∈ nl := by
  obtain ⟨q, hq, e⟩ := List.mem_map.mp h
  exact ⟨q.2, by rw [← e]; exact hq⟩
theorem nl_inj {nl : List (Str × Addr)} (n : (nl.map (·.2)).Nodup) : ∀ {q r : Str × Addr}, q ∈ nl → r ∈ nl → q.2 = r.2 → q = r := by
  induction nl with
  | nil => exact fun h => by simp at h
  | cons x nl ih =>
    obtain ⟨n1, n2⟩ := List.nodup_cons.mp n
    intro q r hq hr e
    rcases List.mem_cons.mp hq with a | a <;> rcases List.mem_cons.mp hr with b | b
    · rw [a, b]
    · exact absurd (List.mem_map.mpr ⟨r, b, by rw [← e, a]⟩) n1
    · exact absurd (List.mem_map.mpr ⟨q, a, by rw [e, b]⟩) n1
    · exact ih n2 a b e
/-- a new key with its empty list -/
theorem NL.more {H0 H : Hp} {p d l : Addr} {nl : List (Str × Addr)} {g : Str → List Str} {k : Str} (N : NL H0 H p d nl g) (hp : H p ≠ none) (hl : H l = none) (hk : k ∉ nl.map (·.1)) (hg : g k = []) :
    NL H0 (upd (upd H l (.lst [])) d (.dK (putK (nl.map fun q => ((Sum.inr q.1 : Key), V.ref q.2)) (Sum.inr k) (.ref l)))) p d (nl ++ [(k, l)]) g := by
  have ld : l ≠ d := fun e => by rw [e, N.dic] at hl; cases hl
  have H0l : H0 l = none := by
    cases q : H0 l with
    | none => rfl
    | some o =>
      by_cases e : l = p
      · rw [e] at hl; exact absurd hl hp
      · rw [N.keep l o q e] at hl; cases hl
  have other : ∀ q ∈ nl, q.2 ≠ d ∧ q.2 ≠ l := fun q hq => by
    have a := N.lst q hq
    refine ⟨fun e => ?_, fun e => ?_⟩
    · rw [e, N.dic] at a
      cases a
    · rw [e, hl] at a
      cases a
  refine ⟨?_, ?_, ?_, fun q hq => ?_, fun q hq => ?_, N.nd, fun b o e hb => ?_⟩
  · rw [upd_same, putK_new _ (nl_no hk), List.map_append]
    rfl
  · rw [List.map_append]
    exact nd_snoc N.one hk
  · rw [List.map_append]
    refine nd_snoc N.adr fun m => ?_
    obtain ⟨q, hq, e⟩ := List.mem_map.mp m
    exact (other q hq).2 e
  · rcases List.mem_append.mp hq with hq | hq
    · rw [upd_ne (other q hq).1, upd_ne (other q hq).2]
      exact N.lst q hq
    · rw [List.mem_singleton.mp hq, upd_ne ld, upd_same, hg]
      rfl
  · rcases List.mem_append.mp hq with hq | hq
    · exact N.new q hq
    · rw [List.mem_singleton.mp hq]
      exact H0l
  · rw [upd_ne (ne_of_none e N.nd), upd_ne (fun z => by rw [z, H0l] at e; cases e)]
    exact N.keep b o e hb
/-- a text more in one list -/
theorem NL.app {H0 H : Hp} {p d a : Addr} {nl : List (Str × Addr)} {g : Str → List Str} {k x : Str} (N : NL H0 H p d nl g) (hk : (k, a) ∈ nl) :
    NL H0 (upd H a (.lst ((g k).map V.str ++ [.str x]))) p d nl (fun j => if j = k then g k ++ [x] else g j) := by
  have hL := N.lst _ hk
  have ad : d ≠ a := fun e => by
    have a := N.dic
    rw [e, hL] at a
    cases a
  refine ⟨?_, N.one, N.adr, fun q hq => ?_, N.new, N.nd, fun b o e hb => ?_⟩
  · rw [upd_ne ad]
    exact N.dic
  · by_cases e : q.2 = a
    · have z : q = (k, a) := nl_inj N.adr hq hk e
      rw [z, upd_same, if_pos rfl, List.map_append]
      rfl
    · have ne : q.1 ≠ k := fun w => by
        have v1 := nl_val N.one hk
        have v2 := nl_val N.one (k := q.1) (a := q.2) hq
        rw [w, v1] at v2
        cases v2
        exact e rfl
      rw [upd_ne e, if_neg ne]
      exact N.lst q hq
  · rw [upd_ne (ne_of_none e (N.new _ hk))]
    exact N.keep b o e hb
theorem NL.eqv {H0 H : Hp} {p d : Addr} {nl : List (Str × Addr)} {g g' : Str → List Str} (N : NL H0 H p d nl g) (e : ∀ k, g k = g' k) : NL H0 H p d nl g' := by
  have q : g = g' := funext e
  rw [← q]
  exact N
/-- something new beside, or p itself -/
theorem NL.beside {H0 H H' : Hp} {p d : Addr} {nl : List (Str × Addr)} {g : Str → List Str} (N : NL H0 H p d nl g) (hp : H0 p ≠ none) (e : ∀ b o, H b = some o → b ≠ p → H' b = some o) : NL H0 H' p d nl g :=
  ⟨e _ _ N.dic fun z => hp (by rw [← z]; exact N.nd), N.one, N.adr, fun q hq => e _ _ (N.lst q hq) fun z => hp (by rw [← z]; exact N.new q hq), N.new, N.nd, fun b o h hb => e _ _ (N.keep b o h hb) hb⟩
section
variable {P : Program} {w : World} {K : PySem.W.Frag} {mg : Str → Option Value} {base : Heap}
abbrev nInit : List Str := ["self", "kinds", "clashes", "near", "kind", "pair", "one", "other"]
theorem scInit : FnScope nInit ["self", "kinds", "clashes"] (defScope sInit) := ⟨rfl, rfl, rfl, by decide +kernel, rfl, by decide +kernel, by decide +kernel⟩
theorem ok_init {f C : Addr} {fd : FuncData} {dvs : List V} (F : FunD K "__init__" "Book.__init__" (defArgs sInit) (defBody sInit) (defScope sInit) dvs [] f fd) (T : TBook K mg C) : FnOk P w K mg base CX0 1 f fd ["self", "kinds", "clashes"] (spInit K C) := by
  refine F.ok scInit (fun vs H Q E h => ?_) (fun cdv A outer s H vs Q E hr h => ?_)
  · obtain ⟨p, dx, lk, lc, ts, ks, ps, rfl, _⟩ := h
    rfl
  · obtain ⟨p, dx, lk, lc, ts, ks, ps, rfl, hp, hk, hc, hps, nd, few, inn, q⟩ := h
    have hu := hu_of hr
    refine ⟨_, (pss_cons (ps_set (i := 3) scInit.nd rfl (Or.inr rfl) pe_dnewK)
      (Evl.pss_cut (ps_for PassesOwn.never rfl (pi_sq (pv 1)) (pg_name (i := 4) scInit.nd rfl (Or.inl rfl))
        (pss_cons (ps_if (pt_cmp (pc_din hu (pv 4) (pv 3))) (pss_one ps_never) pss_nil)
        (pss_one (ps_dput hu (pv 3) (pv 4) (pe_lst pa_nil) rfl))))
      (Evl.pss_cut (ps_for PassesOwn.never rfl (pi_sq (pv 2)) (pg_name (i := 5) scInit.nd rfl (Or.inl rfl))
        (pss_one (ps_for PassesOwn.never rfl (pi_sq (pv 5)) (pg_name (i := 4) scInit.nd rfl (Or.inl rfl))
          (pss_one (ps_if (pt_cmp (pc_dnotin hu (pv 4) (pv 3))) (pss_one ps_never) pss_nil)))))
      (pss_cons (ps_fld (pv 0) (pe_callTy cr_tupOf (by rfl) T.tuple bt_tuple (pa_cons (pe_callB (call_sortedD rfl) (by rfl) T.sorted bt_sorted (pa_cons (pv 3) pa_nil)) pa_nil)) rfl)
      (Evl.pss_cut (ps_fld (pv 0) (pe_callTy cr_tupOf (by rfl) T.tuple bt_tuple (pa_cons (pe_callB (cr_sortSK rfl) (by rfl) T.sorted bt_sorted (pa_cons
          (pe_sk (own := [("pair", 5)]) (g := gName 5) (tt := tYes) rfl hu scInit.nd (pi_sq (pv 2)) (blkOk_by (N := nInit) (sc := defScope sInit) (by decide +kernel)) (fun _ _ _ _ _ => pg_name (i := 5) scInit.nd rfl (Or.inl rfl)) (fun _ _ _ _ _ => pts_nil)
            (fun _ _ _ _ _ => pe_tup (pa_cons (pe_callB (r := rMnS K) (cr_mnS rfl) (by rfl) T.min bt_min (pa_cons (pv 5) pa_nil)) (pa_cons (pe_callB (r := rMxS K) (cr_mxS rfl) (by rfl) T.max bt_max (pa_cons (pv 5) pa_nil)) pa_nil)))) pa_nil)) pa_nil)) rfl)
      (Evl.pss_cut (ps_for PassesOwn.never rfl (pi_tup (pe_fld (pv 0) rfl)) (pg_tup rfl (pgs_cons (pg_name (i := 6) scInit.nd rfl (Or.inl rfl)) (pgs_cons (pg_name (i := 7) scInit.nd rfl (Or.inl rfl)) pgs_nil)))
        (pss_cons (ps_expr (pe_bm PySem.F.plainAttrs_list PySem.F.slot_list_append PySem.F.type_list_append mt_append (pe_dget hu (pv 3) (pv 6) (fun _ _ => rfl)) (pa_cons (pv 7) pa_nil)))
        (pss_one (ps_if (pt_cmpR op_ne (pv 6) (pv 7) (nomark _)) (pss_one (ps_expr (pe_bm PySem.F.plainAttrs_list PySem.F.slot_list_append PySem.F.type_list_append mt_append (pe_dget hu (pv 3) (pv 7) (fun _ _ => rfl)) (pa_cons (pv 6) pa_nil)))) pss_nil))))
      (pss_one (ps_fld (pv 0) (pe_lock (pe_dc (own := [("kind", 4)]) (g := gName 4) (tt := tYes) rfl scInit.nd (pi_keys (pv 3)) (blkOk_by (N := nInit) (sc := defScope sInit) (by decide +kernel)) (fun _ _ _ _ _ => pg_name (i := 4) scInit.nd rfl (Or.inl rfl)) (fun _ _ _ _ _ => pts_nil)
          (fun _ _ _ _ _ => pv 4) (fun _ _ _ _ _ => pe_callTy (r := rTupOf K) cr_tupOf (by rfl) T.tuple bt_tuple (pa_cons (pe_dget hu (pv 3) (pv 4) (fun _ _ => rfl)) pa_nil)))) rfl)))))))).nox, ?_⟩
    have noP : H p ≠ none := by rw [hp]; exact fun z => nomatch z
    have sP : Sq K (er p H) lk (ks.map V.str) := hk.er hp
    have sC : Sq K (er p H) lc (ts.map V.ref) := hc.er hp
    have sPs : Paired (fun t c => Sq K (er p H) t [.str c.1, .str c.2]) ts ps := paired_imp (fun _ _ z => z.er hp) hps
    -- near = {}
    intro d hd
    have npd : p ≠ d := ne_of_none hp hd
    have N0 : NL H (upd H d (.dK [])) p d [] (fun _ => []) := ⟨upd_same, List.nodup_nil, List.nodup_nil, fun q hq => (by cases hq), fun q hq => (by cases hq), hd, fun b o e _ => by rw [upd_ne (ne_of_none e hd)]; exact e⟩
    -- for kind in kinds
    refine ⟨fun σ' H' => ∃ nl v4, σ' = [some (.ref p), some (.ref lk), some (.ref lc), some (.ref d), v4, none, none, none] ∧ NL H H' p d nl (fun _ => []) ∧ nl.map (·.1) = ks ∧ H' p = some (.ins C dx []),
      for_sq (i := 1) rfl sP (fun i σ' H' => ∃ nl v4, σ' = [some (.ref p), some (.ref lk), some (.ref lc), some (.ref d), v4, none, none, none] ∧ NL H H' p d nl (fun _ => []) ∧ nl.map (·.1) = ks.take i ∧ H' p = some (.ins C dx []))
        ⟨[], none, rfl, N0, rfl, by rw [upd_ne npd]; exact hp⟩ (fun i σ' H' ⟨_, _, _, N, _⟩ => er_keep N.keep) ?_ ?_, ?_⟩
    · rintro i x σ' H' hi ⟨nl, v4, rfl, N, en, hp'⟩
      rw [List.getElem?_map] at hi
      obtain ⟨k, hki, rfl⟩ := Option.map_eq_some_iff.mp hi
      have knew : k ∉ nl.map (·.1) := by
        rw [en]
        intro m
        obtain ⟨j, hj, e⟩ := List.getElem_of_mem m
        rw [List.length_take] at hj
        have e2 : ks[j]? = some k := by
          rw [← e, List.getElem_take]
          exact List.getElem?_eq_getElem (by omega)
        have := nd_ix nd e2 hki
        omega
      refine ⟨_, rfl, _, rfl, d, _, rfl, DGet.k (k := Sum.inr k) N.dic, ?_⟩
      rw [nl_no knew]
      refine ⟨_, rfl, iteF ?_⟩
      refine ⟨Nat.zero_le _, fun l hl => ?_⟩
      have nld : d ≠ l := fun e => by rw [← e, N.dic] at hl; cases hl
      refine ⟨_, rfl, _, rfl, d, _, rfl, DPut.k (k := Sum.inr k) (by rw [upd_ne nld]; exact N.dic) (small1000 ?_), ?_⟩
      · have z := congrArg List.length en
        rw [List.length_map, List.length_take] at z
        rw [List.length_map]
        omega
      · refine ⟨nl ++ [(k, l)], _, rfl, N.more (by rw [hp']; exact fun z => nomatch z) hl knew rfl, ?_, ?_⟩
        · rw [List.map_append, en, List.take_add_one, hki]
          rfl
        · rw [upd_ne npd, upd_ne (ne_of_none hp' hl)]
          exact hp'
    · rintro σ' H' ⟨nl, v4, rfl, N, en, hp'⟩
      rw [List.length_map, List.take_length] at en
      exact ⟨nl, v4, rfl, N, en, hp'⟩
    -- for pair in clashes: for kind in pair
    rintro σ1 H1 ⟨nl, v4, rfl, N1, en, hp1⟩
    refine ⟨fun σ' H' => H' = H1 ∧ ∃ v4 v5, σ' = [some (.ref p), some (.ref lk), some (.ref lc), some (.ref d), v4, v5, none, none],
      for_sq (i := 2) rfl sC (fun i σ' H' => H' = H1 ∧ ∃ v4 v5, σ' = [some (.ref p), some (.ref lk), some (.ref lc), some (.ref d), v4, v5, none, none])
        ⟨rfl, v4, none, rfl⟩ (fun i σ' H' ⟨e, _⟩ => by rw [e]; exact er_keep N1.keep) ?_ (fun σ' H' h => h), ?_⟩
    · rintro i x σ' H' hi ⟨rfl, v4, v5, rfl⟩
      rw [List.getElem?_map] at hi
      obtain ⟨t, hti, rfl⟩ := Option.map_eq_some_iff.mp hi
      obtain ⟨c, hci, hc2⟩ := paired_get sPs hti
      refine for_sq (i := 5) rfl hc2 (fun i σ' H2 => H2 = H' ∧ ∃ v4, σ' = [some (.ref p), some (.ref lk), some (.ref lc), some (.ref d), v4, some (.ref t), none, none])
        ⟨rfl, v4, rfl⟩ (fun i σ' H2 ⟨e, _⟩ => by rw [e]; exact er_keep N1.keep) ?_ ?_
      · rintro j x σ' H2 hj ⟨rfl, v4, rfl⟩
        have xk : ∃ k, x = .str k ∧ k ∈ ks := by
          have m := inn c (List.mem_of_getElem? hci)
          match j, hj with
          | 0, hj => cases hj; exact ⟨_, rfl, m.1⟩
          | 1, hj => cases hj; exact ⟨_, rfl, m.2⟩
          | j + 2, hj => simp at hj
        obtain ⟨k, rfl, km⟩ := xk
        obtain ⟨a, ha⟩ := nl_at (nl := nl) (k := k) (by rw [en]; exact km)
        refine ⟨_, rfl, _, rfl, d, _, rfl, DGet.k (k := Sum.inr k) N1.dic, ?_⟩
        rw [nl_val N1.one ha]
        exact ⟨_, rfl, iteF ⟨rfl, _, rfl⟩⟩
      · rintro σ' H2 ⟨rfl, v4, rfl⟩
        exact ⟨rfl, v4, _, rfl⟩
    rintro σ2 H2 ⟨rfl, v4, v5, rfl⟩
    -- self._kinds = tuple(sorted(near))
    refine ⟨_, rfl, d, _, ks, rfl, .inl N1.dic, ?_, by omega, fun ys a1 pys sys ha1 => ?_⟩
    · rw [List.map_map, ← en, List.map_map]
      rfl
    refine ⟨a1, _, rfl, .inl ⟨SqL.of upd_same, fun ak hak => ?_⟩⟩
    have hp4 : ∀ o1 o2, (upd (upd H2 a1 o1) ak o2) p = some (.ins C dx []) := fun o1 o2 => by
      have pa : p ≠ a1 := ne_of_none hp1 ha1
      have e1 : (upd H2 a1 o1) p = some (.ins C dx []) := by rw [upd_ne pa]; exact hp1
      by_cases z : p = ak
      · rw [← z, upd_ne pa, hp1] at hak; cases hak
      · rw [upd_ne z]; exact e1
    refine ⟨_, rfl, p, C, dx, [], rfl, hp4 _ _, T.cl, T.nK, (by show 0 < 1000; decide), ?_⟩
    have eys : ys = srt ltS ks := up_one totS (up_of totS (pys.nodup_iff.mpr nd) (sortedS_pw sys)) (up_srt totS ks) fun z => by rw [pys.mem_iff, mem_srt totS]
    subst eys
    have keep5 : ∀ b o, H2 b = some o → b ≠ p → (upd (upd (upd H2 a1 (.lst ((srt ltS ks).map V.str))) ak (.tup ((srt ltS ks).map V.str))) p (.ins C dx (putF "_kinds" (.ref ak) []))) b = some o := fun b o e hb => by
      have e1 : (upd H2 a1 (.lst ((srt ltS ks).map V.str))) b = some o := by rw [upd_ne (ne_of_none e ha1)]; exact e
      rw [upd_ne hb, upd_ne (ne_of_none e1 hak)]
      exact e1
    have N5 := N1.beside noP keep5
    have pak : p ≠ ak := fun z => by
      have w := hp4 (.lst ((srt ltS ks).map V.str)) (.tup ((srt ltS ks).map V.str))
      rw [z, upd_same] at w
      cases w
    have hak5 : (upd (upd (upd H2 a1 (.lst ((srt ltS ks).map V.str))) ak (.tup ((srt ltS ks).map V.str))) p (.ins C dx (putF "_kinds" (.ref ak) []))) ak = some (.tup ((srt ltS ks).map V.str)) := by rw [upd_ne pak.symm, upd_same]
    have hp5 : (upd (upd (upd H2 a1 (.lst ((srt ltS ks).map V.str))) ak (.tup ((srt ltS ks).map V.str))) p (.ins C dx (putF "_kinds" (.ref ak) []))) p = some (.ins C dx (putF "_kinds" (.ref ak) [])) := upd_same
    generalize upd (upd (upd H2 a1 (.lst ((srt ltS ks).map V.str))) ak (.tup ((srt ltS ks).map V.str))) p (.ins C dx (putF "_kinds" (.ref ak) [])) = H5 at N5 hak5 hp5 ⊢
    clear keep5 hp4 hak ha1 N1 hp1
    -- self._clashes = tuple(sorted({(min(pair), max(pair)) for pair in clashes}))
    let key : Str × Str → List Key := fun c => [Sum.inr c.1, Sum.inr c.2]
    have keyInj : ∀ c c' : Str × Str, key c = key c' → c = c' := fun c c' e => by
      have e1 := (List.cons.inj e).1
      have e2 := (List.cons.inj (List.cons.inj e).2).1
      exact Prod.ext (Sum.inr.inj e1) (Sum.inr.inj e2)
    let Pc : Addr → Nat → Hp → Prop := fun D j H' => ∃ L : List Row, H' D = some (SetK P w D L) ∧ (∀ r ∈ L, ∃ c, c ∈ ps.take j ∧ r.2 = key (nrm c) ∧ H' r.1 = some (.tup (r.2.map kV)) ∧ H5 r.1 = none) ∧ (∀ c ∈ ps.take j, key (nrm c) ∈ L.map (·.2)) ∧ (L.map (·.2)).Nodup ∧ H5 D = none ∧ Same H5 H'
    have inP : ∀ {c : Str × Str}, c ∈ ps → (nrm c).1 ∈ ks ∧ (nrm c).2 ∈ ks := fun {c} m => by
      obtain ⟨a, b⟩ := inn c m
      unfold nrm mnS mxS
      constructor
      · show (if ltS c.2 c.1 = true then c.2 else c.1) ∈ ks
        split <;> assumption
      · show (if ltS c.1 c.2 = true then c.2 else c.1) ∈ ks
        split <;> assumption
    let all2 : List (Str × Str) := ks.flatMap fun a => ks.map fun b => (a, b)
    have all2len : all2.length ≤ 1600 := by
      have z : ∀ l : List Str, (l.flatMap fun a => ks.map fun b => (a, b)).length = l.length * ks.length := fun l => by
        induction l with
        | nil => simp
        | cons a l ih => rw [List.flatMap_cons, List.length_append, ih, List.length_map, List.length_cons, Nat.add_mul, Nat.one_mul, Nat.add_comm]
      show (ks.flatMap fun a => ks.map fun b => (a, b)).length ≤ 1600
      rw [z]
      exact Nat.le_trans (Nat.mul_le_mul few few) (by decide)
    have small : ∀ {L : List Row} {j : Nat}, (∀ r ∈ L, ∃ c, c ∈ ps.take j ∧ r.2 = key (nrm c)) → (L.map (·.2)).Nodup → L.length ≤ 1600 := fun {L j} h n => by
      have z := few_of (l := L.map (·.2)) (m := all2.map key) n fun y hy => by
        obtain ⟨r, hr, e⟩ := List.mem_map.mp hy
        obtain ⟨c, hc, e2⟩ := h r hr
        obtain ⟨m1, m2⟩ := inP (List.mem_of_mem_take hc)
        refine List.mem_map.mpr ⟨nrm c, List.mem_flatMap.mpr ⟨_, m1, List.mem_map.mpr ⟨_, m2, rfl⟩⟩, ?_⟩
        rw [← e, e2]
      rw [List.length_map, List.length_map] at z
      omega
    refine ⟨fun σ' H' => ∃ ac as, σ' = [some (.ref p), some (.ref lk), some (.ref lc), some (.ref d), v4, v5, none, none] ∧ (∀ b o, H5 b = some o → b ≠ p → H' b = some o) ∧ H' p = some (.ins C dx (putF "_clashes" (.ref ac) (putF "_kinds" (.ref ak) []))) ∧ H' ac = some (.tup (as.map V.ref)) ∧
      Prs K H' as (srt ltP (ps.map nrm)) ∧ (srt ltP (ps.map nrm)).length ≤ 1600, ?_, ?_⟩
    unfold sFld tCB tCons tNil
    refine sk_sq (i := 2) rfl sC (er_keep fun b o e hb => N5.keep b o e hb) Pc (fun D hD => ⟨[], upd_same, fun r hr => (by cases hr), fun c hc => (by simp at hc), List.nodup_nil, hD, fun b o e => by rw [upd_ne (ne_of_none e hD)]; exact e⟩)
      (fun D j H' ⟨_, _, _, _, _, _, k⟩ => er_keep fun b o e hb => k b o (N5.keep b o e hb)) ?_ ?_
    · rintro D j x H' hj ⟨L, hD, hL, hall, hnd, hDn, k⟩
      rw [List.getElem?_map] at hj
      obtain ⟨t, htj, rfl⟩ := Option.map_eq_some_iff.mp hj
      obtain ⟨c, hcj, hc2⟩ := paired_get sPs htj
      have hc3 : Sq K H' t [.str c.1, .str c.2] := hc2.same (er_keep fun b o e hb => k b o (N5.keep b o e hb))
      refine ⟨rfl, _, rfl, t, c.1, c.2, rfl, hc3, _, rfl, t, c.1, c.2, rfl, hc3, (by show 2 ≤ sizeLine; decide), fun q hq => ?_⟩
      have nDq : D ≠ q := fun e => by rw [← e, hD] at hq; cases hq
      have H5q : H5 q = none := by
        cases z : H5 q with
        | none => rfl
        | some o => rw [k q o z] at hq; cases hq
      refine ⟨q, key (nrm c), L, rfl, SqT.of upd_same, by rw [upd_ne nDq]; exact hD, fun r hr => ?_, ?_, fun L' c1 c2 => ?_⟩
      · obtain ⟨_, _, _, h4, _⟩ := hL r hr
        refine SqT.of ?_
        rw [upd_ne (fun e => by rw [e, hq] at h4; cases h4)]
        exact h4
      · have := small (fun r hr => let ⟨c, a, b, _⟩ := hL r hr; ⟨c, a, b⟩) hnd
        omega
      · have tk : ps.take (j + 1) = ps.take j ++ [c] := by rw [List.take_add_one, hcj]; rfl
        have old : ∀ r ∈ L, ∃ c', c' ∈ ps.take (j + 1) ∧ r.2 = key (nrm c') ∧ (upd (upd H' q (.tup [.str (mnS c.1 c.2), .str (mxS c.1 c.2)])) D (SetK P w D L')) r.1 = some (.tup (r.2.map kV)) ∧ H5 r.1 = none := fun r hr => by
          obtain ⟨c', h1, h2, h4, h5⟩ := hL r hr
          refine ⟨c', by rw [tk]; exact List.mem_append_left _ h1, h2, ?_, h5⟩
          rw [upd_ne (fun e => by rw [e, hD] at h4; cases h4), upd_ne (fun e => by rw [e, hq] at h4; cases h4)]
          exact h4
        have kept : Same H5 (upd (upd H' q (.tup [.str (mnS c.1 c.2), .str (mxS c.1 c.2)])) D (SetK P w D L')) := fun b o e => by
          rw [upd_ne (ne_of_none e hDn), upd_ne (ne_of_none e H5q)]
          exact k b o e
        by_cases m : key (nrm c) ∈ L.map (·.2)
        · have eL := c1 m
          subst eL
          refine ⟨L', upd_same, old, fun c' hc' => ?_, hnd, hDn, kept⟩
          rw [tk] at hc'
          rcases List.mem_append.mp hc' with z | z
          · exact hall c' z
          · rw [List.mem_singleton.mp z]; exact m
        · have pm := c2 m
          refine ⟨L', upd_same, fun r hr => ?_, fun c' hc' => ?_, ?_, hDn, kept⟩
          · rcases List.mem_cons.mp (pm.mem_iff.mp hr) with e | hr
            · rw [e]
              refine ⟨c, by rw [tk]; simp, rfl, ?_, H5q⟩
              rw [upd_ne nDq.symm, upd_same]
              rfl
            · exact old r hr
          · rw [(pm.map (·.2)).mem_iff, List.map_cons]
            rw [tk] at hc'
            rcases List.mem_append.mp hc' with z | z
            · exact List.mem_cons_of_mem _ (hall c' z)
            · rw [List.mem_singleton.mp z]; exact List.mem_cons_self
          · exact (pm.map (·.2)).nodup_iff.mpr (List.nodup_cons.mpr ⟨m, hnd⟩)
    · rintro D H6 hD ⟨L, hD6, hL, hall, hnd, hDn, k6⟩
      have lts : ts.length = ps.length := Paired.length hps
      rw [List.length_map, lts, List.take_length] at hL hall
      let kk : Addr → List Str := fun a => match H6 a with | some (.tup xs) => xs.filterMap strOf | _ => []
      have kkr : ∀ r ∈ L, ∃ c, c ∈ ps ∧ r.2 = key (nrm c) ∧ kk r.1 = [(nrm c).1, (nrm c).2] := fun r hr => by
        obtain ⟨c, h1, h2, h4, _⟩ := hL r hr
        refine ⟨c, h1, h2, ?_⟩
        show (match H6 r.1 with | some (.tup xs) => xs.filterMap strOf | _ => ([] : List Str)) = _
        rw [h4, h2]
        rfl
      refine ⟨D, L, kk, rfl, hD6, fun r hr => SqT.of (hL r hr).choose_spec.2.2.1, fun r hr => ?_, fun as a2 pas was ha2 => ?_⟩
      · obtain ⟨c, _, h2, h3⟩ := kkr r hr
        rw [h3, h2]
        exact ⟨fun z => (by cases z), rfl⟩
      let pk : Addr → Str × Str := fun a => match kk a with | [x, y] => (x, y) | _ => (⟨#[]⟩, ⟨#[]⟩)
      have pkr : ∀ r ∈ L, ∃ c, c ∈ ps ∧ r.2 = key (nrm c) ∧ pk r.1 = nrm c := fun r hr => by
        obtain ⟨c, h1, h2, h3⟩ := kkr r hr
        refine ⟨c, h1, h2, ?_⟩
        show (match kk r.1 with | [x, y] => (x, y) | _ => _) = _
        rw [h3]
      have mem : ∀ a ∈ as, ∃ r ∈ L, r.1 = a := fun a ha => by
        obtain ⟨r, hr, e⟩ := List.mem_map.mp (pas.mem_iff.mp ha)
        exact ⟨r, hr, e⟩
      have ecs : as.map pk = srt ltP (ps.map nrm) := by
        refine up_one totP (up_of totP ?_ ?_) (up_srt totP _) fun z => ?_
        · refine (pas.map pk).nodup_iff.mpr ?_
          rw [List.map_map]
          refine List.pairwise_map.mpr (List.Pairwise.imp_of_mem (fun {q r} hq hr ne e => ?_) (List.pairwise_map.mp hnd))
          obtain ⟨c, _, h2, h3⟩ := pkr q hq
          obtain ⟨c', _, h2', h3'⟩ := pkr r hr
          have e' : pk q.1 = pk r.1 := e
          rw [h3, h3'] at e'
          exact ne (by rw [h2, h2', e'])
        · refine List.pairwise_map.mpr (List.Pairwise.imp_of_mem (fun {x y} hx hy e => ?_) was)
          obtain ⟨q, hq, e1⟩ := mem x hx
          obtain ⟨r, hr, e2⟩ := mem y hy
          obtain ⟨c, _, h2, h3⟩ := kkr q hq
          obtain ⟨c', _, h2', h3'⟩ := kkr r hr
          obtain ⟨d1, _, g2, g3⟩ := pkr q hq
          obtain ⟨d2, _, g2', g3'⟩ := pkr r hr
          rw [← e1, ← e2] at e ⊢
          rw [g3, g3']
          rw [h3, h3'] at e
          have z1 := keyInj _ _ (h2.symm.trans g2)
          have z2 := keyInj _ _ (h2'.symm.trans g2')
          rw [← z1, ← z2]
          exact e
        · rw [mem_srt totP, List.mem_map, List.mem_map]
          constructor
          · rintro ⟨a, ha, e⟩
            obtain ⟨r, hr, e1⟩ := mem a ha
            obtain ⟨c, h1, _, h3⟩ := pkr r hr
            exact ⟨c, h1, by rw [← e, ← e1, h3]⟩
          · rintro ⟨c, hc', e⟩
            obtain ⟨r, hr, e1⟩ := List.mem_map.mp (hall c hc')
            obtain ⟨c', h1, h2, h3⟩ := pkr r hr
            refine ⟨r.1, pas.mem_iff.mpr (List.mem_map.mpr ⟨r, hr, rfl⟩), ?_⟩
            rw [h3, ← e]
            exact keyInj _ _ (h2.symm.trans e1)
      refine ⟨a2, _, rfl, .inl ⟨SqL.of upd_same, fun ac hac => ?_⟩⟩
      have hp6 : H6 p = some (.ins C dx (putF "_kinds" (.ref ak) [])) := k6 _ _ hp5
      have pa2 : p ≠ a2 := ne_of_none hp6 ha2
      have pac : p ≠ ac := fun z => by
        rw [← z, upd_ne pa2, hp6] at hac
        cases hac
      have keep6 : ∀ b o, H6 b = some o → b ≠ p → ∀ fs, (upd (upd (upd H6 a2 (.lst (as.map V.ref))) ac (.tup (as.map V.ref))) p (.ins C dx fs)) b = some o := fun b o e hb fs => by
        have e1 : (upd H6 a2 (.lst (as.map V.ref))) b = some o := by rw [upd_ne (ne_of_none e ha2)]; exact e
        rw [upd_ne hb, upd_ne (ne_of_none e1 hac)]
        exact e1
      refine ⟨_, rfl, p, C, dx, _, rfl, by rw [upd_ne pac, upd_ne pa2]; exact hp6, T.cl, T.nC, (by show 1 < 1000; decide), ?_⟩
      refine ⟨ac, as, rfl, fun b o e hb => keep6 b o (k6 b o e) hb _, upd_same, by rw [upd_ne pac.symm, upd_same], ?_, ?_⟩
      · rw [← ecs]
        have walk : ∀ l : List Addr, (∀ a ∈ l, a ∈ as) → Prs K (upd (upd (upd H6 a2 (.lst (as.map V.ref))) ac (.tup (as.map V.ref))) p (.ins C dx (putF "_clashes" (.ref ac) (putF "_kinds" (.ref ak) [])))) l (l.map pk) := fun l => by
          induction l with
          | nil => exact fun _ => .nil
          | cons a l ih =>
            intro hl
            refine .cons ?_ (ih fun b hb => hl b (List.mem_cons_of_mem _ hb))
            obtain ⟨r, hr, e1⟩ := mem a (hl a List.mem_cons_self)
            obtain ⟨c, h1, h2, h4, h5⟩ := hL r hr
            obtain ⟨c', _, g2, g3⟩ := pkr r hr
            have z := keyInj _ _ (h2.symm.trans g2)
            refine SqT.of (keep6 _ _ ?_ (fun e => ?_) _)
            · rw [← e1, g3, ← z]
              rw [h2] at h4
              exact h4
            · rw [← e1] at e
              rw [e, hp5] at h5
              cases h5
        exact walk as fun a h => h
      · rw [← ecs, List.length_map, pas.length_eq, List.length_map]
        exact small (fun r hr => let ⟨c, a, b⟩ := kkr r hr; ⟨c, by rw [lts, List.take_length]; exact a, b.1⟩) hnd (j := ts.length)
    -- for one, other in self._clashes
    rintro σ3 H7 ⟨ac, as, rfl, k7, hp7, hac7, hpr, hlen⟩
    have N7 := N5.beside noP k7
    have hak7 := k7 _ _ hak5 pak.symm
    have csin : ∀ c ∈ srt ltP (ps.map nrm), c.1 ∈ ks ∧ c.2 ∈ ks := fun c hc => by
      obtain ⟨c0, h0, e⟩ := List.mem_map.mp ((mem_srt totP).mp hc)
      rw [← e]
      exact inP h0
    clear hak5 hp5 N5
    generalize srt ltP (ps.map nrm) = cs at q hpr hlen csin
    clear keyInj inP all2len small
    have notL : ∀ {b : Addr} {o : HO}, H7 b = some o → (∀ xs, o ≠ .lst xs) → ∀ r ∈ nl, r.2 ≠ b := fun {b o} e n r hr z => by
      have y := N7.lst r hr
      rw [z, e] at y
      cases y
      exact n _ rfl
    have las : as.length = cs.length := Paired.length hpr
    have gsmall : ∀ (n : Nat) (k : Str), ((nearM (cs.take n) k).map V.str).length < sizeLine := fun n k => by
      rw [List.length_map, sizeLine_eq]
      have z : (nearM (cs.take n) k).length ≤ (cs.take n).length := List.length_filterMap_le _ _
      rw [List.length_take] at z
      omega
    let Pl : Nat → L2.St → Hp → Prop := fun i σ' H' => ∃ v6 v7, σ' = [some (.ref p), some (.ref lk), some (.ref lc), some (.ref d), v4, v5, v6, v7] ∧ NL H H' p d nl (fun k => nearM (cs.take i) k) ∧ (∀ b o, H7 b = some o → (∀ r ∈ nl, r.2 ≠ b) → H' b = some o)
    refine ⟨Pl as.length, ⟨_, rfl, p, C, dx, _, _, rfl, hp7, T.cl, T.nC, (by rw [lookup_putF, if_pos rfl]), ac, rfl, ⟨_, SqT.of hac7⟩, for_tup (xs := as.map V.ref) Pl ⟨none, none, rfl, N7, fun b o e _ => e⟩ (fun i σ' H' _ ⟨_, _, _, _, k⟩ => SqT.of (k _ _ hac7 (notL hac7 fun _ z => nomatch z))) ?_ (fun σ' H' h => by rw [List.length_map] at h; exact h)⟩, ?_⟩
    · rintro i x σ' H' hi ⟨v6, v7, rfl, N, k⟩
      rw [List.getElem?_map] at hi
      obtain ⟨t, hti, rfl⟩ := Option.map_eq_some_iff.mp hi
      obtain ⟨c, hci, hT⟩ := paired_get hpr hti
      have hT' : SqT K H' t [.str c.1, .str c.2] := by
        rcases hT with (z | ⟨o, z⟩) | z
        · exact .inl (.inl (k _ _ z (notL z fun _ w => nomatch w)))
        · exact .inl (.inr ⟨o, k _ _ z (notL z fun _ w => nomatch w)⟩)
        · exact .inr z
      have tk : cs.take (i + 1) = cs.take i ++ [c] := by rw [List.take_add_one, hci]; rfl
      obtain ⟨m1, m2⟩ := csin c (List.mem_of_getElem? hci)
      obtain ⟨a, ha⟩ := nl_at (nl := nl) (k := c.1) (by rw [en]; exact m1)
      obtain ⟨b, hb⟩ := nl_at (nl := nl) (k := c.2) (by rw [en]; exact m2)
      have hLa := N.lst _ ha
      refine ⟨t, _, rfl, hT', rfl, _, _, rfl, _, _, rfl, rfl, ?_⟩
      refine ⟨_, rfl, _, rfl, d, .ref a, rfl, (by have z := DGet.k (k := Sum.inr c.1) N.dic; rw [nl_val N.one ha] at z; exact z), .inl ⟨rfl, _, SqL.of hLa⟩, _, rfl, a, _, _, rfl, rfl, hLa, gsmall i c.1, ?_⟩
      have N8 := N.app (x := c.2) ha
      have k8 : ∀ b o, H7 b = some o → (∀ r ∈ nl, r.2 ≠ b) → (upd H' a (.lst ((nearM (cs.take i) c.1).map V.str ++ [.str c.2]))) b = some o := fun b o e n => by
        rw [upd_ne (Ne.symm (n _ ha))]
        exact k b o e n
      refine ⟨_, rfl, _, rfl, rfl, _, rfl, ?_⟩
      by_cases e : c.1 = c.2
      · refine iteNS (by rw [e]) ?_
        refine ⟨_, _, rfl, N8.eqv fun j => ?_, k8⟩
        show _ = nearM (cs.take (i + 1)) j
        rw [tk, nearM_snoc]
        by_cases ej : j = c.1
        · rw [if_pos ej, ej, if_pos rfl]
        · rw [if_neg ej, if_neg (Ne.symm ej), if_neg (by rw [← e]; exact Ne.symm ej), List.append_nil]
      · have ne : ¬ (V.str c.1 = V.str c.2) := fun z => e (V.str.inj z)
        rw [decide_eq_false ne]
        refine iteT ?_
        have hLb := N8.lst _ hb
        refine ⟨_, rfl, _, rfl, d, .ref b, rfl, (by have z := DGet.k (k := Sum.inr c.2) N8.dic; rw [nl_val N8.one hb] at z; exact z), .inl ⟨rfl, _, SqL.of hLb⟩, _, rfl, b, _, _, rfl, rfl, hLb, ?_, ?_⟩
        · show (List.map V.str (if c.2 = c.1 then _ else nearM (cs.take i) c.2)).length < sizeLine
          rw [if_neg (Ne.symm e)]
          exact gsmall i c.2
        · have N9 := N8.app (x := c.1) hb
          refine ⟨_, _, rfl, N9.eqv fun j => ?_, fun b' o e' n => ?_⟩
          · show (if j = c.2 then (if c.2 = c.1 then _ else nearM (cs.take i) c.2) ++ [c.1] else if j = c.1 then nearM (cs.take i) c.1 ++ [c.2] else nearM (cs.take i) j) = nearM (cs.take (i + 1)) j
            rw [tk, nearM_snoc, if_neg (Ne.symm e)]
            by_cases e2 : j = c.2
            · rw [if_pos e2, e2, if_neg e, if_pos rfl]
            · rw [if_neg e2]
              by_cases e1 : j = c.1
              · rw [if_pos e1, e1, if_pos rfl]
              · rw [if_neg e1, if_neg (Ne.symm e1), if_neg (Ne.symm e2), List.append_nil]
          · rw [upd_ne (Ne.symm (n _ hb))]
            exact k8 b' o e' n
    -- self._near = {kind: tuple(near[kind]) for kind in near}
    rintro σ4 H8 ⟨v6, v7, rfl, N8', k8⟩
    have N8 : NL H H8 p d nl (nearM cs) := N8'.eqv fun k => by
      show nearM (cs.take as.length) k = nearM cs k
      rw [las, List.take_length]
    clear N8'
    have hp8 := k8 _ _ hp7 (notL hp7 fun _ z => nomatch z)
    have hac8 := k8 _ _ hac7 (notL hac7 fun _ z => nomatch z)
    have hak8 := k8 _ _ hak7 (notL hak7 fun _ z => nomatch z)
    have hpr8 : Prs K H8 as cs := paired_imp (fun t c hT => by
      rcases hT with (z | ⟨o, z⟩) | z
      · exact .inl (.inl (k8 _ _ z (notL z fun _ w => nomatch w)))
      · exact .inl (.inr ⟨o, k8 _ _ z (notL z fun _ w => nomatch w)⟩)
      · exact .inr z) hpr
    clear hp7 hac7 hak7 hpr k7 k8 notL N7
    unfold sFld tLockE
    refine ⟨d, _, N8.dic, trivial, fun od => ?_⟩
    let kv : List (Key × V) := nl.map fun r => (Sum.inr r.1, V.ref r.2)
    let Pn : Addr → Nat → Hp → Prop := fun D n H' => H' d = some (.frz od (.dK kv)) ∧ (∃ new : List (Key × V), H' D = some (.dK new) ∧ new.length ≤ n ∧ (∀ j r, nl[j]? = some r → j < n → ∃ t, valV new (Sum.inr r.1) = some (.ref t) ∧ H' t = some (.tup ((nearM cs r.1).map V.str)) ∧ H8 t = none) ∧
      (∀ key v, valV new key = some v → ∃ r ∈ nl, key = Sum.inr r.1)) ∧ H8 D = none ∧ (∀ b o, H8 b = some o → b ≠ d → H' b = some o)
    have dfree : ∀ {D : Addr}, (upd H8 d (.frz od (.dK kv))) D = none → D ≠ d ∧ H8 D = none := fun {D} hD => by
      have nD : D ≠ d := fun e => by rw [e, upd_same] at hD; cases hD
      rw [upd_ne nD] at hD
      exact ⟨nD, hD⟩
    refine dc_keys (i := 3) (j := 4) (kvs := kv) (od := od) rfl upd_same Pn (fun D hD => ?_) (fun D n H' h => h.1) ?_ ?_
    · obtain ⟨nD, hD8⟩ := dfree hD
      refine ⟨by rw [upd_ne nD.symm, upd_same], ⟨[], upd_same, Nat.le_refl _, fun j r _ h => absurd h (Nat.not_lt_zero _), fun key v h => (by cases h)⟩, hD8, fun b o e hb => ?_⟩
      rw [upd_ne (ne_of_none e hD8), upd_ne hb]
      exact e
    · rintro D n k v H' hn ⟨hf, ⟨new, hD, hl, hnew, hback⟩, hD8, kp⟩
      have hn' : (nl.map fun r => ((Sum.inr r.1 : Key), V.ref r.2))[n]? = some (k, v) := hn
      rw [List.getElem?_map] at hn'
      obtain ⟨r, hr, er⟩ := Option.map_eq_some_iff.mp hn'
      cases er
      have rm := List.mem_of_getElem? hr
      have hLr := kp _ _ (N8.lst r rm) (fun z => by have y := N8.lst r rm; rw [z, N8.dic] at y; cases y)
      refine ⟨rfl, _, rfl, _, rfl, _, rfl, d, .ref r.2, rfl, .inl ⟨kv, Sum.inr r.1, .inr ⟨od, hf⟩, rfl, ?_⟩, r.2, _, rfl, .inl ⟨SqL.of hLr, fun t ht => ?_⟩⟩
      · exact (nl_val N8.one rm).symm
      · have tD : D ≠ t := fun e => by rw [← e, hD] at ht; cases ht
        have td : d ≠ t := fun e => by rw [← e, hf] at ht; cases ht
        have t8 : H8 t = none := by
          cases z : H8 t with
          | none => rfl
          | some o => rw [kp t o z td.symm] at ht; cases ht
        have dD : d ≠ D := fun e => by rw [← e, N8.dic] at hD8; cases hD8
        refine ⟨new, Sum.inr r.1, rfl, by rw [upd_ne tD]; exact hD, small1000 ?_, by rw [upd_ne dD, upd_ne td]; exact hf, ⟨putK new (Sum.inr r.1) (.ref t), upd_same, ?_, fun j r' hj hjn => ?_, fun key v hv => ?_⟩, hD8, fun b o e hb => ?_⟩
        · have z := (List.getElem?_eq_some_iff.mp hr).1
          have y := congrArg List.length en
          rw [List.length_map] at y
          omega
        · exact Nat.le_trans (length_putK new (Sum.inr r.1) (.ref t)) (Nat.succ_le_succ hl)
        · rw [valV_put]
          by_cases e : r'.1 = r.1
          · rw [if_pos (by rw [e])]
            refine ⟨t, rfl, ?_, t8⟩
            rw [upd_ne tD.symm, upd_same, e]
          · rw [if_neg fun z => e (Sum.inr.inj z)]
            have jn : j < n := by
              rcases Nat.lt_or_ge j n with w | w
              · exact w
              · have ej : j = n := by omega
                rw [ej, hr] at hj
                cases hj
                exact absurd rfl e
            obtain ⟨t', a1, a2, a3⟩ := hnew j r' hj jn
            refine ⟨t', a1, ?_, a3⟩
            rw [upd_ne (fun z => by rw [z, hD] at a2; cases a2), upd_ne (fun z => by rw [z, ht] at a2; cases a2)]
            exact a2
        · rw [valV_put] at hv
          by_cases e : key = Sum.inr r.1
          · exact ⟨r, rm, e⟩
          · rw [if_neg e] at hv
            exact hback key v hv
        · rw [upd_ne (ne_of_none e hD8), upd_ne (ne_of_none e t8)]
          exact kp b o e hb
    · rintro D H9 hD ⟨hf, ⟨new, hD9, hl, hnew, hback⟩, hD8, kp⟩
      obtain ⟨nD, _⟩ := dfree hD
      refine ⟨hf, ?_⟩
      have old : ∀ b o, H8 b = some o → (upd H9 d (.dK kv)) b = some o := fun b o e => by
        by_cases z : b = d
        · rw [z, upd_same]
          rw [z, N8.dic] at e
          exact e
        · rw [upd_ne z]
          exact kp b o e z
      refine ⟨_, rfl, p, C, dx, _, rfl, old _ _ hp8, T.cl, T.nN, (by show 2 < 1000; decide), ?_⟩
      have keep : ∀ b o, b ≠ p → (upd H9 d (.dK kv)) b = some o → (upd (upd H9 d (.dK kv)) p (.ins C dx (bkF ak ac D))) b = some o := fun b o hb e => by
        rw [upd_ne hb]
        exact e
      have pD : p ≠ D := fun z => by rw [← z, hp8] at hD8; cases hD8
      refine q _ ⟨dx, ak, ac, D, new, as, upd_same, SqT.of (keep _ _ pak.symm (old _ _ hak8)), ?_, ?_, keep _ _ pD.symm (by rw [upd_ne nD]; exact hD9), fun k hk => ?_, fun k hk => ?_⟩ fun b o e hb => ?_
      · refine SqT.of (keep _ _ (fun z => ?_) (old _ _ hac8))
        rw [z, hp8] at hac8
        cases hac8
      · exact paired_imp (fun t c hT => by
          have ne : ∀ {o : HO}, H8 t = some o → (∀ C dx fs, o ≠ .ins C dx fs) → t ≠ p := fun {o} e n z => by
            rw [z, hp8] at e
            cases e
            exact n _ _ _ rfl
          rcases hT with (z | ⟨o, z⟩) | z
          · exact .inl (.inl (keep _ _ (ne z fun _ _ _ w => nomatch w) (old _ _ z)))
          · exact .inl (.inr ⟨o, keep _ _ (ne z fun _ _ _ w => nomatch w) (old _ _ z)⟩)
          · exact .inr z) hpr8
      · have km : k ∈ ks := (mem_srt totS).mp hk
        rw [← en] at km
        obtain ⟨a, ha⟩ := nl_at km
        obtain ⟨j, hj⟩ := List.getElem?_of_mem ha
        obtain ⟨t, a1, a2, a3⟩ := hnew j _ hj (by show j < (nl.map _).length; rw [List.length_map]; exact (List.getElem?_eq_some_iff.mp hj).1)
        have td : t ≠ d := fun z => by rw [z, N8.dic] at a3; cases a3
        exact ⟨t, a1, SqT.of (keep _ _ (fun z => by rw [z, hp8] at a3; cases a3) (by rw [upd_ne td]; exact a2))⟩
      · cases z : valV new (Sum.inr k) with
        | none => rfl
        | some v =>
          obtain ⟨r, hr, e⟩ := hback _ _ z
          refine absurd ?_ hk
          rw [mem_srt totS, ← en, Sum.inr.inj e]
          exact List.mem_map.mpr ⟨r, hr, rfl⟩
      · exact keep _ _ hb (old _ _ (N8.keep b o e hb))
end
end Sx

/-! SxFn -/
/-! Calls in short: a def, a method, a property, a static method, a class, each with its promise. -/
namespace Sx
open PySem PySem.Spec PyProof.Rows L2

/-- all built-in names that are used here are the built-in ones -/
structure Blt (mg : Str → Option Value) : Prop where
  sorted : mg "sorted" = none
  tuple : mg "tuple" = none
  min : mg "min" = none
  max : mg "max" = none
  len : mg "len" = none
  all : mg "all" = none
  isinstance : mg "isinstance" = none
  abs : mg "abs" = none
  list : mg "list" = none
  int : mg "int" = none
  range : mg "range" = none
  set : mg "set" = none
  zip : mg "zip" = none
  enumerate : mg "enumerate" = none
  dict : mg "dict" = none
  str : mg "str" = none
  bool : mg "bool" = none
section
variable (P : Program) (w : World) (K : PySem.W.Frag) (mg : Str → Option Value) (base : Heap)
/-- the module's x is a def that keeps sp -/
def FnG (x : Str) (k : Nat) (ps : List Str) (sp : Sp) : Prop := ∃ f fd, mg x = some (.ref f) ∧ PySem.W.keepIn K (.ref f) = true ∧ FnOk P w K mg base CX0 k f fd ps sp ∧ Binds K fd ps []
/-- C's m is a method that keeps sp -/
def MtG (C : Addr) (m : Str) (k : Nat) (ps : List Str) (sp : Sp) : Prop := ∃ f fd, Meth K C m f ∧ FnOk P w K mg base CX0 k f fd ps sp ∧ Binds K fd ps []
/-- C's m is a property -/
def PrG (C : Addr) (m : Str) (k : Nat) (sp : Sp) : Prop := ∃ p g fd, PropOf K C m p g ∧ FnOk P w K mg base CX0 k g fd ["self"] sp ∧ Binds K fd ["self"] []
/-- C's m is a static method -/
def SmG (C : Addr) (m : Str) (k : Nat) (ps : List Str) (sp : Sp) : Prop := ∃ mc p g fd rest, ClX.CRead K C mc ∧ PySem.W.findCls K (.ref C) mc m = some (.get (.builtin "staticmethod.__get__") (.ref p) .none (.ref C)) ∧ PySem.W.recIn K p "staticmethod" = some (.ref g :: rest) ∧
  PySem.W.keepIn K (.ref g) = true ∧ FnOk P w K mg base CX0 k g fd ps sp ∧ Binds K fd ps []
/-- the module's x is the class at C, its __init__ keeps sp -/
def MkG (x : Str) (C : Addr) (k : Nat) (ps : List Str) (sp : Sp) : Prop := ∃ f fd, mg x = some (.ref C) ∧ Mk K C f ∧ FnOk P w K mg base CX0 k f fd ps sp ∧ Binds K fd ps []
end
section
variable {X : Cx} {k : Nat} {C : Addr} {ps : List Str} {sp : Sp} {x m : Str} {p pos apos : Pos} {e o : Expr} {es : List Expr} {ta : TE} {t : TA}
theorem pe_g (G : FnG X.prog X.w X.K X.mg X.base x k ps sp) (hr : Room k X.A) (ha : PA X (e :: es) t) (hg : Gl X x := by rfl) (hdb : (x == ("__debug__" : Str)) = false := by decide)
    (he : starEach (e :: es) X.env = (false, eval e X.env) :: starEach es X.env := by rfl) (hpl : (backTo pos (starEach es X.env)).any (·.1) = false := by rfl) : PE X (.Call (.Name x p) (e :: es) [] pos) (tCall sp [] E0 t) := by
  obtain ⟨f, fd, hm, kp, F, b⟩ := G
  exact pe_call F hr hg hm kp b .nil pass0 ha hdb he hpl
theorem pe_g0 (G : FnG X.prog X.w X.K X.mg X.base x k ps sp) (hr : Room k X.A) (hg : Gl X x := by rfl) (hdb : (x == ("__debug__" : Str)) = false := by decide) : PE X (.Call (.Name x p) [] [] pos) (tCall sp [] E0 tNil) := by
  obtain ⟨f, fd, hm, kp, F, b⟩ := G
  exact pe_call0 F hr hg hm kp b .nil pass0 hdb
theorem pe_mk (G : MkG X.prog X.w X.K X.mg X.base x C k ps sp) (hr : Room (k + 1) X.A) (ha : PA X (e :: es) t) (hg : Gl X x := by rfl) (hdb : (x == ("__debug__" : Str)) = false := by decide)
    (he : starEach (e :: es) X.env = (false, eval e X.env) :: starEach es X.env := by rfl) (hpl : (backTo pos (starEach es X.env)).any (·.1) = false := by rfl) : PE X (.Call (.Name x p) (e :: es) [] pos) (tMake C sp [] E0 t) := by
  obtain ⟨f, fd, hm, M, F, b⟩ := G
  exact pe_make M F hr hg hm b .nil pass0 ha hdb he hpl
theorem pe_pg {f : Str} (G : PrG X.prog X.w X.K X.mg X.base C f k sp) (c : Cls X.K C) (he : PE X e ta) (hr : Room (k + 1) X.A) (hab : attributeBase e f X.env (eval e X.env) = eval e X.env := by rfl) : PE X (.Attribute e f pos) (tProp C sp [] E0 ta) := by
  obtain ⟨p, g, fd, hp, F, b⟩ := G
  exact pe_prop he c hp F hr b .nil (fun _ _ _ _ _ _ _ h => h.elim) hab
theorem pe_mg {pl : Sem Bool} (G : MtG X.prog X.w X.K X.mg X.base C m k ps sp) (c : Cls X.K C) (he : PE X o ta) (hr : Room k X.A) (ha : PA X (e :: es) t)
    (hst : starEach (e :: es) X.env = (false, eval e X.env) :: starEach es X.env := by rfl) (hpl : (backTo pos (starEach es X.env)).any (·.1) = false := by rfl)
    (ht : eval (.Call (.Attribute o m apos) (e :: es) [] pos) X.env = (do
      let ov ← eval o X.env
      standAt apos.atName
      let (f, first) ← holding [ov] (getMethod ov m pl)
      callWith pos f first (backTo pos (starEach (e :: es) X.env)) (backToKw pos (keywordEach [] X.env))) := by rfl) : PE X (.Call (.Attribute o m apos) (e :: es) [] pos) (tMeth C m sp [] E0 ta t) := by
  obtain ⟨f, fd, M, F, b⟩ := G
  exact pe_meth he c M F hr b .nil pass0 ha hst hpl ht
theorem pe_mg0 {pl : Sem Bool} (G : MtG X.prog X.w X.K X.mg X.base C m k ps sp) (c : Cls X.K C) (he : PE X o ta) (hr : Room k X.A)
    (ht : eval (.Call (.Attribute o m apos) [] [] pos) X.env = (do
      let ov ← eval o X.env
      standAt apos.atName
      let (f, first) ← holding [ov] (getMethod ov m pl)
      callWith pos f first (backTo pos (starEach [] X.env)) (backToKw pos (keywordEach [] X.env))) := by rfl) : PE X (.Call (.Attribute o m apos) [] [] pos) (tMeth C m sp [] E0 ta tNil) := by
  obtain ⟨f, fd, M, F, b⟩ := G
  exact pe_meth0 he c M F hr b .nil pass0 ht
theorem pe_sg {pl : Sem Bool} (G : SmG X.prog X.w X.K X.mg X.base C m k ps sp) (hm : X.mg x = some (.ref C)) (hr : Room k X.A) (ha : PA X (e :: es) t) (hg : Gl X x := by rfl) (hdb : (x == ("__debug__" : Str)) = false := by decide)
    (hst : starEach (e :: es) X.env = (false, eval e X.env) :: starEach es X.env := by rfl) (hpl : (backTo pos (starEach es X.env)).any (·.1) = false := by rfl)
    (ht : eval (.Call (.Attribute (.Name x p) m apos) (e :: es) [] pos) X.env = (do
      let ov ← eval (.Name x p) X.env
      standAt apos.atName
      let (f, first) ← holding [ov] (getMethod ov m pl)
      callWith pos f first (backTo pos (starEach (e :: es) X.env)) (backToKw pos (keywordEach [] X.env))) := by rfl) : PE X (.Call (.Attribute (.Name x p) m apos) (e :: es) [] pos) (tCall sp [] E0 t) := by
  obtain ⟨mc, q, g, fd, rest, r, c, rc, kp, F, b⟩ := G
  refine ⟨fun pins s σ H Q I h => ?_⟩
  refine PySem.W.methodCall_KW (pl := pl) (ld_glob I hg hm ?_ hdb) ht
  refine PySem.W.method_cls I.kIn r.ga (PySem.W.cls_bind I.kIn r.rd c ?_)
  refine wpAny_call (PySem.W.sm_get (s := { s with toks := s.toks + 1 }) I.kIn rc (PySem.W.handed_on (handed_of (v := V.ref g) rfl) ?_))
  have I2 := I.tok (s.toks + 1)
  refine PySem.W.callWith_K (first := []) (h₀ := X.base) I2.ok.mod.kin kp (thn (ha.run pos pins _ σ H _ I2 h) fun us s1 ⟨vs, H1, I1, rr, q1⟩ => ⟨I1.kIn, ?_⟩) hst hpl
  exact run_fn F hr b .nil pass0 I1 rr q1
end
end Sx

/-! SxLc -/
/-! Comprehensions whose elements are values, or new tuples. -/
namespace Sx
open PySem PySem.Spec PyProof.Rows L2
/-- te gives the value v whatever is laid beside; tt answers b -/
def Gv (te : TE) (σ : L2.St) (H : Hp) (v : V) : Prop := ∀ Q : VK, (∀ H', Same H H' → Q v H') → te σ H Q
def Gt (tt : TT) (σ : L2.St) (H : Hp) (b : Bool) : Prop := ∀ Q : Bool → Hp → Prop, (∀ H', Same H H' → Q b H') → tt σ H Q
/-- te gives a new tuple of the values vs -/
def Gu (te : TE) (σ : L2.St) (H : Hp) (vs : List V) : Prop := ∀ Q : VK, (∀ t H', H t = none → Same H H' → H' t = some (.tup vs) → Q (.ref t) H') → te σ H Q
theorem Same.new {H : Hp} {p : Addr} {o : HO} (h : H p = none) : Same H (upd H p o) := fun b u e => by
  rw [upd_ne (ne_of_none e h)]
  exact e
/-- a list that wasn't there may change -/
theorem Same.mut {H H' : Hp} {p : Addr} {o : HO} (e : Same H H') (h : H p = none) : Same H (upd H' p o) := fun b u q => by
  rw [upd_ne (ne_of_none q h)]
  exact e b u q
theorem same_id {H : Hp} : Same H H := fun _ _ e => e
theorem paired_map {α β γ : Type} {F : β → γ → Prop} {f : α → β} {g : α → γ} : ∀ {l : List α}, (∀ x ∈ l, F (f x) (g x)) → Paired F (l.map f) (l.map g)
  | [], _ => .nil
  | x :: l, h => .cons (h x List.mem_cons_self) (paired_map fun y hy => h y (List.mem_cons_of_mem _ hy))
theorem paired_strs (l : List Str) : Paired (fun x z => x = V.str z) (l.map V.str) l := by
  have h := paired_map (F := fun x z => x = V.str z) (f := V.str) (g := id) (l := l) fun _ _ => rfl
  rw [List.map_id] at h
  exact h
theorem paired_refs {α : Type} {F : Addr → α → Prop} {ts : List Addr} {zs : List α} (h : Paired F ts zs) : Paired (fun x z => ∃ t, x = V.ref t ∧ F t z) (ts.map V.ref) zs := by
  induction h with
  | nil => exact .nil
  | cons r _ ih => exact .cons ⟨_, rfl, r⟩ ih
theorem paired_snoc {α β : Type} {F : α → β → Prop} {as : List α} {ys : List β} {b : α} {y : β} (h : Paired F as ys) : F b y → Paired F (as ++ [b]) (ys ++ [y]) := by
  induction h with
  | nil => exact fun r => .cons r .nil
  | cons r _ ih => exact fun z => .cons r (ih z)
section
variable {K : PySem.W.Frag} {a : Addr} {xs : List V} {g : TG} {tt : TT} {te : TE} {vs : List Nat} {σ : L2.St} {H : Hp} {Qr : Addr → Hp → Prop} {α : Type} {zs : List α} {R : V → α → Prop}
/-- what a turn of a comprehension asks: the target, the test, the element -/
abbrev Turn1 (D : Addr) (g : TG) (tt : TT) (te : TE) (vs : List Nat) (σ : L2.St) (x : V) (H : Hp) (nx : Hp → Prop) : Prop := g x (wipe σ vs) H fun σ2 H2 => wipe σ2 vs = wipe σ vs ∧ tt σ2 H2 fun b H3 =>
  if b = true then te σ2 H3 fun y H4 => ∃ acc, H4 D = some (.lst acc) ∧ acc.length < sizeLine ∧ nx (upd H4 D (.lst (acc ++ [y]))) else nx H3
/-- a turn: the target gives names, the test answers c z -/
def Tst (g : TG) (tt : TT) (te : TE) (vs : List Nat) (σ : L2.St) (x : V) (H : Hp) (b : Bool) (E : TE → L2.St → Hp → Prop) : Prop := ∃ σ2, wipe σ2 vs = wipe σ vs ∧ Gt tt σ2 H b ∧ (b = true → ∀ H', Same H H' → E te σ2 H') ∧ ∀ k : L2.St → Hp → Prop, k σ2 H → g x (wipe σ vs) H k
/-- values -/
theorem vals_core {D : Addr} (f : α → V) (c : α → Bool) (hp : Paired R xs zs) (hD : H D = none) (hz : xs.length ≤ 10000)
    (ht : ∀ x z, z ∈ zs → R x z → ∀ H', Same H H' → Tst g tt te vs σ x H' (c z) fun te σ H => Gv te σ H (f z)) :
    ∀ i x H', xs[i]? = some x → (Same H H' ∧ H' D = some (.lst (((zs.take i).filter c).map f))) → Turn1 D g tt te vs σ x H' fun H'' => Same H H'' ∧ H'' D = some (.lst (((zs.take (i + 1)).filter c).map f)) := by
  rintro i x H' hi ⟨s, hd⟩
  obtain ⟨z, hzi, hR⟩ := paired_get hp hi
  have tk : zs.take (i + 1) = zs.take i ++ [z] := by rw [List.take_add_one, hzi]; rfl
  have len : (((zs.take i).filter c).map f).length < 10001 := by
    rw [List.length_map]
    have y := List.length_filter_le c (zs.take i)
    have e := Paired.length hp
    rw [List.length_take] at y
    omega
  obtain ⟨σ2, hw, hgt, hge, hg⟩ := ht x z (List.mem_of_getElem? hzi) hR H' s
  refine hg _ ⟨hw, hgt _ fun H2 s2 => ?_⟩
  cases hc : c z with
  | true =>
    refine iteT (hge hc H2 s2 _ fun H3 s3 => ⟨_, s3 _ _ (s2 _ _ hd), Nat.lt_of_lt_of_le len (by decide), Sx.Same.mut (s.trans (s2.trans s3)) hD, ?_⟩)
    rw [upd_same, tk, List.filter_append, List.map_append]
    simp [hc]
  | false =>
    refine iteF ⟨s.trans s2, ?_⟩
    rw [s2 _ _ hd, tk, List.filter_append, List.map_append]
    simp [hc]
/-- [f x for x in xs if c x], xs a list; a tuple -/
theorem lc_valsL (f : α → V) (c : α → Bool) (hx : SqL K H a xs) (hp : Paired R xs zs) (hz : xs.length ≤ 10000)
    (ht : ∀ x z, z ∈ zs → R x z → ∀ H', Same H H' → Tst g tt te vs σ x H' (c z) fun te σ H => Gv te σ H (f z)) (q : ∀ D H', H D = none → Same H H' → H' D = some (.lst ((zs.filter c).map f)) → Qr D H') :
    ∀ D, H D = none → ∃ W : Nat → Nat → Hp → Prop, (∃ m, W 0 m (upd H D (.lst []))) ∧ ∀ i m H', W i m H' → ((Itl K a).stop i H' ∧ Qr D H') ∨ ((Itl K a).go i H' ∧ ∃ Nx : Hp → Prop, (∀ H', Nx H' → ∃ m', m' < m ∧ W (i + 1) m' H') ∧ ∀ x H2, (Itl K a).yld i H' x H2 → Turn1 D g tt te vs σ x H2 Nx) := fun D hD =>
  lc_list (Qd := fun H' => Qr D H') (xs := xs) (fun i H' => Same H H' ∧ H' D = some (.lst (((zs.take i).filter c).map f))) ⟨Same.new hD, upd_same⟩ (fun i H' _ p => Same.seq p.1 hx)
    (vals_core f c hp hD hz ht) fun H' p => q D H' hD p.1 (by have z := p.2; rw [Paired.length hp, List.take_length] at z; exact z)
theorem lc_valsT (f : α → V) (c : α → Bool) (hx : SqT K H a xs) (hp : Paired R xs zs) (hz : xs.length ≤ 10000)
    (ht : ∀ x z, z ∈ zs → R x z → ∀ H', Same H H' → Tst g tt te vs σ x H' (c z) fun te σ H => Gv te σ H (f z)) (q : ∀ D H', H D = none → Same H H' → H' D = some (.lst ((zs.filter c).map f)) → Qr D H') :
    ∀ D, H D = none → ∃ W : Nat → Nat → Hp → Prop, (∃ m, W 0 m (upd H D (.lst []))) ∧ ∀ i m H', W i m H' → ((Itt K a).stop i H' ∧ Qr D H') ∨ ((Itt K a).go i H' ∧ ∃ Nx : Hp → Prop, (∀ H', Nx H' → ∃ m', m' < m ∧ W (i + 1) m' H') ∧ ∀ x H2, (Itt K a).yld i H' x H2 → Turn1 D g tt te vs σ x H2 Nx) := fun D hD =>
  lc_tup (Qd := fun H' => Qr D H') (xs := xs) (fun i H' => Same H H' ∧ H' D = some (.lst (((zs.take i).filter c).map f))) ⟨Same.new hD, upd_same⟩ (fun i H' _ p => sqT_same p.1 hx)
    (vals_core f c hp hD hz ht) fun H' p => q D H' hD p.1 (by have z := p.2; rw [Paired.length hp, List.take_length] at z; exact z)
/-- new tuples: the turn -/
def News1 (H H' : Hp) (D : Addr) (f : α → List V) (ys : List α) : Prop := Same H H' ∧ ∃ ts : List Addr, H' D = some (.lst (ts.map V.ref)) ∧ Paired (fun t x => H' t = some (.tup (f x)) ∧ H t = none ∧ t ≠ D) ts ys
theorem news_core {D : Addr} (f : α → List V) (c : α → Bool) (hp : Paired R xs zs) (hD : H D = none) (hz : xs.length ≤ 10000)
    (hg : ∀ x z, z ∈ zs → R x z → ∀ H', Same H H' → Tst g tt te vs σ x H' (c z) fun te σ H => Gu te σ H (f z)) :
    ∀ i x H', xs[i]? = some x → News1 H H' D f ((zs.take i).filter c) → Turn1 D g tt te vs σ x H' fun H'' => News1 H H'' D f ((zs.take (i + 1)).filter c) := by
  rintro i x H' hi ⟨s, ts, hd, hpr⟩
  obtain ⟨z, hzi, hR⟩ := paired_get hp hi
  have tk : zs.take (i + 1) = zs.take i ++ [z] := by rw [List.take_add_one, hzi]; rfl
  obtain ⟨σ2, hw, ht, he, hg2⟩ := hg x z (List.mem_of_getElem? hzi) hR H' s
  refine hg2 _ ⟨hw, ht _ fun H2 s2 => ?_⟩
  have stay : ∀ {H3 : Hp}, Same H' H3 → Paired (fun t x => H3 t = some (.tup (f x)) ∧ H t = none ∧ t ≠ D) ts ((zs.take i).filter c) := fun {H3} s3 => paired_imp (fun t x h => ⟨s3 _ _ h.1, h.2⟩) hpr
  cases hc : c z with
  | true =>
    refine iteT (he hc H2 s2 _ fun t H3 ht3 s3 hn => ⟨ts.map V.ref, s3 _ _ (s2 _ _ hd), ?_, ?_⟩)
    · rw [List.length_map, Paired.length hpr, sizeLine_eq]
      have y := List.length_filter_le c (zs.take i)
      have e := Paired.length hp
      rw [List.length_take] at y
      omega
    · have s13 := s.trans (s2.trans s3)
      have tD : t ≠ D := fun e => by
        rw [e] at hn
        have z := s3 _ _ (s2 _ _ hd)
        rw [hn] at z
        cases z
      have tn : H t = none := by
        cases z : H t with
        | none => rfl
        | some o => rw [s2 _ _ (s _ _ z)] at ht3; cases ht3
      refine ⟨Sx.Same.mut s13 hD, ts ++ [t], by rw [upd_same, List.map_append]; rfl, ?_⟩
      rw [tk, List.filter_append]
      have e1 : [z].filter c = [z] := by simp [hc]
      rw [e1]
      exact paired_snoc (paired_imp (fun u y h => ⟨by rw [upd_ne h.2.2]; exact h.1, h.2⟩) (stay (s2.trans s3))) ⟨by rw [upd_ne tD]; exact hn, tn, tD⟩
  | false =>
    refine iteF ⟨s.trans s2, ts, s2 _ _ hd, ?_⟩
    rw [tk, List.filter_append]
    have e1 : [z].filter c = [] := by simp [hc]
    rw [e1, List.append_nil]
    exact stay s2
theorem lc_newsL (f : α → List V) (c : α → Bool) (hx : SqL K H a xs) (hp : Paired R xs zs) (hz : xs.length ≤ 10000)
    (hg : ∀ x z, z ∈ zs → R x z → ∀ H', Same H H' → Tst g tt te vs σ x H' (c z) fun te σ H => Gu te σ H (f z))
    (q : ∀ D H', H D = none → News1 H H' D f (zs.filter c) → Qr D H') :
    ∀ D, H D = none → ∃ W : Nat → Nat → Hp → Prop, (∃ m, W 0 m (upd H D (.lst []))) ∧ ∀ i m H', W i m H' → ((Itl K a).stop i H' ∧ Qr D H') ∨ ((Itl K a).go i H' ∧ ∃ Nx : Hp → Prop, (∀ H', Nx H' → ∃ m', m' < m ∧ W (i + 1) m' H') ∧ ∀ x H2, (Itl K a).yld i H' x H2 → Turn1 D g tt te vs σ x H2 Nx) := fun D hD =>
  lc_list (Qd := fun H' => Qr D H') (xs := xs) (fun i H' => News1 H H' D f ((zs.take i).filter c)) ⟨Same.new hD, [], upd_same, .nil⟩ (fun i H' _ p => Same.seq p.1 hx)
    (news_core f c hp hD hz hg) fun H' p => q D H' hD (by rw [Paired.length hp, List.take_length] at p; exact p)
theorem lc_newsT (f : α → List V) (c : α → Bool) (hx : SqT K H a xs) (hp : Paired R xs zs) (hz : xs.length ≤ 10000)
    (hg : ∀ x z, z ∈ zs → R x z → ∀ H', Same H H' → Tst g tt te vs σ x H' (c z) fun te σ H => Gu te σ H (f z))
    (q : ∀ D H', H D = none → News1 H H' D f (zs.filter c) → Qr D H') :
    ∀ D, H D = none → ∃ W : Nat → Nat → Hp → Prop, (∃ m, W 0 m (upd H D (.lst []))) ∧ ∀ i m H', W i m H' → ((Itt K a).stop i H' ∧ Qr D H') ∨ ((Itt K a).go i H' ∧ ∃ Nx : Hp → Prop, (∀ H', Nx H' → ∃ m', m' < m ∧ W (i + 1) m' H') ∧ ∀ x H2, (Itt K a).yld i H' x H2 → Turn1 D g tt te vs σ x H2 Nx) := fun D hD =>
  lc_tup (Qd := fun H' => Qr D H') (xs := xs) (fun i H' => News1 H H' D f ((zs.take i).filter c)) ⟨Same.new hD, [], upd_same, .nil⟩ (fun i H' _ p => sqT_same p.1 hx)
    (news_core f c hp hD hz hg) fun H' p => q D H' hD (by rw [Paired.length hp, List.take_length] at p; exact p)
end
/-- a target that is one name -/
theorem tst_name {tt : TT} {te : TE} {vs : List Nat} {σ : L2.St} {x : V} {H : Hp} {b : Bool} {E : TE → L2.St → Hp → Prop} {j : Nat} (hw : wipe ((wipe σ vs).set j (some x)) vs = wipe σ vs) (ht : Gt tt ((wipe σ vs).set j (some x)) H b) (he : b = true → ∀ H', Same H H' → E te ((wipe σ vs).set j (some x)) H') :
    Tst (gName j) tt te vs σ x H b E := ⟨_, hw, ht, he, fun k hk => hk⟩
theorem gt_yes {σ : L2.St} {H : Hp} : Gt tYes σ H true := fun Q h => h H same_id
theorem gv_var {σ : L2.St} {H : Hp} {i : Nat} {v : V} (h : σ[i]? = some (some v)) : Gv (tVar i) σ H v := fun Q q => ⟨v, h, q H same_id⟩

/-! ### [(.., ..) for x in xs for y in ys if ..] -/
theorem News1.more {H H' H2 H3 : Hp} {D t : Addr} {α : Type} {f : α → List V} {ys : List α} {y : α} (N : News1 H H' D f ys) (hD : H D = none) (s2 : Same H' H2) (ht : H2 t = none) (s3 : Same H2 H3) (hn : H3 t = some (.tup (f y))) :
    ∃ acc, H3 D = some (.lst acc) ∧ acc.length = ys.length ∧ News1 H (upd H3 D (.lst (acc ++ [.ref t]))) D f (ys ++ [y]) := by
  obtain ⟨s, ts, hd, hpr⟩ := N
  have tD : t ≠ D := fun e => by
    rw [e] at hn
    have z := s3 _ _ (s2 _ _ hd)
    rw [hn] at z
    cases z
  have tn : H t = none := by
    cases z : H t with
    | none => rfl
    | some o => rw [s2 _ _ (s _ _ z)] at ht; cases ht
  refine ⟨ts.map V.ref, s3 _ _ (s2 _ _ hd), by rw [List.length_map, Paired.length hpr], Sx.Same.mut (s.trans (s2.trans s3)) hD, ts ++ [t], by rw [upd_same, List.map_append]; rfl, ?_⟩
  exact paired_snoc (paired_imp (fun u y h => ⟨by rw [upd_ne h.2.2]; exact s3 _ _ (s2 _ _ h.1), h.2⟩) hpr) ⟨by rw [upd_ne tD]; exact hn, tn, tD⟩
theorem News1.stay {H H' H2 : Hp} {D : Addr} {α : Type} {f : α → List V} {ys : List α} (N : News1 H H' D f ys) (s2 : Same H' H2) : News1 H H2 D f ys := by
  obtain ⟨s, ts, hd, hpr⟩ := N
  exact ⟨s.trans s2, ts, s2 _ _ hd, paired_imp (fun _ _ h => ⟨s2 _ _ h.1, h.2⟩) hpr⟩
section
variable {K : PySem.W.Frag} {a1 a2 : Addr} {xs1 xs2 : List V} {tt1 : TT} {te : TE} {wi1 : TI} {vs vs1 : List Nat} {σ : L2.St} {H : Hp} {Qr : Addr → Hp → Prop} {α β : Type} {zs1 : List α} {zs2 : List β} {R1 : V → α → Prop} {R2 : V → β → Prop} {j1 j2 : Nat}
def rws (c : α → β → Bool) (zs1 : List α) (zs2 : List β) : List (α × β) := zs1.flatMap fun z => (zs2.filter (c z)).map fun u => (z, u)
theorem len_rows (c : α → β → Bool) (zs2 : List β) : ∀ zs1 : List α, (rws c zs1 zs2).length ≤ zs1.length * zs2.length
  | [] => by simp [rws]
  | z :: zs1 => by
    have ih := len_rows c zs2 zs1
    have f := List.length_filter_le (c z) zs2
    unfold rws at ih ⊢
    rw [List.flatMap_cons, List.length_append, List.length_map, List.length_cons, Nat.add_mul, Nat.one_mul]
    omega
theorem lc2_newsT (f : α × β → List V) (c : α → β → Bool) (hx1 : SqT K H a1 xs1) (hp1 : Paired R1 xs1 zs1) (hx2 : SqT K H a2 xs2) (hp2 : Paired R2 xs2 zs2) (hz : zs1.length * zs2.length ≤ 10000)
    (hw1 : ∀ x, wipe ((wipe σ vs).set j1 (some x)) vs = wipe σ vs) (hw2 : ∀ x y, wipe ((wipe ((wipe σ vs).set j1 (some x)) vs1).set j2 (some y)) vs1 = wipe ((wipe σ vs).set j1 (some x)) vs1)
    (hi : ∀ x z, z ∈ zs1 → R1 x z → ∀ H', Same H H' → ∀ R : It → Hp → Prop, R (Itt K a2) H' → wi1 ((wipe σ vs).set j1 (some x)) H' R)
    (hg : ∀ x z y u, z ∈ zs1 → u ∈ zs2 → R1 x z → R2 y u → ∀ H', Same H H' → Gt tt1 ((wipe ((wipe σ vs).set j1 (some x)) vs1).set j2 (some y)) H' (c z u) ∧ (c z u = true → ∀ H'', Same H' H'' → Gu te ((wipe ((wipe σ vs).set j1 (some x)) vs1).set j2 (some y)) H'' (f (z, u))))
    (q : ∀ D H', H D = none → News1 H H' D f (rws c zs1 zs2) → Qr D H') :
    ∀ D, H D = none → ∃ W : Nat → Nat → Hp → Prop, (∃ m, W 0 m (upd H D (.lst []))) ∧ ∀ i m H', W i m H' → ((Itt K a1).stop i H' ∧ Qr D H') ∨ ((Itt K a1).go i H' ∧ ∃ Nx : Hp → Prop, (∀ H', Nx H' → ∃ m', m' < m ∧ W (i + 1) m' H') ∧ ∀ x H2, (Itt K a1).yld i H' x H2 →
      gName j1 x (wipe σ vs) H2 fun σ2 H2 => wipe σ2 vs = wipe σ vs ∧ tYes σ2 H2 fun b H3 => if b = true then wi1 σ2 H3 fun J1 H4 => ∃ W1 : Nat → Nat → Hp → Prop, (∃ m, W1 0 m H4) ∧ ∀ j k H, W1 j k H → (J1.stop j H ∧ Nx H) ∨ (J1.go j H ∧ ∃ Nx1 : Hp → Prop, (∀ H', Nx1 H' → ∃ k', k' < k ∧ W1 (j + 1) k' H') ∧ ∀ x H', J1.yld j H x H' →
        gName j2 x (wipe σ2 vs1) H' fun σ3 H5 => wipe σ3 vs1 = wipe σ2 vs1 ∧ tt1 σ3 H5 fun b H6 => if b = true then te σ3 H6 fun y H7 => ∃ acc, H7 D = some (.lst acc) ∧ acc.length < sizeLine ∧ Nx1 (upd H7 D (.lst (acc ++ [y]))) else Nx1 H6) else Nx H3) := by
  intro D hD
  have l1 := Paired.length hp1
  have l2 := Paired.length hp2
  refine ⟨fun i m H' => m = xs1.length - i ∧ i ≤ xs1.length ∧ News1 H H' D f (rws c (zs1.take i) zs2), ⟨xs1.length, rfl, Nat.zero_le _, Same.new hD, [], upd_same, .nil⟩, ?_⟩
  rintro i m H' ⟨rfl, hle, N⟩
  have sq := sqT_same N.1 hx1
  rcases Nat.lt_or_ge i xs1.length with lt | ge
  · refine .inr ⟨⟨xs1, xs1[i], sq, List.getElem?_eq_getElem lt⟩, fun H2 => News1 H H2 D f (rws c (zs1.take (i + 1)) zs2), fun H2 p2 => ⟨xs1.length - (i + 1), by omega, rfl, lt, p2⟩, fun x H2 ⟨e, y⟩ => ?_⟩
    subst e
    have hxi := y xs1 sq
    obtain ⟨z, hzi, hR⟩ := paired_get hp1 hxi
    have zm := List.mem_of_getElem? hzi
    have tk : zs1.take (i + 1) = zs1.take i ++ [z] := by rw [List.take_add_one, hzi]; rfl
    have tk2 : rws c (zs1.take (i + 1)) zs2 = rws c (zs1.take i) zs2 ++ (zs2.filter (c z)).map fun u => (z, u) := by
      unfold rws
      rw [tk, List.flatMap_append, List.flatMap_cons, List.flatMap_nil, List.append_nil]
    have llen : (rws c (zs1.take i) zs2).length ≤ i * zs2.length := by
      refine Nat.le_trans (len_rows c zs2 _) (Nat.mul_le_mul_right _ ?_)
      rw [List.length_take]
      omega
    have bnd : i * zs2.length + zs2.length ≤ 10000 := by
      have w : (i + 1) * zs2.length ≤ zs1.length * zs2.length := Nat.mul_le_mul_right _ (by omega)
      rw [Nat.add_mul, Nat.one_mul] at w
      omega
    refine ⟨hw1 x, ?_⟩
    unfold tYes
    dsimp only
    rw [if_pos rfl]
    refine hi x z zm hR _ N.1 _ ?_
    refine ⟨fun j k H4 => k = xs2.length - j ∧ j ≤ xs2.length ∧ News1 H H4 D f (rws c (zs1.take i) zs2 ++ ((zs2.take j).filter (c z)).map fun u => (z, u)), ⟨xs2.length, rfl, Nat.zero_le _, by rw [List.take_zero, List.filter_nil, List.map_nil, List.append_nil]; exact N⟩, ?_⟩
    rintro j k H4 ⟨rfl, hj, N4⟩
    have sq2 := sqT_same N4.1 hx2
    rcases Nat.lt_or_ge j xs2.length with lt2 | ge2
    · refine .inr ⟨⟨xs2, xs2[j], sq2, List.getElem?_eq_getElem lt2⟩, fun H5 => News1 H H5 D f (rws c (zs1.take i) zs2 ++ ((zs2.take (j + 1)).filter (c z)).map fun u => (z, u)), fun H5 p5 => ⟨xs2.length - (j + 1), by omega, rfl, lt2, p5⟩, fun y' H5 ⟨e, y2⟩ => ?_⟩
      subst e
      have hyj := y2 xs2 sq2
      obtain ⟨u, huj, hR2⟩ := paired_get hp2 hyj
      have tk3 : zs2.take (j + 1) = zs2.take j ++ [u] := by rw [List.take_add_one, huj]; rfl
      obtain ⟨hT, hE⟩ := hg x z y' u zm (List.mem_of_getElem? huj) hR hR2 _ N4.1
      refine ⟨hw2 x y', hT _ fun H6 s6 => ?_⟩
      cases hc : c z u with
      | true =>
        refine iteT (hE hc _ s6 _ fun t H7 ht s7 hn => ?_)
        obtain ⟨acc, h1, h2, h3⟩ := News1.more (y := (z, u)) N4 hD s6 ht s7 hn
        refine ⟨acc, h1, ?_, ?_⟩
        · rw [h2, List.length_append, List.length_map, sizeLine_eq]
          have w := List.length_filter_le (c z) (zs2.take j)
          rw [List.length_take] at w
          omega
        · have e1 : [u].filter (c z) = [u] := by simp [hc]
          rw [tk3, List.filter_append, e1, List.map_append, ← List.append_assoc]
          exact h3
      | false =>
        refine iteF ?_
        have e1 : [u].filter (c z) = [] := by simp [hc]
        rw [tk3, List.filter_append, e1, List.append_nil]
        exact N4.stay s6
    · have e : j = xs2.length := Nat.le_antisymm hj ge2
      subst e
      refine .inl ⟨⟨xs2, sq2, Nat.le_refl _⟩, ?_⟩
      rw [tk2]
      rw [l2, List.take_length] at N4
      exact N4
  · have e : i = xs1.length := Nat.le_antisymm hle ge
    subst e
    refine .inl ⟨⟨xs1, sq, Nat.le_refl _⟩, q D H' hD ?_⟩
    rw [l1, List.take_length] at N
    exact N
end
end Sx

/-! BookB -/
namespace Sx
open PySem PySem.Spec PyProof.Rows L2

/-! ### Books in good order -/
structure Std (ks : List Str) (cs : List (Str × Str)) : Prop where
  up : Up ltS ks
  few : ks.length ≤ 40
  upc : Up ltP cs
  inn : ∀ c ∈ cs, c.1 ∈ ks ∧ c.2 ∈ ks
  low : ∀ c ∈ cs, ltS c.2 c.1 = false
theorem mnS_mem {a b : Str} {p : Str → Prop} (ha : p a) (hb : p b) : p (mnS a b) := by
  unfold mnS
  split <;> assumption
theorem mxS_mem {a b : Str} {p : Str → Prop} (ha : p a) (hb : p b) : p (mxS a b) := by
  unfold mxS
  split <;> assumption
theorem nrm_low (c : Str × Str) : ltS (nrm c).2 (nrm c).1 = false := by
  show ltS (mxS c.1 c.2) (mnS c.1 c.2) = false
  unfold mxS mnS
  cases q : ltS c.1 c.2 with
  | true =>
    rw [if_pos rfl]
    cases r : ltS c.2 c.1 with
    | true => exact absurd (totS.tr q r) (by rw [totS.irr]; exact fun z => nomatch z)
    | false => rw [if_neg (by exact fun z => nomatch z)]; exact r
  | false =>
    rw [if_neg (by exact fun z => nomatch z)]
    cases r : ltS c.2 c.1 with
    | true => rw [if_pos rfl]; exact q
    | false => rw [if_neg (by exact fun z => nomatch z)]; exact totS.irr _
theorem nrm_self {c : Str × Str} (h : ltS c.2 c.1 = false) : nrm c = c := by
  show (mnS c.1 c.2, mxS c.1 c.2) = c
  unfold mnS mxS
  rw [if_neg (by rw [h]; exact fun z => nomatch z)]
  cases q : ltS c.1 c.2 with
  | true => rfl
  | false =>
    have e : c.1 = c.2 := totS.eq q h
    rw [if_neg (by exact fun z => nomatch z)]
    exact Prod.ext rfl e
theorem std_make {ks : List Str} {ps : List (Str × Str)} (few : ks.length ≤ 40) (nd : ks.Nodup) (inn : ∀ c ∈ ps, c.1 ∈ ks ∧ c.2 ∈ ks) : Std (srt ltS ks) (srt ltP (ps.map nrm)) := by
  refine ⟨up_srt totS ks, ?_, up_srt totP _, fun c hc => ?_, fun c hc => ?_⟩
  · exact Nat.le_trans (few_of (up_nodup totS (up_srt totS ks)) fun z hz => (mem_srt totS).mp hz) few
  · obtain ⟨c0, h0, e⟩ := List.mem_map.mp ((mem_srt totP).mp hc)
    obtain ⟨h1, h2⟩ := inn c0 h0
    rw [← e]
    exact ⟨(mem_srt totS).mpr (mnS_mem (p := (· ∈ ks)) h1 h2), (mem_srt totS).mpr (mxS_mem (p := (· ∈ ks)) h1 h2)⟩
  · obtain ⟨c0, h0, e⟩ := List.mem_map.mp ((mem_srt totP).mp hc)
    rw [← e]
    exact nrm_low c0
theorem map_nrm {cs : List (Str × Str)} (h : ∀ c ∈ cs, ltS c.2 c.1 = false) : cs.map nrm = cs := by
  induction cs with
  | nil => rfl
  | cons c cs ih => rw [List.map_cons, nrm_self (h c List.mem_cons_self), ih fun d hd => h d (List.mem_cons_of_mem _ hd)]
theorem std_len {ks : List Str} {cs : List (Str × Str)} (S : Std ks cs) : cs.length ≤ 1600 := by
  have z : ∀ l : List Str, (l.flatMap fun a => ks.map fun b => (a, b)).length = l.length * ks.length := fun l => by
    induction l with
    | nil => simp
    | cons a l ih => rw [List.flatMap_cons, List.length_append, ih, List.length_map, List.length_cons, Nat.add_mul, Nat.one_mul, Nat.add_comm]
  refine Nat.le_trans (few_of (m := ks.flatMap fun a => ks.map fun b => (a, b)) (up_nodup totP S.upc) fun c hc => ?_) ?_
  · obtain ⟨h1, h2⟩ := S.inn c hc
    exact List.mem_flatMap.mpr ⟨c.1, h1, List.mem_map.mpr ⟨c.2, h2, rfl⟩⟩
  · rw [z]
    exact Nat.le_trans (Nat.mul_le_mul S.few S.few) (by decide)
theorem mem_near {cs : List (Str × Str)} {k z : Str} : z ∈ nearM cs k ↔ (k, z) ∈ cs ∨ (z, k) ∈ cs := by
  unfold nearM
  rw [List.mem_filterMap]
  constructor
  · rintro ⟨c, hc, e⟩
    by_cases h : c.1 = k
    · rw [if_pos h] at e
      have e2 := Option.some.inj e
      exact .inl (by rw [← h, ← e2]; exact hc)
    · rw [if_neg h] at e
      by_cases g : c.2 = k
      · rw [if_pos g] at e
        have e2 := Option.some.inj e
        exact .inr (by rw [← g, ← e2]; exact hc)
      · rw [if_neg g] at e
        cases e
  · rintro (h | h)
    · exact ⟨_, h, by rw [if_pos rfl]⟩
    · refine ⟨_, h, ?_⟩
      by_cases g : z = k
      · rw [if_pos g, g]
      · rw [if_neg g, if_pos rfl]

/-- a field read in a comprehension -/
theorem pe_fldK {X : Cx} (K : PySem.W.Frag) {e : Expr} {f : Str} {pos : Pos} {ta : TE} (he : PE X e ta) (hK : X.K = K) (hb : attributeBase e f X.env (eval e X.env) = eval e X.env) : PE X (.Attribute e f pos) (tFld K ta f) := hK ▸ pe_fld he hb
/-! ### methods -/
abbrev sAsk : Stmt := inClass cBook 9
abbrev sClashing : Stmt := inClass cBook 11
abbrev sPeaceful : Stmt := inClass cBook 12
abbrev sOnly : Stmt := inClass cBook 14
abbrev sWithout : Stmt := inClass cBook 15
abbrev sTurned : Stmt := inClass cBook 18
abbrev sKinds : Stmt := inClass cBook 2
structure TB (K : PySem.W.Frag) (mg : Str → Option Value) (C : Addr) : Prop extends Blt mg where
  cl : Cls K C
  nK : NoAttr K C "_kinds"
  nC : NoAttr K C "_clashes"
  nN : NoAttr K C "_near"
abbrev InitG (P : Program) (w : World) (K : PySem.W.Frag) (mg : Str → Option Value) (base : Heap) (C : Addr) : Prop := MkG P w K mg base "Book" C 1 ["self", "kinds", "clashes"] (spInit K C)
theorem take_snoc {α : Type} {l : List α} {n : Nat} {x : α} (h : l[n]? = some x) : l.take (n + 1) = l.take n ++ [x] := by
  rw [List.take_succ, h]
  rfl
end Sx

/-! BookF -/
namespace Sx
open PySem PySem.Spec PyProof.Rows L2
abbrev sText : Stmt := inClass cBook 5
abbrev sOf : Stmt := inClass cBook 1
abbrev sIsKind : Stmt := top 2
def pairT (c : Str × Str) : Str := Str.empty ++ c.1 ++ "-" ++ c.2
def frontT (ks : List Str) : Str := if ks.isEmpty then "-" else Txt.join " " ks
def txtM (ks : List Str) (cs : List (Str × Str)) : Str := if cs.isEmpty then frontT ks else Str.empty ++ frontT ks ++ "; " ++ Txt.join " " (cs.map pairT)
def spText (K : PySem.W.Frag) (C : Addr) : Sp := fun vs H Q _ => ∃ (p : Addr) (ks : List Str) (cs : List (Str × Str)), vs = [.ref p] ∧ BookAt K C H p ks cs ∧ ks.length ≤ 40 ∧ cs.length ≤ 1600 ∧ (∀ k ∈ ks, k.length ≤ 100) ∧ (∀ c ∈ cs, c.1.length ≤ 100 ∧ c.2.length ≤ 100) ∧
  ((frontT ks).length ≤ 10000 ∧ (Txt.join " " (cs.map pairT)).length ≤ 1000000) ∧ ∀ H', Same H H' → Q (.str (txtM ks cs)) H'
theorem len_pairT (c : Str × Str) : (pairT c).length = c.1.length + 1 + c.2.length := by
  unfold pairT
  rw [Str.length_append, Str.length_append, Str.length_append]
  have e : (Str.empty).length = 0 := rfl
  have e1 : ("-" : Str).length = 1 := by decide +kernel
  rw [e, e1]
  omega
theorem sum_le {l : List Nat} {b : Nat} (h : ∀ x ∈ l, x ≤ b) : l.sum ≤ l.length * b := by
  induction l with
  | nil => simp
  | cons x l ih =>
    rw [List.sum_cons, List.length_cons, Nat.add_mul, Nat.one_mul]
    have a := h x List.mem_cons_self
    have c := ih fun y hy => h y (List.mem_cons_of_mem _ hy)
    omega
section
variable {P : Program} {w : World} {K : PySem.W.Frag} {mg : Str → Option Value} {base : Heap}
abbrev nText : List Str := ["self", "front", "back", "one", "other"]
theorem scText : FnScope nText ["self"] (defScope sText) := ⟨rfl, rfl, rfl, by decide +kernel, rfl, by decide +kernel, by decide +kernel⟩
theorem ok_text {f C : Addr} {fd : FuncData} {dvs : List V} (F : FunD K "text" "Book.text" (defArgs sText) (defBody sText) (defScope sText) dvs [] f fd) (T : TB K mg C) : FnOk P w K mg base CX0 1 f fd ["self"] (spText K C) := by
  refine F.ok scText (fun vs H Q E h => ?_) (fun cdv A outer s H vs Q E hr h => ?_)
  · obtain ⟨p, ks, cs, rfl, _⟩ := h
    rfl
  · obtain ⟨p, ks, cs, rfl, B, few, fewc, hk, hcl, hbig, q⟩ := h
    obtain ⟨dx, ak, ac, an, kvs, ts, hp, hak, hac, hts, han, hin, hout⟩ := id B
    refine ⟨_, (Evl.pss_cut (ps_set (i := 1) scText.nd rfl (Or.inl rfl) (pe_ifExp (pt_truth (pe_fld (pv 0) rfl) (by intro _; rfl)) (pe_join pe_str (pe_fld (pv 0) rfl)) pe_str))
      (pss_cons (ps_if (pt_not (pt_truth (pe_fld (pv 0) rfl) (by intro _; rfl))) (pss_one (ps_ret (pv 1))) pss_nil)
      (pss_cons (ps_set (i := 2) scText.nd rfl (Or.inl rfl) (pe_join pe_str (pe_lc (own := [("one", 3), ("other", 4)]) (g := gTup K 2 (gCons (gName 3) (gCons (gName 4) gNil))) (tt := tYes) rfl scText.nd (pi_tup (pe_fld (pv 0) rfl)) (blkOk_by (N := nText) (sc := defScope sText) (by decide +kernel))
        (fun _ _ _ _ _ => pg_tup rfl (pgs_cons (pg_name (i := 3) scText.nd rfl (Or.inl rfl)) (pgs_cons (pg_name (i := 4) scText.nd rfl (Or.inl rfl)) pgs_nil))) (fun _ _ _ _ _ => pts_nil)
        (fun _ _ _ _ _ => pe_joined (.cons (pe_fmt (pv 3)) (.cons pe_str (.cons (pe_fmt (pv 4)) .nil)))))))
      (pss_one (ps_ret (pe_joined (.cons (pe_fmt (pv 1)) (.cons pe_str (.cons (pe_fmt (pv 2)) .nil))))))))).nox, ?_⟩
    refine ⟨fun σ' H' => σ' = [some (.ref p), some (.str (frontT ks)), none, none, none] ∧ H' = H, ?_, ?_⟩
    · refine ⟨_, rfl, p, C, dx, _, _, rfl, hp, T.cl, T.nK, bkF_kinds _ _ _, _, .inr (.inl ⟨_, hak, rfl⟩), ?_⟩
      cases ks with
      | nil => exact iteF ⟨rfl, rfl⟩
      | cons k ks =>
        dsimp only
        rw [if_pos (show (!(List.map V.str (k :: ks)).isEmpty) = true from rfl)]
        refine ⟨⟨_, rfl⟩, _, rfl, p, C, dx, _, _, rfl, hp, T.cl, T.nK, bkF_kinds _ _ _, _, _, k :: ks, rfl, rfl, .inr hak, ?_, rfl, rfl⟩
        have y := sum_le (l := (k :: ks).map (·.length)) (b := 100) fun x hx => by
          obtain ⟨z, hz, e⟩ := List.mem_map.mp hx
          rw [← e]
          exact hk z hz
        have e1 : (" " : Str).length = 1 := by decide +kernel
        rw [List.length_map] at y
        rw [e1]
        omega
    rintro σ' H' ⟨rfl, rfl⟩
    have lts : ts.length = cs.length := Paired.length hts
    refine ⟨_, rfl, p, C, dx, _, _, rfl, hp, T.cl, T.nC, bkF_clashes _ _ _, _, .inr (.inl ⟨_, hac, rfl⟩), ?_⟩
    cases cs with
    | nil =>
      cases hts
      refine ⟨_, rfl, ?_⟩
      exact q _ same_id
    | cons c0 cs0 =>
      cases ts with
      | nil => cases hts
      | cons t0 ts0 =>
      show if (!(!(List.map V.ref (t0 :: ts0)).isEmpty)) = true then _ else _
      rw [if_neg (by simp)]
      refine ⟨⟨_, rfl⟩, _, rfl, p, C, dx, _, _, rfl, hp, T.cl, T.nC, bkF_clashes _ _ _, ac, rfl, ⟨_, hac⟩, ?_⟩
      refine lc_valsT (te := fun σ H Q => tJs [tFmt (tVar 3), tC (V.str "-"), tFmt (tVar 4)] Str.empty σ H fun out H1 => Q (V.str out) H1) (vs := [3, 4]) (σ := [some (.ref p), some (.str (frontT ks)), none, none, none]) (fun c : Str × Str => V.str (pairT c)) (fun _ => true) hac (paired_refs hts) (by rw [List.length_map]; omega) (fun x z hz hx H2 s2 => ?_) (fun D H2 hD s2 hl => ?_)
      · obtain ⟨t, rfl, hT⟩ := hx
        refine ⟨[some (.ref p), some (.str (frontT ks)), none, some (.str z.1), some (.str z.2)], rfl, gt_yes, fun _ H3 s3 Q h => ?_, fun k hk => ⟨t, _, rfl, sqT_same s2 hT, rfl, _, _, rfl, _, _, rfl, rfl, hk⟩⟩
        obtain ⟨l1, l2⟩ := hcl z hz
        have l := len_pairT z
        have small : ∀ {n : Nat}, n ≤ 300 → n ≤ sizeLine := fun h => Nat.le_trans h (by rw [sizeLine_eq]; decide)
        unfold pairT at l
        rw [Str.length_append] at l
        refine ⟨_, rfl, .inl ⟨_, rfl, small (by omega), _, rfl, small ?_, _, rfl, small (by omega), ?_⟩⟩
        · rw [Str.length_append]; show (0 : Nat) + _ ≤ 300; omega
        · refine ⟨_, rfl, .inl ⟨_, rfl, small (by omega), _, rfl, small ?_, h H3 same_id⟩⟩
          rw [Str.length_append]
          omega
      · have ef : (c0 :: cs0).filter (fun _ => true) = c0 :: cs0 := List.filter_eq_self.mpr fun _ _ => rfl
        rw [ef] at hl
        have em : (c0 :: cs0).map (fun c => V.str (pairT c)) = ((c0 :: cs0).map pairT).map V.str := by rw [List.map_map]; rfl
        rw [em] at hl
        refine ⟨" ", D, (c0 :: cs0).map pairT, rfl, rfl, .inl (SqL.of hl), ?_, ?_⟩
        · have y := sum_le (l := ((c0 :: cs0).map pairT).map (·.length)) (b := 201) fun x hx => by
            obtain ⟨z, hz, e⟩ := List.mem_map.mp hx
            obtain ⟨c, hc, e2⟩ := List.mem_map.mp hz
            rw [← e, ← e2, len_pairT]
            have w := hcl c hc
            omega
          have e1 : (" " : Str).length = 1 := by decide +kernel
          rw [List.length_map, List.length_map] at y
          rw [e1, List.length_map]
          omega
        · have small : ∀ {n : Nat}, n ≤ 2000000 → n ≤ sizeLine := fun h => Nat.le_trans h (by rw [sizeLine_eq]; decide)
          have e2 : ("; " : Str).length = 2 := by decide +kernel
          have e0 : (Str.empty).length = 0 := rfl
          refine ⟨_, rfl, .inl ⟨_, rfl, small (by omega), _, rfl, small ?_, _, rfl, small ?_, ?_⟩⟩
          · rw [Str.length_append, e0]; omega
          · rw [Str.length_append, Str.length_append, e0, e2]; omega
          · refine ⟨_, rfl, .inl ⟨_, rfl, small (by omega), _, rfl, small ?_, ?_⟩⟩
            · rw [Str.length_append, Str.length_append, Str.length_append, e0, e2]; omega
            · exact q _ s2

/-! ### is_kind -/
/-- [f c for c in x], x a text -/
theorem lc_strs {x : Str} {te : TE} {vs : List Nat} {σ : L2.St} {H : Hp} {Qr : Addr → Hp → Prop} {j : Nat} (f : Nat → V) (hz : x.cps.size ≤ 10000) (hw : ∀ v, wipe ((wipe σ vs).set j (some v)) vs = wipe σ vs)
    (ht : ∀ c ∈ x.cps.toList, ∀ H', Same H H' → Gv te ((wipe σ vs).set j (some (.str ⟨#[c]⟩))) H' (f c)) (q : ∀ D H', H D = none → Same H H' → H' D = some (.lst (x.cps.toList.map f)) → Qr D H') :
    ∀ D, H D = none → ∃ W : Nat → Nat → Hp → Prop, (∃ m, W 0 m (upd H D (.lst []))) ∧ ∀ i m H', W i m H' → ((Its x).stop i H' ∧ Qr D H') ∨ ((Its x).go i H' ∧ ∃ Nx : Hp → Prop, (∀ H', Nx H' → ∃ m', m' < m ∧ W (i + 1) m' H') ∧ ∀ v H2, (Its x).yld i H' v H2 → Turn1 D (gName j) tYes te vs σ v H2 Nx) := by
  intro D hD
  refine ⟨fun i m H' => m = x.cps.size - i ∧ i ≤ x.cps.size ∧ Same H H' ∧ H' D = some (.lst ((x.cps.toList.take i).map f)), ⟨x.cps.size, rfl, Nat.zero_le _, Sx.Same.new hD, upd_same⟩, ?_⟩
  rintro i m H' ⟨rfl, hi, s, hd⟩
  rcases Nat.lt_or_ge i x.cps.size with lt | ge
  · refine .inr ⟨lt, fun H2 => Same H H2 ∧ H2 D = some (.lst ((x.cps.toList.take (i + 1)).map f)), fun H2 p => ⟨x.cps.size - (i + 1), by omega, rfl, lt, p⟩, fun v H2 ⟨e, c, hc, ev⟩ => ?_⟩
    subst e
    subst ev
    have hl : x.cps.toList[i]? = some c := by rw [Array.getElem?_toList]; exact hc
    refine ⟨hw _, ?_⟩
    unfold tYes
    dsimp only
    rw [if_pos rfl]
    refine ht c (List.mem_of_getElem? hl) _ s _ fun H3 s3 => ⟨_, s3 _ _ hd, ?_, Sx.Same.mut (s.trans s3) hD, ?_⟩
    · rw [List.length_map, List.length_take, sizeLine_eq]
      omega
    · rw [upd_same, take_snoc hl, List.map_append]
      rfl
  · have e : i = x.cps.size := Nat.le_antisymm hi ge
    subst e
    refine .inl ⟨Nat.le_refl _, q D H' hD s ?_⟩
    rw [show x.cps.size = x.cps.toList.length from (Array.length_toList).symm, List.take_length] at hd
    exact hd
def okSign (c : Nat) : Bool := (!decide ((⟨#[c]⟩ : Str).cps.toList < ("a" : Str).cps.toList)) && (!decide (("z" : Str).cps.toList < (⟨#[c]⟩ : Str).cps.toList))
def isKindM (x : Str) : Bool := !decide (x = "") && x.cps.toList.all okSign
def spIsKind : Sp := fun vs H Q _ => ∃ x : Str, vs = [.str x] ∧ x.cps.size ≤ 4000 ∧ ∀ H', Same H H' → Q (.bl (isKindM x)) H'
abbrev nIsKind : List Str := ["thing", "sign"]
theorem scIsKind : FnScope nIsKind ["thing"] (defScope sIsKind) := ⟨rfl, rfl, rfl, by decide +kernel, rfl, by decide +kernel, by decide +kernel⟩
theorem ok_isKind {f : Addr} {fd : FuncData} {dvs : List V} (F : FunD K "is_kind" "is_kind" (defArgs sIsKind) (defBody sIsKind) (defScope sIsKind) dvs [] f fd) (B : Blt mg) : FnOk P w K mg base CX0 1 f fd ["thing"] spIsKind := by
  refine F.ok scIsKind (fun vs H Q E h => ?_) (fun cdv A outer s H vs Q E hr h => ?_)
  · obtain ⟨x, rfl, _⟩ := h
    rfl
  · obtain ⟨x, rfl, hz, q⟩ := h
    refine ⟨_, (pss_one (ps_ret (pe_and (pe_callB call_isi (by rfl) B.isinstance bt_isinstance (pa_cons (pv 0) (pa_cons (pe_bltn (v := .ty "str") (by rfl) B.str bt_str rfl) pa_nil)))
      (pe_and (pe_cmpR op_ne (pv 0) pe_str (nomark _)) (pe_one (pe_callB (cr_all rfl) (by rfl) B.all bt_all (pa_cons
        (pe_lc (own := [("sign", 1)]) (g := gName 1) (tt := tYes) rfl scIsKind.nd (pi_str (pv 0)) (blkOk_by (N := nIsKind) (sc := defScope sIsKind) (by decide +kernel)) (fun _ _ _ _ _ => pg_name (i := 1) scIsKind.nd rfl (Or.inl rfl)) (fun _ _ _ _ _ => pts_nil)
          (fun _ _ _ _ _ => pe_chain op_le_str op_le_str pe_str (pv 1) pe_str)) pa_nil))))))).nox, ?_⟩
    refine ⟨_, rfl, .str x, .ty "str", .type "str", .type "str", true, rfl, .ty "str", ?_, kit_ty (by decide +kernel), true, rfl, iteT ?_⟩
    · exact .base (.str x)
    refine ⟨_, rfl, rfl, _, rfl, ?_⟩
    have hQ := q
    unfold isKindM at hQ
    by_cases e : x = ""
    · refine iteNS (by rw [e]) ?_
      rw [decide_eq_true e] at hQ
      exact hQ _ same_id
    · have ne : ¬ (V.str x = V.str "") := fun w => e (V.str.inj w)
      rw [decide_eq_false ne]
      rw [decide_eq_false e] at hQ
      refine iteT ⟨_, rfl, x, rfl, ?_⟩
      refine lc_strs (vs := [1]) (σ := [some (.str x), none]) (fun c => .bl (okSign c)) (by omega) (fun _ => by rfl) (fun c hc H' s' Q h => ?_) (fun D H' hD s' hl => ?_)
      · have hq := h H' same_id
        unfold okSign at hq
        refine ⟨_, rfl, _, _, rfl, rfl, _, rfl, ?_⟩
        cases k : (!decide ((⟨#[c]⟩ : Str).cps.toList < ("a" : Str).cps.toList)) with
        | false =>
          rw [k] at hq
          exact iteF hq
        | true =>
          rw [k] at hq
          exact iteT ⟨_, _, rfl, rfl, hq⟩
      · refine ⟨D, x.cps.toList.map okSign, rfl, SqL.of ?_, ?_⟩
        · rw [hl, List.map_map]
          rfl
        · have ea : (x.cps.toList.map okSign).all id = x.cps.toList.all okSign := by rw [List.all_map]; rfl
          rw [ea]
          exact hQ _ s'
end
end Sx

/-! SxObj -/
/-! Comprehensions whose elements are new objects. -/
namespace Sx
open PySem PySem.Spec PyProof.Rows L2
/-- te lays the object o -/
def Go (te : TE) (σ : L2.St) (H : Hp) (o : HO) : Prop := ∀ Q : VK, (∀ t H', H t = none → Same H H' → H' t = some o → Q (.ref t) H') → te σ H Q
def NewsO {α : Type} (H H' : Hp) (D : Addr) (f : α → HO) (ys : List α) : Prop := Same H H' ∧ ∃ ts : List Addr, H' D = some (.lst (ts.map V.ref)) ∧ Paired (fun t x => H' t = some (f x) ∧ H t = none ∧ t ≠ D) ts ys
section
variable {K : PySem.W.Frag} {a : Addr} {xs : List V} {g : TG} {tt : TT} {te : TE} {vs : List Nat} {σ : L2.St} {H : Hp} {Qr : Addr → Hp → Prop} {α : Type} {zs : List α} {R : V → α → Prop}
theorem objs_core {D : Addr} (f : α → HO) (c : α → Bool) (hp : Paired R xs zs) (hD : H D = none) (hz : xs.length ≤ 10000)
    (hg : ∀ x z, z ∈ zs → R x z → ∀ H', Same H H' → Tst g tt te vs σ x H' (c z) fun te σ H => Go te σ H (f z)) :
    ∀ i x H', xs[i]? = some x → NewsO H H' D f ((zs.take i).filter c) → Turn1 D g tt te vs σ x H' fun H'' => NewsO H H'' D f ((zs.take (i + 1)).filter c) := by
  rintro i x H' hi ⟨s, ts, hd, hpr⟩
  obtain ⟨z, hzi, hR⟩ := paired_get hp hi
  have tk : zs.take (i + 1) = zs.take i ++ [z] := by rw [List.take_add_one, hzi]; rfl
  obtain ⟨σ2, hw, ht, he, hg2⟩ := hg x z (List.mem_of_getElem? hzi) hR H' s
  refine hg2 _ ⟨hw, ht _ fun H2 s2 => ?_⟩
  have stay : ∀ {H3 : Hp}, Same H' H3 → Paired (fun t x => H3 t = some (f x) ∧ H t = none ∧ t ≠ D) ts ((zs.take i).filter c) := fun {H3} s3 => paired_imp (fun t x h => ⟨s3 _ _ h.1, h.2⟩) hpr
  cases hc : c z with
  | true =>
    refine iteT (he hc H2 s2 _ fun t H3 ht3 s3 hn => ⟨ts.map V.ref, s3 _ _ (s2 _ _ hd), ?_, ?_⟩)
    · rw [List.length_map, Paired.length hpr, sizeLine_eq]
      have y := List.length_filter_le c (zs.take i)
      have e := Paired.length hp
      rw [List.length_take] at y
      omega
    · have s13 := s.trans (s2.trans s3)
      have tD : t ≠ D := fun e => by
        rw [e, s2 _ _ hd] at ht3
        cases ht3
      have tn : H t = none := by
        cases z : H t with
        | none => rfl
        | some o => rw [s2 _ _ (s _ _ z)] at ht3; cases ht3
      refine ⟨Sx.Same.mut s13 hD, ts ++ [t], by rw [upd_same, List.map_append]; rfl, ?_⟩
      rw [tk, List.filter_append]
      have e1 : [z].filter c = [z] := by simp [hc]
      rw [e1]
      exact paired_snoc (paired_imp (fun u y h => ⟨by rw [upd_ne h.2.2]; exact h.1, h.2⟩) (stay (s2.trans s3))) ⟨by rw [upd_ne tD]; exact hn, tn, tD⟩
  | false =>
    refine iteF ⟨s.trans s2, ts, s2 _ _ hd, ?_⟩
    rw [tk, List.filter_append]
    have e1 : [z].filter c = [] := by simp [hc]
    rw [e1, List.append_nil]
    exact stay s2
theorem lc_objsL (f : α → HO) (c : α → Bool) (hx : SqL K H a xs) (hp : Paired R xs zs) (hz : xs.length ≤ 10000)
    (hg : ∀ x z, z ∈ zs → R x z → ∀ H', Same H H' → Tst g tt te vs σ x H' (c z) fun te σ H => Go te σ H (f z))
    (q : ∀ D H', H D = none → NewsO H H' D f (zs.filter c) → Qr D H') :
    ∀ D, H D = none → ∃ W : Nat → Nat → Hp → Prop, (∃ m, W 0 m (upd H D (.lst []))) ∧ ∀ i m H', W i m H' → ((Itl K a).stop i H' ∧ Qr D H') ∨ ((Itl K a).go i H' ∧ ∃ Nx : Hp → Prop, (∀ H', Nx H' → ∃ m', m' < m ∧ W (i + 1) m' H') ∧ ∀ x H2, (Itl K a).yld i H' x H2 → Turn1 D g tt te vs σ x H2 Nx) := fun D hD =>
  lc_list (Qd := fun H' => Qr D H') (xs := xs) (fun i H' => NewsO H H' D f ((zs.take i).filter c)) ⟨Same.new hD, [], upd_same, .nil⟩ (fun i H' _ p => Same.seq p.1 hx)
    (objs_core f c hp hD hz hg) fun H' p => q D H' hD (by rw [Paired.length hp, List.take_length] at p; exact p)
theorem lc_objsT (f : α → HO) (c : α → Bool) (hx : SqT K H a xs) (hp : Paired R xs zs) (hz : xs.length ≤ 10000)
    (hg : ∀ x z, z ∈ zs → R x z → ∀ H', Same H H' → Tst g tt te vs σ x H' (c z) fun te σ H => Go te σ H (f z))
    (q : ∀ D H', H D = none → NewsO H H' D f (zs.filter c) → Qr D H') :
    ∀ D, H D = none → ∃ W : Nat → Nat → Hp → Prop, (∃ m, W 0 m (upd H D (.lst []))) ∧ ∀ i m H', W i m H' → ((Itt K a).stop i H' ∧ Qr D H') ∨ ((Itt K a).go i H' ∧ ∃ Nx : Hp → Prop, (∀ H', Nx H' → ∃ m', m' < m ∧ W (i + 1) m' H') ∧ ∀ x H2, (Itt K a).yld i H' x H2 → Turn1 D g tt te vs σ x H2 Nx) := fun D hD =>
  lc_tup (Qd := fun H' => Qr D H') (xs := xs) (fun i H' => NewsO H H' D f ((zs.take i).filter c)) ⟨Same.new hD, [], upd_same, .nil⟩ (fun i H' _ p => sqT_same p.1 hx)
    (objs_core f c hp hD hz hg) fun H' p => q D H' hD (by rw [Paired.length hp, List.take_length] at p; exact p)
end
end Sx

/-! BookG -/
namespace Sx
open PySem PySem.Spec PyProof.Rows L2
def frO (t : Str) : Str := (Txt.partition t "; ").1
def bkO (t : Str) : Str := (Txt.partition t "; ").2.2
def OfOk (t : Str) (ks : List Str) (ps : List (Str × Str)) : Prop :=
  t.length ≤ 4000 ∧ (frO t).length ≤ 4000 ∧ (bkO t).length ≤ 4000 ∧ (if frO t = "-" then [] else Txt.split (frO t) " ") = ks ∧
  (if (bkO t).length = 0 then [] else (Txt.split (bkO t) " ").map fun p => Txt.split p "-") = ps.map (fun c => [c.1, c.2]) ∧ (∀ p ∈ Txt.split (bkO t) " ", p.length ≤ 4000) ∧ ps.length ≤ 1600 ∧
  (∀ k ∈ ks, isKindM k = true ∧ k.cps.size ≤ 100) ∧ ks.Nodup ∧ ks.length ≤ 40 ∧ (∀ c ∈ ps, c.1 ∈ ks ∧ c.2 ∈ ks) ∧ txtM (srt ltS ks) (srt ltP (ps.map nrm)) = t ∧
  ((frontT (srt ltS ks)).length ≤ 10000 ∧ (Txt.join " " ((srt ltP (ps.map nrm)).map pairT)).length ≤ 1000000)
instance (t : Str) (ks : List Str) (ps : List (Str × Str)) : Decidable (OfOk t ks ps) := by unfold OfOk; infer_instance

def spOfB (K : PySem.W.Frag) (C : Addr) : Sp := fun vs H Q _ => ∃ (t : Str) (ks : List Str) (ps : List (Str × Str)), vs = [.str t] ∧ OfOk t ks ps ∧ ∀ a H', Same H H' → BookAt K C H' a (srt ltS ks) (srt ltP (ps.map nrm)) → Q (.ref a) H'
theorem paired_lists {α β : Type} {F : α → β → Prop} {ts : List α} {zs : List γ} {f : γ → β} (h : Paired F ts (zs.map f)) : Paired (fun t z => F t (f z)) ts zs := by
  induction zs generalizing ts with
  | nil => cases h; exact .nil
  | cons z zs ih =>
    cases h with
    | cons r t => exact .cons r (ih t)
theorem paired_mapr {α β γ : Type} {F : α → β → Prop} {G : α → γ → Prop} {f : β → γ} {ts : List α} {zs : List β} (i : ∀ t z, F t z → G t (f z)) (h : Paired F ts zs) : Paired G ts (zs.map f) := by
  induction h with
  | nil => exact .nil
  | cons r _ ih => exact .cons (i _ _ r) ih
section
variable {P : Program} {w : World} {K : PySem.W.Frag} {mg : Str → Option Value} {base : Heap}
abbrev nOf : List Str := ["text", "front", "_", "back", "kinds", "pairs", "book", "part", "kind"]
theorem scOf : FnScope nOf ["text"] (defScope sOf) := ⟨rfl, rfl, rfl, by decide +kernel, rfl, by decide +kernel, by decide +kernel⟩
theorem ok_of {f C : Addr} {fd : FuncData} {dvs : List V} (F : FunD K "of" "Book.of" (defArgs sOf) (defBody sOf) (defScope sOf) dvs [] f fd) (T : TB K mg C) (GB : InitG P w K mg base C) (GI : FnG P w K mg base "is_kind" 1 ["thing"] spIsKind) (GT : PrG P w K mg base C "text" 1 (spText K C)) :
    FnOk P w K mg base CX0 3 f fd ["text"] (spOfB K C) := by
  refine F.ok scOf (fun vs H Q E h => ?_) (fun cdv A outer s H vs Q E hr h => ?_)
  · obtain ⟨t, ks, ps, rfl, _⟩ := h
    rfl
  · obtain ⟨t, ks, ps, rfl, ⟨hl, hfl, hbl, hfr, hbk, hpl, hpn, hkk, hnd, few, hin, htx, hbig⟩, q⟩ := h
    have hu := hu_of hr
    refine ⟨_, (pss_cons (ps_asg (pe_partition (pv 0) pe_str) (pg_tup rfl (pgs_cons (pg_name (i := 1) scOf.nd rfl (Or.inl rfl)) (pgs_cons (pg_name (i := 2) scOf.nd rfl (Or.inl rfl)) (pgs_cons (pg_name (i := 3) scOf.nd rfl (Or.inl rfl)) pgs_nil)))))
      (Evl.pss_cut (ps_set (i := 4) scOf.nd rfl (Or.inl rfl) (pe_ifExp (pt_cmpR op_eq (pv 1) pe_str (nomark _)) (pe_lst pa_nil) (pe_split (pv 1) pe_str)))
      (Evl.pss_cut (ps_set (i := 5) scOf.nd rfl (Or.inl rfl) (pe_ifExp (pt_truth (pv 3) (by intro _; rfl)) (pe_lc (own := [("part", 7)]) (g := gName 7) (tt := tYes) rfl scOf.nd (pi_list (pe_split (pv 3) pe_str)) (blkOk_by (N := nOf) (sc := defScope sOf) (by decide +kernel)) (fun _ _ _ _ _ => pg_name (i := 7) scOf.nd rfl (Or.inl rfl)) (fun _ _ _ _ _ => pts_nil) (fun _ _ _ _ _ => pe_split (pv 7) pe_str)) (pe_lst pa_nil)))
      (pss_cons (ps_if (pt_not (pt_val (pe_callB (cr_all rfl) (by rfl) T.all bt_all (pa_cons (pe_lc (own := [("kind", 8)]) (g := gName 8) (tt := tYes) rfl scOf.nd (pi_list (pv 4)) (blkOk_by (N := nOf) (sc := defScope sOf) (by decide +kernel)) (fun _ _ _ _ _ => pg_name (i := 8) scOf.nd rfl (Or.inl rfl)) (fun _ _ _ _ _ => pts_nil) (fun _ _ _ _ _ => pe_g GI (hr.mono (by decide)) (pa_cons (pv 8) pa_nil))) pa_nil)))) (pss_one ps_never) pss_nil)
      (pss_cons (ps_try_thru0 (pss_one (ps_set (i := 6) scOf.nd rfl (Or.inl rfl) (pe_mk GB hr (pa_cons (pv 4) (pa_cons (pv 5) pa_nil))))))
      (pss_cons (ps_if (pt_cmpR op_ne (pe_pg GT T.cl (pv 6) hr) (pv 0) (nomark _)) (pss_one ps_never) pss_nil)
      (pss_one (ps_ret (pv 6))))))))).nox, ?_⟩
    have line : ∀ {n : Nat}, n ≤ 5000 → n ≤ sizeLine := fun h => Nat.le_trans h (by rw [sizeLine_eq]; decide)
    -- front, _, back
    refine ⟨_, rfl, ⟨_, rfl⟩, t, "; ", rfl, rfl, by decide +kernel, line (by omega), fun p0 hp0 => ?_⟩
    have S0 : Same H (upd H p0 (.tup [.str (Txt.partition t "; ").1, .str (Txt.partition t "; ").2.1, .str (Txt.partition t "; ").2.2])) := Sx.Same.new hp0
    refine ⟨p0, _, rfl, SqT.of upd_same, rfl, _, _, rfl, _, _, rfl, _, _, rfl, rfl, ?_⟩
    generalize upd H p0 (.tup [.str (Txt.partition t "; ").1, .str (Txt.partition t "; ").2.1, .str (Txt.partition t "; ").2.2]) = H0 at S0
    generalize (Txt.partition t "; ").2.1 = mid
    -- kinds
    refine ⟨fun σ' H' => ∃ lk, σ' = [some (.str t), some (.str (frO t)), some (.str mid), some (.str (bkO t)), some (.ref lk), none, none, none, none] ∧ Same H H' ∧ H' lk = some (.lst (ks.map V.str)), ?_, ?_⟩
    · refine ⟨_, rfl, rfl, _, rfl, ?_⟩
      by_cases e : frO t = "-"
      · have e2 : decide (V.str (Txt.partition t "; ").1 = V.str "-") = true := decide_eq_true (by show V.str (frO t) = _; rw [e])
        rw [e2]
        rw [if_pos e] at hfr
        refine iteT ⟨Nat.zero_le _, fun l hl => ⟨l, rfl, S0.trans (Sx.Same.new hl), by rw [upd_same, ← hfr]; rfl⟩⟩
      · have e2 : decide (V.str (Txt.partition t "; ").1 = V.str "-") = false := decide_eq_false fun w => e (V.str.inj w)
        rw [e2]
        rw [if_neg e] at hfr
        refine iteF ⟨_, rfl, ⟨_, rfl⟩, _, " ", rfl, rfl, by decide +kernel, line (by show (frO t).length + 2 ≤ 5000; omega), fun l hl => ⟨l, rfl, S0.trans (Sx.Same.new hl), ?_⟩⟩
        rw [upd_same, ← hfr]
        rfl
    rintro σ1 H1 ⟨lk, rfl, S1, hlk⟩
    -- pairs
    refine ⟨fun σ' H' => ∃ lp ts, σ' = [some (.str t), some (.str (frO t)), some (.str mid), some (.str (bkO t)), some (.ref lk), some (.ref lp), none, none, none] ∧ Same H H' ∧ H' lk = some (.lst (ks.map V.str)) ∧ H' lp = some (.lst (ts.map V.ref)) ∧ Paired (fun t c => H' t = some (.lst [.str c.1, .str c.2])) ts ps, ?_, ?_⟩
    · refine ⟨_, rfl, _, ⟨line (by omega), rfl⟩, ?_⟩
      by_cases e : (bkO t).length = 0
      · have e2 : (((bkO t).length : Int) != 0) = false := by rw [e]; rfl
        rw [e2]
        rw [if_pos e] at hbk
        have ep : ps = [] := by
          cases ps with
          | nil => rfl
          | cons p ps => cases hbk
        refine iteF ⟨Nat.zero_le _, fun l hl => ⟨l, [], rfl, S1.trans (Sx.Same.new hl), Sx.Same.new hl _ _ hlk, by rw [upd_same]; rfl, by rw [ep]; exact .nil⟩⟩
      · have e2 : (((bkO t).length : Int) != 0) = true := by
          rw [bne_iff_ne]
          intro z
          exact e (by exact_mod_cast z)
        rw [e2]
        rw [if_neg e] at hbk
        refine iteT ⟨_, rfl, ⟨_, rfl⟩, _, " ", rfl, rfl, by decide +kernel, line (by omega), fun lb hlb => ?_⟩
        have Sb : Same H1 (upd H1 lb (.lst ((Txt.split (bkO t) " ").map V.str))) := Sx.Same.new hlb
        refine ⟨lb, rfl, ⟨_, SqL.of upd_same⟩, ?_⟩
        have plen : (Txt.split (bkO t) " ").length = ps.length := by
          have y := congrArg List.length hbk
          rw [List.length_map, List.length_map] at y
          exact y
        refine lc_objsL (vs := [7]) (σ := [some (.str t), some (.str (frO t)), some (.str mid), some (.str (bkO t)), some (.ref lk), none, none, none, none]) (fun p : Str => .lst ((Txt.split p "-").map V.str)) (fun _ => true) (SqL.of upd_same) (paired_strs _) (by rw [List.length_map, plen]; omega) (fun x z hz hx H2 s2 => ?_) (fun D H2 hD hN => ?_)
        · subst hx
          refine tst_name (by rfl) gt_yes fun _ H3 s3 Q h => ?_
          have w := hpl z hz
          exact ⟨_, rfl, ⟨_, rfl⟩, z, "-", rfl, rfl, by decide +kernel, line (by omega), fun l hl => h l _ hl (Sx.Same.new hl) upd_same⟩
        · obtain ⟨sN, ts, hD2, hts⟩ := hN
          have ef : (Txt.split (bkO t) " ").filter (fun _ => true) = Txt.split (bkO t) " " := List.filter_eq_self.mpr fun _ _ => rfl
          rw [ef] at hts
          refine ⟨D, ts, rfl, S1.trans (Sb.trans sN), sN _ _ (Sb _ _ hlk), hD2, ?_⟩
          have y : Paired (fun t (x : List Str) => H2 t = some (.lst (x.map V.str))) ts ((Txt.split (bkO t) " ").map fun p => Txt.split p "-") := by
            exact paired_mapr (fun _ _ h => h.1) hts
          rw [hbk] at y
          exact paired_lists (F := fun t (x : List Str) => H2 t = some (.lst (x.map V.str))) (f := fun c : Str × Str => [c.1, c.2]) y
    rintro σ2 H2 ⟨lp, ts, rfl, S2, hlk2, hlp, hts⟩
    -- all([is_kind(kind) for kind in kinds])
    refine ⟨_, rfl, lk, rfl, ⟨_, SqL.of hlk2⟩, ?_⟩
    refine lc_valsL (vs := [8]) (σ := [some (.str t), some (.str (frO t)), some (.str mid), some (.str (bkO t)), some (.ref lk), some (.ref lp), none, none, none]) (fun k : Str => V.bl (isKindM k)) (fun _ => true) (SqL.of hlk2) (paired_strs ks) (by rw [List.length_map]; omega) (fun x z hz hx H3 s3 => ?_) (fun D H3 hD s3 hl => ?_)
    · subst hx
      refine tst_name (by rfl) gt_yes fun _ H4 s4 Q h => ?_
      have w := (hkk z hz).2
      exact ⟨_, rfl, z, rfl, by omega, fun H5 s5 => h H5 s5⟩
    have ef : ks.filter (fun _ => true) = ks := List.filter_eq_self.mpr fun _ _ => rfl
    rw [ef] at hl
    refine ⟨D, ks.map isKindM, rfl, SqL.of (by rw [hl, List.map_map]; rfl), ?_⟩
    have ea : (ks.map isKindM).all id = true := by
      rw [List.all_map, List.all_eq_true]
      exact fun k hk => (hkk k hk).1
    rw [ea]
    refine ⟨_, rfl, iteF ?_⟩
    -- book = Book(kinds, pairs)
    refine ⟨_, rfl, _, rfl, fun a dx na nd ne => ?_⟩
    have S4 : Same H3 (upd (upd H3 dx (.own a)) a (.ins C dx [])) := (Sx.Same.new nd).trans (Sx.Same.new (by rw [upd_ne ne.symm]; exact na))
    have S24 := s3.trans S4
    refine ⟨a, dx, lk, lp, ts, ks, ps, rfl, upd_same, .inl (SqL.of (S24 _ _ hlk2)), .inl (SqL.of (S24 _ _ hlp)), paired_imp (fun u c h => .inl (SqL.of (S24 _ _ h))) hts, hnd, few, hin, fun H5 hB k5 => ⟨rfl, ?_⟩⟩
    have aH : ∀ b o, H b = some o → b ≠ a := fun b o e z => by
      rw [z] at e
      rw [s3 _ _ (S2 _ _ e)] at na
      cases na
    have S5 : Same H H5 := fun b o e => k5 b o (S24 _ _ (S2 _ _ e)) (aH b o e)
    have Sd := std_make few hnd hin
    obtain ⟨dx5, _, _, _, _, _, h5, _⟩ := hB.ex
    have kl : ∀ k ∈ ks, k.length ≤ 100 := fun k hk => (hkk k hk).2
    refine ⟨_, rfl, a, dx5, _, rfl, h5, a, _, _, rfl, hB, Sd.few, std_len Sd, fun k hk => kl k ((mem_srt totS).mp hk), fun c hc => ?_, hbig, fun H6 s6 => ?_⟩
    · obtain ⟨m1, m2⟩ := Sd.inn c hc
      exact ⟨kl _ ((mem_srt totS).mp m1), kl _ ((mem_srt totS).mp m2)⟩
    refine ⟨_, rfl, rfl, _, rfl, iteNS (by rw [htx]) ?_⟩
    exact ⟨_, rfl, q a H6 (S5.trans s6) (hB.same s6)⟩
end
end Sx

/-! LawA -/
namespace Sx
open PySem PySem.Spec PyProof.Rows L2
abbrev sTake : Stmt := top 18
/-- an urn: any number, a number below 2 ^ 62, how often it was asked -/
structure Urn (H : Hp) (u : Addr) (n : Nat) : Prop where
  ex : ∃ a b c : Int, H u = some (.lst [.int a, .int b, .int c]) ∧ -(2 ^ 62) < b ∧ b < 2 ^ 62 ∧ 0 ≤ c ∧ c ≤ n
theorem Urn.more {H : Hp} {u : Addr} {n m : Nat} (U : Urn H u n) (h : n ≤ m) : Urn H u m := by
  obtain ⟨a, b, c, h1, h2, h3, h4, h5⟩ := U.ex
  exact ⟨a, b, c, h1, h2, h3, h4, by omega⟩
def spTake : Sp := fun vs H Q _ => ∃ (u : Addr) (n low : Nat), vs = [.ref u, .int low] ∧ Urn H u n ∧ n < 2 ^ 40 ∧ 0 < low ∧ low < 1000000 ∧ ∀ (k : Nat) H', k < low → Urn H' u (n + 1) → (∀ b, b ≠ u → H' b = H b) → Q (.int k) H'
theorem fm {x l : Int} (h : 0 < l) : 0 ≤ Int.fmod x l ∧ Int.fmod x l < l := by
  rw [Int.fmod_eq_emod_of_nonneg _ (by omega)]
  exact ⟨Int.emod_nonneg _ (by omega), Int.emod_lt_of_pos _ h⟩
section
variable {P : Program} {w : World} {K : PySem.W.Frag} {mg : Str → Option Value} {base : Heap}
abbrev nTake : List Str := ["_law_urn", "_law_low_so", "_law_drawn_here", "_law_once", "_law_far", "_law_twice"]
theorem scTake : FnScope nTake ["_law_urn", "_law_low_so"] (defScope sTake) := ⟨rfl, rfl, rfl, by decide +kernel, rfl, by decide +kernel, by decide +kernel⟩
theorem ok_take {f : Addr} {fd : FuncData} {dvs : List V} (F : FunD K "_law_take" "_law_take" (defArgs sTake) (defBody sTake) (defScope sTake) dvs [] f fd) (B : Blt mg) : FnOk P w K mg base CX0 1 f fd ["_law_urn", "_law_low_so"] spTake := by
  refine F.ok scTake (fun vs H Q E h => ?_) (fun cdv A outer s H vs Q E hr h => ?_)
  · obtain ⟨u, n, low, rfl, _⟩ := h
    rfl
  · obtain ⟨u, n, low, rfl, ⟨a, b, c, hu, b1, b2, c1, c2⟩, hn, l0, l1, q⟩ := h
    refine ⟨_, (pss_cons (ps_if (pt_cmpR op_gt (pe_ix ix_list (pv 0) pe_int (fun _ _ => rfl)) pe_int (nomark _))
        (pss_cons (ps_set (i := 2) scTake.nd rfl (Or.inl rfl) (pe_op op_modN (pe_callTy call_int1 (by rfl) B.int bt_int (pa_cons (pe_ix ix_list (pv 0) pe_int (fun _ _ => rfl)) pa_nil)) (pv 1)))
        (pss_cons (ps_asg (pe_op op_fdivN (pe_ix ix_list (pv 0) pe_int (fun _ _ => rfl)) (pv 1)) (pg_sub (pv 0) pe_int set_list))
        (pss_one (ps_ret (pv 2))))) pss_nil)
      (pss_cons (ps_asg (pe_op op_add (pe_ix ix_list (pv 0) pe_int (fun _ _ => rfl)) pe_int) (pg_sub (pv 0) pe_int set_list))
      (pss_cons (ps_set (i := 3) scTake.nd rfl (Or.inl rfl) (pe_op op_modN (pe_callTy call_int1 (by rfl) B.int bt_int (pa_cons (pe_op op_mul (pe_op op_add (pe_ix ix_list (pv 0) pe_int (fun _ _ => rfl)) (pe_op op_mul pe_int (pe_ix ix_list (pv 0) pe_int (fun _ _ => rfl)))) (pe_op op_add pe_int (pe_ix ix_list (pv 0) pe_int (fun _ _ => rfl)))) pa_nil)) pe_int))
      (pss_cons (ps_set (i := 4) scTake.nd rfl (Or.inl rfl) (pe_op op_add (pe_op op_modN (pe_callTy call_int1 (by rfl) B.int bt_int (pa_cons (pv 3) pa_nil)) pe_int) pe_int))
      (pss_cons (ps_set (i := 5) scTake.nd rfl (Or.inl rfl) (pe_op op_modN (pe_callTy call_int1 (by rfl) B.int bt_int (pa_cons (pe_op op_mul (pe_op op_add (pe_op op_add (pv 3) (pe_ix ix_list (pv 0) pe_int (fun _ _ => rfl))) (pe_op op_fdivN (pe_ix ix_list (pv 0) pe_int (fun _ _ => rfl)) pe_int)) (pv 4)) pa_nil)) pe_int))
      (pss_one (ps_ret (pe_op op_modN (pe_callTy call_int1 (by rfl) B.int bt_int (pa_cons (pe_op op_fdivN (pe_op op_modN (pe_callTy call_int1 (by rfl) B.int bt_int (pa_cons (pe_op op_add (pe_op op_mul (pv 5) pe_int) (pv 3)) pa_nil)) pe_int) pe_int) pa_nil)) (pv 1))))))))).nox, ?_⟩
    have e0 : ([V.int a, V.int b, V.int c])[0]? = some (.int a) := rfl
    refine ⟨_, rfl, u, _, _, .int a, rfl, rfl, SqL.of hu, atI_nat (j := 0) rfl, _, _, rfl, rfl, _, rfl, ?_⟩
    have lz : (low : Int) ≠ 0 := by omega
    have nat : ∀ {i : Int} {k : Nat}, 0 ≤ i → i.toNat = k → V.int i = V.int (k : Nat) := fun {i k} h e => by rw [← e, Int.toNat_of_nonneg h]
    by_cases ha : (0 : Int) < a
    · rw [decide_eq_true ha]
      refine iteT ⟨_, rfl, u, _, _, .int a, rfl, rfl, SqL.of hu, atI_nat (j := 0) rfl, .inl ⟨_, rfl, _, rfl, _, _, rfl, rfl, lz, ?_⟩⟩
      refine ⟨_, rfl, u, _, _, .int a, rfl, rfl, SqL.of hu, atI_nat (j := 0) rfl, _, rfl, _, _, rfl, rfl, ⟨lz, by omega⟩, _, rfl, u, _, _, 0, rfl, rfl, hu, rfl, ?_⟩
      obtain ⟨f0, f1⟩ := fm (x := a) (l := low) (by omega)
      refine ⟨_, rfl, ?_⟩
      show Q (V.int (Int.fmod a low)) _
      have e : Int.fmod a low = ((Int.fmod a low).toNat : Int) := (Int.toNat_of_nonneg f0).symm
      rw [e]
      exact q _ _ (by omega) ⟨_, b, c, upd_same, b1, b2, c1, by omega⟩ fun x hx => upd_ne hx
    · rw [decide_eq_false ha]
      refine iteF ?_
      refine ⟨_, rfl, u, _, _, .int c, rfl, rfl, SqL.of hu, atI_nat (j := 2) rfl, _, _, rfl, rfl, _, rfl, u, _, _, 2, rfl, rfl, hu, rfl, ?_⟩
      have hu2 : (upd H u (.lst ([V.int a, V.int b, V.int c].set 2 (.int (c + 1))))) u = some (.lst [.int a, .int b, .int (c + 1)]) := upd_same
      have keep : ∀ x, x ≠ u → (upd H u (.lst ([V.int a, V.int b, V.int c].set 2 (.int (c + 1))))) x = H x := fun x hx => upd_ne hx
      generalize upd H u (.lst ([V.int a, V.int b, V.int c].set 2 (.int (c + 1)))) = H2 at hu2 keep
      have c3 : 0 ≤ c + 1 := by omega
      have c4 : c + 1 ≤ 2 ^ 40 := by omega
      have urn : Urn H2 u (n + 1) := ⟨a, b, c + 1, hu2, b1, b2, c3, by omega⟩
      generalize c + 1 = d at hu2 c3 c4
      have nz : ∀ (j : Int), j ≠ 0 → j ≠ 0 := fun _ h => h
      have nd : ∀ (j : Int), (j ≠ 0 ∧ j.natAbs < 1073741824) → (j ≠ 0 ∧ j.natAbs < 1073741824) := fun _ h => h
      have m1 : ∀ x : Int, 0 ≤ Int.fmod x 2147483647 ∧ Int.fmod x 2147483647 < 2147483647 := fun x => fm (by decide)
      have m2 : ∀ x : Int, 0 ≤ Int.fmod x 40009 ∧ Int.fmod x 40009 < 40009 := fun x => fm (by decide)
      have m3 : ∀ x : Int, 0 ≤ Int.fmod x 2147483629 ∧ Int.fmod x 2147483629 < 2147483629 := fun x => fm (by decide)
      have dv : -(2 ^ 62) ≤ Int.fdiv b 1000003 ∧ Int.fdiv b 1000003 ≤ 2 ^ 62 := by
        rw [Int.fdiv_eq_ediv_of_nonneg _ (by decide)]
        omega
      refine ⟨_, rfl, u, _, _, .int b, rfl, rfl, SqL.of hu2, atI_nat (j := 1) rfl, _, rfl, u, _, _, .int d, rfl, rfl, SqL.of hu2, atI_nat (j := 2) rfl, _, _, rfl, rfl, .inl ⟨by decide, by decide⟩, _, _, rfl, rfl, ?_⟩
      refine ⟨_, rfl, u, _, _, .int d, rfl, rfl, SqL.of hu2, atI_nat (j := 2) rfl, _, _, rfl, rfl, _, _, rfl, rfl, .inl ⟨by omega, by omega⟩, .inl ⟨_, rfl, _, _, rfl, rfl, nz _ (by decide), ?_⟩⟩
      obtain ⟨o1, o2⟩ := m1 ((b + 48271 * d) * (39373 + d))
      refine ⟨_, rfl, .inl ⟨_, rfl, _, _, rfl, rfl, nz _ (by decide), _, _, rfl, rfl, ?_⟩⟩
      obtain ⟨f1, f2⟩ := m2 (Int.fmod ((b + 48271 * d) * (39373 + d)) 2147483647)
      refine ⟨_, rfl, _, rfl, u, _, _, .int d, rfl, rfl, SqL.of hu2, atI_nat (j := 2) rfl, _, _, rfl, rfl, ?_⟩
      refine ⟨_, rfl, u, _, _, .int b, rfl, rfl, SqL.of hu2, atI_nat (j := 1) rfl, _, _, rfl, rfl, nd _ (by decide), _, _, rfl, rfl, _, rfl, _, _, rfl, rfl, .inl ⟨by omega, by omega⟩, .inl ⟨_, rfl, _, _, rfl, rfl, nz _ (by decide), ?_⟩⟩
      obtain ⟨t1, t2⟩ := m3 ((Int.fmod ((b + 48271 * d) * (39373 + d)) 2147483647 + d + Int.fdiv b 1000003) * (Int.fmod (Int.fmod ((b + 48271 * d) * (39373 + d)) 2147483647) 40009 + 7))
      refine ⟨_, rfl, _, _, rfl, rfl, .inl ⟨by omega, by omega⟩, _, rfl, _, _, rfl, rfl, .inl ⟨_, rfl, _, _, rfl, rfl, nz _ (by decide), _, _, rfl, rfl, nd _ (by decide), .inl ⟨_, rfl, _, rfl, _, _, rfl, rfl, lz, ?_⟩⟩⟩
      have g0 : ∀ x : Int, 0 ≤ Int.fmod x low := fun x => (fm (by omega)).1
      have g1 : ∀ x : Int, Int.fmod x low < low := fun x => (fm (by omega)).2
      show Q (V.int (Int.fmod _ low)) _
      generalize Int.fdiv (Int.fmod _ 2147483587) 64 = z
      have z0 := g0 z
      have z1 := g1 z
      have e : Int.fmod z low = ((Int.fmod z low).toNat : Int) := (Int.toNat_of_nonneg z0).symm
      rw [e]
      exact q _ _ (by omega) urn keep
end
end Sx

/-! SxData -/
/-! Data: what stays, what is alike. -/
namespace Sx
open PySem PySem.Spec PyProof.Rows L2
theorem same_sqL {K : PySem.W.Frag} {H H' : Hp} {a : Addr} {xs : List V} (s : Same H H') (h : SqL K H a xs) : SqL K H' a xs := Same.seq s h
mutual
theorem dp_same {K : PySem.W.Frag} {H H' : Hp} (s : Same H H') : ∀ (d : PyData) {v : V}, Dp K H v d → Dp K H' v d
  | .none, _, .non => .non
  | .bool b, _, .bl _ => .bl b
  | .int i, _, .int _ => .int i
  | .str x, _, .str _ => .str x
  | .list ds, _, .lst h hs => .lst (same_sqL s h) (dps_same s ds hs)
  | .tuple ds, _, .tup h hs => .tup (sqT_same s h) (dps_same s ds hs)
theorem dps_same {K : PySem.W.Frag} {H H' : Hp} (s : Same H H') : ∀ (ds : List PyData) {vs : List V}, DpAll K H vs ds → DpAll K H' vs ds
  | [], _, .nil => .nil
  | d :: ds, _, .cons h hs => .cons (dp_same s d h) (dps_same s ds hs)
end
def sD (x : Str) : PyData := .str x
def lD (xs : List Str) : PyData := .list (xs.map sD)
def tD (xs : List Str) : PyData := .tuple (xs.map sD)
theorem dps_strs {K : PySem.W.Frag} {H : Hp} : ∀ xs : List Str, DpAll K H (xs.map V.str) (xs.map sD)
  | [] => .nil
  | x :: xs => .cons (.str x) (dps_strs xs)
theorem dp_list {K : PySem.W.Frag} {H : Hp} {a : Addr} {xs : List Str} (h : SqL K H a (xs.map V.str)) : Dp K H (.ref a) (lD xs) := .lst h (dps_strs xs)
theorem dp_tup {K : PySem.W.Frag} {H : Hp} {a : Addr} {xs : List Str} (h : SqT K H a (xs.map V.str)) : Dp K H (.ref a) (tD xs) := .tup h (dps_strs xs)
theorem eqv_strs : ∀ xs ys : List Str, PyData.eqvAll (xs.map sD) (ys.map sD) = decide (xs = ys)
  | [], [] => rfl
  | [], _ :: _ => rfl
  | _ :: _, [] => rfl
  | x :: xs, y :: ys => by
    show (PyData.eqv (.str x) (.str y) && PyData.eqvAll (xs.map sD) (ys.map sD)) = _
    rw [eqv_strs xs ys]
    have e : PyData.eqv (.str x) (.str y) = (x == y) := by simp only [PyData.eqv]
    rw [e]
    by_cases h : x = y
    · subst h
      by_cases g : xs = ys
      · subst g; simp
      · simp [g]
    · simp [h]
theorem eqv_l (xs ys : List Str) : PyData.eqv (lD xs) (lD ys) = decide (xs = ys) := by
  have e : PyData.eqv (lD xs) (lD ys) = PyData.eqvAll (xs.map sD) (ys.map sD) := by simp only [lD, PyData.eqv]
  rw [e, eqv_strs]
theorem eqv_t (xs ys : List Str) : PyData.eqv (tD xs) (tD ys) = decide (xs = ys) := by
  have e : PyData.eqv (tD xs) (tD ys) = PyData.eqvAll (xs.map sD) (ys.map sD) := by simp only [tD, PyData.eqv]
  rw [e, eqv_strs]
def Oks (xs : List Str) : Prop := ∀ x ∈ xs, PyData.strOk x = true
def Okss (Ls : List (List Str)) : Prop := ∀ L ∈ Ls, Oks L
theorem lay_strs : ∀ xs : List Str, Oks xs → PyData.canLayAll0 (xs.map sD) = true ∧ PyData.depthAll (xs.map sD) = 0
  | [], _ => by simp [PyData.canLayAll0, PyData.depthAll]
  | x :: xs, h => by
    obtain ⟨a, b⟩ := lay_strs xs fun y hy => h y (List.mem_cons_of_mem _ hy)
    have c := h x List.mem_cons_self
    rw [List.map_cons]
    simp only [PyData.canLayAll0, PyData.depthAll, a, b, sD, PyData.canLay0, PyData.depth, c]
    simp
theorem lay_l (xs : List Str) (h : Oks xs) : (lD xs).canLay0 = true ∧ (lD xs).depth = 1 := by
  obtain ⟨a, b⟩ := lay_strs xs h
  simp only [lD, PyData.canLay0, PyData.depth, a, b]
  simp
theorem lay_t (xs : List Str) (h : Oks xs) : (tD xs).canLay0 = true ∧ (tD xs).depth = 1 := by
  obtain ⟨a, b⟩ := lay_strs xs h
  simp only [tD, PyData.canLay0, PyData.depth, a, b]
  simp
theorem lay_all {f : List Str → PyData} (hf : ∀ xs, Oks xs → (f xs).canLay0 = true ∧ (f xs).depth = 1) : ∀ Ls : List (List Str), Okss Ls → PyData.canLayAll0 (Ls.map f) = true ∧ PyData.depthAll (Ls.map f) ≤ 1
  | [], _ => by simp [PyData.canLayAll0, PyData.depthAll]
  | L :: Ls, h => by
    obtain ⟨a, b⟩ := lay_all hf Ls fun y hy => h y (List.mem_cons_of_mem _ hy)
    obtain ⟨c, d⟩ := hf L (h L List.mem_cons_self)
    rw [List.map_cons]
    simp only [PyData.canLayAll0, PyData.depthAll, a, c, d]
    refine ⟨rfl, ?_⟩
    omega
theorem shp {d : PyData} (a : d.canLay0 = true) (b : d.depth ≤ 64) : SeqAt.shaped d = true := by
  show (d.canLay0 && decide (d.depth ≤ 64)) = true
  rw [a, decide_eq_true b]
  rfl
theorem shp_ll (Ls : List (List Str)) (h : Okss Ls) : SeqAt.shaped (.list (Ls.map lD)) = true := by
  obtain ⟨a, b⟩ := lay_all lay_l Ls h
  exact shp (by simp only [PyData.canLay0, a]) (by simp only [PyData.depth]; omega)
theorem shp_tt (Ls : List (List Str)) (h : Okss Ls) : SeqAt.shaped (.tuple (Ls.map tD)) = true := by
  obtain ⟨a, b⟩ := lay_all lay_t Ls h
  exact shp (by simp only [PyData.canLay0, a]) (by simp only [PyData.depth]; omega)
theorem shp_l (L : List Str) (h : Oks L) : SeqAt.shaped (lD L) = true := shp (lay_l L h).1 (by rw [(lay_l L h).2]; decide)
theorem shp_t (L : List Str) (h : Oks L) : SeqAt.shaped (tD L) = true := shp (lay_t L h).1 (by rw [(lay_t L h).2]; decide)
/-- x not in t, t a tuple of data -/
def rNotInT (K : PySem.W.Frag) : R2 := fun x y H Q => ∃ d ds, Dp K H x d ∧ Dp K H y (.tuple ds) ∧ SeqAt.shaped d = true ∧ SeqAt.shaped (.tuple ds) = true ∧ Q (.bl (!ds.any fun z => PyData.eqv z d)) H
theorem op_notInT {X : Cx} (hu : X.A.units + 65 < cLine) : OpR X (compareOp .NotIn) (rNotInT X.K) := by
  intro pins s σ H x y v u Q I rx ry h
  obtain ⟨d, ds, hd, he, sd, se, q⟩ := h
  obtain ⟨as, r1⟩ := Dp.reads I d x v hd rx
  obtain ⟨bs, r2⟩ := Dp.reads I (.tuple ds) y u he ry
  exact SeqAt.notIn_tuple_reads r2 r1 (SeqAt.canLay_of_shaped se) (SeqAt.canLay_of_shaped sd) (room_in_shaped sd hu) ⟨.bl _, H, I, rfl, q⟩
end Sx

/-! SxZip -/
/-! [.. for x, y in zip(xs, ys)] -/
namespace Sx
open PySem PySem.Spec PyProof.Rows L2 RZ
section
variable {K : PySem.W.Frag} {a b : Addr} {xs ys : List V} {te : TE} {vs : List Nat} {σ : L2.St} {H : Hp} {Qr : Addr → Hp → Prop} {j1 j2 : Nat}
theorem lc_zipL (hx : SqL K H a xs) (hy : SqL K H b ys) (hl : xs.length = ys.length) (hz : xs.length ≤ 10000) (hw : ∀ x y, wipe (((wipe σ vs).set j1 (some x)).set j2 (some y)) vs = wipe σ vs)
    (ht : ∀ (i : Nat) x y, xs[i]? = some x → ys[i]? = some y → ∀ H', Same H H' → Gv te (((wipe σ vs).set j1 (some x)).set j2 (some y)) H' (.bl true)) (q : ∀ D H', H D = none → Same H H' → H' D = some (.lst (List.replicate xs.length (.bl true))) → Qr D H') :
    ∀ D, H D = none → ∃ W : Nat → Nat → Hp → Prop, (∃ m, W 0 m (upd H D (.lst []))) ∧ ∀ i m H', W i m H' → ((Itz K a b).stop i H' ∧ Qr D H') ∨ ((Itz K a b).go i H' ∧ ∃ Nx : Hp → Prop, (∀ H', Nx H' → ∃ m', m' < m ∧ W (i + 1) m' H') ∧ ∀ v H2, (Itz K a b).yld i H' v H2 → Turn1 D (gTup K 2 (gCons (gName j1) (gCons (gName j2) gNil))) tYes te vs σ v H2 Nx) := by
  intro D hD
  refine ⟨fun i m H' => m = xs.length - i ∧ i ≤ xs.length ∧ Same H H' ∧ H' D = some (.lst (List.replicate i (.bl true))), ⟨xs.length, rfl, Nat.zero_le _, Sx.Same.new hD, upd_same⟩, ?_⟩
  rintro i m H' ⟨rfl, hi, s, hd⟩
  have sx := same_sqL s hx
  have sy := same_sqL s hy
  rcases Nat.lt_or_ge i xs.length with lt | ge
  · have lt2 : i < ys.length := by omega
    refine .inr ⟨⟨xs, ys, xs[i], ys[i], sx, sy, List.getElem?_eq_getElem lt, List.getElem?_eq_getElem lt2⟩, fun H2 => Same H H2 ∧ H2 D = some (.lst (List.replicate (i + 1) (.bl true))), fun H2 p => ⟨xs.length - (i + 1), by omega, rfl, lt, p⟩, fun v H2 ⟨T, x, y, ev, hT, eH, h1, h2⟩ => ?_⟩
    subst ev
    have s2 : Same H' H2 := by rw [eH]; exact Sx.Same.new hT
    have hT2 : H2 T = some (.tup [x, y]) := by rw [eH]; exact upd_same
    refine ⟨T, [x, y], rfl, SqT.of hT2, rfl, _, _, rfl, _, _, rfl, rfl, ?_⟩
    refine ⟨hw x y, ?_⟩
    unfold tYes
    dsimp only
    rw [if_pos rfl]
    refine ht i x y (h1 xs sx) (h2 ys sy) _ (s.trans s2) _ fun H3 s3 => ⟨_, s3 _ _ (s2 _ _ hd), ?_, Sx.Same.mut (s.trans (s2.trans s3)) hD, ?_⟩
    · rw [List.length_replicate, sizeLine_eq]
      omega
    · rw [upd_same, List.replicate_succ']
  · have e : i = xs.length := Nat.le_antisymm hi ge
    subst e
    exact .inl ⟨⟨xs, ys, sx, sy, .inl (Nat.le_refl _)⟩, q D H' hD s hd⟩
theorem lc_zipT (hx : SqT K H a xs) (hy : SqT K H b ys) (hl : xs.length = ys.length) (hz : xs.length ≤ 10000) (hw : ∀ x y, wipe (((wipe σ vs).set j1 (some x)).set j2 (some y)) vs = wipe σ vs)
    (ht : ∀ (i : Nat) x y, xs[i]? = some x → ys[i]? = some y → ∀ H', Same H H' → Gv te (((wipe σ vs).set j1 (some x)).set j2 (some y)) H' (.bl true)) (q : ∀ D H', H D = none → Same H H' → H' D = some (.lst (List.replicate xs.length (.bl true))) → Qr D H') :
    ∀ D, H D = none → ∃ W : Nat → Nat → Hp → Prop, (∃ m, W 0 m (upd H D (.lst []))) ∧ ∀ i m H', W i m H' → ((ItzT K a b).stop i H' ∧ Qr D H') ∨ ((ItzT K a b).go i H' ∧ ∃ Nx : Hp → Prop, (∀ H', Nx H' → ∃ m', m' < m ∧ W (i + 1) m' H') ∧ ∀ v H2, (ItzT K a b).yld i H' v H2 → Turn1 D (gTup K 2 (gCons (gName j1) (gCons (gName j2) gNil))) tYes te vs σ v H2 Nx) := by
  intro D hD
  refine ⟨fun i m H' => m = xs.length - i ∧ i ≤ xs.length ∧ Same H H' ∧ H' D = some (.lst (List.replicate i (.bl true))), ⟨xs.length, rfl, Nat.zero_le _, Sx.Same.new hD, upd_same⟩, ?_⟩
  rintro i m H' ⟨rfl, hi, s, hd⟩
  have sx := sqT_same s hx
  have sy := sqT_same s hy
  rcases Nat.lt_or_ge i xs.length with lt | ge
  · have lt2 : i < ys.length := by omega
    refine .inr ⟨⟨xs, ys, xs[i], ys[i], sx, sy, List.getElem?_eq_getElem lt, List.getElem?_eq_getElem lt2⟩, fun H2 => Same H H2 ∧ H2 D = some (.lst (List.replicate (i + 1) (.bl true))), fun H2 p => ⟨xs.length - (i + 1), by omega, rfl, lt, p⟩, fun v H2 ⟨T, x, y, ev, hT, eH, h1, h2⟩ => ?_⟩
    subst ev
    have s2 : Same H' H2 := by rw [eH]; exact Sx.Same.new hT
    have hT2 : H2 T = some (.tup [x, y]) := by rw [eH]; exact upd_same
    refine ⟨T, [x, y], rfl, SqT.of hT2, rfl, _, _, rfl, _, _, rfl, rfl, ?_⟩
    refine ⟨hw x y, ?_⟩
    unfold tYes
    dsimp only
    rw [if_pos rfl]
    refine ht i x y (h1 xs sx) (h2 ys sy) _ (s.trans s2) _ fun H3 s3 => ⟨_, s3 _ _ (s2 _ _ hd), ?_, Sx.Same.mut (s.trans (s2.trans s3)) hD, ?_⟩
    · rw [List.length_replicate, sizeLine_eq]
      omega
    · rw [upd_same, List.replicate_succ']
  · have e : i = xs.length := Nat.le_antisymm hi ge
    subst e
    exact .inl ⟨⟨xs, ys, sx, sy, .inl (Nat.le_refl _)⟩, q D H' hD s hd⟩
end
theorem tyx_list {K : PySem.W.Frag} {H : Hp} {a : Addr} {xs : List V} (h : SqL K H a xs) : TyX K H (.ref a) (.type "list") := by
  rcases h with (h | ⟨o, h⟩) | ⟨o, its, n, hk, hc, r⟩
  · exact .base (.lst h)
  · exact .base (.frz h)
  · exact .kList hk hc
theorem tyx_tup {K : PySem.W.Frag} {H : Hp} {a : Addr} {xs : List V} (h : SqT K H a xs) : TyX K H (.ref a) (.type "tuple") := by
  rcases h with (h | ⟨o, h⟩) | ⟨o, its, n, hk, hc, r⟩
  · exact .base (.tup h)
  · exact .fTuple h
  · exact .kTuple hk hc
theorem dps_len {K : PySem.W.Frag} {H : Hp} : ∀ {xs : List V} {ds : List PyData}, DpAll K H xs ds → xs.length = ds.length
  | _, _, .nil => rfl
  | _, _, .cons _ h => by rw [List.length_cons, List.length_cons, dps_len h]
theorem dps_get {K : PySem.W.Frag} {H : Hp} : ∀ {xs : List V} {ds : List PyData} {i : Nat} {x : V}, DpAll K H xs ds → xs[i]? = some x → ∃ d, ds[i]? = some d ∧ Dp K H x d
  | _, _, 0, _, .cons h _, e => by cases e; exact ⟨_, rfl, h⟩
  | _, _, i + 1, _, .cons _ h, e => dps_get (i := i) h e
  | _, _, _, _, .nil, e => by simp at e
theorem depth_mem : ∀ {ds : List PyData} {d : PyData}, d ∈ ds → d.depth ≤ PyData.depthAll ds
  | _ :: ds, _, h => by
    rcases List.mem_cons.mp h with e | e
    · rw [e]; simp only [PyData.depthAll]; omega
    · have := depth_mem (ds := ds) e
      simp only [PyData.depthAll]; omega
theorem lay_mem : ∀ {ds : List PyData} {d : PyData}, PyData.canLayAll0 ds = true → d ∈ ds → d.canLay0 = true
  | x :: ds, d, a, h => by
    simp only [PyData.canLayAll0, Bool.and_eq_true] at a
    rcases List.mem_cons.mp h with e | e
    · rw [e]; exact a.1
    · exact lay_mem a.2 e
mutual
theorem eqv_refl : ∀ d : PyData, d.canLay0 = true → PyData.eqv d d = true
  | .none, _ => by simp only [PyData.eqv]
  | .bool b, _ => by simp only [PyData.eqv]; simp
  | .int i, _ => by simp only [PyData.eqv]; simp
  | .str x, _ => by simp only [PyData.eqv]; simp
  | .list ds, h => by simp only [PyData.canLay0] at h; simp only [PyData.eqv]; exact eqvs_refl ds h
  | .tuple ds, h => by simp only [PyData.canLay0] at h; simp only [PyData.eqv]; exact eqvs_refl ds h
  | .dict kvs, h => by simp only [PyData.canLay0] at h; cases h
theorem eqvs_refl : ∀ ds : List PyData, PyData.canLayAll0 ds = true → PyData.eqvAll ds ds = true
  | [], _ => by simp only [PyData.eqvAll]
  | d :: ds, h => by
    simp only [PyData.canLayAll0, Bool.and_eq_true] at h
    simp only [PyData.eqvAll, eqv_refl d h.1, eqvs_refl ds h.2]
    rfl
end
end Sx

/-! SxWalk -/
/-! Comprehensions with an invariant of one's own. -/
namespace Sx
open PySem PySem.Spec PyProof.Rows L2
section
variable {K : PySem.W.Frag} {a : Addr} {xs : List V} {g : TG} {tt : TT} {te : TE} {vs : List Nat} {σ : L2.St} {H : Hp} {Qr : Addr → Hp → Prop} {n : Nat}
theorem lc_walkL (hx : SqL K H a xs) (Pv : Addr → Nat → Hp → Prop) (h0 : ∀ D, H D = none → Pv D 0 (upd H D (.lst []))) (hl : ∀ D j H', Pv D j H' → SqL K H' a xs)
    (hs : ∀ D (j : Nat) x H', xs[j]? = some x → H D = none → Pv D j H' → Turn1 D g tt te vs σ x H' (Pv D (j + 1)))
    (hd : ∀ D H', H D = none → Pv D xs.length H' → Qr D H') :
    ∀ D, H D = none → ∃ W : Nat → Nat → Hp → Prop, (∃ m, W 0 m (upd H D (.lst []))) ∧ ∀ i m H', W i m H' → ((Itl K a).stop i H' ∧ Qr D H') ∨ ((Itl K a).go i H' ∧ ∃ Nx : Hp → Prop, (∀ H', Nx H' → ∃ m', m' < m ∧ W (i + 1) m' H') ∧ ∀ x H2, (Itl K a).yld i H' x H2 → Turn1 D g tt te vs σ x H2 Nx) := by
  intro D hD
  refine ⟨fun j m H' => m = xs.length - j ∧ j ≤ xs.length ∧ Pv D j H', ⟨xs.length, rfl, Nat.zero_le _, h0 D hD⟩, ?_⟩
  rintro j m H' ⟨rfl, hj, p⟩
  have sq := hl D j H' p
  rcases Nat.lt_or_ge j xs.length with lt | ge
  · exact .inr ⟨⟨xs, xs[j], sq, List.getElem?_eq_getElem lt⟩, Pv D (j + 1), fun H2 p2 => ⟨xs.length - (j + 1), by omega, rfl, lt, p2⟩, fun x H2 ⟨e, y⟩ => by rw [e]; exact hs D j x H' (y xs sq) hD p⟩
  · have e : j = xs.length := Nat.le_antisymm hj ge
    subst e
    exact .inl ⟨⟨xs, sq, Nat.le_refl _⟩, hd D H' hD p⟩
theorem lc_walkT (hx : SqT K H a xs) (Pv : Addr → Nat → Hp → Prop) (h0 : ∀ D, H D = none → Pv D 0 (upd H D (.lst []))) (hl : ∀ D j H', Pv D j H' → SqT K H' a xs)
    (hs : ∀ D (j : Nat) x H', xs[j]? = some x → H D = none → Pv D j H' → Turn1 D g tt te vs σ x H' (Pv D (j + 1)))
    (hd : ∀ D H', H D = none → Pv D xs.length H' → Qr D H') :
    ∀ D, H D = none → ∃ W : Nat → Nat → Hp → Prop, (∃ m, W 0 m (upd H D (.lst []))) ∧ ∀ i m H', W i m H' → ((Itt K a).stop i H' ∧ Qr D H') ∨ ((Itt K a).go i H' ∧ ∃ Nx : Hp → Prop, (∀ H', Nx H' → ∃ m', m' < m ∧ W (i + 1) m' H') ∧ ∀ x H2, (Itt K a).yld i H' x H2 → Turn1 D g tt te vs σ x H2 Nx) := by
  intro D hD
  refine ⟨fun j m H' => m = xs.length - j ∧ j ≤ xs.length ∧ Pv D j H', ⟨xs.length, rfl, Nat.zero_le _, h0 D hD⟩, ?_⟩
  rintro j m H' ⟨rfl, hj, p⟩
  have sq := hl D j H' p
  rcases Nat.lt_or_ge j xs.length with lt | ge
  · exact .inr ⟨⟨xs, xs[j], sq, List.getElem?_eq_getElem lt⟩, Pv D (j + 1), fun H2 p2 => ⟨xs.length - (j + 1), by omega, rfl, lt, p2⟩, fun x H2 ⟨e, y⟩ => by rw [e]; exact hs D j x H' (y xs sq) hD p⟩
  · have e : j = xs.length := Nat.le_antisymm hj ge
    subst e
    exact .inl ⟨⟨xs, sq, Nat.le_refl _⟩, hd D H' hD p⟩
theorem lc_walkR (Pv : Addr → Nat → Hp → Prop) (h0 : ∀ D, H D = none → Pv D 0 (upd H D (.lst []))) 
    (hs : ∀ D (j : Nat) x H', j < n ∧ x = V.int (0 + (j : Nat)) → H D = none → Pv D j H' → Turn1 D g tt te vs σ x H' (Pv D (j + 1)))
    (hd : ∀ D H', H D = none → Pv D n H' → Qr D H') :
    ∀ D, H D = none → ∃ W : Nat → Nat → Hp → Prop, (∃ m, W 0 m (upd H D (.lst []))) ∧ ∀ i m H', W i m H' → ((Itr 0 n).stop i H' ∧ Qr D H') ∨ ((Itr 0 n).go i H' ∧ ∃ Nx : Hp → Prop, (∀ H', Nx H' → ∃ m', m' < m ∧ W (i + 1) m' H') ∧ ∀ x H2, (Itr 0 n).yld i H' x H2 → Turn1 D g tt te vs σ x H2 Nx) := by
  intro D hD
  refine ⟨fun j m H' => m = n - j ∧ j ≤ n ∧ Pv D j H', ⟨n, rfl, Nat.zero_le _, h0 D hD⟩, ?_⟩
  rintro j m H' ⟨rfl, hj, p⟩
  by_cases lt : j < n
  · exact .inr ⟨lt, Pv D (j + 1), fun H2 p2 => ⟨n - (j + 1), by omega, rfl, lt, p2⟩, fun x H2 ⟨e, y⟩ => by rw [e]; exact hs D j x H' ⟨lt, y⟩ hD p⟩
  · have e : j = n := by omega
    subst e
    exact .inl ⟨Nat.le_refl _, hd D H' hD p⟩
end
end Sx

/-! LbE -/
namespace Sx
open PySem PySem.Spec PyProof.Rows L2
abbrev sBox : Stmt := top 17
abbrev sCells : Stmt := top 19
def spBox (K : PySem.W.Frag) : Sp := fun vs H Q _ => ∃ (a : Addr) (k : Nat) (ns : List Int), vs = [.ref a, .int k] ∧ SqL K H a (ns.map V.int) ∧ k < ns.length ∧ ns.length ≤ 3 ∧ ∀ l H', Same H H' → H l = none → Urn H' l 0 → Q (.ref l) H'
def spCells (K : PySem.W.Frag) : Sp := fun vs H Q _ => ∃ (a : Addr) (ns : List Int), vs = [.ref a, .int 3] ∧ SqL K H a (ns.map V.int) ∧ ns.length ≤ 63 ∧ ∀ l (ms : List Int) H', Same H H' → H' l = some (.lst (ms.map V.int)) → ms.length ≤ 3 → Q (.ref l) H'
theorem b01 : ∀ b : Bool, -(2 ^ 64) < (if b = true then (1 : Int) else 0) ∧ (if b = true then (1 : Int) else 0) < 2 ^ 64
  | true => by decide
  | false => by decide
section
variable {P : Program} {w : World} {K : PySem.W.Frag} {mg : Str → Option Value} {base : Heap}
/-- for i, x in enumerate(xs) -/
theorem for_enum {a : Addr} {xs : List V} {tb : TS} {D : Ends} {σ : L2.St} {H : Hp} {j1 j2 : Nat} (hx : SqL K H a xs) (Pv : Nat → L2.St → Hp → Prop) (h0 : Pv 0 σ H) (hl : ∀ i σ' H', Pv i σ' H' → SqL K H' a xs) (hk : ∀ i σ' H' H2, Pv i σ' H' → Same H' H2 → Pv i σ' H2)
    (hs : ∀ (i : Nat) x σ' H', xs[i]? = some x → Pv i σ' H' → tb { D with nx := Pv (i + 1), ct := Pv (i + 1), bk := D.nx } ((σ'.set j1 (some (.int (i : Nat)))).set j2 (some x)) H') (hq : ∀ σ' H', Pv xs.length σ' H' → D.nx σ' H') :
    ∃ W : Nat → Nat → L2.St → Hp → Prop, (∃ m, W 0 m σ H) ∧ ∀ i m σ H, W i m σ H → ((Ite K a).stop i H ∧ D.nx σ H) ∨ ((Ite K a).go i H ∧ ∃ N : L2.St → Hp → Prop, (∀ σ' H', N σ' H' → ∃ m', m' < m ∧ W (i + 1) m' σ' H') ∧ ∀ x H', (Ite K a).yld i H x H' → gTup K 2 (gCons (gName j1) (gCons (gName j2) gNil)) x σ H' fun σ2 H2 => tb { D with nx := N, ct := N, bk := D.nx } σ2 H2) := by
  refine ⟨fun i m σ' H' => m = xs.length - i ∧ i ≤ xs.length ∧ Pv i σ' H', ⟨xs.length, rfl, Nat.zero_le _, h0⟩, ?_⟩
  rintro i m σ' H' ⟨rfl, hi, p⟩
  have sq := hl i σ' H' p
  rcases Nat.lt_or_ge i xs.length with lt | ge
  · refine .inr ⟨⟨xs, xs[i], sq, List.getElem?_eq_getElem lt⟩, Pv (i + 1), fun σ2 H2 p2 => ⟨xs.length - (i + 1), by omega, rfl, lt, p2⟩, fun v H2 ⟨T, x, ev, hT, eH, y⟩ => ?_⟩
    subst ev
    have s2 : Same H' H2 := by rw [eH]; exact Sx.Same.new hT
    have hT2 : H2 T = some (.tup [.int (i : Nat), x]) := by rw [eH]; exact upd_same
    exact ⟨T, _, rfl, SqT.of hT2, rfl, _, _, rfl, _, _, rfl, rfl, hs i x σ' H2 (y xs sq) (hk _ _ _ _ p s2)⟩
  · have e : i = xs.length := Nat.le_antisymm hi ge
    subst e
    exact .inl ⟨⟨xs, sq, Nat.le_refl _⟩, hq σ' H' p⟩
abbrev nBox : List Str := ["_law_script", "_law_k", "_law_cell"]
theorem scBox : FnScope nBox ["_law_script", "_law_k"] (defScope sBox) := ⟨rfl, rfl, rfl, by decide +kernel, rfl, by decide +kernel, by decide +kernel⟩
theorem ok_box {f : Addr} {fd : FuncData} {dvs : List V} (F : FunD K "_law_box" "_law_box" (defArgs sBox) (defBody sBox) (defScope sBox) dvs [] f fd) (B : Blt mg) : FnOk P w K mg base CX0 1 f fd ["_law_script", "_law_k"] (spBox K) := by
  refine F.ok scBox (fun vs H Q E h => ?_) (fun cdv A outer s H vs Q E hr h => ?_)
  · obtain ⟨a, k, ns, rfl, _⟩ := h
    rfl
  · obtain ⟨a, k, ns, rfl, hx, hk, l3, q⟩ := h
    refine ⟨_, (pss_cons (ps_set (i := 2) scBox.nd rfl (Or.inl rfl) (pe_ifExp (pt_cmpR op_lt (pv 1) (pe_callB call_len_seq (by rfl) B.len PySem.boot_len (pa_cons (pv 0) pa_nil)) (nomark _)) (pe_ix ix_list (pv 0) (pv 1) (fun _ _ => rfl)) pe_int))
      (pss_one (ps_ret (pe_lst (pa_cons (pe_op op_mul (pe_callB call_abs (by rfl) B.abs bt_abs (pa_cons (pv 2) pa_nil)) (pe_callTy call_int1 (by rfl) B.int bt_int (pa_cons (pe_cmpR op_ge (pe_callB call_abs (by rfl) B.abs bt_abs (pa_cons (pv 2) pa_nil)) (pe_op op_pow pe_int pe_int) (nomark _)) pa_nil)))
        (pa_cons (pe_op op_add (pe_op op_add (pe_op op_modN (pe_callTy call_int1 (by rfl) B.int bt_int (pa_cons (pv 2) pa_nil)) pe_int) (pe_op op_mul pe_int (pv 1))) pe_int) (pa_cons pe_int pa_nil))))))).nox, ?_⟩
    refine ⟨_, rfl, _, rfl, a, _, rfl, .inl hx, _, _, rfl, rfl, _, rfl, ?_⟩
    rw [List.length_map, decide_eq_true (show (k : Int) < (ns.length : Nat) by omega)]
    refine iteT ⟨_, rfl, _, rfl, a, _, _, .int ns[k], rfl, rfl, hx, atI_nat (j := k) (by rw [List.getElem?_map, List.getElem?_eq_getElem hk]; rfl), ?_⟩
    generalize ns[k] = c
    refine ⟨_, rfl, c, rfl, _, rfl, c, rfl, _, _, rfl, rfl, ⟨by decide, by decide, by decide⟩, _, _, rfl, rfl, .inr ⟨_, rfl, _, _, rfl, rfl, .inr ?_, ?_⟩⟩
    · exact b01 _
    refine ⟨_, rfl, .inl ⟨_, rfl, _, _, rfl, rfl, (show (2305843009213693951 : Int) ≠ 0 by decide), _, rfl, _, _, rfl, rfl, .inl ⟨by decide, by decide⟩, _, _, rfl, rfl, _, _, rfl, rfl, ?_⟩⟩
    refine ⟨(by show 3 ≤ sizeLine; decide), fun l hl => q l _ (Sx.Same.new hl) hl ⟨_, _, 0, upd_same, ?_, ?_, Int.le_refl _, Int.le_refl _⟩⟩
    · have f := fm (x := c) (l := 2305843009213693951) (by decide)
      show -(2 ^ 62) < Int.fmod c 2305843009213693951 + 39373 * (k : Int) + 618071
      omega
    · have f := fm (x := c) (l := 2305843009213693951) (by decide)
      show Int.fmod c 2305843009213693951 + 39373 * (k : Int) + 618071 < 2 ^ 62
      omega
abbrev nCells : List Str := ["_law_script", "_law_top", "_law_cells_here", "_law_k", "_law_cell", "_law_at_so"]
theorem scCells : FnScope nCells ["_law_script", "_law_top"] (defScope sCells) := ⟨rfl, rfl, rfl, by decide +kernel, rfl, by decide +kernel, by decide +kernel⟩
theorem cutV_map (ns : List Int) (lo hi : Option Int) : ∃ ms : List Int, cutV (ns.map V.int) lo hi = ms.map V.int ∧ ms.length = (cutV (ns.map V.int) lo hi).length := by
  refine ⟨(ns.drop (HT.sIx (ns.map V.int).length 0 lo)).take (HT.sIx (ns.map V.int).length (ns.map V.int).length hi - HT.sIx (ns.map V.int).length 0 lo), ?_, ?_⟩
  · unfold cutV
    rw [← List.map_drop, ← List.map_take]
  · unfold cutV
    rw [List.length_take, List.length_take, List.length_drop, List.length_drop, List.length_map]
theorem ok_cells {f : Addr} {fd : FuncData} {dvs : List V} (F : FunD K "_law_cells" "_law_cells" (defArgs sCells) (defBody sCells) (defScope sCells) dvs [] f fd) (B : Blt mg) : FnOk P w K mg base CX0 1 f fd ["_law_script", "_law_top"] (spCells K) := by
  refine F.ok scCells (fun vs H Q E h => ?_) (fun cdv A outer s H vs Q E hr h => ?_)
  · obtain ⟨a, ns, rfl, _⟩ := h
    rfl
  · obtain ⟨a, ns, rfl, hx, l63, q⟩ := h
    refine ⟨_, (Evl.pss_cut (ps_set (i := 2) scCells.nd rfl (Or.inl rfl) (pe_orT (pe_callTy call_list_of (by rfl) B.list bt_list (pa_cons (pe_slice sl_list (pv 0) po_none (po_some (pv 1))) pa_nil)) (pe_one (pe_lst (pa_cons pe_int pa_nil)))))
      (Evl.pss_cut (ps_for PassesOwn.never rfl (pi_enum (by rfl) B.enumerate (pa_cons (pe_slice sl_list (pv 0) (po_some (pv 1)) (po_some pe_int)) pa_nil)) (pg_tup rfl (pgs_cons (pg_name (i := 3) scCells.nd rfl (Or.inl rfl)) (pgs_cons (pg_name (i := 4) scCells.nd rfl (Or.inl rfl)) pgs_nil)))
        (pss_cons (ps_set (i := 5) scCells.nd rfl (Or.inl rfl) (pe_op op_modN (pe_callTy call_int1 (by rfl) B.int bt_int (pa_cons (pv 3) pa_nil)) (pv 1)))
        (pss_one (ps_asg (pe_op op_add (pe_ix ix_list (pv 2) (pv 5) (fun _ _ => rfl)) (pe_op op_mul (pv 4) (pe_op op_add (pv 3) pe_int))) (pg_sub (pv 2) (pv 5) set_list)))))
      (pss_one (ps_ret (pv 2))))).nox, ?_⟩
    obtain ⟨ms, em, lm⟩ := cutV_map ns none (some ((3 : Nat) : Int))
    obtain ⟨cs, ec, lc⟩ := cutV_map ns (some ((3 : Nat) : Int)) (some ((63 : Nat) : Int))
    have nl : (ns.map V.int).length = ns.length := List.length_map _
    have lm2 : ms.length = min 3 ns.length := by
      rw [lm]
      unfold cutV
      rw [List.length_take, List.length_drop, HT.sIx_none, HT.sIx_nat, nl]
      omega
    have lc2 : cs.length = ns.length - 3 := by
      rw [lc]
      unfold cutV
      rw [List.length_take, List.length_drop, HT.sIx_nat, HT.sIx_nat, nl]
      omega
    refine ⟨fun σ' H' => ∃ (l : Addr) (ds : List Int), σ' = [some (.ref a), some (.int 3), some (.ref l), none, none, none] ∧ Same H H' ∧ H l = none ∧ H' l = some (.lst (ds.map V.int)) ∧ (ds.length = min 3 ns.length ∨ (ds.length = 1 ∧ ns.length = 0)), ?_, ?_⟩
    · refine ⟨_, rfl, _, rfl, _, rfl, a, _, rfl, hx, fun p hp => ?_⟩
      have em' : cutV (ns.map V.int) none (some 3) = ms.map V.int := em
      rw [em']
      have S1 : Same H (upd H p (.lst (ms.map V.int))) := Sx.Same.new hp
      refine ⟨p, _, rfl, .inl (SqL.of upd_same), fun l hl => ?_⟩
      have S2 : Same (upd H p (.lst (ms.map V.int))) (upd (upd H p (.lst (ms.map V.int))) l (.lst (ms.map V.int))) := Sx.Same.new hl
      have fresh : ∀ {q : Addr}, (upd H p (.lst (ms.map V.int))) q = none → H q = none := fun {q} hq => by
        cases z : H q with
        | none => rfl
        | some o => rw [S1 _ _ z] at hq; cases hq
      refine ⟨_, .inl ⟨_, SqL.of upd_same, rfl⟩, ?_⟩
      cases ms with
      | nil =>
        refine iteF ⟨(by show 1 ≤ sizeLine; decide), fun l2 hl2 => ?_⟩
        have e0 : ns.length = 0 := by rw [List.length_nil] at lm2; omega
        have l2p : H l2 = none := by
          cases z : H l2 with
          | none => rfl
          | some o => rw [S2 _ _ (S1 _ _ z)] at hl2; cases hl2
        exact ⟨l2, [0], rfl, S1.trans (S2.trans (Sx.Same.new hl2)), l2p, by rw [upd_same]; rfl, .inr ⟨rfl, e0⟩⟩
      | cons m ms =>
        refine iteT ⟨l, m :: ms, rfl, S1.trans S2, fresh hl, upd_same, .inl lm2⟩
    rintro σ1 H1 ⟨l, ds, rfl, S1, lH, hl, dl⟩
    have d3 : ds.length ≤ 3 := by omega
    refine ⟨fun σ' H' => ∃ v3 v4 v5 ds', σ' = [some (.ref a), some (.int 3), some (.ref l), v3, v4, v5] ∧ Same H H' ∧ H' l = some (.lst (List.map V.int ds')) ∧ ds'.length ≤ 3, ?_, ?_⟩
    · refine ⟨_, rfl, _, rfl, _, rfl, _, rfl, a, _, rfl, same_sqL S1 hx, fun p hp => ?_⟩
      have ec' : cutV (ns.map V.int) (some 3) (some 63) = cs.map V.int := ec
      rw [ec']
      have S2 : Same H1 (upd H1 p (.lst (cs.map V.int))) := Sx.Same.new hp
      have lp : l ≠ p := ne_of_none hl hp
      refine ⟨p, _, rfl, SqL.of upd_same, ?_⟩
      refine for_enum (xs := cs.map V.int) (SqL.of upd_same) (fun i σ' H' => ∃ v3 v4 v5 ds', σ' = [some (.ref a), some (.int 3), some (.ref l), v3, v4, v5] ∧ Same H H' ∧ H' l = some (.lst (List.map V.int ds')) ∧ ds'.length = ds.length ∧ H' p = some (.lst (cs.map V.int)))
        ⟨none, none, none, ds, rfl, S1.trans S2, S2 _ _ hl, rfl, upd_same⟩ (fun i σ' H' ⟨_, _, _, _, _, _, _, _, h⟩ => SqL.of h) (fun i σ' H' H2 ⟨v3, v4, v5, ds', e, s, h1, h2, h3⟩ s2 => ⟨v3, v4, v5, ds', e, s.trans s2, s2 _ _ h1, h2, s2 _ _ h3⟩) ?_ ?_
      · rintro i x σ' H' hi ⟨v3, v4, v5, ds', rfl, s, h1, h2, h3⟩
        rw [List.getElem?_map] at hi
        obtain ⟨c, hc, rfl⟩ := Option.map_eq_some_iff.mp hi
        have il := (List.getElem?_eq_some_iff.mp hc).1
        have dl3 : ds'.length = 3 := by omega
        have e : Int.fmod (i : Int) 3 = ((i % 3 : Nat) : Int) := by
          rw [Int.fmod_eq_emod_of_nonneg _ (by decide)]
          omega
        have lt3 : i % 3 < ds'.length := by omega
        refine ⟨_, rfl, .inl ⟨_, rfl, _, rfl, _, _, rfl, rfl, (show (3 : Int) ≠ 0 by decide), ?_⟩⟩
        refine ⟨_, rfl, _, rfl, l, _, _, .int ds'[i % 3], rfl, rfl, SqL.of h1, ?_, _, rfl, _, rfl, _, _, rfl, rfl, _, _, rfl, rfl, .inr ⟨by omega, by omega⟩, _, _, rfl, rfl, _, rfl, _, rfl, l, _, _, i % 3, rfl, rfl, h1, ?_, ?_⟩
        · show atI (ds'.map V.int) (Int.fmod (i : Int) 3) = _
          rw [e]
          exact atI_nat (j := i % 3) (by rw [List.getElem?_map, List.getElem?_eq_getElem lt3]; rfl)
        · show ixN (ds'.map V.int).length (Int.fmod (i : Int) 3) = _
          rw [e]
          unfold ixN
          rw [if_pos (by omega), if_pos (by rw [List.length_map]; omega), Int.toNat_natCast]
        · refine ⟨_, _, _, ds'.set (i % 3) (ds'[i % 3] + c * ((i : Int) + 2)), rfl, Sx.Same.mut s lH, ?_, by rw [List.length_set]; exact h2, by rw [upd_ne lp.symm]; exact h3⟩
          rw [upd_same, List.map_set]
      · rintro σ' H' ⟨v3, v4, v5, ds', rfl, s, h1, h2, h3⟩
        exact ⟨v3, v4, v5, ds', rfl, s, h1, by omega⟩
    rintro σ2 H2 ⟨v3, v4, v5, ds', rfl, s2, h1, h2⟩
    exact ⟨_, rfl, q l ds' H2 s2 h1 h2⟩
end
end Sx

/-! SxRev -/
/-! t[::-1] of a pair. -/
namespace Sx
open PySem PySem.Spec PyProof.Rows L2
section
variable {prog : Program} {w : World} {A : Around} {E : Value → Shared → Prop} {s : Shared}
theorem applied_rev {sl : Addr} {vs : Value} {Q : Int × Int × Nat → Shared → Prop} (hs : s.heap.IsSliceOf sl .none .none vs) (ps : IsPart vs (some (-1))) (h : Q ((1 : Int), (-1 : Int), 2) s) :
    wpAny (model prog w) A (Builtin.Slice.sliceApplied (.ref sl) (pure (2 : Int))) Q E s := by
  obtain ⟨os, hos, hcs, hds⟩ := id hs
  unfold Builtin.Slice.sliceApplied Builtin.Slice.sliceFields
  refine wpAny_bind (wpAny_bind (wpAny_field hos hds (x := .none) rfl (wpAny_bind (wpAny_field hos hds (x := .none) rfl (wpAny_bind (wpAny_field hos hds (x := vs) rfl (wpAny_pure ?_)))))))
  refine wpAny_bind (HT.slicePart_ ps ?_)
  show wpAny _ _ (if ((-1 : Int) == 0) = true then _ else _) _ _ s
  rw [if_neg (by decide)]
  refine wpAny_bind (slicePart_none (wpAny_bind (slicePart_none (wpAny_bind (wpAny_pure ?_)))))
  exact wpAny_pure h
theorem getItem_rev {t sl : Addr} {x y vs : Value} {Q : Value → Shared → Prop} (ht : IsTup s.heap t #[x, y]) (hs : s.heap.IsSliceOf sl .none .none vs) (ps : IsPart vs (some (-1)))
    (h : Q (.ref s.heap.objs.size) { s with heap := s.heap.push { cls := .type "tuple", data := .seq #[y, x] } }) : wpAny (model prog w) A (getItem (.ref t) (.ref sl)) Q E s := by
  obtain ⟨os, hos, hcs, hds⟩ := id hs
  have hTs : s.TypeIs (.ref sl) "slice" := ⟨os, hos, hcs⟩
  unfold getItem
  try with_reducible refine wpAny_holding ?_
  first | refine wpAny_bind (wpAny_pure ?_) | skip
  refine wpAny_bind (wpAny_sequenceKey ht.typeIs (by decide) ?_)
  refine wpAny_bind (wpAny_callSpecial?_slot (name := Str.ofString "__getitem__") ht.typeIs PyProof.Rows.slot_tuple_getitem
    (wpAny_call_entry PyProof.Rows.slot_tuple_getitem ht.typeIs entry_tuple_getitem ?_ (args_tuple_getitem _ _)))
  show wpAny _ _ (Builtin.Tuple.tupleItemsOf (.ref t) >>= _) _ _ s
  refine wpAny_bind (tupleItemsOf_ ht ?_)
  refine wpAny_bind (wpAny_typeOf hTs ?_)
  rw [if_pos (by decide)]
  refine wpAny_bind (applied_rev hs ps ?_)
  have hno : ¬ (((1 : Int) == 0 && (-1 : Int) == 1 && 2 == (#[x, y] : Array Value).size) = true) := fun z => by cases z
  have e : ((List.range 2).filterMap fun (m : Nat) => (#[x, y] : Array Value)[((1 : Int) + (m : Int) * -1).toNat]?).toArray = #[y, x] := rfl
  show wpAny _ _ (if ((1 : Int) == 0 && (-1 : Int) == 1 && 2 == (#[x, y] : Array Value).size) = true then _ else _) _ _ s
  rw [if_neg hno, e]
  first
    | exact wpAny_bind (m := Builtin.Tuple.tupleExact _) (wpAny_newObj_type (wpAny_pure ⟨_, rfl, wpAny_pure h⟩) (by show 2 ≤ sizeLine; decide))
    | exact wpAny_bind (m := Builtin.Tuple.tupleExact _) (wpAny_newObj_type (wpAny_bind (wpAny_pure (wpAny_pure ⟨_, rfl, wpAny_pure h⟩))) (by show 2 ≤ sizeLine; decide))
end
def tRev2 (K : PySem.W.Frag) (te : TE) : TE := fun σ H Q => te σ H fun x H1 => ∃ a u v, x = .ref a ∧ SqT K H1 a [u, v] ∧ ∀ p, H1 p = none → Q (.ref p) (upd H1 p (.tup [v, u]))
section
variable {X : Cx}
theorem pe_rev2 {e : Expr} {te : TE} {k : Nat} {p1 p2 p3 pos : Pos} (he : PE X e te) : PE X (.Subscript e (.Slice none none (some (.UnaryOp .USub (.Constant (.int 1) k p1) p2)) p3) pos) (tRev2 X.K te) := by
  refine ⟨fun pins s σ H Q I h => ?_⟩
  refine Subscript_ (thn (he.run pins s σ H _ I h) fun v s1 ⟨x, H1, I1, r1, q1⟩ => ?_)
  obtain ⟨a, u1, v1, ex, hx, q⟩ := q1
  subst ex
  cases r1
  have hst : PO X (some (.UnaryOp .USub (.Constant (.int 1) k p1) p2)) (tPart (tUn (rU fun i => .int (-i)) (tC (.int 1)))) := po_some (pe_un un_neg pe_int)
  refine wpAny_Slice (thn (po_none.run pins s1 σ H1 (fun o H2 => o = none ∧ H2 = H1) I1 ⟨rfl, rfl⟩) fun vl s2 ⟨l, H2, I2, pl, el, e2⟩ => ?_)
  subst el e2
  refine thn (po_none.run pins s2 σ H2 (fun o H3 => o = none ∧ H3 = H2) I2 ⟨rfl, rfl⟩) fun vu s3 ⟨u, H3, I3, pu, eu, e3⟩ => ?_
  subst eu e3
  refine thn (hst.run pins s3 σ H3 (fun o H4 => o = some (-1) ∧ H4 = H3) I3 ⟨1, rfl, -1, rfl, rfl, rfl⟩) fun vs s4 ⟨o, H4, I4, ps, eo, e4⟩ => ?_
  subst eo e4
  have I5 : Inv X pins σ H4 { s4 with heap := s4.heap.push { cls := .type "slice", data := .fields #[vl, vu, vs] } } := I4.kept (t' := s4.toks) fun b ob q => Heap.get?_push_of_some _ q
  obtain ⟨its, r, ht, hz⟩ := I5.tuple hx
  obtain ⟨x1, y1, ei, rx1, ry1⟩ := vals2 r
  subst ei
  cases pl
  cases pu
  show wpAny (model X.prog X.w) X.A (subscriptTail e (.Slice none none (some (.UnaryOp .USub (.Constant (.int 1) k p1) p2)) p3) (.ref a) (.ref s4.heap.objs.size)) (EP X pins σ Q) X.xe { s4 with heap := s4.heap.push { cls := .type "slice", data := .fields #[.none, .none, vs] } }
  refine tail_any (ops := [.ref a, .ref s4.heap.objs.size]) ht.typeIs (PyProof.Rows.slot_tuple_getitem.lookup) ?_ (by with_unfolding_all rfl)
  refine getItem_rev ht (Heap.IsSliceOf.new _ .none .none vs) ps ?_
  refine ⟨.ref _, _, I5.laid (t' := s4.toks) (o := .tup [v1, u1]) (fun b ob q => Heap.get?_push_of_some _ q) (Nat.le_refl _) ?_, rfl, q _ (I5.hok.fresh (Nat.le_refl _))⟩
  exact ⟨by show 2 ≤ sizeLine; decide, _, .cons ry1 (.cons rx1 .nil), IsTup.new _ _⟩
end
end Sx

/-! SxKw -/
/-! A call by one name; slices with a step. -/
namespace Sx
open PySem PySem.Spec PyProof.Rows L2
theorem kb_one {K : PySem.W.Frag} {fd : FuncData} {y : Str} (h1 : ∀ v : Value, bindArgs fd ⟨[v], []⟩ = pure [(y, v)]) (h2 : ∀ v : Value, bindArgs fd ⟨[], [(y, v)]⟩ = pure [(y, v)]) : KBinds K fd [y] [y] (fun us ws => us ++ ws) (fun vs zs => vs ++ zs) where
  to := fun s us ws _ hl => match us, ws, hl with
    | [u], [], _ => .of_eq (h1 u)
    | [], [w], _ => .of_eq (h2 w)
    | u :: u2 :: us, ws, hl => by simp at hl
    | [u], w :: ws, hl => by simp at hl
    | [], [], hl => by simp at hl
    | [], w :: w2 :: ws, hl => by simp at hl
  rel := fun r rz => r.append rz
section
variable {X : Cx} {k : Nat} {f : Addr} {fd : FuncData} {sp : Sp} {E : XK} {x : Str} {ps ks : List Str} {p pos : Pos} {kws : List Keyword} {tk : TA} {CX : CXT} {g : List Value → List Value → List Value} {gV : List V → List V → List V}
/-- f(y=e) -/
theorem pe_callK0 (F : FnOk X.prog X.w X.K X.mg X.base CX k f fd ps sp) (hr : Room k X.A) (hg : Gl X x) (hm : X.mg x = some (.ref f)) (hk : PySem.W.keepIn X.K (.ref f) = true) (hb : KBinds X.K fd ps ks g gV) (hx : Passes CX X E)
    (hkw : PK X kws tk) (hall : (backToKw pos (keywordEach kws X.env)).all (·.1.isSome) = true := by rfl) (hks : (backToKw pos (keywordEach kws X.env)).filterMap (·.1) = ks := by rfl)
    (hdb : (x == ("__debug__" : Str)) = false := by decide) (hpl : ((backTo pos (starEach [] X.env)).any (·.1) || (backToKw pos (keywordEach kws X.env)).any (·.1.isNone)) = false := by rfl) :
    PE X (.Call (.Name x p) [] kws pos) (fun σ H Q => tk σ H fun zs H1 => sp (gV [] zs) H1 Q E) := by
  refine ⟨fun pins s σ H Q I h => ?_⟩
  refine wpAny_Call_Name_kw (ld_glob I hg hm ?_ hdb)
  refine PySem.W.callWith_KW0 (h₀ := X.base) I.ok.mod.kin hk hall (thn (hkw.run pos pins s σ H _ I h) fun ws s2 ⟨zs, H2, I2, rz, q2⟩ => ⟨I2.kIn, ?_⟩) hpl
  rw [hks]
  exact run_fnk F hr hb hx I2 .nil rz q2
end
/-- xs[lo::c] of a list, c written, above 0 -/
def pickV (xs : List V) (lo : Option Int) (c : Int) : List V := (sliceRange (sliceBounds lo none (some c) xs.length).1 (sliceBounds lo none (some c) xs.length).2.1 (sliceBounds lo none (some c) xs.length).2.2).filterMap (xs[·]?)
theorem vals_pick {xs : List V} {its : List Value} (r : Vals xs its) : ∀ js : List Nat, Vals (js.filterMap (xs[·]?)) (js.filterMap (its.toArray[·]?))
  | [] => .nil
  | j :: js => by
    have ih := vals_pick r js
    cases h : xs[j]? with
    | none =>
      have h2 : its.toArray[j]? = none := by
        have l := r.length
        rw [List.getElem?_toArray]
        exact List.getElem?_eq_none (by have := List.getElem?_eq_none_iff.mp h; omega)
      rw [List.filterMap_cons_none h, List.filterMap_cons_none h2]
      exact ih
    | some v =>
      obtain ⟨u, hu, ru⟩ := r.get h
      have h2 : its.toArray[j]? = some u := by rw [List.getElem?_toArray]; exact hu
      rw [List.filterMap_cons_some h, List.filterMap_cons_some h2]
      exact .cons ru ih
def tStep (K : PySem.W.Frag) (te : TE) (tl : TO) (c : Int) : TE := fun σ H Q => te σ H fun x H1 => tl σ H1 fun lo H2 => ∃ a xs, x = .ref a ∧ SqL K H2 a xs ∧ xs.length ≤ sizeLine ∧ (pickV xs lo c).length ≤ sizeLine ∧ ∀ p, H2 p = none → Q (.ref p) (upd H2 p (.lst (pickV xs lo c)))
section
variable {X : Cx}
theorem pe_step {e : Expr} {lo : Option Expr} {te : TE} {tl : TO} {k : Nat} {c : Int} {p1 p3 pos : Pos} (he : PE X e te) (hl : PO X lo tl) (hc : c ≠ 0) : PE X (.Subscript e (.Slice lo none (some (.Constant (.int c) k p1)) p3) pos) (tStep X.K te tl c) := by
  refine ⟨fun pins s σ H Q I h => ?_⟩
  refine Subscript_ (thn (he.run pins s σ H _ I h) fun v s1 ⟨x, H1, I1, r1, q1⟩ => ?_)
  have hst : PO X (some (.Constant (.int c) k p1)) (tPart (tC (.int c))) := po_some pe_int
  refine wpAny_Slice (thn (hl.run pins s1 σ H1 _ I1 q1) fun vl s2 ⟨l, H2, I2, pl, q2⟩ => ?_)
  refine thn (po_none.run pins s2 σ H2 (fun o H3 => o = none ∧ H3 = H2) I2 ⟨rfl, rfl⟩) fun vu s3 ⟨u, H3, I3, pu, eu, e3⟩ => ?_
  subst eu e3
  refine thn (hst.run pins s3 σ H3 (fun o H4 => o = some c ∧ H4 = H3) I3 ⟨_, rfl, rfl, rfl⟩) fun vs s4 ⟨o, H4, I4, ps, eo, e4⟩ => ?_
  subst eo e4
  obtain ⟨a, xs, ex, hx, hz0, hp, q⟩ := q2
  subst ex
  cases r1
  have I5 : Inv X pins σ H4 { s4 with heap := s4.heap.push { cls := .type "slice", data := .fields #[vl, vu, vs] } } := I4.kept (t' := s4.toks) fun b ob q => Heap.get?_push_of_some _ q
  obtain ⟨its, r, ht, hz⟩ := I5.list hx
  have hlen := r.length
  show wpAny (model X.prog X.w) X.A (subscriptTail e (.Slice lo none (some (.Constant (.int c) k p1)) p3) (.ref a) (.ref s4.heap.objs.size)) (EP X pins σ Q) X.xe { s4 with heap := s4.heap.push { cls := .type "slice", data := .fields #[vl, vu, vs] } }
  refine tail_any (ops := [.ref a, .ref s4.heap.objs.size]) ht.isList.typeIs (PySem.slot_list_getitem.lookup) ?_ (by with_unfolding_all rfl)
  refine wpAny_getItem_list_slice ht.isList (Heap.IsSliceOf.new _ vl vu vs) pl pu ps (fun z => hc (Option.some.inj z)) ?_ (by rw [List.size_toArray]; omega)
  have es : slicePick its.toArray l none (some c) = ((sliceRange (sliceBounds l none (some c) xs.length).1 (sliceBounds l none (some c) xs.length).2.1 (sliceBounds l none (some c) xs.length).2.2).filterMap (its.toArray[·]?)).toArray := by
    unfold slicePick
    rw [List.size_toArray, ← hlen]
  rw [es]
  refine ⟨.ref _, _, I5.laid (t' := s4.toks) (o := .lst (pickV xs l c)) (fun b ob q => Heap.get?_push_of_some _ q) (Nat.le_refl _) ?_, rfl, q _ (I5.hok.fresh (Nat.le_refl _))⟩
  exact ⟨hp, _, 0, vals_pick r _, Heap.get?_push_size _ rfl⟩
end
end Sx

/-! SxIt -/
/-! d.items() of a dict with texts or ints for keys; sorted(d.items()) of one with texts for keys and ints for values. -/
namespace Sx
open PySem PySem.Spec PyProof.Rows L2
/-! ### pairs of a text and an int, in order -/
def ltKI (a b : Str × Int) : Bool := if a.1 = b.1 then decide (a.2 < b.2) else ltS a.1 b.1
theorem swo_KI {α : Type} (k : α → Str × Int) : SrtO.Swo fun x y => ltKI (k x) (k y) := by
  have asym : ∀ a b : Str × Int, ltKI a b = true → ltKI b a = false := fun a b h => by
    unfold ltKI at h ⊢
    by_cases e : a.1 = b.1
    · rw [if_pos e] at h
      rw [if_pos e.symm]
      have := of_decide_eq_true h
      exact decide_eq_false (by omega)
    · rw [if_neg e] at h
      rw [if_neg (Ne.symm e)]
      exact ltS_asym h
  have ntr : ∀ a b c : Str × Int, ltKI b a = false → ltKI c b = false → ltKI c a = false := fun a b c h g => by
    unfold ltKI at h g ⊢
    by_cases e1 : b.1 = a.1
    · rw [if_pos e1] at h
      by_cases e2 : c.1 = b.1
      · rw [if_pos e2] at g
        rw [if_pos (e2.trans e1)]
        have h1 := of_decide_eq_false h
        have g1 := of_decide_eq_false g
        exact decide_eq_false (by omega)
      · rw [if_neg e2] at g
        rw [if_neg (by rw [← e1]; exact e2), ← e1]
        exact g
    · rw [if_neg e1] at h
      have ab : ltS a.1 b.1 = true := by
        rcases ltS_tri a.1 b.1 with w | w | w
        · exact w
        · exact absurd w.symm e1
        · rw [w] at h; cases h
      by_cases e2 : c.1 = b.1
      · rw [if_neg (by rw [e2]; exact e1), e2]
        exact h
      · rw [if_neg e2] at g
        have bc : ltS b.1 c.1 = true := by
          rcases ltS_tri b.1 c.1 with w | w | w
          · exact w
          · exact absurd w.symm e2
          · rw [w] at g; cases g
        have ac := ltS_tr ab bc
        rw [if_neg (fun w => by rw [w, ltS_irr] at ac; cases ac)]
        exact ltS_asym ac
  exact ⟨fun x y h => asym _ _ h, fun x y z h g => ntr _ _ _ h g⟩
def IsPI (h : Heap) (v : Value) (z : Str × Int) : Prop := ∃ a o its n, v = .ref a ∧ h.get? a = some o ∧ o.cls = .type "tuple" ∧ o.data = .seq its n ∧ Vals [.str z.1, .int z.2] its.toList
section
variable {prog : Program} {w : World} {A : Around} {E : Value → Shared → Prop} {s : Shared}
theorem kat_KI {fin : Bool} {Q : Bool → Shared → Prop} {a b : Str × Int} {us vs : List Value} (ra : Vals [.str a.1, .int a.2] us) (rb : Vals [.str b.1, .int b.2] vs) (e : fin = false) (h : Q (ltKI a b) s) : PySem.W.KatLex prog w A true fin Q (us.zip vs) 0 s := by
  cases ra with
  | cons ra1 ra =>
    cases ra with
    | cons ra2 ra =>
      cases ra
      cases rb with
      | cons rb1 rb =>
        cases rb with
        | cons rb2 rb =>
          cases rb
          obtain ⟨t1, rfl⟩ := ra1
          obtain ⟨t2, rfl⟩ := ra2
          obtain ⟨t3, rfl⟩ := rb1
          obtain ⟨t4, rfl⟩ := rb2
          unfold ltKI at h
          refine PySem.W.kat_cons (wpAny_eqBool_str (PySem.W.kat_go (fun e1 => ?_) fun e1 => ?_))
          · rw [if_pos (by simpa using e1)] at h
            refine PySem.W.kat_yes (PySem.W.kat_cons (wpAny_eqBool_int (PySem.W.kat_go (fun e2 => ?_) fun e2 => ?_)))
            · have e3 : a.2 = b.2 := by simpa using e2
              rw [decide_eq_false (by omega)] at h
              exact PySem.W.kat_yes (PySem.W.kat_nil (by rw [e]; exact h))
            · refine PySem.W.kat_no ?_
              show wpAny _ _ (oneLt' (true && false) _ _) _ _ _
              exact PySem.W.kat_one _ _ (PyProof.Rows.lt_int h)
          · rw [if_neg (by simpa using e1)] at h
            exact PySem.W.kat_no (oneLt_str h)
theorem ki_cmp {vs : List Value} {k : Value → Str × Int} (hp : ∀ v ∈ vs, IsPI s.heap v (k v)) : SrtO.Cmp prog w A s (tuples' true) (fun p => p.1 ∈ vs) (SrtO.lt2 fun v u => ltKI (k v) (k u)) := by
  intro p q hm hm'
  obtain ⟨a, o, its, n, e, ho, hc, hd, r⟩ := hp _ hm
  obtain ⟨a', o', its', n', e', ho', hc', hd', r'⟩ := hp _ hm'
  show wpAny (model prog w) A (keyLt' (tuples' true) p.1 q.1) (fun r s' => s' = s ∧ r = ltKI (k p.1) (k q.1)) (fun _ _ => False) s
  generalize k p.1 = kp at r ⊢
  generalize k q.1 = kq at r' ⊢
  rw [e, e']
  have l1 : 2 = its.size := by simpa using Paired.length r
  have l2 : 2 = its'.size := by simpa using Paired.length r'
  exact PySem.W.kat_lt ho hd ho' hd' (kat_KI r r' (decide_eq_false (by omega)) ⟨rfl, rfl⟩)
theorem ki_first {h : Heap} : ∀ {vs : List Value}, (∀ v ∈ vs, ∃ k, IsPI h v k) → ∃ fs : List Value, PySem.W.KatTups h vs fs ∧ fs.length = vs.length ∧ ∀ f ∈ fs, ∃ x t, f = Value.str x t
  | [], _ => ⟨[], PySem.W.KatTups.nil, rfl, fun _ hm => nomatch hm⟩
  | v :: vs, hp => by
    obtain ⟨fs, h1, h2, h3⟩ := ki_first (vs := vs) fun u hu => hp u (List.mem_cons_of_mem _ hu)
    obtain ⟨k, a, o, its, n, rfl, ho, hc, hd, r⟩ := hp v List.mem_cons_self
    match its, r, hd with
    | ⟨u :: us⟩, .cons ru _, hd =>
      obtain ⟨t, rfl⟩ := ru
      exact ⟨.str k.1 t :: fs, PySem.W.KatTups.cons ho hc hd rfl h1, by rw [List.length_cons, List.length_cons, h2], fun f hm => (List.mem_cons.mp hm).elim (fun z => ⟨_, t, z⟩) (h3 f)⟩
theorem ki_sortable {a : Addr} {vs : List Value} {k : Value → Str × Int} (h0 : 0 < vs.length) (hp : ∀ v ∈ vs, IsPI s.heap v (k v)) (ha : ∀ o, s.heap.get? a = some o → o.cls ≠ .type "tuple") : SrtO.SortableO prog w A s a vs fun v u => ltKI (k v) (k u) := by
  intro h' keep
  have hp' : ∀ v ∈ vs, IsPI h' v (k v) := fun v hm => by
    obtain ⟨b, o, its, n, e, ho, hc, r⟩ := hp v hm
    exact ⟨b, o, its, n, e, keep b o (fun z => by subst z; exact ha o ho hc) ho, hc, r⟩
  obtain ⟨fs, h1, h2, h3⟩ := ki_first fun v hm => ⟨_, hp' v hm⟩
  refine ⟨tuples' true, fun Q E hq => PySem.W.kat_kind (T := .type "str") h1 (by omega) (fun f hm => ?_) (by rfl) ?_, ki_cmp hp'⟩
  · obtain ⟨x, t, rfl⟩ := h3 f hm
    exact PySem.W.Looks.now
  · have e : (Value.type "str" != Value.type "tuple") = true := by first | decide +kernel | rfl | decide
    rw [e]
    exact hq
end
/-! ### d.items() -/
def rItemsK : V → List V → Hp → VK → Prop := fun x xs H Q => ∃ (a : Addr) (kvs : List (Key × V)), x = .ref a ∧ xs = [] ∧ H a = some (.dK kvs) ∧ ∀ p, H p = none → Q (.ref p) (upd H p (DX.itemsO p a))
theorem mt_itemsK {X : Cx} : MtR X "dict.items" rItemsK := by
  intro pins s σ H x xs v us Q I rx rxs h
  obtain ⟨a, kvs, rfl, rfl, ha, q⟩ := h
  cases rx
  cases rxs
  obtain ⟨z, hd, vs, rel, o, es, ep, ho, hx, hdat, _⟩ := dk_of I.hok ha
  exact DT.callItems (es := es) (ep := ep) hd ⟨o, ho, hx, hdat⟩ ⟨.ref s.heap.objs.size, upd H s.heap.objs.size (DX.itemsO s.heap.objs.size a), I.laid (t' := s.toks) (fun b u e => Heap.get?_push_of_some _ e) (Nat.le_refl _) (DX.itemsO_ok (Heap.get?_push_size _ rfl)), rfl, q _ (I.hok.fresh (Nat.le_refl _))⟩
abbrev kiE (z : Str × Int) : Key × V := (Sum.inr z.1, V.int z.2)
def rSortIt2 : List V → Hp → VK → Prop := fun vs H Q => ∃ (p a : Addr) (rw' : List (Str × Int)), vs = [.ref p] ∧ H p = some (DX.itemsO p a) ∧ H a = some (.dK (rw'.map kiE)) ∧ rw'.length ≤ 10000 ∧
  ∀ (H' : Hp) (l : Addr) (ts : List Addr) (zs : List (Str × Int)), Same H H' → zs.Perm rw' → zs.Pairwise (fun x y => ltKI y x = false) → H' l = some (.lst (ts.map V.ref)) → Paired (fun t (z : Str × Int) => H' t = some (.tup [.str z.1, .int z.2])) ts zs → Q (.ref l) H'
/-- what stands at an address of as -/
def rowAt (as : List Addr) (rs : List (Str × Int)) (v : Value) : Str × Int := match v with
  | .ref b => (((as.zip rs).find? fun z => decide (z.1 = b)).map (·.2)).getD (("" : Str), 0)
  | _ => (("" : Str), 0)
theorem rowAt_is : ∀ {as : List Addr} {rs : List (Str × Int)} {j : Nat} {b : Addr} {z : Str × Int}, as.Nodup → as[j]? = some b → rs[j]? = some z → rowAt as rs (.ref b) = z
  | a :: as, r :: rs, 0, b, z, _, h, g => by
    cases h
    cases g
    show (((((a, r) :: as.zip rs).find? fun z => decide (z.1 = a)).map (·.2)).getD (("" : Str), 0)) = r
    rw [List.find?_cons_of_pos (by exact decide_eq_true rfl)]
    rfl
  | a :: as, r :: rs, j + 1, b, z, nd, h, g => by
    have hb : b ∈ as := List.mem_of_getElem? h
    have ne : a ≠ b := fun e => (List.nodup_cons.mp nd).1 (by rw [e]; exact hb)
    show (((((a, r) :: as.zip rs).find? fun z => decide (z.1 = b)).map (·.2)).getD (("" : Str), 0)) = z
    rw [List.find?_cons_of_neg (by simpa using ne)]
    exact rowAt_is (List.nodup_cons.mp nd).2 h g
theorem perm_refs2 {as : List Addr} {out : List Value} (h : out.Perm (as.map Value.ref)) : ∃ ts : List Addr, out = ts.map Value.ref ∧ ts.Perm as := by
  obtain ⟨ts, e⟩ := refs_all out fun v hv => by
    obtain ⟨a, _, e⟩ := List.mem_map.mp (h.mem_iff.mp hv)
    exact ⟨a, e.symm⟩
  exact ⟨ts, e, perm_refs (by rw [← e]; exact h)⟩
theorem pairs_at {prog : Program} {w : World} : ∀ {es : List DictEntry} {vs : List (Key × Value)} {j : Nat} {e : DictEntry}, Pairs (mixKind prog w) es vs → es[j]? = some e → ∃ z, vs[j]? = some z ∧ (mixKind prog w).is z.1 e.key = true ∧ e.val = z.2
  | _, _, j, e, .nil, h => by simp at h
  | _, _, 0, e, .cons h1 h2 _, h => by
    have h' := Option.some.inj h
    subst h'
    exact ⟨_, rfl, h1, h2⟩
  | _ :: _, _ :: _, j + 1, e, .cons _ _ t, h => pairs_at (j := j) t (by simpa using h)
theorem paired_own {α β : Type} {F : α → β → Prop} {g : α → β} : ∀ l : List α, (∀ t ∈ l, F t (g t)) → Paired F l (l.map g)
  | [], _ => .nil
  | x :: l, h => .cons (h x List.mem_cons_self) (paired_own l fun t ht => h t (List.mem_cons_of_mem _ ht))
theorem cr_sortIt2 {X : Cx} (hc : X.calm = true) : CallR X (.builtin "sorted") rSortIt2 := by
  intro pins s σ H xs us Q I r h
  obtain ⟨p, a, rs, rfl, hp, ha, few, q⟩ := h
  obtain rfl := Vals.ref1 r
  have view : s.heap.IsItemsView p a := (show ObjOk X.prog X.w H s.heap p (DX.itemsO p a) from I.hok p _ hp).1
  obtain ⟨z, hd, vs, rel, o, es, ep, ho, hx, hdat, _, prs, _⟩ := dk_of I.hok ha
  have l1 : rs.length = vs.length := by
    have y := Paired.length rel
    rw [List.length_map] at y
    exact y
  have l2 : es.size = vs.length := by
    have y := prs.length
    rw [Array.length_toList] at y
    exact y
  refine DT.sortedI (es := es) (ep := ep) (I.ok.hd hc) view ⟨o, ho, hx, hdat⟩ (by rw [sizeLine_eq]; omega) fun h' tk as hk hlt hl hG => ?_
  have lak : as.length = rs.length := by omega
  have nd : as.Nodup := List.Pairwise.imp (fun h => Nat.ne_of_lt h) hG.rise
  have pr : ∀ (j : Nat) (b : Addr), as[j]? = some b → ∃ y, rs[j]? = some y ∧ IsPI h' (.ref b) y ∧ ∀ H2, ObjOk X.prog X.w H2 h' b (.tup [.str y.1, .int y.2]) := by
    intro j b hj
    obtain ⟨en, he, hg⟩ := hG.pairs j b hj
    obtain ⟨v, hv, k1, k2⟩ := pairs_at prs (by rw [Array.getElem?_toList]; exact he)
    have jl : j < rs.length := by rw [l1]; exact (List.getElem?_eq_some_iff.mp hv).1
    obtain ⟨v2, hv2, r1, r2⟩ := paired_get rel (x := kiE rs[j]) (by rw [List.getElem?_map, List.getElem?_eq_getElem jl]; rfl)
    rw [hv] at hv2
    cases hv2
    have rk : RelV (.str rs[j].1) en.key := by
      rw [← r1] at k1
      exact keyIs_rel (k := Sum.inr rs[j].1) k1
    have rv : RelV (.int rs[j].2) en.val := by
      rw [k2]
      exact r2
    exact ⟨rs[j], List.getElem?_eq_getElem jl, ⟨b, _, _, 0, rfl, hg, rfl, rfl, .cons rk (.cons rv .nil)⟩, fun H2 => ⟨(by show 2 ≤ sizeLine; decide), [en.key, en.val], .cons rk (.cons rv .nil), ⟨_, hg, rfl, _, rfl⟩⟩⟩
  have hob : (h'.push { cls := .type "list", data := .seq (as.map Value.ref).toArray }).get? h'.objs.size = some (seqObj "list" (as.map Value.ref).toArray 0) := Heap.get?_push_size _ rfl
  have ne0 : ∀ b o, h'.get? b = some o → b ≠ h'.objs.size := fun b o e => Nat.ne_of_lt (Heap.lt_size e)
  have ka : ∀ b o, h'.get? b = some o → (h'.push { cls := .type "list", data := .seq (as.map Value.ref).toArray }).get? b = some o := fun b o e => Heap.get?_push_of_some _ e
  generalize h'.push { cls := .type "list", data := .seq (as.map Value.ref).toArray } = h2 at hob ka ⊢
  have at_ : ∀ v ∈ as.map Value.ref, ∃ (j : Nat) (b : Addr) (y : Str × Int), v = .ref b ∧ as[j]? = some b ∧ rs[j]? = some y ∧ rowAt as rs v = y ∧ IsPI h' v y := by
    intro v hv'
    obtain ⟨b, hb, rfl⟩ := List.mem_map.mp hv'
    obtain ⟨j, hj⟩ := List.mem_iff_getElem?.mp hb
    obtain ⟨y, hy, ip, _⟩ := pr j b hj
    exact ⟨j, b, y, rfl, hj, hy, rowAt_is nd hj hy, ip⟩
  have stay : ∀ {v : Value} {y : Str × Int} {h3 : Heap}, IsPI h' v y → (∀ b o, h'.get? b = some o → h3.get? b = some o) → IsPI h3 v y := fun {v y h3} ip k => by
    obtain ⟨b, o, its, n, e, ho, r⟩ := ip
    exact ⟨b, o, its, n, e, k _ _ ho, r⟩
  refine wpAny_call_entry PyProof.Rows.slot_list_sort ⟨_, hob, rfl⟩ PyProof.Rows.entry_list_sort
    (SrtO.list_sort_ord (s := { s with heap := h2, toks := tk }) (swo_KI (rowAt as rs)) hob (by rw [List.length_map, sizeLine_eq]; omega) (fun h0 => ki_sortable (s := { s with heap := h2, toks := tk }) (by omega) (fun v hv => ?_) fun o' e => ?_) fun out hs hb => ⟨.none, rfl, ?_⟩) (PyProof.Rows.args_list_sort _)
  · obtain ⟨j, b, y, _, _, _, e, ip⟩ := at_ v hv
    rw [e]
    exact stay ip ka
  · have e' : some o' = some (seqObj "list" (as.map Value.ref).toArray 0) := e.symm.trans hob
    cases e'
    intro c
    exact absurd (Value.type.inj c) (by decide)
  · obtain ⟨ts, eo, pm⟩ := perm_refs2 hb.perm
    subst eo
    obtain ⟨e0, hl3⟩ := sortedHeap_at (vs := as.map Value.ref) (out := (ts.map Value.ref).toArray) hob
    have kp : ∀ b o, h'.get? b = some o → (sortedHeap h2 h'.objs.size (as.map Value.ref) (ts.map Value.ref).toArray).get? b = some o := fun b o e => by
      rw [sortedHeap_old (ne0 b o e) (Heap.lt_size (ka b o e))]
      exact ka b o e
    show EP X pins σ Q (.ref h'.objs.size) { s with heap := sortedHeap h2 h'.objs.size (as.map Value.ref) (ts.map Value.ref).toArray, toks := tk }
    generalize sortedHeap h2 h'.objs.size (as.map Value.ref) (ts.map Value.ref).toArray = h3 at hl3 kp
    have lts : ts.length = as.length := pm.length_eq
    have I1 : Inv X pins σ (upd H h'.objs.size (.lst (ts.map V.ref))) { s with heap := h3, toks := tk } := I.laid (t' := tk) (fun b o e => kp b o (hk b o e)) (Nat.le_of_lt hlt) ⟨by rw [List.length_map, sizeLine_eq]; omega, ts.map Value.ref, e0, vals_refs ts, hl3⟩
    obtain ⟨H2, I2, g, atT⟩ := DX.takeT (P := fun b vs => ∃ (j : Nat) (y : Str × Int), as[j]? = some b ∧ rs[j]? = some y ∧ vs = [.str y.1, .int y.2]) I as _ I1 nd fun b hb => by
      obtain ⟨j, hj⟩ := List.mem_iff_getElem?.mp hb
      obtain ⟨y, hy, ip, ok⟩ := pr j b hj
      have bl := hG.there hb
      refine ⟨Nat.le_of_lt (hG.above b hb), ?_, [.str y.1, .int y.2], ⟨j, y, hj, hy, rfl⟩, fun H2 => ?_⟩
      · rw [upd_ne (Nat.ne_of_lt bl)]
        exact I.hok.fresh (Nat.le_of_lt (hG.above b hb))
      · obtain ⟨c1, c2, c3, o', c4, c5⟩ := ok H2
        exact ⟨c1, c2, c3, o', kp _ _ c4, c5⟩
    have newL : H h'.objs.size = none := I.hok.fresh (Nat.le_of_lt hlt)
    have rowsAs : as.map (fun b => rowAt as rs (.ref b)) = rs := by
      refine List.ext_getElem? fun j => ?_
      rw [List.getElem?_map]
      cases hj : as[j]? with
      | none =>
        have : rs[j]? = none := List.getElem?_eq_none (by have := List.getElem?_eq_none_iff.mp hj; omega)
        rw [this]
        rfl
      | some b =>
        obtain ⟨y, hy, _⟩ := pr j b hj
        rw [hy]
        exact congrArg some (rowAt_is nd hj hy)
    refine ⟨.ref h'.objs.size, H2, I2, rfl, q H2 _ ts (ts.map fun b => rowAt as rs (.ref b)) (fun b o e => g b o (by rw [upd_ne (ne_of_none e newL)]; exact e)) ?_ ?_ (g _ _ upd_same) (paired_own ts fun t ht => ?_)⟩
    · have y := pm.map (fun b => rowAt as rs (.ref b))
      rw [rowsAs] at y
      exact y
    · exact List.pairwise_map.mpr (List.pairwise_map.mp hs)
    · obtain ⟨vs', ⟨j, y, hj, hy, rfl⟩, ht2⟩ := atT t (pm.mem_iff.mp ht)
      rw [rowAt_is nd hj hy]
      exact ht2
end Sx

/-! SxPr -/
/-! A target `a, b` for lists or tuples; comprehensions over lists or tuples. -/
namespace Sx
open PySem PySem.Spec PyProof.Rows L2
def gOr (t1 t2 : TG) : TG := fun v σ H Q => t1 v σ H Q ∨ t2 v σ H Q
theorem pg_or {X : Cx} {tg : Expr} {t1 t2 : TG} (h1 : PG X tg t1) (h2 : PG X tg t2) : PG X tg (gOr t1 t2) :=
  ⟨fun pins s σ H v u Q I r h => h.elim (h1.run pins s σ H v u Q I r) (h2.run pins s σ H v u Q I r)⟩
abbrev gSq (K : PySem.W.Frag) (n : Nat) (t : TGs) : TG := gOr (gTup K n t) (gLst K n t)
theorem pg_sq {X : Cx} {es : List Expr} {k : Nat} {t : TGs} {n : Nat} {pos : Pos} (hc : X.calm = true) (h : PGs X es t)
    (hn : (assignEach es X.env).length = n := by rfl) (hst : (assignEach es X.env).findIdx? (·.1) = none := by rfl) : PG X (.Tuple es k pos) (gSq X.K n t) :=
  pg_or (pg_tup hc h hn hst) (pg_lst hc h hn hst)
abbrev g2 (i j : Nat) : TGs := gCons (gName i) (gCons (gName j) gNil)
theorem gSq_of {K : PySem.W.Frag} {i j : Nat} {t : Addr} {x y : V} {σ : L2.St} {H : Hp} {Q : L2.St → Hp → Prop} (h : Sq K H t [x, y]) (q : Q ((σ.set i (some x)).set j (some y)) H) : gSq K 2 (g2 i j) (.ref t) σ H Q := by
  rcases h with h | h
  · exact .inr ⟨t, _, rfl, h, rfl, x, _, rfl, y, _, rfl, rfl, q⟩
  · exact .inl ⟨t, _, rfl, h, rfl, x, _, rfl, y, _, rfl, rfl, q⟩
theorem sq_stay {K : PySem.W.Frag} {H H' : Hp} {a : Addr} {xs : List V} (s : Same H H') (h : Sq K H a xs) : Sq K H' a xs := Sq.same s h
/-- {k: v for .. in xs} -/
theorem dc_sq {K : PySem.W.Frag} {i : Nat} {a : Addr} {xs : List V} {g : TG} {tt : TT} {tk tv : TE} {vs : List Nat} {σ : L2.St} {H Hx : Hp} {Q : VK} (hv : σ[i]? = some (some (.ref a))) (hx : Sq K Hx a xs) (hH : Same Hx H) (Pv : Addr → Nat → Hp → Prop)
    (h0 : ∀ D, H D = none → Pv D 0 (upd H D (.dK []))) (hl : ∀ D j H', Pv D j H' → Same Hx H')
    (hs : ∀ D j x H', xs[j]? = some x → Pv D j H' → g x (wipe σ vs) H' fun σ2 H2 => wipe σ2 vs = wipe σ vs ∧ tt σ2 H2 fun b H3 =>
      if b = true then tk σ2 H3 fun y H4 => tv σ2 H4 fun z H5 => ∃ kvs k, y = kV k ∧ H5 D = some (.dK kvs) ∧ kvs.length < sizeLine ∧ Pv D (j + 1) (upd H5 D (.dK (putK kvs k z))) else Pv D (j + 1) H3)
    (hd : ∀ D H', H D = none → Pv D xs.length H' → Q (.ref D) H') : tDc (iSq K (tVar i)) g tt tk tv vs σ H Q := by
  rcases hx with hx | hx
  · refine .inl ⟨_, hv, a, rfl, ⟨xs, Same.seq hH hx⟩, fun D hD => ⟨fun j m H' => m = xs.length - j ∧ j ≤ xs.length ∧ Pv D j H', ⟨xs.length, rfl, Nat.zero_le _, h0 D hD⟩, ?_⟩⟩
    rintro j m H' ⟨rfl, hj, p⟩
    have sq := Same.seq (hl D j H' p) hx
    rcases Nat.lt_or_ge j xs.length with lt | ge
    · exact .inr ⟨⟨xs, xs[j], sq, List.getElem?_eq_getElem lt⟩, Pv D (j + 1), fun H2 p2 => ⟨xs.length - (j + 1), by omega, rfl, lt, p2⟩, fun x H2 ⟨e, y⟩ => by rw [e]; exact hs D j x H' (y xs sq) p⟩
    · have e : j = xs.length := Nat.le_antisymm hj ge
      subst e
      exact .inl ⟨⟨xs, sq, Nat.le_refl _⟩, hd D H' hD p⟩
  · refine .inr ⟨_, hv, a, rfl, ⟨xs, sqT_same hH hx⟩, fun D hD => ⟨fun j m H' => m = xs.length - j ∧ j ≤ xs.length ∧ Pv D j H', ⟨xs.length, rfl, Nat.zero_le _, h0 D hD⟩, ?_⟩⟩
    rintro j m H' ⟨rfl, hj, p⟩
    have sq := sqT_same (hl D j H' p) hx
    rcases Nat.lt_or_ge j xs.length with lt | ge
    · exact .inr ⟨⟨xs, xs[j], sq, List.getElem?_eq_getElem lt⟩, Pv D (j + 1), fun H2 p2 => ⟨xs.length - (j + 1), by omega, rfl, lt, p2⟩, fun x H2 ⟨e, y⟩ => by rw [e]; exact hs D j x H' (y xs sq) p⟩
    · have e : j = xs.length := Nat.le_antisymm hj ge
      subst e
      exact .inl ⟨⟨xs, sq, Nat.le_refl _⟩, hd D H' hD p⟩
/-- [f x for x in xs if c x], xs a list or a tuple, all values -/
theorem lc_valsS {K : PySem.W.Frag} {i : Nat} {a : Addr} {xs : List V} {g : TG} {tt : TT} {te : TE} {vs : List Nat} {σ : L2.St} {H : Hp} {Q : VK} {α : Type} {zs : List α} {R : V → α → Prop} (hv : σ[i]? = some (some (.ref a))) (f : α → V) (c : α → Bool) (hx : Sq K H a xs) (hp : Paired R xs zs) (hz : xs.length ≤ 10000)
    (ht : ∀ x z, z ∈ zs → R x z → ∀ H', Same H H' → Tst g tt te vs σ x H' (c z) fun te σ H => Gv te σ H (f z)) (q : ∀ D H', H D = none → Same H H' → H' D = some (.lst ((zs.filter c).map f)) → Q (.ref D) H') : tLc (iSq K (tVar i)) g tt te vs σ H Q := by
  rcases hx with hx | hx
  · exact .inl ⟨_, hv, a, rfl, ⟨_, hx⟩, lc_valsL f c hx hp hz ht q⟩
  · exact .inr ⟨_, hv, a, rfl, ⟨_, hx⟩, lc_valsT f c hx hp hz ht q⟩
/-- a row of pairs: each a list or a tuple -/
def PrAt {α : Type} (K : PySem.W.Frag) (H : Hp) (a : Addr) (f : α → V × V) (zs : List α) : Prop := ∃ ts : List Addr, Sq K H a (ts.map V.ref) ∧ Paired (fun t z => Sq K H t [(f z).1, (f z).2]) ts zs
theorem PrAt.same {α : Type} {K : PySem.W.Frag} {H H' : Hp} {a : Addr} {f : α → V × V} {zs : List α} (s : Same H H') (h : PrAt K H a f zs) : PrAt K H' a f zs := by
  obtain ⟨ts, h1, h2⟩ := h
  exact ⟨ts, Sq.same s h1, paired_imp (fun _ _ z => Sq.same s z) h2⟩
end Sx

/-! SxTr -/
/-! t[::-1] of any tuple. -/
namespace Sx
open PySem PySem.Spec PyProof.Rows L2
theorem pick_all {α : Type} (L : List α) : ∀ n, n ≤ L.length → (List.range n).filterMap (fun i => L[i]?) = L.take n := by
  intro n
  induction n with
  | zero => exact fun _ => rfl
  | succ n ih =>
    intro hn
    rw [List.range_succ, List.filterMap_append, ih (Nat.le_of_lt hn), List.take_succ, List.getElem?_eq_getElem hn, List.filterMap_cons_some (List.getElem?_eq_getElem hn)]
    rfl
theorem fm_congr {α β : Type} {f g : α → Option β} : ∀ {l : List α}, (∀ m ∈ l, f m = g m) → l.filterMap f = l.filterMap g
  | [], _ => rfl
  | x :: l, h => by
    rw [List.filterMap_cons, List.filterMap_cons, h x List.mem_cons_self, fm_congr fun m hm => h m (List.mem_cons_of_mem _ hm)]
theorem pick_rev (its : List Value) : (List.range its.length).filterMap (fun (m : Nat) => its.toArray[((its.length : Int) - 1 + (m : Int) * -1).toNat]?) = its.reverse := by
  have e : (List.range its.length).filterMap (fun (m : Nat) => its.toArray[((its.length : Int) - 1 + (m : Int) * -1).toNat]?) = (List.range its.length).filterMap fun i => its.reverse[i]? := by
    refine fm_congr fun m hm => ?_
    have lt := List.mem_range.mp hm
    have i1 : ((its.length : Int) - 1 + (m : Int) * -1).toNat = its.length - 1 - m := by omega
    rw [i1, List.getElem?_toArray, List.getElem?_reverse lt]
  have l : its.length = its.reverse.length := List.length_reverse.symm
  rw [e, pick_all its.reverse its.length (by omega), l, List.take_length]
section
variable {prog : Program} {w : World} {A : Around} {E : Value → Shared → Prop} {s : Shared}
theorem applied_revN {sl : Addr} {vs : Value} {n : Nat} {Q : Int × Int × Nat → Shared → Prop} (hs : s.heap.IsSliceOf sl .none .none vs) (ps : IsPart vs (some (-1))) (h : Q ((n : Int) - 1, (-1 : Int), n) s) :
    wpAny (model prog w) A (Builtin.Slice.sliceApplied (.ref sl) (pure (n : Int))) Q E s := by
  obtain ⟨os, hos, hcs, hds⟩ := id hs
  unfold Builtin.Slice.sliceApplied Builtin.Slice.sliceFields
  refine wpAny_bind (wpAny_bind (wpAny_field hos hds (x := .none) rfl (wpAny_bind (wpAny_field hos hds (x := .none) rfl (wpAny_bind (wpAny_field hos hds (x := vs) rfl (wpAny_pure ?_)))))))
  refine wpAny_bind (HT.slicePart_ ps ?_)
  show wpAny _ _ (if ((-1 : Int) == 0) = true then _ else _) _ _ s
  rw [if_neg (by decide)]
  refine wpAny_bind (slicePart_none (wpAny_bind (slicePart_none (wpAny_bind (wpAny_pure ?_)))))
  refine wpAny_pure ?_
  have e : Builtin.Slice.slicePlaces ((n : Int) - 1) (-1) (-1) = n := by
    unfold Builtin.Slice.slicePlaces
    rw [if_neg (by decide)]
    by_cases h0 : (n : Int) - 1 > -1
    · rw [if_pos h0]
      have : (n : Int) - 1 - -1 - 1 = (n : Int) - 1 := by omega
      rw [this, show (-(-1 : Int)) = 1 from rfl, Int.ediv_one]
      omega
    · rw [if_neg h0]
      omega
  show Q ((n : Int) - 1, (-1 : Int), Builtin.Slice.slicePlaces ((n : Int) - 1) (-1) (-1)) s
  rw [e]
  exact h
theorem getItem_revN {t sl : Addr} {its : List Value} {vs : Value} {Q : Value → Shared → Prop} (ht : IsTup s.heap t its.toArray) (hz : its.length ≤ sizeLine) (hs : s.heap.IsSliceOf sl .none .none vs) (ps : IsPart vs (some (-1)))
    (h : Q (.ref s.heap.objs.size) { s with heap := s.heap.push { cls := .type "tuple", data := .seq its.reverse.toArray } }) : wpAny (model prog w) A (getItem (.ref t) (.ref sl)) Q E s := by
  obtain ⟨os, hos, hcs, hds⟩ := id hs
  have hTs : s.TypeIs (.ref sl) "slice" := ⟨os, hos, hcs⟩
  unfold getItem
  try with_reducible refine wpAny_holding ?_
  first | refine wpAny_bind (wpAny_pure ?_) | skip
  refine wpAny_bind (wpAny_sequenceKey ht.typeIs (by decide) ?_)
  refine wpAny_bind (wpAny_callSpecial?_slot (name := Str.ofString "__getitem__") ht.typeIs PyProof.Rows.slot_tuple_getitem
    (wpAny_call_entry PyProof.Rows.slot_tuple_getitem ht.typeIs entry_tuple_getitem ?_ (args_tuple_getitem _ _)))
  show wpAny _ _ (Builtin.Tuple.tupleItemsOf (.ref t) >>= _) _ _ s
  refine wpAny_bind (tupleItemsOf_ ht ?_)
  refine wpAny_bind (wpAny_typeOf hTs ?_)
  rw [if_pos (by decide)]
  have sz : its.toArray.size = its.length := List.size_toArray
  rw [sz]
  refine wpAny_bind (applied_revN hs ps ?_)
  have hno : ¬ (((its.length : Int) - 1 == 0 && (-1 : Int) == 1 && its.length == its.length) = true) := fun z => by
    have : ((-1 : Int) == 1) = false := by decide
    rw [this, Bool.and_false, Bool.false_and] at z
    cases z
  show wpAny _ _ (if (((its.length : Int) - 1 == 0 && (-1 : Int) == 1 && its.length == its.length) = true) then _ else _) _ _ s
  rw [if_neg hno, pick_rev]
  have hz2 : its.reverse.toArray.size ≤ sizeLine := by rw [List.size_toArray, List.length_reverse]; exact hz
  first
    | exact wpAny_bind (m := Builtin.Tuple.tupleExact _) (wpAny_newObj_type (wpAny_pure ⟨_, rfl, wpAny_pure h⟩) hz2)
    | exact wpAny_bind (m := Builtin.Tuple.tupleExact _) (wpAny_newObj_type (wpAny_bind (wpAny_pure (wpAny_pure ⟨_, rfl, wpAny_pure h⟩))) hz2)
end
def tRevN (K : PySem.W.Frag) (te : TE) : TE := fun σ H Q => te σ H fun x H1 => ∃ a xs, x = .ref a ∧ SqT K H1 a xs ∧ ∀ p, H1 p = none → Q (.ref p) (upd H1 p (.tup xs.reverse))
theorem vals_back2 {xs : List V} {its : List Value} (r : Vals xs its) : Vals xs.reverse its.reverse := by
  induction r with
  | nil => exact .nil
  | cons h _ ih =>
    rw [List.reverse_cons, List.reverse_cons]
    exact paired_snoc ih h
section
variable {X : Cx}
theorem pe_revN {e : Expr} {te : TE} {k : Nat} {p1 p2 p3 pos : Pos} (he : PE X e te) : PE X (.Subscript e (.Slice none none (some (.UnaryOp .USub (.Constant (.int 1) k p1) p2)) p3) pos) (tRevN X.K te) := by
  refine ⟨fun pins s σ H Q I h => ?_⟩
  refine Subscript_ (thn (he.run pins s σ H _ I h) fun v s1 ⟨x, H1, I1, r1, q1⟩ => ?_)
  obtain ⟨a, xs, ex, hx, q⟩ := q1
  subst ex
  cases r1
  have hst : PO X (some (.UnaryOp .USub (.Constant (.int 1) k p1) p2)) (tPart (tUn (rU fun i => .int (-i)) (tC (.int 1)))) := po_some (pe_un un_neg pe_int)
  refine wpAny_Slice (thn (po_none.run pins s1 σ H1 (fun o H2 => o = none ∧ H2 = H1) I1 ⟨rfl, rfl⟩) fun vl s2 ⟨l, H2, I2, pl, el, e2⟩ => ?_)
  subst el e2
  refine thn (po_none.run pins s2 σ H2 (fun o H3 => o = none ∧ H3 = H2) I2 ⟨rfl, rfl⟩) fun vu s3 ⟨u, H3, I3, pu, eu, e3⟩ => ?_
  subst eu e3
  refine thn (hst.run pins s3 σ H3 (fun o H4 => o = some (-1) ∧ H4 = H3) I3 ⟨1, rfl, -1, rfl, rfl, rfl⟩) fun vs s4 ⟨o, H4, I4, ps, eo, e4⟩ => ?_
  subst eo e4
  have I5 : Inv X pins σ H4 { s4 with heap := s4.heap.push { cls := .type "slice", data := .fields #[vl, vu, vs] } } := I4.kept (t' := s4.toks) fun b ob q => Heap.get?_push_of_some _ q
  obtain ⟨its, r, ht, hz⟩ := I5.tuple hx
  cases pl
  cases pu
  have hlen := r.length
  show wpAny (model X.prog X.w) X.A (subscriptTail e (.Slice none none (some (.UnaryOp .USub (.Constant (.int 1) k p1) p2)) p3) (.ref a) (.ref s4.heap.objs.size)) (EP X pins σ Q) X.xe { s4 with heap := s4.heap.push { cls := .type "slice", data := .fields #[.none, .none, vs] } }
  refine tail_any (ops := [.ref a, .ref s4.heap.objs.size]) ht.typeIs (PyProof.Rows.slot_tuple_getitem.lookup) ?_ (by with_unfolding_all rfl)
  refine getItem_revN ht (by rw [← hlen]; exact hz) (Heap.IsSliceOf.new _ .none .none vs) ps ?_
  refine ⟨.ref _, _, I5.laid (t' := s4.toks) (o := .tup xs.reverse) (fun b ob q => Heap.get?_push_of_some _ q) (Nat.le_refl _) ?_, rfl, q _ (I5.hok.fresh (Nat.le_refl _))⟩
  exact ⟨by rw [List.length_reverse]; exact hz, _, vals_back2 r, IsTup.new _ _⟩
end
end Sx

/-! SxSt -/
/-! set(xs) of a list of texts; sorted of such a set. -/
namespace Sx
open PySem PySem.Spec PyProof.Rows L2
def txOf (e : Int × Value) : Str := match e.2 with
  | .str x _ => x
  | _ => ""
def TxE (w : World) (e : Int × Value) : Prop := ∃ x t, e.2 = Value.str x t ∧ e.1 = hashStr w x
/-- the set of texts at a: its members M -/
def SetS (w : World) (h : Heap) (a : Addr) (M : Str → Prop) (n : Nat) : Prop := ∃ o es ep t, h.get? a = some o ∧ o.ExactSet ∧ o.data = .set es ep t ∧ (∀ e ∈ es.toList, TxE w e) ∧ (es.toList.map txOf).Nodup ∧
  (∀ k, M k ↔ k ∈ es.toList.map txOf) ∧ es.size < scanBound ∧ t.fits es.size = true ∧ es.size = n ∧ Ris t.place.toList ∧ (w.params.followText "set-order" = true ∨ t.led = true)
theorem SetS.at {w : World} {h h' : Heap} {a : Addr} {M : Str → Prop} {n : Nat} (R : SetS w h a M n) (k : ∀ o, h.get? a = some o → h'.get? a = some o) : SetS w h' a M n := by
  obtain ⟨o, es, ep, t, e, r⟩ := R
  exact ⟨o, es, ep, t, k o e, r⟩
theorem SetS.eqv {w : World} {h : Heap} {a : Addr} {M M' : Str → Prop} {n : Nat} (R : SetS w h a M n) (e : ∀ k, M' k ↔ M k) : SetS w h a M' n := by
  obtain ⟨o, es, ep, t, h1, h2, h3, h4, h5, h6, r⟩ := R
  exact ⟨o, es, ep, t, h1, h2, h3, h4, h5, fun k => (e k).trans (h6 k), r⟩
section
variable {P : Program} {w : World} {A : Around} {E : Value → Shared → Prop} {s : Shared} {a : Addr} {M : Str → Prop} {n : Nat}
theorem is_tx (k : Str) (u : Tok) : (strKind P w).is k (Value.str k u) = true := by
  show Value.isStrOf k (Value.str k u) = true
  simp [Value.isStrOf]
theorem tx_elems {l : List (Int × Value)} (g : ∀ e ∈ l, TxE w e) : ElemsOf (strKind P w) l := by
  intro e he
  obtain ⟨x, t, e1, e2⟩ := g e he
  refine ⟨⟨x, ?_, e2⟩, ?_⟩
  · rw [e1]; exact is_tx x t
  · rw [e1]; rfl
theorem tx_is {e : Int × Value} (g : TxE w e) (k : Str) : (strKind P w).is k e.2 = true ↔ txOf e = k := by
  obtain ⟨x, t, e1, _⟩ := g
  unfold txOf
  rw [e1]
  constructor
  · intro h
    have h2 : Value.isStrOf k (Value.str x t) = true := h
    obtain ⟨u, hu⟩ := Value.isStrOf_shape h2
    injection hu with h1
  · intro h
    rw [← h]
    exact is_tx x t
theorem tx_mem {l : List (Int × Value)} (g : ∀ e ∈ l, TxE w e) (k : Str) : k ∈ l.map txOf ↔ ∃ e ∈ l, (strKind P w).is k e.2 = true := by
  rw [List.mem_map]
  exact ⟨fun ⟨e, he, q⟩ => ⟨e, he, (tx_is (g e he) k).mpr q⟩, fun ⟨e, he, q⟩ => ⟨e, he, (tx_is (g e he) k).mp q⟩⟩
theorem setS_tail {g : Bool → Sem Unit} (hg : ∀ (b : Bool) (u : Shared) (Z : Unit → Shared → Prop), Z () u → wpAny (model P w) A (g b) Z E u) {o : Obj} {es ds : Array (Int × Value)} {ep : Nat} {t t2 : SetTable} (ho : s.heap.get? a = some o)
    (hex : o.ExactSet) (hd : o.data = .set es ep t) (g1 : ∀ e ∈ ds.toList, TxE w e) (nd1 : (ds.toList.map txOf).Nodup) (m1 : ∀ k, M k ↔ k ∈ ds.toList.map txOf) (hb1 : ds.size < scanBound) (hf2 : t2.fits ds.size = true) (hr : Ris t2.place.toList)
    (hl : w.params.followText "set-order" = true ∨ t2.led = true) {dm : Bool} {Z : Option Bool → Shared → Prop} (hZ : ∀ h', Heap.SameBut a s.heap h' → SetS w h' a M ds.size → Z (some true) { s with heap := h' }) :
    wpAny (model P w) A (do
        storeSet a ds t2
        if (!dm && t2.tooFull) = true then do
            g (relayAll t2 ds (SetTable.grown ds.size)).2.2
            storeSet a (relayAll t2 ds (SetTable.grown ds.size)).1 (relayAll t2 ds (SetTable.grown ds.size)).2.1
            pure (some true)
          else pure (some true)) Z E s := by
  refine wpAny_bind (wpAny_storeSet_of ho hd ?_ (fits_of_scanBound hb1))
  have at1 := store_at (es' := ds) (t' := t2) ho hd
  have sb := Heap.SameBut.update s.heap a (Obj.putSet ds t2)
  split
  · have c1 := relayAll_perm t2 ds (SetTable.grown ds.size)
    have c2 := relayAll_fits t2 ds (SetTable.grown ds.size)
    have c3 := relayAll_ris t2 ds (SetTable.grown ds.size)
    have c4 := relayAll_led t2 ds (SetTable.grown ds.size)
    generalize relayAll t2 ds (SetTable.grown ds.size) = W at c1 c2 c3 c4 ⊢
    obtain ⟨fs, t3, gv⟩ := W
    dsimp only at c1 c2 c3 c4 ⊢
    have sz : fs.size = ds.size := by rw [← Array.length_toList, c1.length_eq, Array.length_toList]
    refine wpAny_bind (hg _ _ _ (wpAny_bind (wpAny_storeSet_of at1 rfl ?_ (fits_of_scanBound (by rw [sz]; exact hb1)))))
    have at2 := store_at (es' := fs) (t' := t3) at1 rfl
    refine wpAny_pure (hZ _ (sb.trans (Heap.SameBut.update _ a _)) ⟨_, fs, _, t3, at2, hex, rfl, fun e he => g1 e (c1.mem_iff.mp he), (c1.map txOf).nodup_iff.mpr nd1, fun k => (m1 k).trans (c1.map txOf).mem_iff.symm, ?_, c2, sz, c3, ?_⟩)
    · rw [sz]; exact hb1
    · rcases hl with z | z
      · exact .inl z
      · exact .inr (by rw [c4]; exact z)
  · exact wpAny_pure (hZ _ sb ⟨_, ds, _, t2, at1, hex, rfl, g1, nd1, m1, hb1, hf2, rfl, hr, hl⟩)
theorem setS_add {k : Str} {tk : Tok} {Z : Bool → Shared → Prop} (R : SetS w s.heap a M n) (room : n + 1 < scanBound)
    (hZ : ∀ b h' m, Heap.SameBut a s.heap h' → m ≤ n + 1 → SetS w h' a (fun j => M j ∨ j = k) m → Z b { s with heap := h' }) : wpAny (model P w) A (setAddHashed a (.str k tk) ((strKind P w).hash k)) Z E s := by
  obtain ⟨o, es, ep, t, ho, hex, hd, g, nd, hm, hb, hf, hn, hr, hl⟩ := R
  have isk : (strKind P w).is k (.str k tk) = true := is_tx k tk
  have sc : (Value.str k tk).scannable = true := rfl
  have el : ElemsOf (strKind P w) es.toList := tx_elems g
  unfold setAddHashed setAddHashedIn
  refine wpAny_holding (wpAny_bind (wpAny_setState_of ho hd hf ?_))
  dsimp only
  rw [byScan_of sc hb el]
  simp only [↓reduceIte]
  unfold setAddByScan
  refine wpAny_bind (wpAny_bind (wpAny_rule (wpAny_bind (wpAny_setScan_of isk ho hd hf el ?_))))
  cases hfi : List.findIdx? (fun e => (strKind P w).is k e.2) es.toList with
  | some j =>
    dsimp only
    obtain ⟨hj, pj, _⟩ := List.findIdx?_eq_some_iff_getElem.mp hfi
    have inM : M k := (hm k).mpr ((tx_mem (P := P) g k).mpr ⟨_, List.getElem_mem hj, pj⟩)
    refine wpAny_pure (wpAny_pure (hZ _ s.heap n (Heap.SameBut.refl a s.heap) (Nat.le_succ n) ⟨o, es, ep, t, ho, hex, hd, g, nd, fun i => ?_, hb, hf, hn, hr, hl⟩))
    rw [← hm i]
    exact ⟨fun z => z.elim id fun e => by rw [e]; exact inM, .inl⟩
  | none =>
    dsimp only
    have out : k ∉ es.toList.map txOf := by
      intro z
      obtain ⟨e, he, q⟩ := (tx_mem (P := P) g k).mp z
      have c := List.findIdx?_eq_none_iff.mp hfi e he
      rw [q] at c
      cases c
    have gw : ∀ (b : Bool) {u : Shared} {Y : Unit → Shared → Prop}, Y () u → wpAny (model P w) A (match b with | true => rule "set.scan.the-table-gave-way" | false => pure ()) Y E u := by
      intro b u Y q
      cases b
      · exact wpAny_pure q
      · exact wpAny_rule q
    have c1 := layNew_perm t es ((strKind P w).hash k) (.str k tk)
    have c2 := layNew_fits t es ((strKind P w).hash k) (.str k tk)
    have c3 := layNew_ris t es ((strKind P w).hash k) (.str k tk) hr
    have c4 := layNew_led t es ((strKind P w).hash k) (.str k tk)
    generalize layNew t es ((strKind P w).hash k) (.str k tk) = W at c1 c2 c3 c4 ⊢
    obtain ⟨ds, t1, dm, gv⟩ := W
    dsimp only at c1 c2 c3 c4 ⊢
    rw [Array.toList_push] at c1
    have pc : ds.toList.Perm (((strKind P w).hash k, Value.str k tk) :: es.toList) := c1.trans (List.perm_append_singleton _ _)
    have pk : (ds.toList.map txOf).Perm (k :: es.toList.map txOf) := pc.map txOf
    have g1 : ∀ e ∈ ds.toList, TxE w e := by
      intro e he
      rcases List.mem_cons.mp (pc.mem_iff.mp he) with z | z
      · rw [z]; exact ⟨k, tk, rfl, rfl⟩
      · exact g e z
    have n1 : (ds.toList.map txOf).Nodup := pk.nodup_iff.mpr (List.nodup_cons.mpr ⟨out, nd⟩)
    have m1 : ∀ i, (M i ∨ i = k) ↔ i ∈ ds.toList.map txOf := by
      intro i
      rw [hm i, pk.mem_iff, List.mem_cons]
      exact Or.comm
    have sz : ds.size = n + 1 := by rw [← Array.length_toList, pc.length_eq, List.length_cons, Array.length_toList, hn]
    have b1 : ds.size < scanBound := by rw [sz]; exact room
    have ld : w.params.followText "set-order" = true ∨ t1.led = true := by
      rcases hl with z | z
      · exact .inl z
      · exact .inr (by rw [c4]; exact z)
    have fin : ∀ h', Heap.SameBut a s.heap h' → SetS w h' a (fun j => M j ∨ j = k) ds.size → Z true { s with heap := h' } := fun h' sb r => hZ true h' _ sb (by omega) r
    refine wpAny_bind (gw _ ?_)
    split
    · refine wpAny_bind ?_
      rw [hashByValue_scannable 8 sc]
      refine wpAny_pure ?_
      refine setS_tail ?_ ho hex hd g1 n1 m1 b1 ?_ ?_ ?_ ?_
      · intro b u Y q
        cases b
        · exact wpAny_pure q
        · exact wpAny_rule q
      · first | (split <;> first | exact c2 | exact SetTable.fits_plain_off c2) | exact c2
      · first | (split <;> exact c3) | exact c3
      · first | (split <;> exact ld) | exact ld
      · intro h' sb r; dsimp only; exact wpAny_pure (fin h' sb r)
    · refine wpAny_bind (wpAny_pure ?_)
      simp only [↓reduceIte]
      refine setS_tail ?_ ho hex hd g1 n1 m1 b1 c2 c3 ld ?_
      · intro b u Y q
        cases b
        · exact wpAny_pure q
        · exact wpAny_rule q
      · intro h' sb r; dsimp only; exact wpAny_pure (fin h' sb r)
end
end Sx

/-! SxSu -/
namespace Sx
open PySem PySem.Spec PyProof.Rows L2
def SetM (w : World) (a : Addr) (M : Str → Prop) : HO := .ext fun h => ∃ n, n ≤ 2000 ∧ SetS w h a M n
theorem setM_ok {P : Program} {w : World} {H : Hp} {h : Heap} {a : Addr} {M : Str → Prop} {n : Nat} (R : SetS w h a M n) (hn : n ≤ 2000) : ObjOk P w H h a (SetM w a M) := by
  refine ⟨⟨n, hn, R⟩, ?_, fun h1 h2 p k => ?_⟩
  · obtain ⟨o, es, ep, t, ho, _⟩ := R
    exact ⟨o, ho⟩
  · obtain ⟨m, hm, R1⟩ := p
    exact ⟨m, hm, R1.at k⟩
section
variable {P : Program} {w : World} {A : Around} {E : Value → Shared → Prop} {s : Shared}
/-- the set is made, empty -/
theorem new1 (a : Value) {Z : Value → Shared → Prop} (h : Z (.ref s.heap.objs.size) { s with heap := s.heap.push { cls := .type "set", dict := none, data := .set #[] 0 (.fresh 0 0 (!w.params.followText "set-order")) } }) :
    codeAny (model P w) A (.call (.builtin "set.__new__") ⟨[.type "set", a], []⟩) (wants Z E) s := by
  refine codeAny_of_tree ?_
  show wpAny _ A.in1 (checkBuiltinCall "set.__new__" ⟨[.type "set", a], []⟩ >>= fun _ => again (.builtin "set.__new__" ⟨[.type "set", a], []⟩)) _ _ s
  refine wpAny_bind (wpAny_of_eq (F.newCall_set_1 a) (wpAny_pure ⟨plainId_quiet F.plain_set_new _, codeAny_builtin F.entry_set_new ?_⟩))
  rw [Around.under_plainId F.plain_set_new _]
  unfold Builtin.«set.__new__» Builtin.Frozenset.newClass
  have sub := sub_set_self
  obtain ⟨x1, x2, x3, x4, x5⟩ := s
  dsimp only
  wp_walk
  refine wpAny_askSetting (wpAny_pure ?_)
  dsimp only
  simp only [newObj]
  exact wpAny_bind (wpAny_alloc (wpAny_pure (wpAny_pure h)))
theorem fresh0 {h : Heap} (w : World) : SetS w (h.push { cls := .type "set", dict := none, data := .set #[] 0 (.fresh 0 0 (!w.params.followText "set-order")) }) h.objs.size (fun _ => False) 0 := by
  refine ⟨_, #[], 0, _, Heap.get?_push_size _ rfl, ⟨rfl, rfl, rfl⟩, rfl, fun e he => by simp at he, by simp, fun k => by simp, by decide, by rfl, rfl, List.Pairwise.nil, ?_⟩
  show _ ∨ (!w.params.followText "set-order") = true
  cases w.params.followText "set-order" with
  | true => exact .inl rfl
  | false => exact .inr rfl
theorem up_loop {R : Result → Shared → Prop} {I : Addr} {fp wr : List Addr} {G : Array GenState → Array GenState → Prop} {n : Nat} {Pv : Nat → Value → Prop} {St : Nat → Shared → Prop} (W : WalksS P w A.in1 I fp wr G n Pv St) (S : Addr) (hSf : S ∉ fp)
    (val : Nat → Str) (hval : ∀ i v, Pv i v → ∃ t, v = .str (val i) t) (hb : n + 1 < scanBound) : ∀ (k i : Nat) (s : Shared), n - i = k → i ≤ n → St i s → (∃ m, m ≤ i ∧ SetS w s.heap S (fun z => ∃ j, j < i ∧ val j = z) m) →
      (∀ s', Moved (S :: wr) G s s' → (∃ m, m ≤ n ∧ SetS w s'.heap S (fun z => ∃ j, j < n ∧ val j = z) m) → R (.ok (.ret .none)) s') → codeAny (model P w) A (.builtin "set.update.loop" ⟨[.ref S, .ref I], []⟩) R s := by
  have nw : S ∉ wr := fun h => hSf (W.sub _ h)
  have more : ∀ b ∈ wr, b ∈ S :: wr := fun b hb => List.mem_cons_of_mem _ hb
  intro k
  induction k with
  | zero =>
    intro i s hk hi st hS hR
    obtain rfl : i = n := by omega
    refine codeAny_builtin F.entry_set_update_loop ?_
    rw [Around.under_plainId F.plain_set_update_loop _]
    show wpAny _ A.in1 (pyNext (.ref I) >>= _) _ _ s
    refine wpAny_bind (W.done s _ _ st fun s' hm => ?_)
    show wpAny _ A.in1 (ret Value.none) _ _ s'
    obtain ⟨m, hm2, hS⟩ := hS
    exact wpAny_pure (hR s' (hm.mono more) ⟨m, hm2, hS.at fun o e => hm.heap S o nw e⟩)
  | succ k ih =>
    intro i s hk hi st hS hR
    have lt : i < n := by omega
    refine codeAny_builtin F.entry_set_update_loop ?_
    rw [Around.under_plainId F.plain_set_update_loop _]
    show wpAny _ A.in1 (pyNext (.ref I) >>= _) _ _ s
    refine wpAny_bind (W.item i s _ _ lt st fun v s' hP st' hm => ?_)
    obtain ⟨t, rfl⟩ := hval i v hP
    obtain ⟨m, hm2, hS⟩ := hS
    have hS' := hS.at (h' := s'.heap) fun o e => hm.heap S o nw e
    show wpAny _ A.in1 (holding [Value.str (val i) t] (setAdd S (.str (val i) t)) >>= _) _ _ s'
    refine wpAny_bind (wpAny_holding ?_)
    unfold setAdd
    refine wpAny_holding (wpAny_bind ((PySem.strKind P w).pyHash (k := val i) (is_tx _ _) ?_))
    refine setS_add (s := { s' with toks := s'.toks + 1 }) hS' (by omega) fun b h' m' sb lm R2 => ?_
    have R3 : SetS w h' S (fun z => ∃ j, j < i + 1 ∧ val j = z) m' := R2.eqv fun z => by
      constructor
      · rintro ⟨j, hj, e⟩
        rcases Nat.lt_or_ge j i with l | g
        · exact .inl ⟨j, l, e⟩
        · exact .inr (by rw [← e, show j = i by omega])
      · rintro (⟨j, hj, e⟩ | e)
        · exact ⟨j, by omega, e⟩
        · exact ⟨i, by omega, e.symm⟩
    refine wpAny_pure ⟨plainId_quiet F.plain_set_update_loop _, ih (i + 1) _ (by omega) lt (W.frame _ s' _ _ st' (Nat.le_succ _) fun c hc o e => ?_) ⟨m', by omega, R3⟩ fun s2 hm3 hS3 => hR s2 (Moved.trans W.gtrans ((hm.mono more).then_heap (Nat.le_succ _) fun c o hc e => ?_) hm3) hS3⟩
    · rw [sb.2 c (fun h : c = S => hSf (by rw [← h]; exact hc))]; exact e
    · rw [sb.2 c (fun h : c = S => hc (by rw [h]; exact List.mem_cons_self))]; exact e
/-- set(l) -/
theorem setTxt_list {l : Addr} {items : Array Value} {ns : List Str} {Q : Value → Shared → Prop} (hh : A.handled = none) (hl : s.heap.IsList l items) (hi : ∀ (i : Nat) v, items[i]? = some v → ∃ t, v = .str (ns.getD i "") t) (len : items.size = ns.length) (hb : items.size ≤ 2000)
    (h : ∀ (h' : Heap) (tk : Nat), (∃ m, m ≤ 2000 ∧ SetS w h' s.heap.objs.size (fun z => z ∈ ns) m) → (∀ b o, b < s.heap.objs.size → s.heap.get? b = some o → h'.get? b = some o) → Q (.ref s.heap.objs.size) { s with heap := h', toks := tk }) :
    wpAny (model P w) A (call (.type "set") [.ref l]) Q E s := by
  obtain ⟨c, tl, mro⟩ := F.called_set.mro
  have made := F.called_set.made
  have sub := F.called_set.sub
  refine wpAny_call (codeAny_of_tree ?_)
  show wpAny _ _ (callAny (.type "set") _) _ _ _
  refine wpAny_pure ⟨Code.quiet_builtin _ (by decide +kernel), codeAny_builtin F.entry_type_call ?_⟩
  rw [Around.under_plain (weight_type_call_type "set" [.ref l] []) rfl]
  have c1 := F.called_set.notType
  have c2 := F.called_set.canCreate
  have c3 := F.typeCall_set_1 (.ref l)
  repeat (any_goals (first | assumption | wp_step))
  refine codeAny_mono (new1 (.ref l) (E := E) (Z := fun obj u => obj = .ref s.heap.objs.size ∧ u = { s with heap := s.heap.push { cls := .type "set", dict := none, data := .set #[] 0 (.fresh 0 0 (!w.params.followText "set-order")) } }) ⟨rfl, rfl⟩) fun r u hr => ?_
  cases r with
  | error e => exact hr
  | ok fl =>
    cases fl with
    | ret obj =>
      obtain ⟨rfl, rfl⟩ := hr
      have R0 := fresh0 (h := s.heap) w
      have hS : (s.heap.push { cls := .type "set", dict := none, data := .set #[] 0 (.fresh 0 0 (!w.params.followText "set-order")) }).get? s.heap.objs.size = some { cls := .type "set", dict := none, data := .set #[] 0 (.fresh 0 0 (!w.params.followText "set-order")) } := Heap.get?_push_size _ rfl
      have hT : Shared.TypeIs { s with heap := s.heap.push { cls := .type "set", dict := none, data := .set #[] 0 (.fresh 0 0 (!w.params.followText "set-order")) } } (.ref s.heap.objs.size) "set" := ⟨_, hS, rfl⟩
      have i1 := F.called_set.init.lookup
      have i2 := F.called_set.init.bind (.ref s.heap.objs.size)
      have sz : (s.heap.push { cls := .type "set", dict := none, data := .set #[] 0 (.fresh 0 0 (!w.params.followText "set-order")) }).objs.size = s.heap.objs.size + 1 := Heap.size_push _ _
      have old : ∀ b o, s.heap.get? b = some o → (s.heap.push { cls := .type "set", dict := none, data := .set #[] 0 (.fresh 0 0 (!w.params.followText "set-order")) }).get? b = some o := fun b o e => Heap.get?_push_of_some _ e
      generalize s.heap.push { cls := .type "set", dict := none, data := .set #[] 0 (.fresh 0 0 (!w.params.followText "set-order")) } = h1 at R0 hS hT sz old ⊢
      repeat (any_goals (first | assumption | wp_step))
      refine codeAny_mono (codeAny_call_builtin (R := wants (fun r s₂ => r = .none ∧ ∃ h' tk, s₂ = { s with heap := h', toks := tk } ∧ (∃ m, m ≤ 2000 ∧ SetS w h' s.heap.objs.size (fun z => z ∈ ns) m) ∧
          (∀ b o, b < s.heap.objs.size → s.heap.get? b = some o → h'.get? b = some o)) E) F.called_set.init.plain F.entry_set_init (check_set_init_1 hT ?_)) fun r₂ s₂ hr₂ => ?_
      · obtain ⟨ol, hol, hcl, nl, hdl⟩ := hl
        obtain ⟨ocls, odict, odata, oslots⟩ := ol
        simp only at hcl hdl
        subst hcl
        subst hdl
        have hol' := old _ _ hol
        have s1 := F.sub_list_set
        have s2 := F.sub_list_frozenset
        have ne : (Value.type "list" == Value.type "dict") = false := by decide
        have hl1 : h1.IsList l items := ⟨_, hol', rfl, nl, rfl⟩
        unfold Builtin.«set.__init__» noKeywords Builtin.Frozenset.updateFrom
        generalize hPI : pyIter = PI
        wp_walk
        subst hPI
        refine wpAny_pyIter_list hl1 ?_
        refine wpAny_bind (wpAny_runValue ?_)
        have lS : l < s.heap.objs.size := Heap.lt_size hol
        have h3 : A.in1.in1.in1.handled = none := by simp [hh]
        have neI : l ≠ h1.objs.size := by rw [sz]; exact Nat.ne_of_lt (Nat.lt_succ_of_lt lS)
        have nf : s.heap.objs.size ∉ [h1.objs.size, l] := by
          rw [sz]
          simp only [List.mem_cons, List.mem_singleton, List.not_mem_nil, or_false, not_or]
          exact ⟨Nat.ne_of_lt (Nat.lt_succ_self _), Nat.ne_of_gt lS⟩
        refine up_loop ((Walks.list h3 _ l neI items).toS) s.heap.objs.size nf (fun i => ns.getD i "") hi (by unfold scanBound; omega) (items.size - 0) 0 _ (by omega) (Nat.zero_le _) ⟨⟨_, Heap.get?_push_size _ rfl, rfl, rfl⟩, (hl1.push _)⟩ ⟨0, Nat.le_refl _, ?_⟩ ?_
        · exact (R0.at fun o e => Heap.get?_push_of_some _ e).eqv fun k => ⟨fun ⟨j, hj, _⟩ => absurd hj (Nat.not_lt_zero _), False.elim⟩
        · intro s' hm ⟨m, lm, hS'⟩
          obtain ⟨h', g', d', tk', os'⟩ := s'
          have eg : g' = s.gens := hm.gens
          have ed : d' = s.drawn := hm.drawn
          have eo : os' = s.os := hm.os
          subst eg
          subst ed
          subst eo
          show wpAny _ _ _ _ _ _
          refine wpAny_pure ?_
          show wpAny _ _ (ret Value.none) _ _ _
          refine wpAny_pure ⟨rfl, h', tk', rfl, ⟨m, by omega, hS'.eqv fun k => ?_⟩, fun b o hb e => ?_⟩
          · rw [len]
            constructor
            · intro hk
              obtain ⟨j, hj, e⟩ := List.getElem_of_mem hk
              exact ⟨j, hj, by rw [← e, List.getD_eq_getElem?_getD, List.getElem?_eq_getElem hj]; rfl⟩
            · rintro ⟨j, hj, e⟩
              rw [← e, List.getD_eq_getElem?_getD, List.getElem?_eq_getElem hj]
              exact List.getElem_mem hj
          · refine hm.heap b o ?_ (Heap.get?_push_of_some _ (old _ _ e))
            simp only [List.mem_cons, List.mem_singleton, List.not_mem_nil, or_false, not_or]
            rw [sz]
            exact ⟨Nat.ne_of_lt hb, Nat.ne_of_lt (Nat.lt_succ_of_lt hb)⟩
      · cases r₂ with
        | error e => exact hr₂
        | ok fl₂ =>
          cases fl₂ with
          | ret r =>
            obtain ⟨rfl, h', tk, rfl, hS', hk'⟩ := hr₂
            repeat (any_goals (first | assumption | wp_step))
            exact h _ _ hS' hk'
          | _ => exact hr₂.elim
    | _ => exact hr.elim
end
section
variable {X : Cx}
/-- set(xs), xs a list of texts -/
def rSetT (K : PySem.W.Frag) (w : World) : List V → Hp → VK → Prop := fun vs H Q => ∃ (l : Addr) (xs : List Str), vs = [.ref l] ∧ SqL K H l (xs.map V.str) ∧ xs.length ≤ 2000 ∧ ∀ p, H p = none → Q (.ref p) (upd H p (SetM w p (· ∈ xs)))
theorem cr_setT (hc : X.calm = true) : CallR X (.type "set") (rSetT X.K X.w) := by
  intro pins s σ H vs us Q I r h
  obtain ⟨l, xs, rfl, hs, len, q⟩ := h
  rw [Vals.ref1 r]
  obtain ⟨its, rv, hl, hz⟩ := I.list hs
  have ln : its.length = xs.length := by rw [← rv.length, List.length_map]
  refine setTxt_list (ns := xs) (I.ok.hd hc) hl.isList (fun i v hv => ?_) (by rw [List.size_toArray]; exact ln) (by rw [List.size_toArray]; omega) fun h' tk ⟨m, lm, R⟩ kp => ?_
  · have hv' : its[i]? = some v := by simpa using hv
    have il : i < xs.length := by
      have := (List.getElem?_eq_some_iff.mp hv').1
      omega
    obtain ⟨y, hy, ry⟩ := Sx.paired_get rv (i := i) (x := V.str xs[i]) (by rw [List.getElem?_map, List.getElem?_eq_getElem il]; rfl)
    rw [hv'] at hy
    cases hy
    obtain ⟨t, e⟩ := ry
    refine ⟨t, ?_⟩
    rw [e, List.getD_eq_getElem?_getD, List.getElem?_eq_getElem il]
    rfl
  · exact ⟨.ref s.heap.objs.size, _, I.laid (t' := tk) (fun b o e => kp b o (Heap.lt_size e) e) (Nat.le_refl _) (setM_ok R lm), rfl, q _ (I.hok.fresh (Nat.le_refl _))⟩
/-- sorted of it -/
def rSortM (w : World) : List V → Hp → VK → Prop := fun vs H Q => ∃ (a : Addr) (M : Str → Prop), vs = [.ref a] ∧ H a = some (SetM w a M) ∧ ∀ (ys : List Str) (p : Addr), Up ltS ys → (∀ k, k ∈ ys ↔ M k) → H p = none → Q (.ref p) (upd H p (.lst (ys.map V.str)))
theorem cr_sortM (hc : X.calm = true) : CallR X (.builtin "sorted") (rSortM X.w) := by
  intro pins s σ H vs us Q I r h
  obtain ⟨a, M, rfl, ha, q⟩ := h
  obtain ⟨n, hn2, o, es, ep, t, ho, hex, hd, g, nd, hm, hb, hf, hn, hr, hl⟩ := (show ObjOk X.prog X.w H s.heap a (SetM X.w a M) from I.hok a _ ha).1
  rw [Vals.ref1 r]
  refine Calls.call_function_entry kind_sorted plain_sorted entry_sorted (args_sorted1 _) ?_
  unfold Builtin.«sorted»
  refine wpAny_bind (m := checkCount "sorted" 1 1 _) (wpAny_pure ?_)
  refine wpAny_bind (collect_set (A := X.A.in1) (I.ok.hd hc) ⟨o, ho, hex.1, hd⟩ hf hb hr hl fun s1 vs k1 hz g1 o1 pm => ?_)
  have tx : ∀ u ∈ vs, ∃ t, u = .str (sv u) t := fun u hu => by
    obtain ⟨e, he, eu⟩ := List.mem_map.mp (pm.mem_iff.mp hu)
    obtain ⟨x, t, e1, _⟩ := g e he
    refine ⟨t, ?_⟩
    rw [← eu, e1]
    rfl
  have svt : (es.toList.map (·.2)).map sv = es.toList.map txOf := by
    rw [List.map_map]
    refine List.map_congr_left fun e he => ?_
    obtain ⟨x, t, e1, _⟩ := g e he
    show sv e.2 = txOf e
    unfold txOf
    rw [e1]
    rfl
  have len : vs.length ≤ sizeLine := by
    rw [pm.length_eq, List.length_map, Array.length_toList, sizeLine_eq]
    omega
  refine wpAny_bind (wpAny_newList ?_ len)
  have hoL : (s1.heap.push (seqObj "list" vs.toArray 0)).get? s1.heap.objs.size = some (seqObj "list" vs.toArray 0) := Heap.get?_push_size _ rfl
  refine wpAny_bind (wpAny_holding (wpAny_call_entry slot_list_sort ⟨_, hoL, rfl⟩ entry_list_sort (SrtO.list_sort_ord (s := { s1 with heap := s1.heap.push (seqObj "list" vs.toArray 0) }) (swo_S sv) hoL len (fun h2 => txt_sortable h2 tx) fun out hs hb => ⟨_, rfl, ?_⟩) (args_list_sort _)))
  obtain ⟨c, hc'⟩ := sortedHeap_at (vs := vs) (out := out.toArray) hoL
  have po := hb.perm
  have e3 : ∀ u ∈ out, ∃ t, u = .str (sv u) t := fun u hu => tx u (po.mem_iff.mp hu)
  have pm2 : (out.map sv).Perm (es.toList.map txOf) := by
    rw [← svt]
    exact (po.trans pm).map sv
  have hn0 : H s1.heap.objs.size = none := I.hok.fresh hz
  have kk : ∀ b u, s.heap.get? b = some u → (sortedHeap (s1.heap.push (seqObj "list" vs.toArray 0)) s1.heap.objs.size vs out.toArray).get? b = some u := fun b u e => by
    have z := k1 b u e
    have lt := Heap.lt_size z
    rw [sortedHeap_old (Nat.ne_of_lt lt) (by rw [size_push']; exact Nat.lt_succ_of_lt lt)]
    exact Heap.get?_push_of_some _ z
  have blen : ((out.map sv).map V.str).length ≤ sizeLine := by
    rw [List.length_map, List.length_map, po.length_eq]
    exact len
  have back : Vals ((out.map sv).map V.str) out := by
    clear hs hb po pm2 kk blen hc'
    revert e3
    induction out with
    | nil => exact fun _ => .nil
    | cons u out ih =>
      intro e3
      refine .cons (e3 u List.mem_cons_self) (ih fun z hz => e3 z (List.mem_cons_of_mem _ hz))
  have J := I.call' (s' := { s1 with heap := sortedHeap (s1.heap.push (seqObj "list" vs.toArray 0)) s1.heap.objs.size vs out.toArray }) (ch := []) o1 (Un.laid kk hz hn0)
    (HOk.laid (o := .lst ((out.map sv).map V.str)) I.hok kk hz ⟨blen, out, c, back, by simpa using hc'⟩) (by rw [g1]; exact I.bare) (fun _ z => nomatch z)
  refine wpAny_pure ⟨_, rfl, .ref s1.heap.objs.size, _, J, rfl, q (out.map sv) s1.heap.objs.size (up_of totS (pm2.nodup_iff.mpr nd) (List.pairwise_map.mpr hs)) (fun k => ?_) hn0⟩
  rw [hm k, pm2.mem_iff]
end
end Sx

/-! SxIn -/
/-! x in o, o of an own class with __contains__; x in t of data; isinstance of data. -/
namespace Sx
open PySem PySem.Spec PyProof.Rows L2
def rInOwn (C : Addr) (sp : Sp) : R2 := fun x y H Q => ∃ a dx fs, y = .ref a ∧ H a = some (.ins C dx fs) ∧ sp [.ref a, x] H (fun v H2 => ∃ b, v = .bl b ∧ Q (.bl b) H2) E0
theorem op_inOwn {X : Cx} {C : Addr} {k : Nat} {ps : List Str} {sp : Sp} (G : MtG X.prog X.w X.K X.mg X.base C "__contains__" k ps sp) (hr : Room k X.A) : OpR X (compareOp .In) (rInOwn C sp) := by
  intro pins s σ H x y v u Q I rx ry h
  obtain ⟨a, dx, fs, rfl, ha, q⟩ := h
  obtain ⟨f, fd, M, F, b⟩ := G
  obtain rfl : u = Value.ref a := ry
  obtain ⟨mA, O, _, _, _, _⟩ := ins_get I.hok ha
  obtain ⟨od, inst, _⟩ := O.look
  obtain ⟨m, fr⟩ := I.fr
  refine PySem.W.in_K fr I.ok.mod.kin inst M.at_ M.fn (wpAny_mono (run_fn (vs := [.ref a, x]) (us := [.ref a, v]) F hr b .nil pass0 I (.cons rfl (.cons rx .nil)) q) (fun r s' hq => ?_) fun _ _ e => e)
  obtain ⟨z, H2, I2, rz, bb, rfl, q2⟩ := hq
  cases rz
  exact wpAny_truthy_bool ⟨.bl bb, H2, I2, rfl, q2⟩
/-- x in t, t a tuple of data -/
def rInD (K : PySem.W.Frag) : R2 := fun x y H Q => ∃ d ds, Dp K H x d ∧ Dp K H y (.tuple ds) ∧ SeqAt.shaped d = true ∧ SeqAt.shaped (.tuple ds) = true ∧ Q (.bl (ds.any fun z => PyData.eqv z d)) H
theorem op_inD {X : Cx} (hu : X.A.units + 65 < cLine) : OpR X (compareOp .In) (rInD X.K) := by
  intro pins s σ H x y v u Q I rx ry h
  obtain ⟨d, ds, hd, he, sd, se, q⟩ := h
  obtain ⟨as, r1⟩ := Dp.reads I d x v hd rx
  obtain ⟨bs, r2⟩ := Dp.reads I (.tuple ds) y u he ry
  exact SeqAt.in_tuple_reads r2 r1 (SeqAt.canLay_of_shaped se) (SeqAt.canLay_of_shaped sd) (room_in_shaped sd hu) ⟨.bl _, H, I, rfl, q⟩
end Sx

/-! VwA -/
/-! Values without a heap, and what a def makes of them: D, M, wp; how D lies in a heap (Rep); the state of a body (St). -/
namespace Vw
open PySem PySem.Spec PyProof.Rows L2

inductive D where
  | non | bl (b : Bool) | int (i : Int) | str (x : Str)
  | lst (xs : List D) | tup (xs : List D) | ntup (xs : List D)
  | dic (ks : List Key) (vs : List D)
  | obj (n : Nat) (ks : List Str) (vs : List D)
  | book (ks : List Str) (cs : List (Str × Str))
  | urn

inductive M (α : Type) where
  | ok (a : α)
  | bad
  | err (n : Nat) (xs : List D)
  | take (low : Nat) (k : Nat → M α)
namespace M
def bind {α β : Type} : M α → (α → M β) → M β
  | .ok a, f => f a
  | .bad, _ => .bad
  | .err n xs, _ => .err n xs
  | .take low k, f => .take low fun i => (k i).bind f
instance : Monad M where
  pure := M.ok
  bind := M.bind
end M
theorem ok_bind {α β : Type} (a : α) (f : α → M β) : (M.ok a >>= f) = f a := rfl
theorem bad_bind {α β : Type} (f : α → M β) : ((M.bad : M α) >>= f) = M.bad := rfl
theorem pure_ok {α : Type} (a : α) : (pure a : M α) = M.ok a := rfl
theorem take_bind {α β : Type} (low : Nat) (k : Nat → M α) (f : α → M β) : (M.take low k >>= f) = M.take low fun i => k i >>= f := rfl

def wp {α : Type} : M α → Nat → (Nat → α → Prop) → Prop
  | .ok a, b, Q => Q b a
  | .bad, _, _ => False
  | .err _ _, _, _ => False
  | .take low k, b, Q => 0 < low ∧ low < 1000000 ∧ ∃ b', b = b' + 1 ∧ ∀ i, i < low → wp (k i) b' Q
theorem wp_mono {α : Type} {Q R : Nat → α → Prop} : ∀ {m : M α} {b : Nat}, wp m b Q → (∀ b a, Q b a → R b a) → wp m b R
  | .ok _, _, h, f => f _ _ h
  | .take _ k, _, ⟨h1, h2, b', e, h⟩, f => ⟨h1, h2, b', e, fun i hi => wp_mono (h i hi) f⟩
theorem wp_bind {α β : Type} {Q : Nat → β → Prop} {f : α → M β} : ∀ {m : M α} {b : Nat}, wp (m >>= f) b Q ↔ wp m b fun b' a => wp (f a) b' Q
  | .ok _, _ => Iff.rfl
  | .bad, _ => Iff.rfl
  | .err _ _, _ => Iff.rfl
  | .take low k, b => by
    show wp (M.take low fun i => k i >>= f) b Q ↔ _
    constructor
    · rintro ⟨h1, h2, b', e, h⟩
      exact ⟨h1, h2, b', e, fun i hi => wp_bind.mp (h i hi)⟩
    · rintro ⟨h1, h2, b', e, h⟩
      exact ⟨h1, h2, b', e, fun i hi => wp_bind.mpr (h i hi)⟩

/-! ### how values lie in a heap -/
/-- a Book that is told: its own dict is marked, for it is never walked -/
def BkG (K : PySem.W.Frag) (C : Addr) (G : Hp) (p : Addr) (ks : List Str) (cs : List (Str × Str)) : Prop :=
  ∃ dx ak ac an ob kvs ts, G p = some (.ins C dx (Sx.bkF ak ac an)) ∧ SqT K G ak (ks.map V.str) ∧ SqT K G ac (ts.map V.ref) ∧ Sx.Prs K G ts cs ∧ G an = some (.frz ob (.dK kvs)) ∧
    (∀ k, k ∈ ks → ∃ t, valV kvs (.inr k) = some (.ref t) ∧ SqT K G t ((Sx.nearM cs k).map V.str)) ∧ (∀ k, k ∉ ks → valV kvs (.inr k) = none)
theorem BkG.same {K : PySem.W.Frag} {C : Addr} {H H' : Hp} {p : Addr} {ks : List Str} {cs : List (Str × Str)} (e : Same H H') (b : BkG K C H p ks cs) : BkG K C H' p ks cs := by
  obtain ⟨dx, ak, ac, an, ob, kvs, ts, h1, h2, h3, h4, h5, h6, h7⟩ := b
  refine ⟨dx, ak, ac, an, ob, kvs, ts, e _ _ h1, Sx.sqT_same e h2, Sx.sqT_same e h3, Sx.paired_imp (fun _ _ z => Sx.sqT_same e z) h4, e _ _ h5, fun k hk => ?_, h7⟩
  obtain ⟨t, a, b⟩ := h6 k hk
  exact ⟨t, a, Sx.sqT_same e b⟩

mutual
inductive Rep (K : PySem.W.Frag) (C : Nat → Addr) (U : Option Addr) (G : Hp) : V → D → Prop
  | non : Rep K C U G .non .non
  | bl (b : Bool) : Rep K C U G (.bl b) (.bl b)
  | int (i : Int) : Rep K C U G (.int i) (.int i)
  | str (x : Str) : Rep K C U G (.str x) (.str x)
  | urn {u : Addr} : U = some u → Rep K C U G (.ref u) .urn
  | lst {a : Addr} {vs : List V} {ds : List D} : G a = some (.lst vs) → Reps K C U G vs ds → Rep K C U G (.ref a) (.lst ds)
  | tup {a : Addr} {vs : List V} {ds : List D} : SqT K G a vs → Reps K C U G vs ds → Rep K C U G (.ref a) (.tup ds)
  | ntup {a : Addr} {ob : Obj} {vs : List V} {ds : List D} : G a = some (.frz ob (.tup vs)) → ob.cls = .type "tuple" → ob.dict = none → Reps K C U G vs ds → Rep K C U G (.ref a) (.ntup ds)
  | dic {a : Addr} {ks : List Key} {vs : List V} {ds : List D} : G a = some (.dK (ks.zip vs)) → ks.length = vs.length → Reps K C U G vs ds → Rep K C U G (.ref a) (.dic ks ds)
  | obj {a dx : Addr} {n : Nat} {ks : List Str} {vs : List V} {ds : List D} : G a = some (.ins (C n) dx (ks.zip vs)) → ks.length = vs.length → Reps K C U G vs ds → Rep K C U G (.ref a) (.obj n ks ds)
  | book {p : Addr} {ks : List Str} {cs : List (Str × Str)} : BkG K (C 0) G p ks cs → Rep K C U G (.ref p) (.book ks cs)
inductive Reps (K : PySem.W.Frag) (C : Nat → Addr) (U : Option Addr) (G : Hp) : List V → List D → Prop
  | nil : Reps K C U G [] []
  | cons {v : V} {d : D} {vs : List V} {ds : List D} : Rep K C U G v d → Reps K C U G vs ds → Reps K C U G (v :: vs) (d :: ds)
end
section
variable {K : PySem.W.Frag} {C : Nat → Addr} {U : Option Addr} {G G' H H' : Hp}
mutual
theorem Rep.mono (s : Same G G') : ∀ {v : V} {d : D}, Rep K C U G v d → Rep K C U G' v d
  | _, _, .non => .non
  | _, _, .bl b => .bl b
  | _, _, .int i => .int i
  | _, _, .str x => .str x
  | _, _, .urn e => .urn e
  | _, _, .lst h r => .lst (s _ _ h) (Reps.mono s r)
  | _, _, .tup h r => .tup (Sx.sqT_same s h) (Reps.mono s r)
  | _, _, .ntup h c d r => .ntup (s _ _ h) c d (Reps.mono s r)
  | _, _, .dic h l r => .dic (s _ _ h) l (Reps.mono s r)
  | _, _, .obj h l r => .obj (s _ _ h) l (Reps.mono s r)
  | _, _, .book h => .book (h.same s)
theorem Reps.mono (s : Same G G') : ∀ {vs : List V} {ds : List D}, Reps K C U G vs ds → Reps K C U G' vs ds
  | _, _, .nil => .nil
  | _, _, .cons h r => .cons (Rep.mono s h) (Reps.mono s r)
end
theorem Reps.length : ∀ {vs : List V} {ds : List D}, Reps K C U G vs ds → vs.length = ds.length
  | _, _, .nil => rfl
  | _, _, .cons _ r => congrArg (· + 1) r.length
theorem Reps.get : ∀ {vs : List V} {ds : List D} {i : Nat} {v : V}, Reps K C U G vs ds → vs[i]? = some v → ∃ d, ds[i]? = some d ∧ Rep K C U G v d
  | _, _, _, _, .nil, e => by simp at e
  | _, _, 0, _, .cons r _, e => by simp at e; subst e; exact ⟨_, rfl, r⟩
  | _, _, i + 1, _, .cons _ t, e => by simpa using Reps.get (i := i) t (by simpa using e)
theorem Reps.get' : ∀ {vs : List V} {ds : List D} {i : Nat} {d : D}, Reps K C U G vs ds → ds[i]? = some d → ∃ v, vs[i]? = some v ∧ Rep K C U G v d
  | _, _, _, _, .nil, e => by simp at e
  | _, _, 0, _, .cons r _, e => by simp at e; subst e; exact ⟨_, rfl, r⟩
  | _, _, i + 1, _, .cons _ t, e => by simpa using Reps.get' (i := i) t (by simpa using e)
theorem Reps.append : ∀ {vs ws : List V} {ds es : List D}, Reps K C U G vs ds → Reps K C U G ws es → Reps K C U G (vs ++ ws) (ds ++ es)
  | _, _, _, _, .nil, q => q
  | _, _, _, _, .cons h r, q => .cons h (Reps.append r q)
theorem Reps.snoc {vs : List V} {ds : List D} {v : V} {d : D} (r : Reps K C U G vs ds) (h : Rep K C U G v d) : Reps K C U G (vs ++ [v]) (ds ++ [d]) := r.append (.cons h .nil)
theorem Reps.take : ∀ {vs : List V} {ds : List D} (n : Nat), Reps K C U G vs ds → Reps K C U G (vs.take n) (ds.take n)
  | _, _, 0, _ => .nil
  | _, _, _ + 1, .nil => .nil
  | _, _, n + 1, .cons h r => .cons h (Reps.take n r)
theorem Reps.drop : ∀ {vs : List V} {ds : List D} (n : Nat), Reps K C U G vs ds → Reps K C U G (vs.drop n) (ds.drop n)
  | _, _, 0, r => r
  | _, _, _ + 1, .nil => .nil
  | _, _, n + 1, .cons _ r => Reps.drop n r
theorem Reps.set : ∀ {vs : List V} {ds : List D} {v : V} {d : D} (n : Nat), Reps K C U G vs ds → Rep K C U G v d → Reps K C U G (vs.set n v) (ds.set n d)
  | _, _, _, _, _, .nil, _ => .nil
  | _, _, _, _, 0, .cons _ r, q => .cons q r
  | _, _, _, _, n + 1, .cons h r, q => .cons h (Reps.set n r q)
/-- what G tells can be read in H -/
def Rd' (H : Hp) (a : Addr) : HO → Prop
  | .dK kvs => H a = some (.dK kvs) ∨ ∃ ob, H a = some (.frz ob (.dK kvs))
  | .frz _ (.dK kvs) => H a = some (.dK kvs)
  | o => H a = some o
theorem Rd'.same {H H' : Hp} {a : Addr} {o : HO} (h : Rd' H a o) (k : ∀ u, H a = some u → H' a = some u) : Rd' H' a o := by
  unfold Rd' at h ⊢
  split at h
  · exact h.imp (k _) fun ⟨ob, q⟩ => ⟨ob, k _ q⟩
  · exact k _ h
  · exact k _ h
theorem Rd'.ex {H : Hp} {a : Addr} {o : HO} (h : Rd' H a o) : ∃ u, H a = some u := by
  unfold Rd' at h
  split at h
  · exact h.elim (fun q => ⟨_, q⟩) fun ⟨ob, q⟩ => ⟨_, q⟩
  · exact ⟨_, h⟩
  · exact ⟨_, h⟩
/-- a list, a tuple, a dict -/
def plainO : HO → Prop
  | .lst _ => True
  | .tup _ => True
  | .dK _ => True
  | _ => False
theorem Rd'.of {H : Hp} {a : Addr} {o : HO} (h : H a = some o) (p : plainO o) : Rd' H a o := by
  cases o with
  | lst xs => exact h
  | tup xs => exact h
  | dK kvs => exact .inl h
  | _ => exact p.elim
/-- what may be told -/
def okO : HO → Prop
  | .lst _ => True
  | .tup _ => True
  | .dK _ => True
  | .frz _ (.tup _) => True
  | .frz _ (.dK _) => True
  | .ins _ _ _ => True
  | _ => False
theorem plain_ok {o : HO} (p : plainO o) : okO o := by
  cases o with
  | lst xs => exact trivial
  | tup xs => exact trivial
  | dK kvs => exact trivial
  | _ => exact p.elim
structure Sub (G H : Hp) : Prop where
  to : ∀ a o, G a = some o → Rd' H a o
  sm : ∀ a o, G a = some o → okO o
theorem Sub.lst {a : Addr} {vs : List V} (s : Sub G H) (h : G a = some (.lst vs)) : H a = some (.lst vs) := s.to _ _ h
theorem Sub.tup {a : Addr} {vs : List V} (s : Sub G H) (h : G a = some (.tup vs)) : H a = some (.tup vs) := s.to _ _ h
theorem Sub.ins {a c dx : Addr} {fs : List (Str × V)} (s : Sub G H) (h : G a = some (.ins c dx fs)) : H a = some (.ins c dx fs) := s.to _ _ h
theorem Sub.dic {a : Addr} {kvs : List (Key × V)} (s : Sub G H) (h : G a = some (.dK kvs)) : H a = some (.dK kvs) ∨ ∃ ob, H a = some (.frz ob (.dK kvs)) := s.to _ _ h
theorem Sub.sqT {K : PySem.W.Frag} {a : Addr} {vs : List V} (s : Sub G H) (h : SqT K G a vs) : SqT K H a vs := by
  rcases h with (h | ⟨ob, h⟩) | h
  · exact .inl (.inl (s.tup h))
  · exact .inl (.inr ⟨ob, s.to _ _ h⟩)
  · exact .inr h
theorem Sub.ne {a : Addr} (s : Sub G H) (h : H a = none) : G a = none := by
  cases e : G a with
  | none => rfl
  | some o =>
    obtain ⟨u, q⟩ := (s.to a o e).ex
    rw [h] at q; cases q
theorem sq_l {a : Addr} {vs : List V} (s : Sub G H) (h : G a = some (.lst vs)) : SqL K H a vs := .inl (.inl (s.lst h))
theorem sq_t {a : Addr} {vs : List V} (s : Sub G H) (h : SqT K G a vs) : SqT K H a vs := s.sqT h
/-- the urn that draws are taken of: b draws are left -/
def UrnSt (U : Option Addr) (H : Hp) (b : Nat) : Prop := ∀ u, U = some u → ∃ x y z : Int, H u = some (.lst [.int x, .int y, .int z]) ∧ -(2 ^ 62) < y ∧ y < 2 ^ 62 ∧ 0 ≤ z ∧ z + b ≤ 2 ^ 40

/-- from (G, H) to (G', H'): all but the urn as it was, G only more, and no object of before more in it -/
structure Ext (U : Option Addr) (G H G' H' : Hp) : Prop where
  keep : ∀ a o, H a = some o → U ≠ some a → H' a = some o
  live : ∀ a, H a ≠ none → H' a ≠ none
  grow : Same G G'
  sub : Sub G' H'
  hid : ∀ a, G a = none → H a ≠ none → G' a = none
theorem Ext.refl (s : Sub G H) : Ext U G H G H := ⟨fun _ _ h _ => h, fun _ h => h, fun _ _ h => h, s, fun _ h _ => h⟩
theorem Ext.trans {G1 H1 G2 H2 : Hp} (e : Ext U G H G1 H1) (f : Ext U G1 H1 G2 H2) : Ext U G H G2 H2 :=
  ⟨fun a o h n => f.keep a o (e.keep a o h n) n, fun a h => f.live a (e.live a h), fun a o h => f.grow a o (e.grow a o h), f.sub, fun a g h => f.hid a (e.hid a g h) (e.live a h)⟩
theorem Ext.out {a : Addr} (e : Ext U G H G' H') (g : G a = none) (h : H a ≠ none) : G' a = none := e.hid a g h
/-- H' tells more, and G as before -/
theorem Ext.of (s : Sub G H) (k : Same H H') : Ext U G H G H' := by
  refine ⟨fun a o h _ => k a o h, fun a h => ?_, fun _ _ h => h, ⟨fun a o h => ?_, s.sm⟩, fun _ h _ => h⟩
  · cases e : H a with
    | none => exact absurd e h
    | some o => rw [k a o e]; simp
  · exact (s.to a o h).same (k a)
/-- a new object is told -/
theorem Ext.new {p : Addr} {o : HO} (e : Ext U G H G' H') (hp : H p = none) (h : H' p = some o) (g : G' p = none) (pl : plainO o) : Ext U G H (upd G' p o) H' := by
  refine ⟨e.keep, e.live, fun a u q => ?_, ⟨fun a u q => ?_, fun a u q => ?_⟩, fun a q r => ?_⟩
  · have q' := e.grow a u q
    by_cases z : a = p
    · rw [z] at q'; rw [q'] at g; cases g
    · rw [upd_ne z]; exact q'
  · by_cases z : a = p
    · subst z; rw [upd_same] at q; cases q; exact .of h pl
    · rw [upd_ne z] at q; exact e.sub.to a u q
  · by_cases z : a = p
    · subst z; rw [upd_same] at q; cases q; exact plain_ok pl
    · rw [upd_ne z] at q; exact e.sub.sm a u q
  · have z : a ≠ p := fun z => r (by rw [z]; exact hp)
    rw [upd_ne z]
    exact e.hid a q r
theorem same_new {p : Addr} {o : HO} (g : G p = none) : Same G (upd G p o) := fun a u q => by
  have z : a ≠ p := fun z => by rw [z, g] at q; cases q
  rw [upd_ne z]; exact q
theorem UrnSt.same {b : Nat} (u : UrnSt U H b) (k : Same H H') : UrnSt U H' b := fun x e => by
  obtain ⟨p, q, r, h, t⟩ := u x e
  exact ⟨p, q, r, k _ _ h, t⟩
theorem UrnSt.ne {b : Nat} {p : Addr} (u : UrnSt U H b) (h : H p = none) : U ≠ some p := fun e => by
  obtain ⟨_, _, _, q, _⟩ := u p e
  rw [h] at q; cases q

/-! ### what is fresh -/
def HRep (K : PySem.W.Frag) (C : Nat → Addr) (U : Option Addr) (G : Hp) : HO → D → Prop
  | .lst vs, .lst ds => Reps K C U G vs ds
  | .dK kvs, .dic ks ds => kvs.map (·.1) = ks ∧ Reps K C U G (kvs.map (·.2)) ds
  | _, _ => False
theorem HRep.plain {o : HO} {d : D} (h : HRep K C U G o d) : plainO o := by
  unfold HRep at h
  split at h <;> first | exact trivial | exact h.elim
theorem HRep.mono (s : Same G G') : ∀ {o : HO} {d : D}, HRep K C U G o d → HRep K C U G' o d := fun {o d} h => by
  unfold HRep at h ⊢
  split at h
  · exact Reps.mono s h
  · exact ⟨h.1, Reps.mono s h.2⟩
  · exact h.elim
theorem zip_parts {α β : Type} : ∀ l : List (α × β), (l.map (·.1)).zip (l.map (·.2)) = l
  | [] => rfl
  | x :: l => by simp [zip_parts l]
theorem HRep.rep {p : Addr} {o : HO} {d : D} (h : HRep K C U G o d) (g : G p = none) : Rep K C U (upd G p o) (.ref p) d := by
  have s : Same G (upd G p o) := same_new g
  unfold HRep at h
  split at h
  · exact .lst upd_same (Reps.mono s h)
  · obtain ⟨rfl, h⟩ := h
    refine .dic (by rw [zip_parts]; exact upd_same) (by simp) (Reps.mono s h)
  · exact h.elim

/-- what may be looked at: a value, or an own object that is not told -/
def Pk (K : PySem.W.Frag) (C : Nat → Addr) (U : Option Addr) (G H : Hp) (v : V) (d : D) : Prop := Rep K C U G v d ∨ ∃ p o, v = .ref p ∧ H p = some o ∧ HRep K C U G o d ∧ U ≠ some p
theorem Rep.pk {v : V} {d : D} (r : Rep K C U G v d) : Pk K C U G H v d := .inl r
theorem Pk.to {v : V} {d : D} (r : Pk K C U G H v d) (e : Ext U G H G' H') : Pk K C U G' H' v d := by
  rcases r with r | ⟨p, o, rfl, h, q, n⟩
  · exact .inl (r.mono e.grow)
  · exact .inr ⟨p, o, rfl, e.keep _ _ h n, q.mono e.grow, n⟩
theorem Pk.int {v : V} {i : Int} (r : Pk K C U G H v (.int i)) : v = .int i := by
  rcases r with r | ⟨p, o, rfl, h, q, n⟩
  · cases r; rfl
  · cases o <;> exact q.elim
theorem Pk.bl {v : V} {i : Bool} (r : Pk K C U G H v (.bl i)) : v = .bl i := by
  rcases r with r | ⟨p, o, rfl, h, q, n⟩
  · cases r; rfl
  · cases o <;> exact q.elim
theorem Pk.str {v : V} {i : Str} (r : Pk K C U G H v (.str i)) : v = .str i := by
  rcases r with r | ⟨p, o, rfl, h, q, n⟩
  · cases r; rfl
  · cases o <;> exact q.elim
theorem Pk.non {v : V} (r : Pk K C U G H v .non) : v = .non := by
  rcases r with r | ⟨p, o, rfl, h, q, n⟩
  · cases r; rfl
  · cases o <;> exact q.elim
theorem Pk.lst {v : V} {ds : List D} (s : Sub G H) (r : Pk K C U G H v (.lst ds)) : ∃ a vs, v = .ref a ∧ H a = some (.lst vs) ∧ Reps K C U G vs ds := by
  rcases r with r | ⟨p, o, rfl, h, q, n⟩
  · cases r with
    | lst h r => exact ⟨_, _, rfl, s.lst h, r⟩
  · cases o with
    | lst vs => exact ⟨p, vs, rfl, h, q⟩
    | _ => exact q.elim
theorem Pk.tup {v : V} {ds : List D} (s : Sub G H) (r : Pk K C U G H v (.tup ds)) : ∃ a vs, v = .ref a ∧ SqT K H a vs ∧ Reps K C U G vs ds ∧ Rep K C U G v (.tup ds) := by
  rcases r with r | ⟨p, o, rfl, h, q, n⟩
  · have r0 := r
    cases r with
    | tup h r => exact ⟨_, _, rfl, sq_t s h, r, r0⟩
  · cases o <;> exact q.elim
theorem Pk.dic {v : V} {ks : List Key} {ds : List D} (s : Sub G H) (r : Pk K C U G H v (.dic ks ds)) : ∃ a vs, v = .ref a ∧ Rd H a (.dK (ks.zip vs)) ∧ ks.length = vs.length ∧ Reps K C U G vs ds := by
  rcases r with r | ⟨p, o, rfl, h, q, n⟩
  · cases r with
    | dic h l r => exact ⟨_, _, rfl, s.dic h, l, r⟩
  · cases o with
    | dK kvs =>
      obtain ⟨rfl, q⟩ := q
      exact ⟨p, kvs.map (·.2), rfl, .inl (by rw [zip_parts]; exact h), by simp, q⟩
    | _ => exact q.elim

/-! ### a body's state -/
inductive Sl where
  | un | fr (d : D) | ow (d : D)
abbrev En := List Sl
inductive SltR (K : PySem.W.Frag) (C : Nat → Addr) (U : Option Addr) (H0 G H : Hp) : Sl → Option V → Prop
  | un : SltR K C U H0 G H .un none
  | fr {d : D} {v : V} : Rep K C U G v d → SltR K C U H0 G H (.fr d) (some v)
  | ow {d : D} {p : Addr} {o : HO} : H p = some o → G p = none → HRep K C U G o d → H0 p = none → U ≠ some p → SltR K C U H0 G H (.ow d) (some (.ref p))
structure St (K : PySem.W.Frag) (C : Nat → Addr) (U : Option Addr) (G0 H0 : Hp) (env : En) (σ : L2.St) (G H : Hp) : Prop where
  ext : Ext U G0 H0 G H
  sl : Paired (SltR K C U H0 G H) env σ
  ap : ∀ (i j : Nat) (d d' : D) (p : Addr), env[i]? = some (.ow d) → σ[i]? = some (some (.ref p)) → env[j]? = some (.ow d') → σ[j]? = some (some (.ref p)) → i = j
  gu : ∀ u, U = some u → G0 u = none ∧ H0 u ≠ none
theorem paired_at {α β : Type} {F : α → β → Prop} : ∀ {xs : List α} {ys : List β} {i : Nat} {x : α}, Paired F xs ys → xs[i]? = some x → ∃ y, ys[i]? = some y ∧ F x y
  | _, _, _, _, .nil, e => by simp at e
  | _, _, 0, _, .cons r _, e => by simp at e; subst e; exact ⟨_, rfl, r⟩
  | _, _, i + 1, _, .cons _ t, e => by simpa using paired_at (i := i) t (by simpa using e)
theorem paired_set {α β : Type} {F : α → β → Prop} {x : α} {y : β} (r : F x y) : ∀ {xs : List α} {ys : List β} (i : Nat), Paired F xs ys → Paired F (xs.set i x) (ys.set i y)
  | _, _, _, .nil => .nil
  | _, _, 0, .cons _ t => .cons r t
  | _, _, i + 1, .cons q t => .cons q (paired_set r i t)
theorem paired_mono {α β : Type} {F F' : α → β → Prop} (f : ∀ a b, F a b → F' a b) : ∀ {xs : List α} {ys : List β}, Paired F xs ys → Paired F' xs ys
  | _, _, .nil => .nil
  | _, _, .cons q t => .cons (f _ _ q) (paired_mono f t)
theorem St.hidU {G0 H0 : Hp} {env : En} {σ : L2.St} (S : St K C U G0 H0 env σ G H) : ∀ u, U = some u → G u = none := fun u e => S.ext.hid u (S.gu u e).1 (S.gu u e).2
theorem SltR.ext {H0 : Hp} (e : Ext U G H G' H') {s : Sl} {v : Option V} (h : SltR K C U H0 G H s v) : SltR K C U H0 G' H' s v := by
  cases h with
  | un => exact .un
  | fr r => exact .fr (r.mono e.grow)
  | ow h g r n u => exact .ow (e.keep _ _ h u) (e.hid _ g (by rw [h]; simp)) (r.mono e.grow) n u
theorem St.to {G0 H0 : Hp} {env : En} {σ : L2.St} (S : St K C U G0 H0 env σ G H) (e : Ext U G H G' H') : St K C U G0 H0 env σ G' H' :=
  ⟨S.ext.trans e, paired_mono (fun _ _ h => h.ext e) S.sl, S.ap, S.gu⟩
theorem St.sub {G0 H0 : Hp} {env : En} {σ : L2.St} (S : St K C U G0 H0 env σ G H) : Sub G H := S.ext.sub
/-- a slot gets a value -/
theorem St.set {G0 H0 : Hp} {env : En} {σ : L2.St} {v : V} {d : D} (S : St K C U G0 H0 env σ G H) (i : Nat) (r : Rep K C U G v d) : St K C U G0 H0 (env.set i (.fr d)) (σ.set i (some v)) G H := by
  refine ⟨S.ext, paired_set (.fr r) i S.sl, fun j k d1 d2 p h1 h2 h3 h4 => ?_, S.gu⟩
  have nj : j ≠ i := fun z => by
    subst z
    rw [List.getElem?_set] at h1
    simp at h1
  have nk : k ≠ i := fun z => by
    subst z
    rw [List.getElem?_set] at h3
    simp at h3
  rw [List.getElem?_set_ne (Ne.symm nj)] at h1 h2
  rw [List.getElem?_set_ne (Ne.symm nk)] at h3 h4
  exact S.ap j k d1 d2 p h1 h2 h3 h4
theorem St.wipe1 {G0 H0 : Hp} {env : En} {σ : L2.St} (S : St K C U G0 H0 env σ G H) (i : Nat) : St K C U G0 H0 (env.set i .un) (σ.set i none) G H := by
  refine ⟨S.ext, paired_set .un i S.sl, fun j k d1 d2 p h1 h2 h3 h4 => ?_, S.gu⟩
  have nj : j ≠ i := fun z => by
    subst z
    rw [List.getElem?_set] at h1
    simp at h1
  have nk : k ≠ i := fun z => by
    subst z
    rw [List.getElem?_set] at h3
    simp at h3
  rw [List.getElem?_set_ne (Ne.symm nj)] at h1 h2
  rw [List.getElem?_set_ne (Ne.symm nk)] at h3 h4
  exact S.ap j k d1 d2 p h1 h2 h3 h4
def wipeE (env : En) : List Nat → En
  | [] => env
  | v :: vs => (wipeE env vs).set v .un
theorem St.wipe {G0 H0 : Hp} {env : En} {σ : L2.St} (S : St K C U G0 H0 env σ G H) : ∀ vs : List Nat, St K C U G0 H0 (wipeE env vs) (wipe σ vs) G H
  | [] => S
  | v :: vs => (S.wipe vs).wipe1 v
/-- an own object that is new -/
theorem St.own {G0 H0 : Hp} {env : En} {σ : L2.St} {p : Addr} {o : HO} {d : D} (S : St K C U G0 H0 env σ G H) (i : Nat) (h : H p = some o) (g : G p = none) (r : HRep K C U G o d) (n : H0 p = none) (u : U ≠ some p)
    (apart : ∀ (j : Nat) (d' : D), j ≠ i → env[j]? = some (.ow d') → σ[j]? ≠ some (some (.ref p))) : St K C U G0 H0 (env.set i (.ow d)) (σ.set i (some (.ref p))) G H := by
  refine ⟨S.ext, paired_set (.ow h g r n u) i S.sl, fun j k d1 d2 q h1 h2 h3 h4 => ?_, S.gu⟩
  by_cases nj : j = i
  · by_cases nk : k = i
    · rw [nj, nk]
    · subst nj
      rw [List.getElem?_set_ne (Ne.symm nk)] at h3 h4
      have e : q = p := by
        rw [List.getElem?_set] at h2
        by_cases z : j < σ.length
        · simp [z] at h2; exact h2.symm
        · simp [z] at h2
      subst e
      exact absurd h4 (apart k d2 nk h3)
  · rw [List.getElem?_set_ne (Ne.symm nj)] at h1 h2
    by_cases nk : k = i
    · subst nk
      have e : q = p := by
        rw [List.getElem?_set] at h4
        by_cases z : k < σ.length
        · simp [z] at h4; exact h4.symm
        · simp [z] at h4
      subst e
      exact absurd h2 (apart j d1 nj h1)
    · rw [List.getElem?_set_ne (Ne.symm nk)] at h3 h4
      exact S.ap j k d1 d2 q h1 h2 h3 h4
/-- the own object of a slot -/
theorem St.owned {G0 H0 : Hp} {env : En} {σ : L2.St} {i : Nat} {d : D} (S : St K C U G0 H0 env σ G H) (e : env[i]? = some (.ow d)) : ∃ p o, σ[i]? = some (some (.ref p)) ∧ H p = some o ∧ G p = none ∧ HRep K C U G o d ∧ H0 p = none ∧ U ≠ some p := by
  obtain ⟨v, hv, r⟩ := paired_at S.sl e
  cases r with
  | ow h g r n u => exact ⟨_, _, hv, h, g, r, n, u⟩
theorem St.value {G0 H0 : Hp} {env : En} {σ : L2.St} {i : Nat} {d : D} (S : St K C U G0 H0 env σ G H) (e : env[i]? = some (.fr d)) : ∃ v, σ[i]? = some (some v) ∧ Rep K C U G v d := by
  obtain ⟨v, hv, r⟩ := paired_at S.sl e
  cases r with
  | fr r => exact ⟨_, hv, r⟩
/-- an own object is changed -/
theorem St.write {G0 H0 : Hp} {env : En} {σ : L2.St} {i : Nat} {d d' : D} {p : Addr} {o : HO} (S : St K C U G0 H0 env σ G H) (e : env[i]? = some (.ow d)) (hp : σ[i]? = some (some (.ref p))) (r : HRep K C U G o d') : St K C U G0 H0 (env.set i (.ow d')) σ G (upd H p o) := by
  obtain ⟨p', o', hp', h, g, _, n, u⟩ := S.owned e
  rw [hp] at hp'
  cases hp'
  have x : Ext U G0 H0 G (upd H p o) := by
    refine ⟨fun a w q z => ?_, fun a q => ?_, S.ext.grow, ⟨fun a w q => ?_, S.ext.sub.sm⟩, S.ext.hid⟩
    · have ne : a ≠ p := fun y => by rw [y, n] at q; cases q
      rw [upd_ne ne]
      exact S.ext.keep a w q z
    · by_cases y : a = p
      · rw [y, upd_same]; simp
      · rw [upd_ne y]; exact S.ext.live a q
    · have ne : a ≠ p := fun y => by rw [y, g] at q; cases q
      exact (S.ext.sub.to a w q).same fun u y => by rw [upd_ne ne]; exact y
  have step : ∀ {l : En} {τ : L2.St} {k : Nat}, Paired (SltR K C U H0 G H) l τ → (∀ (j : Nat) (d1 : D), j + k ≠ i → l[j]? = some (.ow d1) → τ[j]? ≠ some (some (.ref p))) →
      (∀ j, j + k = i → τ[j]? = some (some (.ref p))) → Paired (SltR K C U H0 G (upd H p o)) (if i < k then l else l.set (i - k) (.ow d')) τ := by
    intro l τ k hl
    induction hl generalizing k with
    | nil => intro _ _; simp; exact .nil
    | cons q t ih =>
      intro a1 a2
      rename_i s v l τ
      by_cases z : i < k
      · rw [if_pos z]
        have w := ih (k := k + 1) (fun j d1 h1 h2 => by have := a1 (j + 1) d1 (by omega) (by simpa using h2); simpa using this) (fun j h1 => by omega)
        rw [if_pos (by omega)] at w
        refine .cons ?_ w
        cases q with
        | un => exact .un
        | fr r => exact .fr r
        | ow h' g' r' n' u' =>
          rename_i d1 p1 o1
          have ne : p1 ≠ p := fun y => a1 0 _ (by omega) rfl (by subst y; rfl)
          exact .ow (by rw [upd_ne ne]; exact h') g' r' n' u'
      · rw [if_neg z]
        by_cases z2 : i = k
        · subst z2
          have w := ih (k := i + 1) (fun j d1 h1 h2 => by have := a1 (j + 1) d1 (by omega) (by simpa using h2); simpa using this) (fun j h1 => by omega)
          rw [if_pos (by omega)] at w
          have hv := a2 0 (by omega)
          have hv' : v = some (V.ref p) := by simpa using hv
          subst hv'
          rw [Nat.sub_self]
          exact .cons (.ow upd_same g r n u) w
        · have w := ih (k := k + 1) (fun j d1 h1 h2 => by have := a1 (j + 1) d1 (by omega) (by simpa using h2); simpa using this) (fun j h1 => by have := a2 (j + 1) (by omega); simpa using this)
          rw [if_neg (by omega)] at w
          obtain ⟨m, rfl⟩ : ∃ m, i = k + (m + 1) := ⟨i - k - 1, by omega⟩
          rw [show k + (m + 1) - k = m + 1 by omega]
          rw [show k + (m + 1) - (k + 1) = m by omega] at w
          refine .cons ?_ w
          cases q with
          | un => exact .un
          | fr r => exact .fr r
          | ow h' g' r' n' u' =>
            rename_i d1 p1 o1
            have ne : p1 ≠ p := fun y => a1 0 _ (by omega) rfl (by subst y; rfl)
            exact .ow (by rw [upd_ne ne]; exact h') g' r' n' u'
  have w := step (k := 0) S.sl (fun j d1 h1 h2 h3 => h1 (by have := S.ap j i d1 d p h2 h3 e hp; omega)) (fun j h1 => by rw [show j = i by omega]; exact hp)
  rw [if_neg (Nat.not_lt_zero _), Nat.sub_zero] at w
  refine ⟨x, w, fun j k d1 d2 q h1 h2 h3 h4 => ?_, S.gu⟩
  have back : ∀ (j : Nat) (d1 : D), (env.set i (.ow d'))[j]? = some (.ow d1) → ∃ d2, env[j]? = some (.ow d2) := fun j d1 h => by
    by_cases y : j = i
    · subst y; exact ⟨d, e⟩
    · rw [List.getElem?_set_ne (Ne.symm y)] at h; exact ⟨d1, h⟩
  obtain ⟨e1, g1⟩ := back j d1 h1
  obtain ⟨e2, g2⟩ := back k d2 h3
  exact S.ap j k e1 e2 q g1 h2 g2 h4
/-- an own object is told -/
theorem St.freeze {G0 H0 : Hp} {env : En} {σ : L2.St} {i : Nat} {d : D} (S : St K C U G0 H0 env σ G H) (e : env[i]? = some (.ow d)) : ∃ G', Same G G' ∧ Ext U G H G H ∧ St K C U G0 H0 (env.set i (.fr d)) σ G' H ∧ (∀ a, G a = none → σ[i]? ≠ some (some (.ref a)) → G' a = none) := by
  obtain ⟨p, o, hp, h, g, r, n, u⟩ := S.owned e
  have sm : Same G (upd G p o) := same_new g
  refine ⟨upd G p o, sm, Ext.refl S.sub, ⟨S.ext.new n h g r.plain, ?_, ?_, S.gu⟩, fun a q w => ?_⟩
  · have q : SltR K C U H0 (upd G p o) H (.fr d) (some (.ref p)) := .fr (r.rep g)
    have step : ∀ {l : En} {τ : L2.St} {k : Nat}, Paired (SltR K C U H0 G H) l τ → (∀ (j : Nat) (d1 : D), j + k ≠ i → l[j]? = some (.ow d1) → τ[j]? ≠ some (some (.ref p))) →
        (∀ j, j + k = i → τ[j]? = some (some (.ref p))) → Paired (SltR K C U H0 (upd G p o) H) (if i < k then l else l.set (i - k) (.fr d)) τ := by
      intro l τ k hl
      have one : ∀ {s : Sl} {v : Option V}, SltR K C U H0 G H s v → (∀ d1, s = .ow d1 → v ≠ some (.ref p)) → SltR K C U H0 (upd G p o) H s v := fun {s v} z w => by
        cases z with
        | un => exact .un
        | fr r => exact .fr (r.mono sm)
        | ow h' g' r' n' u' =>
          rename_i d1 p1 o1
          have ne : p1 ≠ p := fun y => w _ rfl (by rw [y])
          exact .ow h' (by rw [upd_ne ne]; exact g') (r'.mono sm) n' u'
      induction hl generalizing k with
      | nil => intro _ _; simp; exact .nil
      | cons z t ih =>
        intro a1 a2
        rename_i s v l τ
        by_cases z1 : i < k
        · rw [if_pos z1]
          have w := ih (k := k + 1) (fun j d1 h1 h2 => by have := a1 (j + 1) d1 (by omega) (by simpa using h2); simpa using this) (fun j h1 => by omega)
          rw [if_pos (by omega)] at w
          exact .cons (one z fun d1 e1 e2 => a1 0 d1 (by omega) (by rw [e1]; rfl) (by rw [e2]; rfl)) w
        · rw [if_neg z1]
          by_cases z2 : i = k
          · subst z2
            have w := ih (k := i + 1) (fun j d1 h1 h2 => by have := a1 (j + 1) d1 (by omega) (by simpa using h2); simpa using this) (fun j h1 => by omega)
            rw [if_pos (by omega)] at w
            have hv := a2 0 (by omega)
            have hv' : v = some (V.ref p) := by simpa using hv
            subst hv'
            rw [Nat.sub_self]
            exact .cons q w
          · have w := ih (k := k + 1) (fun j d1 h1 h2 => by have := a1 (j + 1) d1 (by omega) (by simpa using h2); simpa using this) (fun j h1 => by have := a2 (j + 1) (by omega); simpa using this)
            rw [if_neg (by omega)] at w
            obtain ⟨m, rfl⟩ : ∃ m, i = k + (m + 1) := ⟨i - k - 1, by omega⟩
            rw [show k + (m + 1) - k = m + 1 by omega]
            rw [show k + (m + 1) - (k + 1) = m by omega] at w
            exact .cons (one z fun d1 e1 e2 => a1 0 d1 (by omega) (by rw [e1]; rfl) (by rw [e2]; rfl)) w
    have w := step (k := 0) S.sl (fun j d1 h1 h2 h3 => h1 (by have := S.ap j i d1 d p h2 h3 e hp; omega)) (fun j h1 => by rw [show j = i by omega]; exact hp)
    rw [if_neg (Nat.not_lt_zero _), Nat.sub_zero] at w
    exact w
  · intro j k d1 d2 q h1 h2 h3 h4
    have nj : j ≠ i := fun z => by subst z; rw [List.getElem?_set] at h1; simp at h1
    have nk : k ≠ i := fun z => by subst z; rw [List.getElem?_set] at h3; simp at h3
    rw [List.getElem?_set_ne (Ne.symm nj)] at h1
    rw [List.getElem?_set_ne (Ne.symm nk)] at h3
    exact S.ap j k d1 d2 q h1 h2 h3 h4
  · have ne : a ≠ p := fun y => w (by rw [y]; exact hp)
    rw [upd_ne ne]; exact q
end
end Vw

/-! VwB -/
/-! Readings by value: expressions, arguments, tests, statements, targets, walks. -/
namespace Vw
open PySem PySem.Spec PyProof.Rows L2

theorem PE.of {X : Cx} {e : Expr} {t t' : TE} (h : PE X e t) (i : ∀ σ H Q, t' σ H Q → t σ H Q) : PE X e t' := ⟨fun pins s σ H Q I w => h.run pins s σ H Q I (i _ _ _ w)⟩
theorem PT.of {X : Cx} {e : Expr} {t t' : TT} (h : PT X e t) (i : ∀ σ H Q, t' σ H Q → t σ H Q) : PT X e t' := ⟨fun pins s σ H Q I w => h.run pins s σ H Q I (i _ _ _ w)⟩
theorem PW.of {X : Cx} {e : Expr} {t t' : TT} (h : PW X e t) (i : ∀ σ H Q, t' σ H Q → t σ H Q) : PW X e t' := ⟨fun wh pins s σ H Q I w => h.run wh pins s σ H Q I (i _ _ _ w)⟩
theorem PA.of {X : Cx} {e : List Expr} {t t' : TA} (h : PA X e t) (i : ∀ σ H Q, t' σ H Q → t σ H Q) : PA X e t' := ⟨fun pos pins s σ H Q I w => h.run pos pins s σ H Q I (i _ _ _ w)⟩
theorem PS.of {X : Cx} {e : Stmt} {t t' : TS} (h : PS X e t) (i : ∀ D σ H, t' D σ H → t D σ H) : PS X e t' := ⟨fun pins s σ H D I w => h.run pins s σ H D I (i _ _ _ w)⟩
theorem PSs.of {X : Cx} {e : List Stmt} {t t' : TS} (h : PSs X e t) (i : ∀ D σ H, t' D σ H → t D σ H) : PSs X e t' := ⟨fun pins s σ H D I w => h.run pins s σ H D I (i _ _ _ w)⟩
theorem PG.of {X : Cx} {e : Expr} {t t' : TG} (h : PG X e t) (i : ∀ v σ H Q, t' v σ H Q → t v σ H Q) : PG X e t' := ⟨fun pins s σ H v u Q I r w => h.run pins s σ H v u Q I r (i _ _ _ _ w)⟩
theorem PGs.of {X : Cx} {e : List Expr} {t t' : TGs} (h : PGs X e t) (i : ∀ v σ H Q, t' v σ H Q → t v σ H Q) : PGs X e t' := ⟨fun pins s σ H v u Q I r w => h.run pins s σ H v u Q I r (i _ _ _ _ w)⟩
theorem PI.of {X : Cx} {tg e : Expr} {t t' : TI} (h : PI X tg e t) (i : ∀ σ H Q, t' σ H Q → t σ H Q) : PI X tg e t' := ⟨fun pins s σ H Q I w => h.run pins s σ H Q I (i _ _ _ w)⟩

/-- what a value's reading wants behind it -/
abbrev PV (K : PySem.W.Frag) (C : Nat → Addr) (U : Option Addr) (G H : Hp) (Q : VK) : Nat → D → Prop := fun b d => ∀ v G' H', Ext U G H G' H' → UrnSt U H' b → Rep K C U G' v d → Q v H'
abbrev PP (K : PySem.W.Frag) (C : Nat → Addr) (U : Option Addr) (G H : Hp) (Q : VK) : Nat → D → Prop := fun b d => ∀ v G' H', Ext U G H G' H' → UrnSt U H' b → Pk K C U G' H' v d → Q v H'
abbrev PPs (K : PySem.W.Frag) (C : Nat → Addr) (U : Option Addr) (G H : Hp) (Q : List V → Hp → Prop) : Nat → List D → Prop := fun b ds => ∀ vs G' H', Ext U G H G' H' → UrnSt U H' b → Paired (Pk K C U G' H') vs ds → Q vs H'
abbrev PF (K : PySem.W.Frag) (C : Nat → Addr) (U : Option Addr) (G H : Hp) (Q : VK) : Nat → D → Prop := fun b d => ∀ p o G' H', Ext U G H G' H' → UrnSt U H' b → H p = none → G' p = none → H' p = some o → HRep K C U G' o d → Q (.ref p) H'
abbrev PAs (K : PySem.W.Frag) (C : Nat → Addr) (U : Option Addr) (G H : Hp) (Q : List V → Hp → Prop) : Nat → List D → Prop := fun b ds => ∀ vs G' H', Ext U G H G' H' → UrnSt U H' b → Reps K C U G' vs ds → Q vs H'
abbrev PB (U : Option Addr) (G H : Hp) (Q : Bool → Hp → Prop) : Nat → Bool → Prop := fun b c => ∀ G' H', Ext U G H G' H' → UrnSt U H' b → Q c H'
/-- where one stands -/
structure Here (K : PySem.W.Frag) (C : Nat → Addr) (U : Option Addr) (G0 H0 : Hp) (env : En) (σ : L2.St) (G H : Hp) (b : Nat) : Prop where
  st : St K C U G0 H0 env σ G H
  un : UrnSt U H b
theorem Here.sub {K : PySem.W.Frag} {C : Nat → Addr} {U : Option Addr} {G0 H0 : Hp} {env : En} {σ : L2.St} {G H : Hp} {b : Nat} (h : Here K C U G0 H0 env σ G H b) : Sub G H := h.st.sub
theorem Here.to {K : PySem.W.Frag} {C : Nat → Addr} {U : Option Addr} {G0 H0 : Hp} {env : En} {σ : L2.St} {G H G' H' : Hp} {b b' : Nat} (h : Here K C U G0 H0 env σ G H b) (e : Ext U G H G' H') (u : UrnSt U H' b') : Here K C U G0 H0 env σ G' H' b' := ⟨h.st.to e, u⟩
section
variable (K : PySem.W.Frag) (C : Nat → Addr)
def tV (den : En → M D) : TE := fun σ H Q => ∃ U env G0 H0 G b, Here K C U G0 H0 env σ G H b ∧ wp (den env) b (PV K C U G H Q)
def tP (den : En → M D) : TE := fun σ H Q => ∃ U env G0 H0 G b, Here K C U G0 H0 env σ G H b ∧ wp (den env) b (PP K C U G H Q)
def tPs (den : En → M (List D)) : TA := fun σ H Q => ∃ U env G0 H0 G b, Here K C U G0 H0 env σ G H b ∧ wp (den env) b (PPs K C U G H Q)
def tF (den : En → M D) : TE := fun σ H Q => ∃ U env G0 H0 G b, Here K C U G0 H0 env σ G H b ∧ wp (den env) b (PF K C U G H Q)
def tAs (den : En → M (List D)) : TA := fun σ H Q => ∃ U env G0 H0 G b, Here K C U G0 H0 env σ G H b ∧ wp (den env) b (PAs K C U G H Q)
def tB (den : En → M Bool) : TT := fun σ H Q => ∃ U env G0 H0 G b, Here K C U G0 H0 env σ G H b ∧ wp (den env) b (PB U G H Q)
inductive Fl where
  | next (e : En) | ret (d : D) | brk (e : En) | cnt (e : En) | fresh (d : D)
def SQ (U : Option Addr) (G0 H0 G : Hp) (E : Ends) (b : Nat) : Fl → Prop
  | .next env => ∀ σ' G' H', Here K C U G0 H0 env σ' G' H' b → Same G G' → E.nx σ' H'
  | .brk env => ∀ σ' G' H', Here K C U G0 H0 env σ' G' H' b → Same G G' → E.bk σ' H'
  | .cnt env => ∀ σ' G' H', Here K C U G0 H0 env σ' G' H' b → Same G G' → E.ct σ' H'
  | .ret d => ∀ v G' H', Ext U G0 H0 G' H' → UrnSt U H' b → Rep K C U G' v d → E.rt v H'
  | .fresh d => ∀ p o G' H', Ext U G0 H0 G' H' → UrnSt U H' b → H0 p = none → G' p = none → H' p = some o → HRep K C U G' o d → E.rt (.ref p) H'
def tSt (den : En → M Fl) : TS := fun E σ H => ∃ U env G0 H0 G b, Here K C U G0 H0 env σ G H b ∧ wp (den env) b (SQ K C U G0 H0 G E)
/-- a target: what it makes of the slots; ts: the slots that it may change -/
def tGt (ts : List Nat) (den : D → En → M En) : TG := fun v σ H Q => ∃ U env G0 H0 G b d, Here K C U G0 H0 env σ G H b ∧ Rep K C U G v d ∧ wp (den d env) b fun b' env' =>
  ∀ σ' G' H', Here K C U G0 H0 env' σ' G' H' b' → Ext U G H G' H' → σ'.length = σ.length → (∀ i, i ∉ ts → σ'[i]? = σ[i]?) → Q σ' H'
def tGts (ts : List Nat) (den : List D → En → M En) : TGs := fun vs σ H Q => ∃ U env G0 H0 G b ds, Here K C U G0 H0 env σ G H b ∧ Reps K C U G vs ds ∧ wp (den ds env) b fun b' env' =>
  ∀ σ' G' H', Here K C U G0 H0 env' σ' G' H' b' → Ext U G H G' H' → σ'.length = σ.length → (∀ i, i ∉ ts → σ'[i]? = σ[i]?) → Q σ' H'
/-- J walks over ds, from G on -/
structure WalkOk (U : Option Addr) (G : Hp) (J : It) (ds : List D) : Prop where
  stop : ∀ G' H', Same G G' → Sub G' H' → J.stop ds.length H'
  go : ∀ i d G' H', Same G G' → Sub G' H' → ds[i]? = some d → J.go i H'
  yld : ∀ i d G' H' x H2 b, Same G G' → Sub G' H' → ds[i]? = some d → UrnSt U H' b → J.yld i H' x H2 → ∃ G2, Ext U G' H' G2 H2 ∧ UrnSt U H2 b ∧ Rep K C U G2 x d
def tWk (den : En → M (List D)) : TI := fun σ H R => ∃ U env G0 H0 G b, Here K C U G0 H0 env σ G H b ∧ wp (den env) b fun b' ds => ∀ J G' H', Ext U G H G' H' → UrnSt U H' b' → WalkOk K C U G' J ds → R J H'
end
abbrev VE (X : Cx) (C : Nat → Addr) (e : Expr) (den : En → M D) : Prop := PE X e (tV X.K C den)
abbrev VP (X : Cx) (C : Nat → Addr) (e : Expr) (den : En → M D) : Prop := PE X e (tP X.K C den)
abbrev VPs (X : Cx) (C : Nat → Addr) (es : List Expr) (den : En → M (List D)) : Prop := PA X es (tPs X.K C den)
abbrev VF (X : Cx) (C : Nat → Addr) (e : Expr) (den : En → M D) : Prop := PE X e (tF X.K C den)
abbrev VA (X : Cx) (C : Nat → Addr) (es : List Expr) (den : En → M (List D)) : Prop := PA X es (tAs X.K C den)
abbrev VT (X : Cx) (C : Nat → Addr) (e : Expr) (den : En → M Bool) : Prop := PT X e (tB X.K C den)
abbrev VS (X : Cx) (C : Nat → Addr) (st : Stmt) (den : En → M Fl) : Prop := PS X st (tSt X.K C den)
abbrev VSs (X : Cx) (C : Nat → Addr) (st : List Stmt) (den : En → M Fl) : Prop := PSs X st (tSt X.K C den)
abbrev VG (X : Cx) (C : Nat → Addr) (tg : Expr) (ts : List Nat) (den : D → En → M En) : Prop := PG X tg (tGt X.K C ts den)
abbrev VGs (X : Cx) (C : Nat → Addr) (tg : List Expr) (ts : List Nat) (den : List D → En → M En) : Prop := PGs X tg (tGts X.K C ts den)
abbrev VI (X : Cx) (C : Nat → Addr) (tg e : Expr) (den : En → M (List D)) : Prop := PI X tg e (tWk X.K C den)
section
variable {X : Cx} {C : Nat → Addr}
/-- what is fresh is a value -/
theorem VF.ve {e : Expr} {den : En → M D} (h : VF X C e den) : VE X C e den := PE.of h fun σ H Q ⟨U, env, G0, H0, G, b, S, w⟩ =>
  ⟨U, env, G0, H0, G, b, S, wp_mono w fun b' d q p o G' H' e u hp g h r => q _ _ _ (e.new hp h g r.plain) u (r.rep g)⟩

theorem VE.vp {e : Expr} {den : En → M D} (h : VE X C e den) : VP X C e den := PE.of h fun σ H Q ⟨U, env, G0, H0, G, b, S, w⟩ =>
  ⟨U, env, G0, H0, G, b, S, wp_mono w fun b' d q v G' H' e u r => q _ _ _ e u r.pk⟩
theorem VF.vp {e : Expr} {den : En → M D} (h : VF X C e den) : VP X C e den := h.ve.vp

/-! ### names and constants -/
def rd (i : Nat) (env : En) : M D := match env[i]? with
  | some (.fr d) => .ok d
  | _ => .bad
theorem ve_var (i : Nat) {x : Str} {pos : Pos} (hN : X.N[i]? = some x := by rfl) (hv : Vis X.env.scope x := by first | exact Or.inl rfl | exact Or.inr (Or.inl rfl) | exact Or.inr (Or.inr rfl)) (hd : (x == ("__debug__" : Str)) = false := by decide)
    (hcd : (x == ("__classdict__" : Str)) = false := by decide) : VE X C (.Name x pos) (rd i) := PE.of (pv i hN hv hd hcd) fun σ H Q ⟨U, env, G0, H0, G, b, S, w⟩ => by
  unfold rd at w
  split at w
  · rename_i d e
    obtain ⟨v, hv, r⟩ := S.st.value e
    exact ⟨v, hv, w v G H (Ext.refl S.sub) S.un r⟩
  · exact w.elim
/-- a name, looked at -/
def pk (i : Nat) (env : En) : M D := match env[i]? with
  | some (.fr d) => .ok d
  | some (.ow d) => .ok d
  | _ => .bad
theorem vp_var (i : Nat) {x : Str} {pos : Pos} (hN : X.N[i]? = some x := by rfl) (hv : Vis X.env.scope x := by first | exact Or.inl rfl | exact Or.inr (Or.inl rfl) | exact Or.inr (Or.inr rfl)) (hd : (x == ("__debug__" : Str)) = false := by decide)
    (hcd : (x == ("__classdict__" : Str)) = false := by decide) : VP X C (.Name x pos) (pk i) := PE.of (pv i hN hv hd hcd) fun σ H Q ⟨U, env, G0, H0, G, b, S, w⟩ => by
  unfold pk at w
  split at w
  · rename_i d e
    obtain ⟨v, hv, r⟩ := S.st.value e
    exact ⟨v, hv, w v G H (Ext.refl S.sub) S.un r.pk⟩
  · rename_i d e
    obtain ⟨p, o, hv, h, g, r, n, u⟩ := S.st.owned e
    exact ⟨_, hv, w _ G H (Ext.refl S.sub) S.un (.inr ⟨p, o, rfl, h, r, u⟩)⟩
  · exact w.elim
theorem ve_int {i : Int} {j pos} : VE X C (.Constant (.int i) j pos) (fun _ => .ok (.int i)) := PE.of pe_int fun σ H Q ⟨U, env, G0, H0, G, b, S, w⟩ => w _ _ _ (Ext.refl S.sub) S.un (.int i)
theorem ve_bl {i : Bool} {j pos} : VE X C (.Constant (.bool i) j pos) (fun _ => .ok (.bl i)) := PE.of pe_bl fun σ H Q ⟨U, env, G0, H0, G, b, S, w⟩ => w _ _ _ (Ext.refl S.sub) S.un (.bl i)
theorem ve_non {j pos} : VE X C (.Constant .none j pos) (fun _ => .ok .non) := PE.of pe_non fun σ H Q ⟨U, env, G0, H0, G, b, S, w⟩ => w _ _ _ (Ext.refl S.sub) S.un .non
theorem ve_str {x : Str} {j pos} : VE X C (.Constant (.str x) j pos) (fun _ => .ok (.str x)) := PE.of pe_str fun σ H Q ⟨U, env, G0, H0, G, b, S, w⟩ => w _ _ _ (Ext.refl S.sub) S.un (.str x)

/-! ### two-place operations, by values -/
def Op2 (K : PySem.W.Frag) (C : Nat → Addr) (r : R2) (op : D → D → M D) : Prop := ∀ (U : Option Addr) (G H : Hp) (b : Nat) (x y : V) (d e : D) (Q : VK), Sub G H → UrnSt U H b → Pk K C U G H x d → Pk K C U G H y e → wp (op d e) b (PV K C U G H Q) → r x y H Q
def Op2F (K : PySem.W.Frag) (C : Nat → Addr) (r : R2) (op : D → D → M D) : Prop := ∀ (U : Option Addr) (G H : Hp) (b : Nat) (x y : V) (d e : D) (Q : VK), Sub G H → UrnSt U H b → Pk K C U G H x d → Pk K C U G H y e → wp (op d e) b (PF K C U G H Q) → r x y H Q
theorem bin_v {K : PySem.W.Frag} {U : Option Addr} {G0 H0 : Hp} {env : En} {σ : L2.St} {G H : Hp} {b : Nat} {da db : En → M D} {op : D → D → M D} {P : Nat → D → Prop} {R : V → V → Hp → Prop} (S : Here K C U G0 H0 env σ G H b)
    (w : wp (da env >>= fun x => db env >>= fun y => op x y) b P)
    (f : ∀ b2 v1 v2 d1 d2 G2 H2, Ext U G H G2 H2 → UrnSt U H2 b2 → Pk K C U G2 H2 v1 d1 → Pk K C U G2 H2 v2 d2 → wp (op d1 d2) b2 P → R v1 v2 H2) :
    tP K C da σ H fun x H1 => tP K C db σ H1 fun y H2 => R x y H2 := by
  refine ⟨U, env, G0, H0, G, b, S, wp_mono (wp_bind.mp w) fun b1 d1 w1 v1 G1 H1 e1 u1 r1 => ?_⟩
  refine ⟨U, env, G0, H0, G1, b1, S.to e1 u1, wp_mono (wp_bind.mp w1) fun b2 d2 w2 v2 G2 H2 e2 u2 r2 => ?_⟩
  exact f b2 v1 v2 d1 d2 G2 H2 (e1.trans e2) u2 (r1.to e2) r2 w2
theorem pv_to {K : PySem.W.Frag} {U : Option Addr} {G H G2 H2 : Hp} {Q : VK} (e : Ext U G H G2 H2) : ∀ b d, PV K C U G H Q b d → PV K C U G2 H2 Q b d := fun b d q v G' H' e' u r => q v G' H' (e.trans e') u r
theorem pf_to {K : PySem.W.Frag} {U : Option Addr} {G H G2 H2 : Hp} {Q : VK} (e : Ext U G H G2 H2) : ∀ b d, PF K C U G H Q b d → PF K C U G2 H2 Q b d := fun b d q p o G' H' e' u hp g h r => q p o G' H' (e.trans e') u
  (by
    cases z : H p with
    | none => rfl
    | some o => exact absurd hp (e.live p (by rw [z]; simp))) g h r
theorem pa_to {K : PySem.W.Frag} {U : Option Addr} {G H G2 H2 : Hp} {Q : List V → Hp → Prop} (e : Ext U G H G2 H2) : ∀ b d, PAs K C U G H Q b d → PAs K C U G2 H2 Q b d := fun b d q v G' H' e' u r => q v G' H' (e.trans e') u r
theorem pb_to {U : Option Addr} {G H G2 H2 : Hp} {Q : Bool → Hp → Prop} (e : Ext U G H G2 H2) : ∀ b d, PB U G H Q b d → PB U G2 H2 Q b d := fun b d q G' H' e' u => q G' H' (e.trans e') u
abbrev seq2 (da db : En → M D) (op : D → D → M D) : En → M D := fun env => da env >>= fun x => db env >>= fun y => op x y
theorem ve_op {a b : Expr} {op : Operator} {r : R2} {f : D → D → M D} {da db : En → M D} {pos : Pos} (ho : OpR X (binaryOp op) r) (h : Op2 X.K C r f) (ha : VP X C a da) (hb : VP X C b db) : VE X C (.BinOp a op b pos) (seq2 da db f) :=
  PE.of (pe_op ho ha hb) fun σ H Q ⟨U, env, G0, H0, G, b, S, w⟩ => bin_v S w fun b2 v1 v2 d1 d2 G2 H2 e u r1 r2 w2 => h U G2 H2 b2 v1 v2 d1 d2 Q e.sub u r1 r2 (wp_mono w2 (pv_to e))
theorem vf_op {a b : Expr} {op : Operator} {r : R2} {f : D → D → M D} {da db : En → M D} {pos : Pos} (ho : OpR X (binaryOp op) r) (h : Op2F X.K C r f) (ha : VP X C a da) (hb : VP X C b db) : VF X C (.BinOp a op b pos) (seq2 da db f) :=
  PE.of (pe_op ho ha hb) fun σ H Q ⟨U, env, G0, H0, G, b, S, w⟩ => bin_v S w fun b2 v1 v2 d1 d2 G2 H2 e u r1 r2 w2 => h U G2 H2 b2 v1 v2 d1 d2 Q e.sub u r1 r2 (wp_mono w2 (pf_to e))
theorem ve_cmp {a b : Expr} {op : CmpOp} {r : R2} {f : D → D → M D} {da db : En → M D} {pos : Pos} (ho : OpR X (compareOp op) r) (h : Op2 X.K C r f) (ha : VP X C a da) (hb : VP X C b db) (hm : behindInMarks op b = false) : VE X C (.Compare a [op] [b] pos) (seq2 da db f) :=
  PE.of (pe_cmpR ho ha hb hm) fun σ H Q ⟨U, env, G0, H0, G, b, S, w⟩ => bin_v S w fun b2 v1 v2 d1 d2 G2 H2 e u r1 r2 w2 => h U G2 H2 b2 v1 v2 d1 d2 Q e.sub u r1 r2 (wp_mono w2 (pv_to e))
theorem ve_ix {a b : Expr} {r : R2} {f : D → D → M D} {da db : En → M D} {pos : Pos} (ho : IxR X r) (h : Op2 X.K C r f) (ha : VP X C a da) (hb : VP X C b db) (hs : PlainIx b := by exact fun _ _ => rfl) : VE X C (.Subscript a b pos) (seq2 da db f) :=
  PE.of (pe_ix ho ha hb hs) fun σ H Q ⟨U, env, G0, H0, G, b, S, w⟩ => bin_v S w fun b2 v1 v2 d1 d2 G2 H2 e u r1 r2 w2 => h U G2 H2 b2 v1 v2 d1 d2 Q e.sub u r1 r2 (wp_mono w2 (pv_to e))
/-- or -/
theorem or_op {f : Value → Value → Sem Value} {r r' : R2} (h : OpR X f r) (h' : OpR X f r') : OpR X f (fun x y H Q => r x y H Q ∨ r' x y H Q) := by
  intro pins s σ H x y v u Q I rx ry q
  rcases q with q | q
  · exact h pins s σ H x y v u Q I rx ry q
  · exact h' pins s σ H x y v u Q I rx ry q
theorem or_call {f : Value} {r r' : List V → Hp → VK → Prop} (h : CallR X f r) (h' : CallR X f r') : CallR X f (fun x H Q => r x H Q ∨ r' x H Q) := by
  intro pins s σ H xs us Q I rx q
  rcases q with q | q
  · exact h pins s σ H xs us Q I rx q
  · exact h' pins s σ H xs us Q I rx q

/-! ### arguments -/
abbrev consD (da : En → M D) (ds : En → M (List D)) : En → M (List D) := fun env => da env >>= fun x => ds env >>= fun xs => .ok (x :: xs)
theorem va_nil : VA X C [] (fun _ => .ok []) := PA.of pa_nil fun σ H Q ⟨U, env, G0, H0, G, b, S, w⟩ => w _ _ _ (Ext.refl S.sub) S.un .nil
theorem va_cons {e : Expr} {es : List Expr} {de : En → M D} {ds : En → M (List D)} (h : VE X C e de) (t : VA X C es ds) (hs : starEach (e :: es) X.env = (false, eval e X.env) :: starEach es X.env := by rfl) : VA X C (e :: es) (consD de ds) :=
  PA.of (pa_cons h t hs) fun σ H Q ⟨U, env, G0, H0, G, b, S, w⟩ => by
    refine ⟨U, env, G0, H0, G, b, S, wp_mono (wp_bind.mp w) fun b1 d1 w1 v1 G1 H1 e1 u1 r1 => ?_⟩
    refine ⟨U, env, G0, H0, G1, b1, S.to e1 u1, wp_mono (wp_bind.mp w1) fun b2 d2 w2 v2 G2 H2 e2 u2 r2 => ?_⟩
    exact w2 _ _ _ (e1.trans e2) u2 (.cons (r1.mono e2.grow) r2)
/-! ### calls by values -/
def OpN (K : PySem.W.Frag) (C : Nat → Addr) (r : List V → Hp → VK → Prop) (op : List D → M D) : Prop := ∀ (U : Option Addr) (G H : Hp) (b : Nat) (xs : List V) (ds : List D) (Q : VK), Sub G H → UrnSt U H b → Paired (Pk K C U G H) xs ds → wp (op ds) b (PV K C U G H Q) → r xs H Q
def OpNF (K : PySem.W.Frag) (C : Nat → Addr) (r : List V → Hp → VK → Prop) (op : List D → M D) : Prop := ∀ (U : Option Addr) (G H : Hp) (b : Nat) (xs : List V) (ds : List D) (Q : VK), Sub G H → UrnSt U H b → Paired (Pk K C U G H) xs ds → wp (op ds) b (PF K C U G H Q) → r xs H Q
abbrev seqN (ds : En → M (List D)) (op : List D → M D) : En → M D := fun env => ds env >>= op
theorem vps_nil : VPs X C [] (fun _ => .ok []) := PA.of pa_nil fun σ H Q ⟨U, env, G0, H0, G, b, S, w⟩ => w _ _ _ (Ext.refl S.sub) S.un .nil
theorem vps_cons {e : Expr} {es : List Expr} {de : En → M D} {ds : En → M (List D)} (h : VP X C e de) (t : VPs X C es ds) (hs : starEach (e :: es) X.env = (false, eval e X.env) :: starEach es X.env := by rfl) : VPs X C (e :: es) (consD de ds) :=
  PA.of (pa_cons h t hs) fun σ H Q ⟨U, env, G0, H0, G, b, S, w⟩ => by
    refine ⟨U, env, G0, H0, G, b, S, wp_mono (wp_bind.mp w) fun b1 d1 w1 v1 G1 H1 e1 u1 r1 => ?_⟩
    refine ⟨U, env, G0, H0, G1, b1, S.to e1 u1, wp_mono (wp_bind.mp w1) fun b2 d2 w2 v2 G2 H2 e2 u2 r2 => ?_⟩
    exact w2 _ _ _ (e1.trans e2) u2 (.cons (r1.to e2) r2)
theorem pargs_v {K : PySem.W.Frag} {U : Option Addr} {G0 H0 : Hp} {env : En} {σ : L2.St} {G H : Hp} {b : Nat} {ds : En → M (List D)} {op : List D → M D} {P : Nat → D → Prop} {R : List V → Hp → Prop} (S : Here K C U G0 H0 env σ G H b)
    (w : wp (ds env >>= op) b P) (f : ∀ b2 vs xs G2 H2, Ext U G H G2 H2 → UrnSt U H2 b2 → Paired (Pk K C U G2 H2) vs xs → wp (op xs) b2 P → R vs H2) : tPs K C ds σ H R :=
  ⟨U, env, G0, H0, G, b, S, wp_mono (wp_bind.mp w) fun b1 d1 w1 v1 G1 H1 e1 u1 r1 => f b1 v1 d1 G1 H1 e1 u1 r1 w1⟩
theorem args_v {K : PySem.W.Frag} {U : Option Addr} {G0 H0 : Hp} {env : En} {σ : L2.St} {G H : Hp} {b : Nat} {ds : En → M (List D)} {op : List D → M D} {P : Nat → D → Prop} {R : List V → Hp → Prop} (S : Here K C U G0 H0 env σ G H b)
    (w : wp (ds env >>= op) b P) (f : ∀ b2 vs xs G2 H2, Ext U G H G2 H2 → UrnSt U H2 b2 → Reps K C U G2 vs xs → wp (op xs) b2 P → R vs H2) : tAs K C ds σ H R :=
  ⟨U, env, G0, H0, G, b, S, wp_mono (wp_bind.mp w) fun b1 d1 w1 v1 G1 H1 e1 u1 r1 => f b1 v1 d1 G1 H1 e1 u1 r1 w1⟩
section
variable {x T : Str} {id : String} {e : Expr} {es : List Expr} {ds : En → M (List D)} {op : List D → M D} {r : List V → Hp → VK → Prop} {p pos : Pos}
theorem ve_callB (hc : CallR X (.builtin id) r) (h : OpN X.K C r op) (hm : X.mg x = none) (hv : bootBuiltins x = some (.builtin id)) (ha : VPs X C (e :: es) ds) (hg : Gl X x := by rfl) (hn : x ≠ "__name__" := by decide) (hdb : (x == ("__debug__" : Str)) = false := by decide)
    (he : starEach (e :: es) X.env = (false, eval e X.env) :: starEach es X.env := by rfl) (hpl : (backTo pos (starEach es X.env)).any (·.1) = false := by rfl) : VE X C (.Call (.Name x p) (e :: es) [] pos) (seqN ds op) :=
  PE.of (pe_callB hc hg hm hv ha hn hdb he hpl) fun σ H Q ⟨U, env, G0, H0, G, b, S, w⟩ => pargs_v S w fun b2 vs xs G2 H2 e u r w => h U G2 H2 b2 vs xs Q e.sub u r (wp_mono w (pv_to e))
theorem vf_callB (hc : CallR X (.builtin id) r) (h : OpNF X.K C r op) (hm : X.mg x = none) (hv : bootBuiltins x = some (.builtin id)) (ha : VPs X C (e :: es) ds) (hg : Gl X x := by rfl) (hn : x ≠ "__name__" := by decide) (hdb : (x == ("__debug__" : Str)) = false := by decide)
    (he : starEach (e :: es) X.env = (false, eval e X.env) :: starEach es X.env := by rfl) (hpl : (backTo pos (starEach es X.env)).any (·.1) = false := by rfl) : VF X C (.Call (.Name x p) (e :: es) [] pos) (seqN ds op) :=
  PE.of (pe_callB hc hg hm hv ha hn hdb he hpl) fun σ H Q ⟨U, env, G0, H0, G, b, S, w⟩ => pargs_v S w fun b2 vs xs G2 H2 e u r w => h U G2 H2 b2 vs xs Q e.sub u r (wp_mono w (pf_to e))
theorem ve_callTy {T : String} (hc : CallR X (.type T) r) (h : OpN X.K C r op) (hm : X.mg x = none) (hv : bootBuiltins x = some (.type T)) (ha : VPs X C (e :: es) ds) (hg : Gl X x := by rfl) (hn : x ≠ "__name__" := by decide) (hdb : (x == ("__debug__" : Str)) = false := by decide)
    (he : starEach (e :: es) X.env = (false, eval e X.env) :: starEach es X.env := by rfl) (hpl : (backTo pos (starEach es X.env)).any (·.1) = false := by rfl) : VE X C (.Call (.Name x p) (e :: es) [] pos) (seqN ds op) :=
  PE.of (pe_callTy hc hg hm hv ha hn hdb he hpl) fun σ H Q ⟨U, env, G0, H0, G, b, S, w⟩ => pargs_v S w fun b2 vs xs G2 H2 e u r w => h U G2 H2 b2 vs xs Q e.sub u r (wp_mono w (pv_to e))
theorem vf_callTy {T : String} (hc : CallR X (.type T) r) (h : OpNF X.K C r op) (hm : X.mg x = none) (hv : bootBuiltins x = some (.type T)) (ha : VPs X C (e :: es) ds) (hg : Gl X x := by rfl) (hn : x ≠ "__name__" := by decide) (hdb : (x == ("__debug__" : Str)) = false := by decide)
    (he : starEach (e :: es) X.env = (false, eval e X.env) :: starEach es X.env := by rfl) (hpl : (backTo pos (starEach es X.env)).any (·.1) = false := by rfl) : VF X C (.Call (.Name x p) (e :: es) [] pos) (seqN ds op) :=
  PE.of (pe_callTy hc hg hm hv ha hn hdb he hpl) fun σ H Q ⟨U, env, G0, H0, G, b, S, w⟩ => pargs_v S w fun b2 vs xs G2 H2 e u r w => h U G2 H2 b2 vs xs Q e.sub u r (wp_mono w (pf_to e))
/-- a def's promise, by values -/
def spV (K : PySem.W.Frag) (C : Nat → Addr) (n : Nat) (den : List D → M D) : Sp := fun vs H Q _ => ∃ U G b ds, Sub G H ∧ UrnSt U H b ∧ (∀ u, U = some u → G u = none) ∧ Reps K C U G vs ds ∧ vs.length = n ∧ wp (den ds) b (PV K C U G H Q)
/-- the def's den, where as many values come as it has parameters -/
def arity (n : Nat) (den : List D → M D) : List D → M D := fun ds => if ds.length = n then den ds else .bad
theorem ve_call {k n : Nat} {ps : List Str} {den : List D → M D} (F : Sx.FnG X.prog X.w X.K X.mg X.base x k ps (spV X.K C n den)) (hr : Room k X.A) (ha : VA X C (e :: es) ds) (hg : Gl X x := by rfl) (hdb : (x == ("__debug__" : Str)) = false := by decide)
    (he : starEach (e :: es) X.env = (false, eval e X.env) :: starEach es X.env := by rfl) (hpl : (backTo pos (starEach es X.env)).any (·.1) = false := by rfl) : VE X C (.Call (.Name x p) (e :: es) [] pos) (seqN ds (arity n den)) :=
  PE.of (Sx.pe_g F hr ha hg hdb he hpl) fun σ H Q ⟨U, env, G0, H0, G, b, S, w⟩ => args_v S w fun b2 vs xs G2 H2 e u r w => by
    unfold arity at w
    by_cases hl : xs.length = n
    · rw [if_pos hl] at w
      refine ⟨U, G2, b2, xs, e.sub, u, (S.st.to e).hidU, by rw [List.append_nil]; exact r, by rw [List.append_nil, r.length]; exact hl, wp_mono w (pv_to e)⟩
    · rw [if_neg hl] at w; exact w.elim
/-- a def whose result is its caller's own -/
def spVF (K : PySem.W.Frag) (C : Nat → Addr) (n : Nat) (den : List D → M D) : Sp := fun vs H Q _ => ∃ U G b ds, Sub G H ∧ UrnSt U H b ∧ (∀ u, U = some u → G u = none) ∧ Reps K C U G vs ds ∧ vs.length = n ∧ wp (den ds) b (PF K C U G H Q)
theorem vf_call {k n : Nat} {ps : List Str} {den : List D → M D} (F : Sx.FnG X.prog X.w X.K X.mg X.base x k ps (spVF X.K C n den)) (hr : Room k X.A) (ha : VA X C (e :: es) ds) (hg : Gl X x := by rfl) (hdb : (x == ("__debug__" : Str)) = false := by decide)
    (he : starEach (e :: es) X.env = (false, eval e X.env) :: starEach es X.env := by rfl) (hpl : (backTo pos (starEach es X.env)).any (·.1) = false := by rfl) : VF X C (.Call (.Name x p) (e :: es) [] pos) (seqN ds (arity n den)) :=
  PE.of (Sx.pe_g F hr ha hg hdb he hpl) fun σ H Q ⟨U, env, G0, H0, G, b, S, w⟩ => args_v S w fun b2 vs xs G2 H2 e u r w => by
    unfold arity at w
    by_cases hl : xs.length = n
    · rw [if_pos hl] at w
      refine ⟨U, G2, b2, xs, e.sub, u, (S.st.to e).hidU, by rw [List.append_nil]; exact r, by rw [List.append_nil, r.length]; exact hl, wp_mono w (pf_to e)⟩
    · rw [if_neg hl] at w; exact w.elim
theorem ve_call0 {k : Nat} {den : List D → M D} (F : Sx.FnG X.prog X.w X.K X.mg X.base x k [] (spV X.K C 0 den)) (hr : Room k X.A) (hg : Gl X x := by rfl) (hdb : (x == ("__debug__" : Str)) = false := by decide) : VE X C (.Call (.Name x p) [] [] pos) (fun _ => den []) :=
  PE.of (Sx.pe_g0 F hr hg hdb) fun σ H Q ⟨U, env, G0, H0, G, b, S, w⟩ => ⟨U, G, b, [], S.sub, S.un, S.st.hidU, .nil, rfl, w⟩
end

/-! ### tests -/
def isB : D → M Bool
  | .bl b => .ok b
  | _ => .bad
abbrev asB (de : En → M D) : En → M Bool := fun env => de env >>= isB
theorem val_b {K : PySem.W.Frag} {σ : L2.St} {H : Hp} {Q : Bool → Hp → Prop} {de : En → M D} (h : Vw.tB K C (asB de) σ H Q) : tP K C de σ H fun x H1 => ∃ c, x = .bl c ∧ Q c H1 := by
  obtain ⟨U, env, G0, H0, G, b, S, w⟩ := h
  refine ⟨U, env, G0, H0, G, b, S, wp_mono (wp_bind.mp w) fun b1 d1 w1 v1 G1 H1 e1 u1 r1 => ?_⟩
  cases d1 with
  | bl c => cases r1.bl; exact ⟨c, rfl, w1 _ _ e1 u1⟩
  | _ => exact w1.elim
theorem vt_val {e : Expr} {de : En → M D} (h : VP X C e de) (he : ∀ whole, isTrue e X.env whole = (do let v ← whole; standAt e.pos; holding [v] (truthy v)) := by intro _; rfl) : VT X C e (asB de) :=
  PT.of (pt_val h he) fun σ H Q w => val_b w
theorem vt_cmp {a b : Expr} {op : CmpOp} {r : R2} {f : D → D → M D} {da db : En → M D} {pos : Pos} (ho : OpR X (compareOp op) r) (h : Op2 X.K C r f) (ha : VP X C a da) (hb : VP X C b db) (hm : behindInMarks op b = false) : VT X C (.Compare a [op] [b] pos) (asB (seq2 da db f)) :=
  PT.of (pt_cmpR ho ha hb hm) fun σ H Q w => by
    obtain ⟨U, env, G0, H0, G, b, S, w⟩ := w
    refine bin_v S (wp_mono (wp_bind.mp w) fun b1 d1 w1 => w1) fun b2 v1 v2 d1 d2 G2 H2 e u r1 r2 w2 => ?_
    refine h U G2 H2 b2 v1 v2 d1 d2 _ e.sub u r1 r2 (wp_mono w2 fun b3 d3 w3 v3 G3 H3 e3 u3 r3 => ?_)
    cases d3 with
    | bl c => cases r3; exact ⟨c, rfl, w3 _ _ (e.trans e3) u3⟩
    | _ => exact w3.elim
abbrev notB (da : En → M Bool) : En → M Bool := fun env => da env >>= fun c => .ok (!c)
theorem vt_not {a : Expr} {da : En → M Bool} {pos : Pos} (h : VT X C a da) : VT X C (.UnaryOp .Not a pos) (notB da) :=
  PT.of (pt_not h) fun σ H Q ⟨U, env, G0, H0, G, b, S, w⟩ => ⟨U, env, G0, H0, G, b, S, wp_mono (wp_bind.mp w) fun b1 c w1 => w1⟩
abbrev VW (X : Cx) (C : Nat → Addr) (e : Expr) (den : En → M Bool) : Prop := PW X e (Vw.tB X.K C den)
abbrev andB (da db : En → M Bool) : En → M Bool := fun env => da env >>= fun c => if c = true then db env else .ok false
abbrev orB (da db : En → M Bool) : En → M Bool := fun env => da env >>= fun c => if c = true then .ok true else db env
theorem vw_and1 {a : Expr} {da : En → M Bool} {pos : Pos} (h : VT X C a da) : VW X C (.BoolOp .And [a] pos) da := pw_and1 h
theorem vw_or1 {a : Expr} {da : En → M Bool} {pos : Pos} (h : VT X C a da) : VW X C (.BoolOp .Or [a] pos) da := pw_or1 h
theorem vw_and {a b : Expr} {rest : List Expr} {da db : En → M Bool} {pos : Pos} (ha : VT X C a da) (hb : VW X C (.BoolOp .And (b :: rest) pos) db) : VW X C (.BoolOp .And (a :: b :: rest) pos) (andB da db) :=
  PW.of (pw_and ha hb) fun σ H Q ⟨U, env, G0, H0, G, b, S, w⟩ => by
    refine ⟨U, env, G0, H0, G, b, S, wp_mono (wp_bind.mp w) fun b1 c w1 G1 H1 e1 u1 => ?_⟩
    cases c with
    | true => exact iteT ⟨U, env, G0, H0, G1, b1, S.to e1 u1, wp_mono w1 (pb_to e1)⟩
    | false => exact iteF (w1 _ _ e1 u1)
theorem vw_or {a b : Expr} {rest : List Expr} {da db : En → M Bool} {pos : Pos} (ha : VT X C a da) (hb : VW X C (.BoolOp .Or (b :: rest) pos) db) : VW X C (.BoolOp .Or (a :: b :: rest) pos) (orB da db) :=
  PW.of (pw_or ha hb) fun σ H Q ⟨U, env, G0, H0, G, b, S, w⟩ => by
    refine ⟨U, env, G0, H0, G, b, S, wp_mono (wp_bind.mp w) fun b1 c w1 G1 H1 e1 u1 => ?_⟩
    cases c with
    | false => exact iteF ⟨U, env, G0, H0, G1, b1, S.to e1 u1, wp_mono w1 (pb_to e1)⟩
    | true => exact iteT (w1 _ _ e1 u1)
theorem VW.vt {e : Expr} {den : En → M Bool} (h : VW X C e den) : VT X C e den := h.pt
/-- as values -/
abbrev andV (da db : En → M D) : En → M D := fun env => da env >>= fun d => isB d >>= fun c => if c = true then db env else .ok (.bl false)
abbrev orV (da db : En → M D) : En → M D := fun env => da env >>= fun d => isB d >>= fun c => if c = true then .ok (.bl true) else db env
theorem ve_one {op} {a : Expr} {da : En → M D} {pos : Pos} (h : VE X C a da) : VE X C (.BoolOp op [a] pos) da := pe_one h
theorem ve_and {a b : Expr} {rest : List Expr} {da db : En → M D} {pos : Pos} (ha : VE X C a da) (hb : VE X C (.BoolOp .And (b :: rest) pos) db) : VE X C (.BoolOp .And (a :: b :: rest) pos) (andV da db) :=
  PE.of (pe_and ha hb) fun σ H Q ⟨U, env, G0, H0, G, b, S, w⟩ => by
    refine ⟨U, env, G0, H0, G, b, S, wp_mono (wp_bind.mp w) fun b1 d1 w1 v1 G1 H1 e1 u1 r1 => ?_⟩
    cases d1 with
    | bl c =>
      cases r1
      refine ⟨c, rfl, ?_⟩
      cases c with
      | true => exact iteT ⟨U, env, G0, H0, G1, b1, S.to e1 u1, wp_mono w1 (pv_to e1)⟩
      | false => exact iteF (w1 _ _ _ e1 u1 (.bl false))
    | _ => exact w1.elim
theorem ve_or {a b : Expr} {rest : List Expr} {da db : En → M D} {pos : Pos} (ha : VE X C a da) (hb : VE X C (.BoolOp .Or (b :: rest) pos) db) : VE X C (.BoolOp .Or (a :: b :: rest) pos) (orV da db) :=
  PE.of (pe_or ha hb) fun σ H Q ⟨U, env, G0, H0, G, b, S, w⟩ => by
    refine ⟨U, env, G0, H0, G, b, S, wp_mono (wp_bind.mp w) fun b1 d1 w1 v1 G1 H1 e1 u1 r1 => ?_⟩
    cases d1 with
    | bl c =>
      cases r1
      refine ⟨c, rfl, ?_⟩
      cases c with
      | false => exact iteF ⟨U, env, G0, H0, G1, b1, S.to e1 u1, wp_mono w1 (pv_to e1)⟩
      | true => exact iteT (w1 _ _ _ e1 u1 (.bl true))
    | _ => exact w1.elim
abbrev notV (da : En → M D) : En → M D := fun env => da env >>= fun d => isB d >>= fun c => .ok (.bl (!c))
theorem ve_not {a : Expr} {da : En → M D} {pos : Pos} (ha : VE X C a da) : VE X C (.UnaryOp .Not a pos) (notV da) :=
  PE.of (pe_not ha) fun σ H Q ⟨U, env, G0, H0, G, b, S, w⟩ => by
    refine ⟨U, env, G0, H0, G, b, S, wp_mono (wp_bind.mp w) fun b1 d1 w1 v1 G1 H1 e1 u1 r1 => ?_⟩
    cases d1 with
    | bl c => cases r1; exact ⟨c, rfl, w1 _ _ _ e1 u1 (.bl _)⟩
    | _ => exact w1.elim
abbrev ifV (dc : En → M Bool) (da db : En → M D) : En → M D := fun env => dc env >>= fun c => if c = true then da env else db env
theorem ve_if {c a b : Expr} {dc : En → M Bool} {da db : En → M D} {pos : Pos} (hc : VT X C c dc) (ha : VE X C a da) (hb : VE X C b db) : VE X C (.IfExp c a b pos) (ifV dc da db) :=
  PE.of (pe_ifExp hc ha hb) fun σ H Q ⟨U, env, G0, H0, G, b, S, w⟩ => by
    refine ⟨U, env, G0, H0, G, b, S, wp_mono (wp_bind.mp w) fun b1 c w1 G1 H1 e1 u1 => ?_⟩
    cases c with
    | true => exact iteT ⟨U, env, G0, H0, G1, b1, S.to e1 u1, wp_mono w1 (pv_to e1)⟩
    | false => exact iteF ⟨U, env, G0, H0, G1, b1, S.to e1 u1, wp_mono w1 (pv_to e1)⟩

/-! ### statements -/
abbrev seqS (d1 d2 : En → M Fl) : En → M Fl := fun env => d1 env >>= fun fl => match fl with
  | .next e => d2 e
  | .ret d => .ok (.ret d)
  | .brk e => .ok (.brk e)
  | .cnt e => .ok (.cnt e)
  | .fresh d => .ok (.fresh d)
theorem sq_to {K : PySem.W.Frag} {U : Option Addr} {G0 H0 G G' : Hp} {E : Ends} (s : Same G G') : ∀ (b : Nat) (fl : Fl), SQ K C U G0 H0 G E b fl → SQ K C U G0 H0 G' E b fl := fun b fl h => by
  cases fl with
  | next env => exact fun σ' G2 H2 S s2 => h σ' G2 H2 S (s.trans s2)
  | ret d => exact h
  | fresh d => exact h
  | brk env => exact fun σ' G2 H2 S s2 => h σ' G2 H2 S (s.trans s2)
  | cnt env => exact fun σ' G2 H2 S s2 => h σ' G2 H2 S (s.trans s2)
theorem vs_one {st : Stmt} {den : En → M Fl} (h : VS X C st den) : VSs X C [st] den := pss_one h
theorem vs_nil : VSs X C [] (fun env => .ok (.next env)) := PSs.of pss_nil fun D σ H ⟨U, env, G0, H0, G, b, S, w⟩ => w σ G H S fun _ _ h => h
theorem vs_cons {st : Stmt} {rest : List Stmt} {d1 d2 : En → M Fl} (h1 : VS X C st d1) (h2 : VSs X C rest d2) : VSs X C (st :: rest) (seqS d1 d2) :=
  PSs.of (pss_cons h1 h2) fun E σ H ⟨U, env, G0, H0, G, b, S, w⟩ => by
    refine ⟨U, env, G0, H0, G, b, S, wp_mono (wp_bind.mp w) fun b1 fl w1 => ?_⟩
    cases fl with
    | next env1 => exact fun σ' G' H' S' s' => ⟨U, env1, G0, H0, G', b1, S', wp_mono w1 (sq_to s')⟩
    | ret d => exact w1
    | fresh d => exact w1
    | brk e => exact w1
    | cnt e => exact w1
abbrev setS (i : Nat) (de : En → M D) : En → M Fl := fun env => de env >>= fun d => .ok (.next (env.set i (.fr d)))
abbrev ownS (i : Nat) (de : En → M D) : En → M Fl := fun env => de env >>= fun d => .ok (.next (env.set i (.ow d)))
section
variable {i : Nat} {x : Str} {e : Expr} {de : En → M D} {pos pos' : Pos}
theorem vs_set (he : VE X C e de) (hN : X.N.Nodup) (hi : X.N[i]? = some x := by rfl) (hx : Loc X.env.scope x := by first | exact Or.inl rfl | exact Or.inr rfl) (hs : swapsWith e (some (.Name x pos')) pos.line X.env = pure false := by rfl)
    (hf : X.fn x = true ∨ X.env.scope.names.lookup x = some .local := by first | exact .inl rfl | exact .inr rfl | assumption) : VS X C (.Assign [.Name x pos'] e pos) (setS i de) :=
  PS.of (ps_set (i := i) hN hi hx he hs hf) fun E σ H ⟨U, env, G0, H0, G, b, S, w⟩ =>
    ⟨U, env, G0, H0, G, b, S, wp_mono (wp_bind.mp w) fun b1 d1 w1 v1 G1 H1 e1 u1 r1 => w1 _ G1 H1 ⟨(S.st.to e1).set i r1, u1⟩ e1.grow⟩
theorem vs_own (he : VF X C e de) (hN : X.N.Nodup) (hi : X.N[i]? = some x := by rfl) (hx : Loc X.env.scope x := by first | exact Or.inl rfl | exact Or.inr rfl) (hs : swapsWith e (some (.Name x pos')) pos.line X.env = pure false := by rfl)
    (hf : X.fn x = true ∨ X.env.scope.names.lookup x = some .local := by first | exact .inl rfl | exact .inr rfl | assumption) : VS X C (.Assign [.Name x pos'] e pos) (ownS i de) :=
  PS.of (ps_set (i := i) hN hi hx he hs hf) fun E σ H ⟨U, env, G0, H0, G, b, S, w⟩ => by
    refine ⟨U, env, G0, H0, G, b, S, wp_mono (wp_bind.mp w) fun b1 d1 w1 p o G1 H1 e1 u1 hp g h r => w1 _ G1 H1 ⟨(S.st.to e1).own i h g r ?_ (S.un.ne hp) fun j d' hj h1 h2 => ?_, u1⟩ e1.grow⟩
    · cases z : H0 p with
      | none => rfl
      | some o => exact absurd hp (S.st.ext.live p (by rw [z]; simp))
    · obtain ⟨q, o2, hq, h3, _⟩ := S.st.owned h1
      rw [hq] at h2
      cases h2
      rw [hp] at h3
      cases h3
theorem vs_ret (he : VE X C e de) : VS X C (.Return (some e) pos) (fun env => de env >>= fun d => .ok (.ret d)) :=
  PS.of (ps_ret he) fun E σ H ⟨U, env, G0, H0, G, b, S, w⟩ => ⟨U, env, G0, H0, G, b, S, wp_mono (wp_bind.mp w) fun b1 d1 w1 v1 G1 H1 e1 u1 r1 => w1 v1 G1 H1 (S.st.ext.trans e1) u1 r1⟩
theorem vs_retF (he : VF X C e de) : VS X C (.Return (some e) pos) (fun env => de env >>= fun d => .ok (.fresh d)) :=
  PS.of (ps_ret he) fun E σ H ⟨U, env, G0, H0, G, b, S, w⟩ => ⟨U, env, G0, H0, G, b, S, wp_mono (wp_bind.mp w) fun b1 d1 w1 p o G1 H1 e1 u1 hp g h r => w1 p o G1 H1 (S.st.ext.trans e1) u1 (by
    cases z : H0 p with
    | none => rfl
    | some o => exact absurd hp (S.st.ext.live p (by rw [z]; simp))) g h r⟩
theorem vs_expr (he : VE X C e de) (hs : swapsWith e none pos.line X.env = pure false := by rfl) : VS X C (.Expr e pos) (fun env => de env >>= fun _ => .ok (.next env)) :=
  PS.of (ps_expr he hs) fun E σ H ⟨U, env, G0, H0, G, b, S, w⟩ => ⟨U, env, G0, H0, G, b, S, wp_mono (wp_bind.mp w) fun b1 d1 w1 v1 G1 H1 e1 u1 r1 => w1 _ G1 H1 (S.to e1 u1) e1.grow⟩
theorem vs_pass : VS X C (.Pass pos) (fun env => .ok (.next env)) := PS.of ps_pass fun D σ H ⟨U, env, G0, H0, G, b, S, w⟩ => w σ G H S fun _ _ h => h
theorem vs_break : VS X C (.Break pos) (fun env => .ok (.brk env)) := PS.of ps_break fun D σ H ⟨U, env, G0, H0, G, b, S, w⟩ => w σ G H S fun _ _ h => h
theorem vs_continue : VS X C (.Continue pos) (fun env => .ok (.cnt env)) := PS.of ps_continue fun D σ H ⟨U, env, G0, H0, G, b, S, w⟩ => w σ G H S fun _ _ h => h
abbrev ifS (dc : En → M Bool) (da db : En → M Fl) : En → M Fl := fun env => dc env >>= fun c => if c = true then da env else db env
theorem vs_if {c : Expr} {a b : List Stmt} {dc : En → M Bool} {da db : En → M Fl} (hc : VT X C c dc) (ha : VSs X C a da) (hb : VSs X C b db) : VS X C (.If c a b pos) (ifS dc da db) :=
  PS.of (ps_if hc ha hb) fun E σ H ⟨U, env, G0, H0, G, b, S, w⟩ => by
    refine ⟨U, env, G0, H0, G, b, S, wp_mono (wp_bind.mp w) fun b1 c w1 G1 H1 e1 u1 => ?_⟩
    cases c with
    | true => exact iteT ⟨U, env, G0, H0, G1, b1, S.to e1 u1, wp_mono w1 (sq_to e1.grow)⟩
    | false => exact iteF ⟨U, env, G0, H0, G1, b1, S.to e1 u1, wp_mono w1 (sq_to e1.grow)⟩
/-- an own object is told ahead of a statement -/
def frz (i : Nat) (env : En) : En := match env[i]? with
  | some (.ow d) => env.set i (.fr d)
  | _ => env
theorem frz_st {K : PySem.W.Frag} {U : Option Addr} {G0 H0 : Hp} {env : En} {σ : L2.St} {G H : Hp} {b : Nat} (S : Here K C U G0 H0 env σ G H b) (i : Nat) : ∃ G', Same G G' ∧ Here K C U G0 H0 (frz i env) σ G' H b := by
  unfold frz
  split
  · rename_i d e
    obtain ⟨G', s, _, S', _⟩ := S.st.freeze e
    exact ⟨G', s, S', S.un⟩
  · exact ⟨G, fun _ _ h => h, S⟩
theorem vs_frz {st : Stmt} {den : En → M Fl} (i : Nat) (h : VS X C st den) : VS X C st (fun env => den (frz i env)) :=
  PS.of h fun E σ H ⟨U, env, G0, H0, G, b, S, w⟩ => by
    obtain ⟨G', s, S'⟩ := frz_st S i
    exact ⟨U, frz i env, G0, H0, G', b, S', wp_mono w (sq_to s)⟩
end

/-! ### targets -/
abbrev setG (i : Nat) : D → En → M En := fun d env => .ok (env.set i (.fr d))
theorem vg_name (i : Nat) {x : Str} {pos : Pos} (hN : X.N.Nodup) (hi : X.N[i]? = some x := by rfl) (hx : Loc X.env.scope x := by first | exact Or.inl rfl | exact Or.inr rfl) (hf : X.fn x = true ∨ X.env.scope.names.lookup x = some .local := by first | exact .inl rfl | exact .inr rfl | assumption) :
    VG X C (.Name x pos) [i] (setG i) := PG.of (pg_name (i := i) hN hi hx hf) fun v σ H Q ⟨U, env, G0, H0, G, b, d, S, r, w⟩ => by
  refine w _ G H ⟨S.st.set i r, S.un⟩ (Ext.refl S.sub) (by simp) fun j hj => ?_
  have ne : j ≠ i := fun z => hj (by rw [z]; exact List.mem_singleton.mpr rfl)
  rw [List.getElem?_set_ne (Ne.symm ne)]
abbrev consG (g : D → En → M En) (gs : List D → En → M En) : List D → En → M En := fun ds env => match ds with
  | d :: ds => g d env >>= gs ds
  | [] => .bad
def nilG : List D → En → M En := fun ds env => match ds with
  | [] => .ok env
  | _ => .bad
theorem vgs_nil : VGs X C [] [] nilG := PGs.of pgs_nil fun vs σ H Q ⟨U, env, G0, H0, G, b, ds, S, r, w⟩ => by
  cases ds with
  | nil => cases r; exact ⟨rfl, w _ G H S (Ext.refl S.sub) rfl fun _ _ => rfl⟩
  | cons d ds => exact w.elim
theorem vgs_cons {e : Expr} {es : List Expr} {t u : List Nat} {g : D → En → M En} {gs : List D → En → M En} (h1 : VG X C e t g) (h2 : VGs X C es u gs) (hs : (assignEach (e :: es) X.env).map (·.2) = assign e X.env :: (assignEach es X.env).map (·.2) := by rfl) :
    VGs X C (e :: es) (t ++ u) (consG g gs) := PGs.of (pgs_cons h1 h2 hs) fun vs σ H Q ⟨U, env, G0, H0, G, b, ds, S, r, w⟩ => by
  cases r with
  | nil => exact w.elim
  | @cons v1 d1 vr dr r1 rr =>
    refine ⟨v1, vr, rfl, U, env, G0, H0, G, b, d1, S, r1, wp_mono (wp_bind.mp w) fun b1 env1 w1 σ1 G1 H1 S1 e1 l1 k1 => ?_⟩
    refine ⟨U, env1, G0, H0, G1, b1, dr, S1, rr.mono e1.grow, wp_mono w1 fun b2 env2 w2 σ2 G2 H2 S2 e2 l2 k2 => ?_⟩
    exact w2 σ2 G2 H2 S2 (e1.trans e2) (l2.trans l1) fun i hi => (k2 i fun z => hi (List.mem_append_right _ z)).trans (k1 i fun z => hi (List.mem_append_left _ z))
def items : D → M (List D)
  | .lst ds => .ok ds
  | .tup ds => .ok ds
  | _ => .bad
abbrev seqG (n : Nat) (gs : List D → En → M En) : D → En → M En := fun d env => items d >>= fun ds => if ds.length = n then gs ds env else .bad
theorem sq_of {K : PySem.W.Frag} {U : Option Addr} {G H : Hp} {v : V} {d : D} {b : Nat} {P : Nat → List D → Prop} (s : Sub G H) (r : Rep K C U G v d) (w : wp (items d) b P) : ∃ a vs ds, v = .ref a ∧ Sx.Sq K H a vs ∧ Reps K C U G vs ds ∧ P b ds ∧ (d = .lst ds ∨ d = .tup ds) := by
  cases r with
  | lst h r => exact ⟨_, _, _, rfl, .inl (sq_l s h), r, w, .inl rfl⟩
  | tup h r => exact ⟨_, _, _, rfl, .inr (sq_t s h), r, w, .inr rfl⟩
  | _ => exact w.elim
theorem vg_seq {es : List Expr} {k n : Nat} {ts : List Nat} {gs : List D → En → M En} {pos : Pos} (hc : X.calm = true) (h : VGs X C es ts gs) (hn : (assignEach es X.env).length = n := by rfl) (hst : (assignEach es X.env).findIdx? (·.1) = none := by rfl) :
    VG X C (.Tuple es k pos) ts (seqG n gs) := PG.of (Sx.pg_sq (n := n) hc h hn hst) fun v σ H Q ⟨U, env, G0, H0, G, b, d, S, r, w⟩ => by
  obtain ⟨a, vs, ds, rfl, sq, rr, w1, _⟩ := sq_of S.sub r (wp_bind.mp w)
  by_cases hl : ds.length = n
  · rw [if_pos hl] at w1
    have fin : tGts X.K C ts gs vs σ H Q := ⟨U, env, G0, H0, G, b, ds, S, rr, w1⟩
    rcases sq with q | q
    · exact .inr ⟨a, vs, rfl, q, by rw [rr.length]; exact hl, fin⟩
    · exact .inl ⟨a, vs, rfl, q, by rw [rr.length]; exact hl, fin⟩
  · rw [if_neg hl] at w1; exact w1.elim
/-- target = value -/
theorem vs_asg {tg e : Expr} {ts : List Nat} {g : D → En → M En} {de : En → M D} {pos : Pos} (he : VE X C e de) (hg : VG X C tg ts g) (hs : swapsWithSole [tg] e pos.line X.env = pure false := by rfl) (hw : swappedStores [tg] e X.env = pure none := by rfl)
    (h1 : (assignEach [tg] X.env).map (·.2) = [assign tg X.env] := by rfl) : VS X C (.Assign [tg] e pos) (fun env => de env >>= fun d => g d env >>= fun env' => .ok (.next env')) :=
  PS.of (ps_asg he hg hs hw h1) fun E σ H ⟨U, env, G0, H0, G, b, S, w⟩ => by
    refine ⟨U, env, G0, H0, G, b, S, wp_mono (wp_bind.mp w) fun b1 d1 w1 v1 G1 H1 e1 u1 r1 => ?_⟩
    exact ⟨U, env, G0, H0, G1, b1, d1, S.to e1 u1, r1, wp_mono (wp_bind.mp w1) fun b2 env' w2 σ' G' H' S' e' _ _ => w2 σ' G' H' S' (e1.grow.trans e'.grow)⟩
end
end Vw

/-! SxDc -/
/-! y = {k: v for ..} on one row, y a name of the function. -/
namespace Sx
open PySem PySem.Spec PyProof.Rows L2
theorem swD {kx vx : Expr} {gs : List Comprehension} {scope : Scope} {pos py : Pos} {y : Str} {l : Nat} {env : Env} (hk : env.scope.kind = .function) (hy : env.scope.names.lookup y = some .local) (hl : (py.line == pos.line) = true)
    (ha : (scope.names.any fun (n, k) => n == y && (k == .local || k == .cell)) = false) : swapsWith (.DictComp kx vx gs scope pos) (some (.Name y py)) l env = pure true := by
  have k1 : env.kindOf y = some .local := hy
  have k2 : env.blockKind = .function := by unfold Env.blockKind; rw [hk]; rfl
  unfold swapsWith; simp only [k2, k1, ha, Expr.pos, hl]; rfl
theorem ps_setDc {X : Cx} {i : Nat} {y : Str} {py : Pos} {kx vx tg iter : Expr} {ifs : List Expr} {scope : Scope} {own : List (Str × Nat)} {pos spos : Pos} {wi : TI} {g : TG} {tt : TT} {tk tv : TE}
    (hc : X.calm = true) (hN : X.N.Nodup) (hy : X.N[i]? = some y) (hyl : X.env.scope.names.lookup y = some .local) (hsw : swapsWith (.DictComp kx vx [⟨tg, iter, ifs, 0⟩] scope pos) (some (.Name y py)) spos.line X.env = pure true)
    (hi : PI X tg iter wi) (ok : BlkOk X.N X.env.scope scope own) (hg : ∀ (s : Shared) (H : Hp) (C : Addr) (cl : List (Str × Addr)) (fp : List Addr), PG (X.blk s H scope (compEnvC scope cl C X.env) fp) tg g)
    (ht : ∀ (s : Shared) (H : Hp) (C : Addr) (cl : List (Str × Addr)) (fp : List Addr), PTs (X.blk s H scope (compEnvC scope cl C X.env) fp) ifs tt) (hk : ∀ (s : Shared) (H : Hp) (C : Addr) (cl : List (Str × Addr)) (fp : List Addr), PE (X.blk s H scope (compEnvC scope cl C X.env) fp) kx tk)
    (he : ∀ (s : Shared) (H : Hp) (C : Addr) (cl : List (Str × Addr)) (fp : List Addr), PE (X.blk s H scope (compEnvC scope cl C X.env) fp) vx tv) (hs : ∀ x, foldedSetIterable iter X.env x = pure x := by intro _; rfl) :
    PS X (.Assign [.Name y py] (.DictComp kx vx [⟨tg, iter, ifs, 0⟩] scope pos) spos) (tAsg (tDc wi g tt tk tv (own.map (·.2))) (gName i)) := by
  refine ⟨fun pins s σ H D I h => ?_⟩
  rw [exec_Assign_Name_used _ _ _ _ hsw]
  refine wpAny_bind (wpAny_standAt (wpAny_bind ?_))
  show wpAny _ X.A (do let _ ← comprehension (.DictComp kx vx [⟨tg, iter, ifs, 0⟩] scope pos) scope X.env (firstIterPos [⟨tg, iter, ifs, 0⟩] pos) newDict false (eval iter X.env) (some (assign (.Name y py) X.env))) _ _ s
  have h' : tDc wi g tt tk tv (own.map (·.2)) σ H (fun x H1 => gName i x σ H1 D.nx) := h
  refine wpAny_bind (thn (dc_core (Qf := fun _ s' => SP X pins D .next s') hc hN I hi ok hg ht hk he hs h' fun L C s' m H' I' q hn f => ?_) fun _ s' hq => wpAny_pure (wpAny_pure hq))
  show wpAny _ _ (assign (.Name y py) X.env (.ref L)) _ _ _
  refine wpAny_assign_Name (store_ok2 (v := V.ref L) I' hN hy (.inl hyl) rfl (fun s2 I2 ⟨a, sb, ha⟩ => ?_) (.inr hyl))
  obtain ⟨f0, f1, f2, f3, f4, f5⟩ := f
  have ne : C ≠ a := ha.elim (fun z => by rw [z]; exact f1) fun z e => f4 y a z e.symm
  exact ⟨m, hn.sameBut sb ne, fun h3 sb3 => ⟨_, H', I2.turned (t' := s2.toks) (fun b o hb e => (sb3.2 b hb).trans e) f0 f1 f3 f4 f5, q⟩⟩
end Sx

/-! VwC -/
/-! Loops, comprehensions, bodies of defs. -/
namespace Vw
open PySem PySem.Spec PyProof.Rows L2
def lim : Nat := 100000
theorem lim_line : lim < sizeLine := by decide
def loopM (f : D → En → M Fl) : List D → En → M Fl
  | [], env => .ok (.next env)
  | d :: ds, env => f d env >>= fun fl => match fl with
    | .next e => loopM f ds e
    | .cnt e => loopM f ds e
    | .brk e => .ok (.next e)
    | .ret d => .ok (.ret d)
    | .fresh d => .ok (.fresh d)
abbrev forS (di : En → M (List D)) (g : D → En → M En) (db : En → M Fl) : En → M Fl := fun env => di env >>= fun ds => loopM (fun d e => g d e >>= db) ds env
section
variable {X : Cx} {C : Nat → Addr}
theorem vs_for {tg iter : Expr} {body : List Stmt} {ts : List Nat} {di : En → M (List D)} {g : D → En → M En} {db : En → M Fl} {pos : Pos} (hi : VI X C tg iter di) (hg : VG X C tg ts g) (hb : VSs X C body db)
    (hp : PassesOwn (model X.prog X.w) X.A X.env X.xe := by exact PassesOwn.never) (hc : X.calm = true := by rfl) (hs : ∀ x, foldedSetIterable iter X.env x = pure x := by intro _; rfl) : VS X C (.For tg iter body [] pos) (forS di g db) :=
  PS.of (ps_for hp hc hi hg hb hs) fun E σ H ⟨U, env, G0, H0, G, b, S, w⟩ => by
    refine ⟨U, env, G0, H0, G, b, S, wp_mono (wp_bind.mp w) fun b1 ds w1 J G1 H1 e1 u1 wk => ?_⟩
    refine ⟨fun i m σ' H' => m = ds.length - i ∧ i ≤ ds.length ∧ ∃ env' G' b', Here X.K C U G0 H0 env' σ' G' H' b' ∧ Same G1 G' ∧ wp (loopM (fun d e => g d e >>= db) (ds.drop i) env') b' (SQ X.K C U G0 H0 G1 E),
      ⟨ds.length, rfl, Nat.zero_le _, env, G1, b1, S.to e1 u1, fun _ _ h => h, wp_mono w1 (sq_to e1.grow)⟩, ?_⟩
    rintro i m σ' H' ⟨rfl, hi, env', G', b', S', s', w'⟩
    rcases Nat.lt_or_ge i ds.length with lt | ge
    · have hd : ds[i]? = some ds[i] := List.getElem?_eq_getElem lt
      rw [List.drop_eq_getElem_cons lt] at w'
      refine .inr ⟨wk.go i _ G' H' s' S'.sub hd, fun σ2 H2 => ∃ env2 G2 b2, Here X.K C U G0 H0 env2 σ2 G2 H2 b2 ∧ Same G1 G2 ∧ wp (loopM (fun d e => g d e >>= db) (ds.drop (i + 1)) env2) b2 (SQ X.K C U G0 H0 G1 E),
        fun σ2 H2 h2 => ⟨ds.length - (i + 1), by omega, rfl, lt, h2⟩, fun x H2 y => ?_⟩
      obtain ⟨G2, e2, u2, r2⟩ := wk.yld i _ G' H' x H2 b' s' S'.sub hd S'.un y
      refine ⟨U, env', G0, H0, G2, b', _, S'.to e2 u2, r2, wp_mono (wp_bind.mp (wp_bind.mp w')) fun b3 env3 w3 σ3 G3 H3 S3 e3 _ _ => ?_⟩
      have s3 : Same G1 G3 := fun a o h => e3.grow _ _ (e2.grow _ _ (s' _ _ h))
      refine ⟨U, env3, G0, H0, G3, b3, S3, wp_mono w3 fun b4 fl w4 => ?_⟩
      cases fl with
      | next env4 => exact fun σ4 G4 H4 S4 s4 => ⟨env4, G4, b4, S4, fun a o h => s4 _ _ (s3 _ _ h), w4⟩
      | cnt env4 => exact fun σ4 G4 H4 S4 s4 => ⟨env4, G4, b4, S4, fun a o h => s4 _ _ (s3 _ _ h), w4⟩
      | brk env4 => exact fun σ4 G4 H4 S4 s4 => w4 σ4 G4 H4 S4 fun a o h => s4 _ _ (s3 _ _ h)
      | ret d => exact w4
      | fresh d => exact w4
    · have e : i = ds.length := Nat.le_antisymm hi ge
      subst e
      rw [List.drop_length] at w'
      exact .inl ⟨wk.stop G' H' s' S'.sub, w' σ' G' H' S' s'⟩

/-! ### comprehensions -/
theorem wipe_get (σ : L2.St) : ∀ (vs : List Nat) (i : Nat), (wipe σ vs)[i]? = if i ∈ vs then (if i < σ.length then some none else none) else σ[i]?
  | [], i => by simp [wipe]
  | v :: vs, i => by
    unfold wipe
    rw [List.getElem?_set, wipe_length]
    by_cases e : v = i
    · subst e
      rw [if_pos rfl, if_pos (List.mem_cons_self)]
    · rw [if_neg e, wipe_get σ vs i]
      have ne : ¬ i = v := fun z => e z.symm
      simp [ne]
theorem wipe_eq {σ σ2 : L2.St} {vs : List Nat} (l : σ2.length = (wipe σ vs).length) (h : ∀ i, i ∉ vs → σ2[i]? = (wipe σ vs)[i]?) : wipe σ2 vs = wipe σ vs := by
  rw [wipe_length] at l
  apply List.ext_getElem?
  intro i
  rw [wipe_get, wipe_get, l]
  by_cases m : i ∈ vs
  · rw [if_pos m, if_pos m]
  · rw [if_neg m, if_neg m, h i m, wipe_get, if_neg m]
def optM {α β : Type} (f : α → M (Option β)) : List α → M (List β)
  | [] => .ok []
  | d :: ds => f d >>= fun o => optM f ds >>= fun r => .ok (match o with
    | some x => x :: r
    | none => r)
abbrev turnV (vs : List Nat) (g : D → En → M En) (dt : En → M Bool) (de : En → M D) (env : En) (d : D) : M (Option D) := g d (wipeE env vs) >>= fun e => dt e >>= fun c => if c = true then de e >>= fun y => .ok (some y) else .ok none
def guardL {α : Type} (ds : List α) : M Unit := if ds.length ≤ lim then .ok () else .bad
abbrev compV (vs : List Nat) (di : En → M (List D)) (g : D → En → M En) (dt : En → M Bool) (de : En → M D) : En → M D := fun env => di env >>= fun ds => guardL ds >>= fun _ => optM (turnV vs g dt de env) ds >>= fun r => .ok (.lst r)
theorem Ext.mut {U : Option Addr} {G H G' H' : Hp} {p : Addr} {o : HO} (e : Ext U G H G' H') (hp : H p = none) (g : G' p = none) : Ext U G H G' (upd H' p o) := by
  refine ⟨fun a u q n => ?_, fun a q => ?_, e.grow, ⟨fun a u q => ?_, e.sub.sm⟩, e.hid⟩
  · rw [upd_ne fun z => by rw [z, hp] at q; cases q]; exact e.keep a u q n
  · by_cases z : a = p
    · rw [z, upd_same]; simp
    · rw [upd_ne z]; exact e.live a q
  · have z : a ≠ p := fun z => by rw [z, g] at q; cases q
    exact (e.sub.to a u q).same fun x y => by rw [upd_ne z]; exact y
theorem UrnSt.mut {U : Option Addr} {H : Hp} {b : Nat} {p : Addr} {o : HO} (u : UrnSt U H b) (n : U ≠ some p) : UrnSt U (upd H p o) b := fun x e => by
  obtain ⟨p', q, r, h, t⟩ := u x e
  exact ⟨p', q, r, by rw [upd_ne fun z => n (by rw [e, z])]; exact h, t⟩
theorem Ext.back {U : Option Addr} {G H G' H' : Hp} {p : Addr} (e : Ext U G H G' H') (h : H' p = none) : H p = none := by
  cases z : H p with
  | none => rfl
  | some o => exact absurd h (e.live p (by rw [z]; simp))
/-- a test of a comprehension: none, one -/
abbrev VTs (X : Cx) (C : Nat → Addr) (ifs : List Expr) (den : En → M Bool) : Prop := PTs X ifs (tB X.K C den)
theorem PTs.of {X : Cx} {e : List Expr} {t t' : TT} (h : PTs X e t) (i : ∀ σ H Q, t' σ H Q → t σ H Q) : PTs X e t' := ⟨fun pins s σ H Q I w => h.run pins s σ H Q I (i _ _ _ w)⟩
theorem vts_nil : VTs X C [] (fun _ => .ok true) := PTs.of pts_nil fun σ H Q ⟨U, env, G0, H0, G, b, S, w⟩ => w _ _ (Ext.refl S.sub) S.un
theorem vts_one {c : Expr} {den : En → M Bool} (h : VT X C c den) : VTs X C [c] den := pts_one h
theorem lc_v {K : PySem.W.Frag} {ts vs : List Nat} {di : En → M (List D)} {g : D → En → M En} {dt : En → M Bool} {de : En → M D} (hts : ∀ i ∈ ts, i ∈ vs) {σ : L2.St} {H : Hp} {Q : VK} (h : tF K C (compV vs di g dt de) σ H Q) :
    tLc (tWk K C di) (tGt K C ts g) (tB K C dt) (tV K C de) vs σ H Q := by
  obtain ⟨U, env, G0, H0, G, b, S, w⟩ := h
  refine ⟨U, env, G0, H0, G, b, S, wp_mono (wp_bind.mp w) fun b1 ds w1 J G1 H1 e1 u1 wk A hA => ?_⟩
  have w1 := wp_bind.mp w1
  unfold guardL at w1
  by_cases hl : ds.length ≤ lim
  · rw [if_pos hl] at w1
    have w1 := wp_bind.mp w1
    have nU : U ≠ some A := u1.ne hA
    have S1 := (S.to e1 u1)
    refine ⟨fun i m H' => m = ds.length - i ∧ i ≤ ds.length ∧ ∃ G' b' acc accd, Ext U G1 H1 G' H' ∧ G' A = none ∧ H' A = some (.lst acc) ∧ Reps K C U G' acc accd ∧ acc.length ≤ i ∧ UrnSt U H' b' ∧ wp (optM (turnV vs g dt de env) (ds.drop i)) b' fun b'' r => PF K C U G H Q b'' (.lst (accd ++ r)),
      ⟨ds.length, rfl, Nat.zero_le _, G1, b1, [], [], (Ext.refl S1.sub).mut hA (S1.sub.ne hA), S1.sub.ne hA, upd_same, .nil, Nat.le_refl _, u1.mut nU, w1⟩, ?_⟩
    rintro i m H' ⟨rfl, hi, G', b', acc, accd, e', gA, hA', ra, la, u', w'⟩
    rcases Nat.lt_or_ge i ds.length with lt | ge
    · have hd : ds[i]? = some ds[i] := List.getElem?_eq_getElem lt
      rw [List.drop_eq_getElem_cons lt] at w'
      refine .inr ⟨wk.go i _ G' H' e'.grow e'.sub hd, fun H2 => ∃ G2 b2 acc accd, Ext U G1 H1 G2 H2 ∧ G2 A = none ∧ H2 A = some (.lst acc) ∧ Reps K C U G2 acc accd ∧ acc.length ≤ i + 1 ∧ UrnSt U H2 b2 ∧ wp (optM (turnV vs g dt de env) (ds.drop (i + 1))) b2 fun b'' r => PF K C U G H Q b'' (.lst (accd ++ r)),
        fun H2 h2 => ⟨ds.length - (i + 1), by omega, rfl, lt, h2⟩, fun x H2 y => ?_⟩
      obtain ⟨G2, e2, u2, r2⟩ := wk.yld i _ G' H' x H2 b' e'.grow e'.sub hd u' y
      have S2 : Here K C U G0 H0 (wipeE env vs) (wipe σ vs) G2 H2 b' := ⟨(S1.st.wipe vs).to (e'.trans e2), u2⟩
      refine ⟨U, _, G0, H0, G2, b', _, S2, r2, wp_mono (wp_bind.mp (wp_bind.mp w')) fun b3 env3 w3 σ3 G3 H3 S3 e3 l3 k3 => ?_⟩
      refine ⟨wipe_eq l3 fun j hj => k3 j fun z => hj (hts j z), U, env3, G0, H0, G3, b3, S3, wp_mono (wp_bind.mp w3) fun b4 c w4 G4 H4 e4 u4 => ?_⟩
      have h4 : H4 A = some (.lst acc) := e4.keep _ _ (e3.keep _ _ (e2.keep _ _ hA' nU) nU) nU
      have g4 : G4 A = none := e4.hid _ (e3.hid _ (e2.hid _ gA (by rw [hA']; simp)) (by rw [e2.keep _ _ hA' nU]; simp)) (by rw [e3.keep _ _ (e2.keep _ _ hA' nU) nU]; simp)
      have x4 := e'.trans (e2.trans (e3.trans e4))
      have ra4 := ra.mono fun a o q => e4.grow _ _ (e3.grow _ _ (e2.grow _ _ q))
      cases c with
      | false =>
        have w5 := wp_bind.mp w4
        refine iteF ⟨G4, b4, acc, accd, x4, g4, h4, ra4, Nat.le_succ_of_le la, u4, wp_mono w5 fun b5 r w6 => w6⟩
      | true =>
        refine iteT ⟨U, env3, G0, H0, G4, b4, S3.to e4 u4, wp_mono (wp_bind.mp w4) fun b5 d5 w5 v5 G5 H5 e5 u5 r5 => ?_⟩
        have h5 : H5 A = some (.lst acc) := e5.keep _ _ h4 nU
        have g5 : G5 A = none := e5.hid _ g4 (by rw [h4]; simp)
        refine ⟨acc, h5, Nat.lt_of_le_of_lt (Nat.le_trans la (Nat.le_trans (Nat.le_of_lt lt) hl)) lim_line, G5, b5, acc ++ [v5], accd ++ [d5], (x4.trans e5).mut hA g5, g5, upd_same, (ra4.mono e5.grow).snoc r5, by simp; exact la, u5.mut nU, ?_⟩
        refine wp_mono (wp_bind.mp w5) fun b6 r w6 => ?_
        have w7 : PF K C U G H Q b6 (.lst (accd ++ (d5 :: r))) := w6
        rw [List.append_assoc]
        exact w7
    · have e : i = ds.length := Nat.le_antisymm hi ge
      subst e
      rw [List.drop_length] at w'
      have w' : PF K C U G H Q b' (.lst (accd ++ [])) := w'
      rw [List.append_nil] at w'
      exact .inl ⟨wk.stop G' H' e'.grow e'.sub, w' A (.lst acc) G' H' (e1.trans e') u' (e1.back hA) gA hA' ra⟩
  · rw [if_neg hl] at w1; exact False.elim w1
section
variable {elt tg iter : Expr} {ifs : List Expr} {scope : Scope} {own : List (Str × Nat)} {pos : Pos} {ts : List Nat} {di : En → M (List D)} {g : D → En → M En} {dt : En → M Bool} {de : En → M D}
theorem vf_lc (hN : X.N.Nodup) (hi : VI X C tg iter di) (ok : BlkOk X.N X.env.scope scope own)
    (hg : ∀ (s : Shared) (H : Hp) (C' : Addr) (cl : List (Str × Addr)) (fp : List Addr), VG (X.blk s H scope (compEnvC scope cl C' X.env) fp) C tg ts g)
    (ht : ∀ (s : Shared) (H : Hp) (C' : Addr) (cl : List (Str × Addr)) (fp : List Addr), VTs (X.blk s H scope (compEnvC scope cl C' X.env) fp) C ifs dt)
    (he : ∀ (s : Shared) (H : Hp) (C' : Addr) (cl : List (Str × Addr)) (fp : List Addr), VE (X.blk s H scope (compEnvC scope cl C' X.env) fp) C elt de)
    (hts : ∀ i ∈ ts, i ∈ own.map (·.2) := by decide) (hc : X.calm = true := by rfl) (hs : ∀ x, foldedSetIterable iter X.env x = pure x := by intro _; rfl) :
    VF X C (.ListComp elt [⟨tg, iter, ifs, 0⟩] scope pos) (compV (own.map (·.2)) di g dt de) :=
  PE.of (pe_lc hc hN hi ok hg ht he hs) fun σ H Q h => lc_v hts h
/-- name = [..] on one row -/
theorem vs_ownLc {i : Nat} {y : Str} {py spos : Pos} (hN : X.N.Nodup) (hi : VI X C tg iter di) (ok : BlkOk X.N X.env.scope scope own)
    (hg : ∀ (s : Shared) (H : Hp) (C' : Addr) (cl : List (Str × Addr)) (fp : List Addr), VG (X.blk s H scope (compEnvC scope cl C' X.env) fp) C tg ts g)
    (ht : ∀ (s : Shared) (H : Hp) (C' : Addr) (cl : List (Str × Addr)) (fp : List Addr), VTs (X.blk s H scope (compEnvC scope cl C' X.env) fp) C ifs dt)
    (he : ∀ (s : Shared) (H : Hp) (C' : Addr) (cl : List (Str × Addr)) (fp : List Addr), VE (X.blk s H scope (compEnvC scope cl C' X.env) fp) C elt de)
    (hsw : swapsWith (.ListComp elt [⟨tg, iter, ifs, 0⟩] scope pos) (some (.Name y py)) spos.line X.env = pure true) (hy : X.N[i]? = some y := by rfl) (hyl : X.env.scope.names.lookup y = some .local := by rfl)
    (hts : ∀ i ∈ ts, i ∈ own.map (·.2) := by decide) (hc : X.calm = true := by rfl) (hs : ∀ x, foldedSetIterable iter X.env x = pure x := by intro _; rfl) :
    VS X C (.Assign [.Name y py] (.ListComp elt [⟨tg, iter, ifs, 0⟩] scope pos) spos) (ownS i (compV (own.map (·.2)) di g dt de)) :=
  PS.of (ps_setLc hc hN hy hyl hsw hi ok hg ht he hs) fun E σ H ⟨U, env, G0, H0, G, b, S, w⟩ => by
    refine lc_v hts ⟨U, env, G0, H0, G, b, S, wp_mono (wp_bind.mp w) fun b1 d1 w1 p o G1 H1 e1 u1 hp g h r => w1 _ G1 H1 ⟨(S.st.to e1).own i h g r ?_ (S.un.ne hp) fun j d' hj h1 h2 => ?_, u1⟩ e1.grow⟩
    · exact S.st.ext.back hp
    · obtain ⟨q, o2, hq, h3, _⟩ := S.st.owned h1
      rw [hq] at h2
      cases h2
      rw [hp] at h3
      cases h3
end

/-! ### dict comprehensions -/
def keyOf : D → M Key
  | .int i => .ok (.inl i)
  | .str x => .ok (.inr x)
  | _ => .bad
theorem key_of {K : PySem.W.Frag} {U : Option Addr} {G : Hp} {v : V} {d : D} {b : Nat} {P : Nat → Key → Prop} (r : Rep K C U G v d) (w : wp (keyOf d) b P) : ∃ k, v = kV k ∧ P b k := by
  cases r with
  | int i => exact ⟨.inl i, rfl, w⟩
  | str x => exact ⟨.inr x, rfl, w⟩
  | _ => exact w.elim
/-- pairs as keys and values -/
def putD (kds : List (Key × D)) (k : Key) (d : D) : List (Key × D) := if (kds.any fun q => decide (q.1 = k)) = true then kds.map fun q => if q.1 = k then (q.1, d) else q else kds ++ [(k, d)]
abbrev turnD (vs : List Nat) (g : D → En → M En) (dt : En → M Bool) (dk dv : En → M D) (env : En) (d : D) : M (Option (Key × D)) := g d (wipeE env vs) >>= fun e => dt e >>= fun c => if c = true then dk e >>= fun k => dv e >>= fun y => keyOf k >>= fun k => .ok (some (k, y)) else .ok none
def dicD (kds : List (Key × D)) : D := .dic (kds.map (·.1)) (kds.map (·.2))
abbrev compD (vs : List Nat) (di : En → M (List D)) (g : D → En → M En) (dt : En → M Bool) (dk dv : En → M D) : En → M D := fun env => di env >>= fun ds => guardL ds >>= fun _ => optM (turnD vs g dt dk dv env) ds >>= fun r => .ok (dicD (r.foldl (fun m q => putD m q.1 q.2) []))
/-- pairs of a dict -/
abbrev KReps (K : PySem.W.Frag) (C : Nat → Addr) (U : Option Addr) (G : Hp) (kvs : List (Key × V)) (kds : List (Key × D)) : Prop := Paired (fun (p : Key × V) (q : Key × D) => p.1 = q.1 ∧ Rep K C U G p.2 q.2) kvs kds
theorem KReps.mono {K : PySem.W.Frag} {U : Option Addr} {G G' : Hp} (s : Same G G') {kvs : List (Key × V)} {kds : List (Key × D)} (h : KReps K C U G kvs kds) : KReps K C U G' kvs kds := paired_mono (fun _ _ h => ⟨h.1, h.2.mono s⟩) h
theorem KReps.keys {K : PySem.W.Frag} {U : Option Addr} {G : Hp} : ∀ {kvs : List (Key × V)} {kds : List (Key × D)}, KReps K C U G kvs kds → kvs.map (·.1) = kds.map (·.1)
  | _, _, .nil => rfl
  | _, _, .cons h r => by rw [List.map_cons, List.map_cons, h.1, KReps.keys r]
theorem KReps.vals {K : PySem.W.Frag} {U : Option Addr} {G : Hp} : ∀ {kvs : List (Key × V)} {kds : List (Key × D)}, KReps K C U G kvs kds → Reps K C U G (kvs.map (·.2)) (kds.map (·.2))
  | _, _, .nil => .nil
  | _, _, .cons h r => .cons h.2 (KReps.vals r)
theorem KReps.append {K : PySem.W.Frag} {U : Option Addr} {G : Hp} : ∀ {kvs kws : List (Key × V)} {kds kes : List (Key × D)}, KReps K C U G kvs kds → KReps K C U G kws kes → KReps K C U G (kvs ++ kws) (kds ++ kes)
  | _, _, _, _, .nil, q => q
  | _, _, _, _, .cons h r, q => .cons h (KReps.append r q)
theorem KReps.any {K : PySem.W.Frag} {U : Option Addr} {G : Hp} {k : Key} : ∀ {kvs : List (Key × V)} {kds : List (Key × D)}, KReps K C U G kvs kds → (kvs.any fun q => decide (q.1 = k)) = kds.any fun q => decide (q.1 = k)
  | _, _, .nil => rfl
  | _, _, .cons h r => by rw [List.any_cons, List.any_cons, h.1, KReps.any r]
theorem KReps.put {K : PySem.W.Frag} {U : Option Addr} {G : Hp} {k : Key} {v : V} {d : D} {kvs : List (Key × V)} {kds : List (Key × D)} (h : KReps K C U G kvs kds) (r : Rep K C U G v d) : KReps K C U G (putK kvs k v) (putD kds k d) := by
  unfold putK putD
  rw [h.any]
  split
  · have : ∀ {kvs : List (Key × V)} {kds : List (Key × D)}, KReps K C U G kvs kds → KReps K C U G (kvs.map fun q => if q.1 = k then (q.1, v) else q) (kds.map fun q => if q.1 = k then (q.1, d) else q) := by
      intro kvs kds h
      induction h with
      | nil => exact .nil
      | cons h t ih =>
        refine .cons ?_ ih
        dsimp only
        rw [h.1]
        split
        · exact ⟨rfl, r⟩
        · exact ⟨h.1, h.2⟩
    exact this h
  · exact KReps.append h (.cons ⟨rfl, r⟩ .nil)
theorem put_len {kvs : List (Key × V)} {k : Key} {v : V} : (putK kvs k v).length ≤ kvs.length + 1 := by
  unfold putK
  split
  · rw [List.length_map]; omega
  · rw [List.length_append]; exact Nat.le_refl _
theorem KReps.hrep {K : PySem.W.Frag} {U : Option Addr} {G : Hp} {kvs : List (Key × V)} {kds : List (Key × D)} (h : KReps K C U G kvs kds) : HRep K C U G (.dK kvs) (dicD kds) := ⟨h.keys, h.vals⟩
theorem dc_v {K : PySem.W.Frag} {ts vs : List Nat} {di : En → M (List D)} {g : D → En → M En} {dt : En → M Bool} {dk dv : En → M D} (hts : ∀ i ∈ ts, i ∈ vs) {σ : L2.St} {H : Hp} {Q : VK} (h : tF K C (compD vs di g dt dk dv) σ H Q) :
    tDc (tWk K C di) (tGt K C ts g) (tB K C dt) (tV K C dk) (tV K C dv) vs σ H Q := by
  obtain ⟨U, env, G0, H0, G, b, S, w⟩ := h
  refine ⟨U, env, G0, H0, G, b, S, wp_mono (wp_bind.mp w) fun b1 ds w1 J G1 H1 e1 u1 wk A hA => ?_⟩
  have w1 := wp_bind.mp w1
  unfold guardL at w1
  by_cases hl : ds.length ≤ lim
  · rw [if_pos hl] at w1
    have w1 := wp_bind.mp w1
    have nU : U ≠ some A := u1.ne hA
    have S1 := (S.to e1 u1)
    let fin := fun (accd : List (Key × D)) (b'' : Nat) (r : List (Key × D)) => PF K C U G H Q b'' (dicD (r.foldl (fun m q => putD m q.1 q.2) accd))
    refine ⟨fun i m H' => m = ds.length - i ∧ i ≤ ds.length ∧ ∃ G' b' acc accd, Ext U G1 H1 G' H' ∧ G' A = none ∧ H' A = some (.dK acc) ∧ KReps K C U G' acc accd ∧ acc.length ≤ i ∧ UrnSt U H' b' ∧ wp (optM (turnD vs g dt dk dv env) (ds.drop i)) b' (fin accd),
      ⟨ds.length, rfl, Nat.zero_le _, G1, b1, [], [], (Ext.refl S1.sub).mut hA (S1.sub.ne hA), S1.sub.ne hA, upd_same, .nil, Nat.le_refl _, u1.mut nU, w1⟩, ?_⟩
    rintro i m H' ⟨rfl, hi, G', b', acc, accd, e', gA, hA', ra, la, u', w'⟩
    rcases Nat.lt_or_ge i ds.length with lt | ge
    · have hd : ds[i]? = some ds[i] := List.getElem?_eq_getElem lt
      rw [List.drop_eq_getElem_cons lt] at w'
      refine .inr ⟨wk.go i _ G' H' e'.grow e'.sub hd, fun H2 => ∃ G2 b2 acc accd, Ext U G1 H1 G2 H2 ∧ G2 A = none ∧ H2 A = some (.dK acc) ∧ KReps K C U G2 acc accd ∧ acc.length ≤ i + 1 ∧ UrnSt U H2 b2 ∧ wp (optM (turnD vs g dt dk dv env) (ds.drop (i + 1))) b2 (fin accd),
        fun H2 h2 => ⟨ds.length - (i + 1), by omega, rfl, lt, h2⟩, fun x H2 y => ?_⟩
      obtain ⟨G2, e2, u2, r2⟩ := wk.yld i _ G' H' x H2 b' e'.grow e'.sub hd u' y
      have S2 : Here K C U G0 H0 (wipeE env vs) (wipe σ vs) G2 H2 b' := ⟨(S1.st.wipe vs).to (e'.trans e2), u2⟩
      refine ⟨U, _, G0, H0, G2, b', _, S2, r2, wp_mono (wp_bind.mp (wp_bind.mp w')) fun b3 env3 w3 σ3 G3 H3 S3 e3 l3 k3 => ?_⟩
      refine ⟨wipe_eq l3 fun j hj => k3 j fun z => hj (hts j z), U, env3, G0, H0, G3, b3, S3, wp_mono (wp_bind.mp w3) fun b4 c w4 G4 H4 e4 u4 => ?_⟩
      have h4 : H4 A = some (.dK acc) := e4.keep _ _ (e3.keep _ _ (e2.keep _ _ hA' nU) nU) nU
      have g4 : G4 A = none := e4.hid _ (e3.hid _ (e2.hid _ gA (by rw [hA']; simp)) (by rw [e2.keep _ _ hA' nU]; simp)) (by rw [e3.keep _ _ (e2.keep _ _ hA' nU) nU]; simp)
      have x4 := e'.trans (e2.trans (e3.trans e4))
      have ra4 := ra.mono fun a o q => e4.grow _ _ (e3.grow _ _ (e2.grow _ _ q))
      cases c with
      | false =>
        have w5 := wp_bind.mp w4
        refine iteF ⟨G4, b4, acc, accd, x4, g4, h4, ra4, Nat.le_succ_of_le la, u4, wp_mono w5 fun b5 r w6 => w6⟩
      | true =>
        refine iteT ⟨U, env3, G0, H0, G4, b4, S3.to e4 u4, wp_mono (wp_bind.mp w4) fun b5 d5 w5 v5 G5 H5 e5 u5 r5 => ?_⟩
        refine ⟨U, env3, G0, H0, G5, b5, (S3.to e4 u4).to e5 u5, wp_mono (wp_bind.mp w5) fun b6 d6 w6 v6 G6 H6 e6 u6 r6 => ?_⟩
        obtain ⟨k, rfl, w7⟩ := key_of r5 (wp_bind.mp w6)
        have h5 : H6 A = some (.dK acc) := e6.keep _ _ (e5.keep _ _ h4 nU) nU
        have g5 : G6 A = none := e6.hid _ (e5.hid _ g4 (by rw [h4]; simp)) (by rw [e5.keep _ _ h4 nU]; simp)
        refine ⟨acc, k, rfl, h5, Nat.lt_of_le_of_lt (Nat.le_trans la (Nat.le_trans (Nat.le_of_lt lt) hl)) lim_line, G6, b6, putK acc k v6, putD accd k d6, (x4.trans (e5.trans e6)).mut hA g5, g5, upd_same, (ra4.mono fun a o q => e6.grow _ _ (e5.grow _ _ q)).put r6, Nat.le_trans put_len (Nat.succ_le_succ la), u6.mut nU, ?_⟩
        exact wp_mono (wp_bind.mp w7) fun b6 r w6 => w6
    · have e : i = ds.length := Nat.le_antisymm hi ge
      subst e
      rw [List.drop_length] at w'
      have w' : PF K C U G H Q b' (dicD accd) := w'
      exact .inl ⟨wk.stop G' H' e'.grow e'.sub, w' A (.dK acc) G' H' (e1.trans e') u' (e1.back hA) gA hA' ra.hrep⟩
  · rw [if_neg hl] at w1; exact False.elim w1
section
variable {kx vx tg iter : Expr} {ifs : List Expr} {scope : Scope} {own : List (Str × Nat)} {pos : Pos} {ts : List Nat} {di : En → M (List D)} {g : D → En → M En} {dt : En → M Bool} {dk dv : En → M D}
theorem vf_dc (hN : X.N.Nodup) (hi : VI X C tg iter di) (ok : BlkOk X.N X.env.scope scope own)
    (hg : ∀ (s : Shared) (H : Hp) (C' : Addr) (cl : List (Str × Addr)) (fp : List Addr), VG (X.blk s H scope (compEnvC scope cl C' X.env) fp) C tg ts g)
    (ht : ∀ (s : Shared) (H : Hp) (C' : Addr) (cl : List (Str × Addr)) (fp : List Addr), VTs (X.blk s H scope (compEnvC scope cl C' X.env) fp) C ifs dt)
    (hk : ∀ (s : Shared) (H : Hp) (C' : Addr) (cl : List (Str × Addr)) (fp : List Addr), VE (X.blk s H scope (compEnvC scope cl C' X.env) fp) C kx dk)
    (he : ∀ (s : Shared) (H : Hp) (C' : Addr) (cl : List (Str × Addr)) (fp : List Addr), VE (X.blk s H scope (compEnvC scope cl C' X.env) fp) C vx dv)
    (hts : ∀ i ∈ ts, i ∈ own.map (·.2) := by decide) (hc : X.calm = true := by rfl) (hs : ∀ x, foldedSetIterable iter X.env x = pure x := by intro _; rfl) :
    VF X C (.DictComp kx vx [⟨tg, iter, ifs, 0⟩] scope pos) (compD (own.map (·.2)) di g dt dk dv) :=
  PE.of (pe_dc hc hN hi ok hg ht hk he hs) fun σ H Q h => dc_v hts h
theorem vs_ownDc {i : Nat} {y : Str} {py spos : Pos} (hN : X.N.Nodup) (hi : VI X C tg iter di) (ok : BlkOk X.N X.env.scope scope own)
    (hg : ∀ (s : Shared) (H : Hp) (C' : Addr) (cl : List (Str × Addr)) (fp : List Addr), VG (X.blk s H scope (compEnvC scope cl C' X.env) fp) C tg ts g)
    (ht : ∀ (s : Shared) (H : Hp) (C' : Addr) (cl : List (Str × Addr)) (fp : List Addr), VTs (X.blk s H scope (compEnvC scope cl C' X.env) fp) C ifs dt)
    (hk : ∀ (s : Shared) (H : Hp) (C' : Addr) (cl : List (Str × Addr)) (fp : List Addr), VE (X.blk s H scope (compEnvC scope cl C' X.env) fp) C kx dk)
    (he : ∀ (s : Shared) (H : Hp) (C' : Addr) (cl : List (Str × Addr)) (fp : List Addr), VE (X.blk s H scope (compEnvC scope cl C' X.env) fp) C vx dv)
    (hsw : swapsWith (.DictComp kx vx [⟨tg, iter, ifs, 0⟩] scope pos) (some (.Name y py)) spos.line X.env = pure true) (hy : X.N[i]? = some y := by rfl) (hyl : X.env.scope.names.lookup y = some .local := by rfl)
    (hts : ∀ i ∈ ts, i ∈ own.map (·.2) := by decide) (hc : X.calm = true := by rfl) (hs : ∀ x, foldedSetIterable iter X.env x = pure x := by intro _; rfl) :
    VS X C (.Assign [.Name y py] (.DictComp kx vx [⟨tg, iter, ifs, 0⟩] scope pos) spos) (ownS i (compD (own.map (·.2)) di g dt dk dv)) :=
  PS.of (Sx.ps_setDc hc hN hy hyl hsw hi ok hg ht hk he hs) fun E σ H ⟨U, env, G0, H0, G, b, S, w⟩ => by
    refine dc_v hts ⟨U, env, G0, H0, G, b, S, wp_mono (wp_bind.mp w) fun b1 d1 w1 p o G1 H1 e1 u1 hp g h r => w1 _ G1 H1 ⟨(S.st.to e1).own i h g r ?_ (S.un.ne hp) fun j d' hj h1 h2 => ?_, u1⟩ e1.grow⟩
    · exact S.st.ext.back hp
    · obtain ⟨q, o2, hq, h3, _⟩ := S.st.owned h1
      rw [hq] at h2
      cases h2
      rw [hp] at h3
      cases h3
end
end

/-! ### a def -/
def runB (m : M Fl) : M D := m >>= fun fl => match fl with
  | .ret d => .ok d
  | .next _ => .ok .non
  | _ => .bad
/-- a def of n parameters and N names -/
def bodyD (N : Nat) (den : En → M Fl) (ds : List D) : M D := runB (den (ds.map Sl.fr ++ List.replicate (N - ds.length) .un))
theorem st_start {K : PySem.W.Frag} {C : Nat → Addr} {U : Option Addr} {G H : Hp} {N : List Str} {vs : List V} {ds : List D} (s : Sub G H) (gu : ∀ u, U = some u → G u = none ∧ H u ≠ none) (r : Reps K C U G vs ds) : St K C U G H (ds.map Sl.fr ++ List.replicate (N.length - ds.length) .un) (L2.start N vs) G H := by
  have h1 : ∀ {vs : List V} {ds : List D}, Reps K C U G vs ds → Paired (SltR K C U H G H) (ds.map Sl.fr) (vs.map some) := by
    intro vs ds r
    induction vs generalizing ds with
    | nil => cases r; exact .nil
    | cons v vs ih =>
      cases r with
      | cons h t => exact .cons (.fr h) (ih t)
  have h2 : ∀ n, Paired (SltR K C U H G H) (List.replicate n .un) (List.replicate n none) := by
    intro n
    induction n with
    | zero => exact .nil
    | succ n ih => exact .cons .un ih
  have h3 : ∀ {a c : En} {b d : L2.St}, Paired (SltR K C U H G H) a b → Paired (SltR K C U H G H) c d → Paired (SltR K C U H G H) (a ++ c) (b ++ d) := by
    intro a c b d p q
    induction p with
    | nil => exact q
    | cons h t ih => exact .cons h ih
  have noow : ∀ (i : Nat) (d : D), (ds.map Sl.fr ++ List.replicate (N.length - ds.length) Sl.un)[i]? ≠ some (.ow d) := by
    intro i d e
    have m := List.mem_of_getElem? e
    rcases List.mem_append.mp m with m | m
    · obtain ⟨_, _, z⟩ := List.mem_map.mp m
      cases z
    · have := (List.mem_replicate.mp m).2
      cases this
  refine ⟨Ext.refl s, ?_, fun i j d d' p e => absurd e (noow i d), gu⟩
  unfold L2.start
  rw [r.length]
  exact h3 (h1 r) (h2 _)
theorem fn_v {P : Program} {w : World} {K : PySem.W.Frag} {mg : Str → Option Value} {base : Heap} {C : Nat → Addr} {x qual : Str} {params : Arguments} {body : List Stmt} {scope : Scope} {dvs : List V} {kws : List (Str × V)} {f : Addr} {fd : FuncData} {N ps : List Str} {k : Nat} {den : En → M Fl}
    (F : FunD K x qual params body scope dvs kws f fd) (S : FnScope N ps scope)
    (hb : ∀ (cdv : Value) (A : Around) (outer : List Env) (s : Shared) (H : Hp) (E : XK), Room k (A.deeper (envOfC qual scope s.heap.objs.size f cdv)) → VSs (cxOf CX0 P w K mg base N qual scope f cdv A outer s H E).nox C body den) :
    FnOk P w K mg base CX0 (k + 1) f fd ps (spV K C ps.length (bodyD N.length den)) := by
  refine F.ok S (fun vs H Q E ⟨_, _, _, _, _, _, _, _, hl, _⟩ => hl) (fun cdv A outer s H vs Q E hr ⟨U, G, b, ds, sb, u, gu, r, hl, w⟩ => ?_)
  refine ⟨_, (hb cdv A outer s H E hr).nox, U, _, G, H, G, b, ⟨st_start sb (fun x e => ⟨gu x e, fun z => by obtain ⟨_, _, _, q, _⟩ := u x e; rw [z] at q; cases q⟩) r, u⟩, ?_⟩
  refine wp_mono (wp_bind.mp w) fun b1 fl w1 => ?_
  cases fl with
  | next env => exact fun σ' G' H' S' _ => w1 _ G' H' S'.st.ext S'.un .non
  | ret d => exact fun v G' H' e u r => w1 v G' H' e u r
  | fresh d => exact w1.elim
  | brk env => exact w1.elim
  | cnt env => exact w1.elim
/-- .. that returns a new object -/
def runF (m : M Fl) : M D := m >>= fun fl => match fl with
  | .fresh d => .ok d
  | _ => .bad
def bodyF (N : Nat) (den : En → M Fl) (ds : List D) : M D := runF (den (ds.map Sl.fr ++ List.replicate (N - ds.length) .un))
theorem fn_vF {P : Program} {w : World} {K : PySem.W.Frag} {mg : Str → Option Value} {base : Heap} {C : Nat → Addr} {x qual : Str} {params : Arguments} {body : List Stmt} {scope : Scope} {dvs : List V} {kws : List (Str × V)} {f : Addr} {fd : FuncData} {N ps : List Str} {k : Nat} {den : En → M Fl}
    (F : FunD K x qual params body scope dvs kws f fd) (S : FnScope N ps scope)
    (hb : ∀ (cdv : Value) (A : Around) (outer : List Env) (s : Shared) (H : Hp) (E : XK), Room k (A.deeper (envOfC qual scope s.heap.objs.size f cdv)) → VSs (cxOf CX0 P w K mg base N qual scope f cdv A outer s H E).nox C body den) :
    FnOk P w K mg base CX0 (k + 1) f fd ps (spVF K C ps.length (bodyF N.length den)) := by
  refine F.ok S (fun vs H Q E ⟨_, _, _, _, _, _, _, _, hl, _⟩ => hl) (fun cdv A outer s H vs Q E hr ⟨U, G, b, ds, sb, u, gu, r, hl, w⟩ => ?_)
  refine ⟨_, (hb cdv A outer s H E hr).nox, U, _, G, H, G, b, ⟨st_start sb (fun x e => ⟨gu x e, fun z => by obtain ⟨_, _, _, q, _⟩ := u x e; rw [z] at q; cases q⟩) r, u⟩, ?_⟩
  refine wp_mono (wp_bind.mp w) fun b1 fl w1 => ?_
  cases fl with
  | fresh d => exact fun p o G' H' e u n g h r => w1 p o G' H' e u n g h r
  | next env => exact w1.elim
  | ret d => exact w1.elim
  | brk env => exact w1.elim
  | cnt env => exact w1.elim
/-- its value, told -/
theorem spVF_v {P : Program} {w : World} {K : PySem.W.Frag} {mg : Str → Option Value} {base : Heap} {C : Nat → Addr} {k n : Nat} {f : Addr} {fd : FuncData} {ps : List Str} {den : List D → M D} (F : FnOk P w K mg base CX0 k f fd ps (spVF K C n den)) : FnOk P w K mg base CX0 k f fd ps (spV K C n den) :=
  F.imp fun vs H Q E ⟨U, G, b, ds, sb, u, gu, r, hl, w⟩ => ⟨U, G, b, ds, sb, u, gu, r, hl, wp_mono w fun b' d q p o G' H' e u hp g h r => q _ _ _ (e.new hp h g r.plain) u (r.rep g)⟩
/-- the scope of a comprehension within another -/
def seen (sc scope : Scope) : Scope := { scope with names := scope.names.map fun p => if (p.2 == .free && sc.kind == .function && sc.names.lookup p.1 == some .cell) then (p.1, .cell) else p }
theorem blkOk_in {N : List Str} {scope0 : Scope} {cl : List (Str × Addr)} {c : Addr} {env : Env} {scope : Scope} {own : List (Str × Nat)} (h : blkC N (seen env.scope scope0) scope own = true) : BlkOk N (compEnvC scope0 cl c env).scope scope own := blkOk_by (sc := seen env.scope scope0) h
end Vw

/-! VwD -/
/-! Operations by value. -/
namespace Vw
open PySem PySem.Spec PyProof.Rows L2
section
variable {X : Cx} {C : Nat → Addr}
section
variable {K : PySem.W.Frag} {U : Option Addr} {G H : Hp} {b : Nat} {Q : VK} {d : D} {o : HO} {p : Addr}
theorem hp_none (s : Sub G H) (hp : H p = none) : Ext U G H G (upd H p o) := (Ext.refl s).mut hp (s.ne hp)
/-- a new object as what is fresh -/
theorem fresh_v (s : Sub G H) (u : UrnSt U H b) (q : PF K C U G H Q b d) (r : HRep K C U G o d) (hp : H p = none) : Q (.ref p) (upd H p o) :=
  q p o G _ (hp_none s hp) (u.mut (u.ne hp)) hp (s.ne hp) upd_same r
theorem new_v (s : Sub G H) (u : UrnSt U H b) (q : PV K C U G H Q b d) (r : HRep K C U G o d) (hp : H p = none) : Q (.ref p) (upd H p o) :=
  q (.ref p) _ _ ((hp_none s hp).new hp upd_same (s.ne hp) r.plain) (u.mut (u.ne hp)) (r.rep (s.ne hp))
theorem new_t {vs : List V} {ds : List D} (s : Sub G H) (u : UrnSt U H b) (q : PV K C U G H Q b (.tup ds)) (r : Reps K C U G vs ds) (hp : H p = none) : Q (.ref p) (upd H p (.tup vs)) :=
  q (.ref p) _ _ ((hp_none s hp).new hp upd_same (s.ne hp) trivial) (u.mut (u.ne hp)) (.tup (SqT.of upd_same) (r.mono (same_new (s.ne hp))))
theorem same_v {v : V} (s : Sub G H) (u : UrnSt U H b) (q : PV K C U G H Q b d) (r : Rep K C U G v d) : Q v H := q v G H (Ext.refl s) u r
end
theorem lim_le {n : Nat} (h : n ≤ lim) : n ≤ sizeLine := Nat.le_trans h (Nat.le_of_lt lim_line)

/-! ### numbers, texts, lists, tuples -/
def opAdd : D → D → M D
  | .int i, .int j => .ok (.int (i + j))
  | .str x, .str y => if x.length + y.length ≤ lim then .ok (.str (x ++ y)) else .bad
  | .lst xs, .lst ys => if xs.length + ys.length ≤ lim then .ok (.lst (xs ++ ys)) else .bad
  | .tup xs, .tup ys => if xs.length + ys.length ≤ lim then .ok (.tup (xs ++ ys)) else .bad
  | _, _ => .bad
def rAdd (K : PySem.W.Frag) : R2 := fun x y H Q => rI0 (fun i j => .int (i + j)) x y H Q ∨ (∃ i j, x = .str i ∧ y = .str j ∧ i.length + j.length ≤ sizeLine ∧ Q (.str (i ++ j)) H) ∨ rCat x y H Q ∨ rCatA K x y H Q
theorem or_add : OpR X (binaryOp .Add) (rAdd X.K) := or_op op_add (or_op op_add_str (or_op op_cat op_catA))
theorem add_2 {K : PySem.W.Frag} : Op2 K C (rAdd K) opAdd := fun U G H b x y d e Q s u rx ry w => by
  unfold opAdd at w
  split at w
  · cases rx.int; cases ry.int
    exact .inl ⟨_, _, rfl, rfl, same_v s u w (.int _)⟩
  · cases rx.str; cases ry.str
    split at w
    · rename_i h
      exact .inr (.inl ⟨_, _, rfl, rfl, lim_le h, same_v s u w (.str _)⟩)
    · exact w.elim
  · obtain ⟨a, vs, rfl, ha, ra⟩ := rx.lst s
    obtain ⟨c, ws, rfl, hc, rc⟩ := ry.lst s
    split at w
    · rename_i h
      refine .inr (.inr (.inl ⟨a, c, vs, ws, rfl, rfl, ha, hc, lim_le (by rw [ra.length, rc.length]; exact h), fun p hp => ?_⟩))
      exact new_v s u w (show Reps K C U G _ _ from ra.append rc) hp
    · exact w.elim
  · obtain ⟨a, vs, rfl, ha, ra, rx⟩ := rx.tup s
    obtain ⟨c, ws, rfl, hc, rc, ry⟩ := ry.tup s
    split at w
    · rename_i h
      refine .inr (.inr (.inr ⟨a, c, vs, ws, rfl, rfl, ha, hc, lim_le (by rw [ra.length, rc.length]; exact h), fun z => ?_, fun z1 z2 => ?_, fun z1 z2 p hp => ?_⟩))
      · subst z
        cases ra
        exact same_v s u w ry
      · subst z2
        cases rc
        rw [List.append_nil] at w
        exact same_v s u w rx
      · exact new_t s u w (ra.append rc) hp
    · exact w.elim
  · exact w.elim
def opAddL : D → D → M D
  | .lst xs, .lst ys => if xs.length + ys.length ≤ lim then .ok (.lst (xs ++ ys)) else .bad
  | _, _ => .bad
theorem add_2F {K : PySem.W.Frag} : Op2F K C rCat opAddL := fun U G H b x y d e Q s u rx ry w => by
  unfold opAddL at w
  split at w
  · obtain ⟨a, vs, rfl, ha, ra⟩ := rx.lst s
    obtain ⟨c, ws, rfl, hc, rc⟩ := ry.lst s
    split at w
    · rename_i h
      exact ⟨a, c, vs, ws, rfl, rfl, ha, hc, lim_le (by rw [ra.length, rc.length]; exact h), fun p hp => fresh_v s u w (show Reps K C U G _ _ from ra.append rc) hp⟩
    · exact w.elim
  · exact w.elim
def opSub : D → D → M D
  | .int i, .int j => .ok (.int (i - j))
  | _, _ => .bad
theorem sub_2 {K : PySem.W.Frag} : Op2 K C (rI0 fun i j => .int (i - j)) opSub := fun U G H b x y d e Q s u rx ry w => by
  unfold opSub at w
  split at w
  · cases rx.int; cases ry.int
    exact ⟨_, _, rfl, rfl, same_v s u w (.int _)⟩
  · exact w.elim
def big64 (i : Int) : Bool := decide (-(2 ^ 64) < i) && decide (i < 2 ^ 64)
theorem repl_reps {K : PySem.W.Frag} {U : Option Addr} {G : Hp} {vs : List V} {ds : List D} (r : Reps K C U G vs ds) : ∀ k : Nat, Reps K C U G (List.replicate k vs).flatten (List.replicate k ds).flatten
  | 0 => .nil
  | k + 1 => by
    rw [List.replicate_succ, List.replicate_succ, List.flatten_cons, List.flatten_cons]
    exact r.append (repl_reps r k)
def opMul : D → D → M D
  | .int i, .int j => if (big64 i || big64 j) = true then .ok (.int (i * j)) else .bad
  | .lst xs, .int k => if -(2 ^ 62) < k ∧ k < 2 ^ 62 ∧ xs.length * k.toNat ≤ lim then .ok (.lst (List.replicate k.toNat xs).flatten) else .bad
  | .tup xs, .int k => if xs ≠ [] ∧ 2 ≤ k ∧ k ≤ 1000 ∧ xs.length ≤ 1000 then .ok (.tup (List.replicate k.toNat xs).flatten) else .bad
  | _, _ => .bad
def rMul (K : PySem.W.Frag) : R2 := fun x y H Q => rI CMul (fun i j => .int (i * j)) x y H Q ∨ rRep x y H Q ∨ rRepT K x y H Q
theorem or_mul : OpR X (binaryOp .Mult) (rMul X.K) := or_op op_mul (or_op op_rep op_repT)
instance decNil (xs : List D) : Decidable (xs ≠ []) := match xs with
  | [] => isFalse fun h => h rfl
  | _ :: _ => isTrue fun h => nomatch h
theorem mul_2 {K : PySem.W.Frag} : Op2 K C (rMul K) opMul := fun U G H b x y d e Q s u rx ry w => by
  unfold opMul at w
  split at w
  · cases rx.int; cases ry.int
    split at w
    · rename_i h
      refine .inl ⟨_, _, rfl, rfl, ?_, same_v s u w (.int _)⟩
      rcases Bool.or_eq_true_iff.mp h with h | h
      · have := Bool.and_eq_true_iff.mp h
        exact .inl ⟨of_decide_eq_true this.1, of_decide_eq_true this.2⟩
      · have := Bool.and_eq_true_iff.mp h
        exact .inr ⟨of_decide_eq_true this.1, of_decide_eq_true this.2⟩
    · exact w.elim
  · obtain ⟨a, vs, rfl, ha, ra⟩ := rx.lst s
    cases ry.int
    split at w
    · rename_i h
      exact .inr (.inl ⟨a, _, vs, rfl, rfl, ha, by omega, by omega, lim_le (by rw [ra.length]; exact h.2.2), fun p hp => new_v s u w (show Reps K C U G _ _ from repl_reps ra _) hp⟩)
    · exact w.elim
  · obtain ⟨a, vs, rfl, ha, ra, rx⟩ := rx.tup s
    cases ry.int
    split at w
    · rename_i h
      refine .inr (.inr ⟨a, _, vs, rfl, rfl, ha, fun z => ?_, h.2.1, h.2.2.1, by rw [ra.length]; exact h.2.2.2, fun p hp => new_t s u w (repl_reps ra _) hp⟩)
      subst z
      cases ra
      exact h.1 rfl
    · exact w.elim
  · exact w.elim
def opMulL : D → D → M D
  | .lst xs, .int k => if -(2 ^ 62) < k ∧ k < 2 ^ 62 ∧ xs.length * k.toNat ≤ lim then .ok (.lst (List.replicate k.toNat xs).flatten) else .bad
  | _, _ => .bad
theorem mul_2F {K : PySem.W.Frag} : Op2F K C rRep opMulL := fun U G H b x y d e Q s u rx ry w => by
  unfold opMulL at w
  split at w
  · obtain ⟨a, vs, rfl, ha, ra⟩ := rx.lst s
    cases ry.int
    split at w
    · rename_i h
      exact ⟨a, _, vs, rfl, rfl, ha, by omega, by omega, lim_le (by rw [ra.length]; exact h.2.2), fun p hp => fresh_v s u w (show Reps K C U G _ _ from repl_reps ra _) hp⟩
    · exact w.elim
  · exact w.elim
def opMod : D → D → M D
  | .int i, .int j => if 0 < j then .ok (.int (i % j)) else .bad
  | _, _ => .bad
theorem mod_2 {K : PySem.W.Frag} : Op2 K C (rI (fun _ j => 0 < j) fun i j => .int (i % j)) opMod := fun U G H b x y d e Q s u rx ry w => by
  unfold opMod at w
  split at w
  · cases rx.int; cases ry.int
    split at w
    · rename_i h
      exact ⟨_, _, rfl, rfl, h, same_v s u w (.int _)⟩
    · exact w.elim
  · exact w.elim
def opDiv : D → D → M D
  | .int i, .int j => if 0 < j ∧ j < 1073741824 then .ok (.int (i / j)) else .bad
  | _, _ => .bad
theorem div_2 {K : PySem.W.Frag} : Op2 K C (rI CDiv fun i j => .int (i / j)) opDiv := fun U G H b x y d e Q s u rx ry w => by
  unfold opDiv at w
  split at w
  · cases rx.int; cases ry.int
    split at w
    · rename_i h
      exact ⟨_, _, rfl, rfl, h, same_v s u w (.int _)⟩
    · exact w.elim
  · exact w.elim
def opPow : D → D → M D
  | .int i, .int j => if 0 ≤ j ∧ j ≤ 1000 ∧ i.natAbs < 2 ^ 64 then .ok (.int (i ^ j.toNat)) else .bad
  | _, _ => .bad
theorem pow_2 {K : PySem.W.Frag} : Op2 K C (rI CPow fun i j => .int (i ^ j.toNat)) opPow := fun U G H b x y d e Q s u rx ry w => by
  unfold opPow at w
  split at w
  · cases rx.int; cases ry.int
    split at w
    · rename_i h
      exact ⟨_, _, rfl, rfl, ⟨h.1, by omega, h.2.2⟩, same_v s u w (.int _)⟩
    · exact w.elim
  · exact w.elim

/-! ### data: == , in -/
mutual
def toP : D → Option PyData
  | .non => some .none
  | .bl b => some (.bool b)
  | .int i => some (.int i)
  | .str x => some (.str x)
  | .lst xs => (toPs xs).map .list
  | .tup xs => (toPs xs).map .tuple
  | _ => none
def toPs : List D → Option (List PyData)
  | [] => some []
  | d :: ds => match toP d, toPs ds with
    | some p, some ps => some (p :: ps)
    | _, _ => none
end
section
variable {K : PySem.W.Frag} {U : Option Addr} {G H : Hp}
mutual
theorem rep_dp (s : Sub G H) : ∀ {v : V} {d : D} {p : PyData}, Rep K C U G v d → toP d = some p → Dp K H v p
  | _, _, _, .non, e => by cases e; exact .non
  | _, _, _, .bl b, e => by cases e; exact .bl b
  | _, _, _, .int i, e => by cases e; exact .int i
  | _, _, _, .str x, e => by cases e; exact .str x
  | _, _, _, .urn _, e => nomatch e
  | _, _, _, .lst h r, e => by
    rw [toP] at e
    obtain ⟨ps, e1, e2⟩ := Option.map_eq_some_iff.mp e
    subst e2
    exact .lst (sq_l s h) (reps_dp s r e1)
  | _, _, _, .tup h r, e => by
    rw [toP] at e
    obtain ⟨ps, e1, e2⟩ := Option.map_eq_some_iff.mp e
    subst e2
    exact .tup (sq_t s h) (reps_dp s r e1)
  | _, _, _, .ntup _ _ _ _, e => nomatch e
  | _, _, _, .dic _ _ _, e => nomatch e
  | _, _, _, .obj _ _ _, e => nomatch e
  | _, _, _, .book _, e => nomatch e
theorem reps_dp (s : Sub G H) : ∀ {vs : List V} {ds : List D} {ps : List PyData}, Reps K C U G vs ds → toPs ds = some ps → DpAll K H vs ps
  | _, _, _, .nil, e => by cases e; exact .nil
  | _, _, _, .cons h r, e => by
    rw [toPs] at e
    split at e
    · rename_i e1 e2
      cases e
      exact .cons (rep_dp s h e1) (reps_dp s r e2)
    · cases e
end
theorem pk_dp (s : Sub G H) {v : V} {d : D} {p : PyData} (r : Pk K C U G H v d) (e : toP d = some p) : Dp K H v p := by
  rcases r with r | ⟨q, o, rfl, h, w, n⟩
  · exact rep_dp s r e
  · unfold HRep at w
    split at w
    · rw [toP] at e
      obtain ⟨ps, e1, e2⟩ := Option.map_eq_some_iff.mp e
      subst e2
      exact .lst (SqL.of h) (reps_dp s w e1)
    · cases e
    · exact w.elim
end
def shp (d : D) : Option PyData := match toP d with
  | some p => if SeqAt.shaped p = true then some p else none
  | none => none
theorem shp_of {d : D} {p : PyData} (h : shp d = some p) : toP d = some p ∧ SeqAt.shaped p = true := by
  unfold shp at h
  split at h
  · split at h
    · cases h; exact ⟨by assumption, by assumption⟩
    · cases h
  · cases h
def opEq : D → D → M D := fun d e => match shp d, shp e with
  | some p, some q => .ok (.bl (PyData.eqv p q))
  | _, _ => .bad
def opNe : D → D → M D := fun d e => match shp d, shp e with
  | some p, some q => .ok (.bl (!PyData.eqv p q))
  | _, _ => .bad
theorem eq_2 {K : PySem.W.Frag} : Op2 K C (rEqD K) opEq := fun U G H b x y d e Q s u rx ry w => by
  unfold opEq at w
  split at w
  · rename_i h1 h2
    exact ⟨_, _, pk_dp s rx (shp_of h1).1, pk_dp s ry (shp_of h2).1, (shp_of h1).2, (shp_of h2).2, same_v s u w (.bl _)⟩
  · exact w.elim
theorem ne_2 {K : PySem.W.Frag} : Op2 K C (rNeD K) opNe := fun U G H b x y d e Q s u rx ry w => by
  unfold opNe at w
  split at w
  · rename_i h1 h2
    exact ⟨_, _, pk_dp s rx (shp_of h1).1, pk_dp s ry (shp_of h2).1, (shp_of h1).2, (shp_of h2).2, same_v s u w (.bl _)⟩
  · exact w.elim
/-- in: a list, a tuple, a text, a dict -/
def hasS (z x : Str) : Bool := !(Builtin.Str.occurrences z x 0 z.length 1).isEmpty
def inD (d e : D) : M Bool := match e with
  | .dic ks _ => keyOf d >>= fun k => .ok (ks.any fun q => decide (q = k))
  | .str z => match d with
    | .str x => .ok (hasS z x)
    | _ => .bad
  | e => match shp d, shp e with
    | some p, some (.list qs) => .ok (qs.any fun z => PyData.eqv z p)
    | some p, some (.tuple qs) => .ok (qs.any fun z => PyData.eqv z p)
    | _, _ => .bad
def opIn : D → D → M D := fun d e => inD d e >>= fun c => .ok (.bl c)
def opNin : D → D → M D := fun d e => inD d e >>= fun c => .ok (.bl (!c))
def rDIn : R2 := fun y x H Q => ∃ a o, x = .ref a ∧ DGet H a y o ∧ Q (.bl o.isSome) H
def rDNin : R2 := fun y x H Q => ∃ a o, x = .ref a ∧ DGet H a y o ∧ Q (.bl (!o.isSome)) H
theorem op_dIn (hu : X.A.units + 1 < cLine) : OpR X (compareOp .In) rDIn := by
  intro pins s σ H x y v u Q I rx ry h
  obtain ⟨a, o, rfl, g, q⟩ := h
  cases ry
  exact d_in hu I g rx fun s' I' => ⟨.bl o.isSome, H, I', rfl, q⟩
theorem op_dNin (hu : X.A.units + 1 < cLine) : OpR X (compareOp .NotIn) rDNin := by
  intro pins s σ H x y v u Q I rx ry h
  obtain ⟨a, o, rfl, g, q⟩ := h
  cases ry
  exact d_notIn hu I g rx fun s' I' => ⟨.bl (!o.isSome), H, I', rfl, q⟩
def rInA (K : PySem.W.Frag) : R2 := fun x y H Q => L2.rInD K x y H Q ∨ Sx.rInD K x y H Q ∨ rDIn x y H Q ∨ ∃ i j, x = .str i ∧ y = .str j ∧ Q (.bl (!(Builtin.Str.occurrences j i 0 j.length 1).isEmpty)) H
def rNinA (K : PySem.W.Frag) : R2 := fun x y H Q => L2.rNotInD K x y H Q ∨ Sx.rNotInT K x y H Q ∨ rDNin x y H Q ∨ ∃ i j, x = .str i ∧ y = .str j ∧ Q (.bl (!(!(Builtin.Str.occurrences j i 0 j.length 1).isEmpty))) H
theorem or_in (hu : X.A.units + 65 < cLine) : OpR X (compareOp .In) (rInA X.K) := or_op (L2.op_inD hu) (or_op (Sx.op_inD hu) (or_op (op_dIn (by omega)) op_in_str))
theorem or_nin (hu : X.A.units + 65 < cLine) : OpR X (compareOp .NotIn) (rNinA X.K) := or_op (L2.op_notInD hu) (or_op (Sx.op_notInT hu) (or_op (op_dNin (by omega)) op_notin_str))
theorem find_zip {k : Key} : ∀ {ks : List Key} {vs : List V}, ks.length = vs.length → (valV (ks.zip vs) k).isSome = ks.any fun q => decide (q = k)
  | [], [], _ => rfl
  | a :: ks, v :: vs, h => by
    rw [List.zip_cons_cons, List.any_cons]
    by_cases e : a = k
    · rw [valV_pos (by exact e), decide_eq_true e]; rfl
    · rw [valV_neg (by exact e), decide_eq_false e, find_zip (by simpa using h)]; rfl
theorem toP_seq {d : D} {p : PyData} {K : PySem.W.Frag} {U : Option Addr} {G H : Hp} {v : V} (s : Sub G H) (r : Pk K C U G H v d) (e : shp d = some p) : Dp K H v p ∧ SeqAt.shaped p = true := ⟨pk_dp s r (shp_of e).1, (shp_of e).2⟩
theorem dget_rd {H : Hp} {a : Addr} {ks : List Key} {vs : List V} {k : Key} (h : Rd H a (.dK (ks.zip vs))) : DGet H a (kV k) (valV (ks.zip vs) k) := .inl ⟨_, k, h, rfl, rfl⟩
theorem pk_key {K : PySem.W.Frag} {U : Option Addr} {G H : Hp} {v : V} {d : D} {b : Nat} {P : Nat → Key → Prop} (r : Pk K C U G H v d) (w : wp (keyOf d) b P) : ∃ k, v = kV k ∧ P b k := by
  cases d with
  | int i => cases r.int; exact ⟨.inl i, rfl, w⟩
  | str x => cases r.str; exact ⟨.inr x, rfl, w⟩
  | _ => exact w.elim
theorem in_2 {K : PySem.W.Frag} : Op2 K C (rInA K) opIn := fun U G H b x y d e Q s u rx ry w => by
  unfold opIn inD at w
  split at w
  · obtain ⟨a, vs, rfl, h, l, r⟩ := ry.dic s
    obtain ⟨k, rfl, w⟩ := pk_key rx (wp_bind.mp (wp_bind.mp w))
    refine .inr (.inr (.inl ⟨a, _, rfl, dget_rd h, ?_⟩))
    rw [find_zip l]
    exact same_v s u w (.bl _)
  · cases ry.str
    split at w
    · cases rx.str
      exact .inr (.inr (.inr ⟨_, _, rfl, rfl, same_v s u w (.bl _)⟩))
    · exact w.elim
  · split at w
    · rename_i h1 h2
      obtain ⟨d1, s1⟩ := toP_seq s rx h1
      obtain ⟨d2, s2⟩ := toP_seq s ry h2
      exact .inl ⟨_, _, d1, d2, s1, s2, same_v s u w (.bl _)⟩
    · rename_i h1 h2
      obtain ⟨d1, s1⟩ := toP_seq s rx h1
      obtain ⟨d2, s2⟩ := toP_seq s ry h2
      exact .inr (.inl ⟨_, _, d1, d2, s1, s2, same_v s u w (.bl _)⟩)
    · exact w.elim
theorem nin_2 {K : PySem.W.Frag} : Op2 K C (rNinA K) opNin := fun U G H b x y d e Q s u rx ry w => by
  unfold opNin inD at w
  split at w
  · obtain ⟨a, vs, rfl, h, l, r⟩ := ry.dic s
    obtain ⟨k, rfl, w⟩ := pk_key rx (wp_bind.mp (wp_bind.mp w))
    refine .inr (.inr (.inl ⟨a, _, rfl, dget_rd h, ?_⟩))
    rw [find_zip l]
    exact same_v s u w (.bl _)
  · cases ry.str
    split at w
    · cases rx.str
      exact .inr (.inr (.inr ⟨_, _, rfl, rfl, same_v s u w (.bl _)⟩))
    · exact w.elim
  · split at w
    · rename_i h1 h2
      obtain ⟨d1, s1⟩ := toP_seq s rx h1
      obtain ⟨d2, s2⟩ := toP_seq s ry h2
      exact .inl ⟨_, _, d1, d2, s1, s2, same_v s u w (.bl _)⟩
    · rename_i h1 h2
      obtain ⟨d1, s1⟩ := toP_seq s rx h1
      obtain ⟨d2, s2⟩ := toP_seq s ry h2
      exact .inr (.inl ⟨_, _, d1, d2, s1, s2, same_v s u w (.bl _)⟩)
    · exact w.elim
/-! ### order -/
def ltD (d e : D) : M Bool := match d, e with
  | .int i, .int j => .ok (decide (i < j))
  | .str x, .str y => .ok (decide (x.cps.toList < y.cps.toList))
  | _, _ => .bad
def opLt : D → D → M D := fun d e => ltD d e >>= fun c => .ok (.bl c)
def opGt : D → D → M D := fun d e => ltD e d >>= fun c => .ok (.bl c)
def opLe : D → D → M D := fun d e => match d, e with
  | .int i, .int j => .ok (.bl (decide (i ≤ j)))
  | .str x, .str y => .ok (.bl (!decide (y.cps.toList < x.cps.toList)))
  | _, _ => .bad
def opGe : D → D → M D := fun d e => match d, e with
  | .int i, .int j => .ok (.bl (decide (j ≤ i)))
  | .str x, .str y => .ok (.bl (!decide (x.cps.toList < y.cps.toList)))
  | _, _ => .bad
abbrev rIS (f : Int → Int → Bool) (g : Str → Str → Bool) : R2 := fun x y H Q => rI0 (fun i j => .bl (f i j)) x y H Q ∨ ∃ i j, x = .str i ∧ y = .str j ∧ Q (.bl (g i j)) H
theorem or_lt : OpR X (compareOp .Lt) (rIS (fun i j => decide (i < j)) fun x y => decide (x.cps.toList < y.cps.toList)) := or_op op_lt op_lt_str
theorem or_gt : OpR X (compareOp .Gt) (rIS (fun i j => decide (j < i)) fun x y => decide (y.cps.toList < x.cps.toList)) := or_op op_gt op_gt_str
theorem or_le : OpR X (compareOp .LtE) (rIS (fun i j => decide (i ≤ j)) fun x y => !decide (y.cps.toList < x.cps.toList)) := or_op op_le op_le_str
theorem or_ge : OpR X (compareOp .GtE) (rIS (fun i j => decide (j ≤ i)) fun x y => !decide (x.cps.toList < y.cps.toList)) := or_op op_ge op_ge_str
theorem lt_2 {K : PySem.W.Frag} : Op2 K C (rIS (fun i j => decide (i < j)) fun x y => decide (x.cps.toList < y.cps.toList)) opLt := fun U G H b x y d e Q s u rx ry w => by
  unfold opLt ltD at w
  split at w
  · cases rx.int; cases ry.int
    exact .inl ⟨_, _, rfl, rfl, same_v s u w (.bl _)⟩
  · cases rx.str; cases ry.str
    exact .inr ⟨_, _, rfl, rfl, same_v s u w (.bl _)⟩
  · exact w.elim
theorem gt_2 {K : PySem.W.Frag} : Op2 K C (rIS (fun i j => decide (j < i)) fun x y => decide (y.cps.toList < x.cps.toList)) opGt := fun U G H b x y d e Q s u rx ry w => by
  unfold opGt ltD at w
  split at w
  · cases rx.int; cases ry.int
    exact .inl ⟨_, _, rfl, rfl, same_v s u w (.bl _)⟩
  · cases rx.str; cases ry.str
    exact .inr ⟨_, _, rfl, rfl, same_v s u w (.bl _)⟩
  · exact w.elim
theorem le_2 {K : PySem.W.Frag} : Op2 K C (rIS (fun i j => decide (i ≤ j)) fun x y => !decide (y.cps.toList < x.cps.toList)) opLe := fun U G H b x y d e Q s u rx ry w => by
  unfold opLe at w
  split at w
  · cases rx.int; cases ry.int
    exact .inl ⟨_, _, rfl, rfl, same_v s u w (.bl _)⟩
  · cases rx.str; cases ry.str
    exact .inr ⟨_, _, rfl, rfl, same_v s u w (.bl _)⟩
  · exact w.elim
theorem ge_2 {K : PySem.W.Frag} : Op2 K C (rIS (fun i j => decide (j ≤ i)) fun x y => !decide (x.cps.toList < y.cps.toList)) opGe := fun U G H b x y d e Q s u rx ry w => by
  unfold opGe at w
  split at w
  · cases rx.int; cases ry.int
    exact .inl ⟨_, _, rfl, rfl, same_v s u w (.bl _)⟩
  · cases rx.str; cases ry.str
    exact .inr ⟨_, _, rfl, rfl, same_v s u w (.bl _)⟩
  · exact w.elim
/-! ### is None -/
def isNon : D → Bool
  | .non => true
  | _ => false
theorem rep_non {K : PySem.W.Frag} {U : Option Addr} {G H : Hp} {v : V} {d : D} (r : Pk K C U G H v d) : decide (v = .non) = isNon d := by
  rcases r with r | ⟨p, o, rfl, h, q, n⟩
  · cases r <;> simp [isNon]
  · unfold HRep at q
    split at q <;> first | (simp [isNon]; done) | exact q.elim
theorem ve_isN {a : Expr} {da : En → M D} {j : Nat} {pos pos' : Pos} (ha : VP X C a da) : VE X C (.Compare a [.Is] [.Constant .none j pos'] pos) (fun env => da env >>= fun d => .ok (.bl (isNon d))) :=
  PE.of (pe_cmp (pc_isN ha) rfl) fun σ H Q ⟨U, env, G0, H0, G, b, S, w⟩ => ⟨U, env, G0, H0, G, b, S, wp_mono (wp_bind.mp w) fun b1 d1 w1 v1 G1 H1 e1 u1 r1 => by
    show Q (V.bl (decide (v1 = V.non))) H1
    rw [rep_non r1]
    exact w1 _ _ _ e1 u1 (.bl _)⟩
theorem ve_notN {a : Expr} {da : En → M D} {j : Nat} {pos pos' : Pos} (ha : VP X C a da) : VE X C (.Compare a [.IsNot] [.Constant .none j pos'] pos) (fun env => da env >>= fun d => .ok (.bl (!isNon d))) :=
  PE.of (pe_cmp (pc_notN ha) rfl) fun σ H Q ⟨U, env, G0, H0, G, b, S, w⟩ => ⟨U, env, G0, H0, G, b, S, wp_mono (wp_bind.mp w) fun b1 d1 w1 v1 G1 H1 e1 u1 r1 => by
    show Q (V.bl (!decide (v1 = V.non))) H1
    rw [rep_non r1]
    exact w1 _ _ _ e1 u1 (.bl _)⟩
end
end Vw

/-! VwE -/
/-! Subscripts, displays, calls of built-ins, walks. -/
namespace Vw
open PySem PySem.Spec PyProof.Rows L2
section
variable {X : Cx} {C : Nat → Addr}
/-! ### subscripts -/
def getK (ks : List Key) (vs : List D) (k : Key) : Option D := ((ks.zip vs).find? fun kv => decide (kv.1 = k)).map (·.2)
def opIx : D → D → M D
  | .lst xs, .int i => match atI xs i with
    | some d => .ok d
    | none => .bad
  | .tup xs, .int i => match atI xs i with
    | some d => .ok d
    | none => .bad
  | .str x, .int i => if x.length ≤ lim then match atI x.cps.toList i with
    | some c => .ok (.str ⟨#[c]⟩)
    | none => .bad else .bad
  | .dic ks vs, k => keyOf k >>= fun k => match getK ks vs k with
    | some d => .ok d
    | none => .bad
  | _, _ => .bad
def rIxDc : R2 := fun x y H Q => ∃ a v, x = .ref a ∧ DGet H a y (some v) ∧ Q v H
theorem ix_dict (hu : X.A.units + 1 < cLine) : IxR X rIxDc := by
  intro value slice pins s σ H x y v u Q I rx ry h hs
  obtain ⟨a, w, rfl, g, q⟩ := h
  cases rx
  have tI := dict_typeIs I g
  have got : wpAny (model X.prog X.w) X.A (getItem (.ref a) u) (EP X pins σ Q) X.xe s := d_getItem hu I g ry fun z s' I' r' => ⟨w, H, I', r', q⟩
  have low : wpAny (model X.prog X.w) X.A (subscripted slice false (.ref a) u) (fun z s' => wpAny (model X.prog X.w) X.A (do let _ ← letTemporaryGo value (.ref a) z; pure z) (EP X pins σ Q) X.xe s') X.xe s := by
    rw [hs]
    refine wpAny_operating (thn got fun z s' h' => ?_)
    exact wpAny_bind (wpAny_letTemporaryGo (wpAny_pure h'))
  show wpAny _ _ (subscriptTail value slice (.ref a) u) _ _ _
  rw [subscriptTail]
  apply wpAny_bind
  rw [getitemInPython_of_ne tI.not_modules]
  apply wpAny_bind
  apply wpAny_specialOf tI PySem.F.slot_dict_getitem.lookup
  first
    | exact wpAny_pure (wpAny_bind low)
    | exact wpAny_bind (wpAny_pure (wpAny_bind low))
    | exact wpAny_bind low
def rIxA (K : PySem.W.Frag) : R2 := fun x y H Q => rIx K x y H Q ∨ rIxDc x y H Q
theorem ix_any (hu : X.A.units + 1 < cLine) : IxR X (rIxA X.K) := IxR.or ix_seq (ix_dict hu)
theorem reps_at {K : PySem.W.Frag} {U : Option Addr} {G : Hp} {vs : List V} {ds : List D} {i : Int} {d : D} (r : Reps K C U G vs ds) (e : atI ds i = some d) : ∃ v, atI vs i = some v ∧ Rep K C U G v d := by
  unfold atI at e ⊢
  rw [r.length]
  cases h : ixN ds.length i with
  | none => rw [h] at e; cases e
  | some j =>
    rw [h] at e
    exact r.get' e
theorem reps_key {K : PySem.W.Frag} {U : Option Addr} {G : Hp} {k : Key} {d : D} : ∀ {ks : List Key} {vs : List V} {ds : List D}, ks.length = vs.length → Reps K C U G vs ds → getK ks ds k = some d → ∃ v, valV (ks.zip vs) k = some v ∧ Rep K C U G v d
  | [], [], [], _, _, e => by cases e
  | a :: ks, v :: vs, c :: ds, l, .cons r rr, e => by
    unfold getK at e
    rw [List.zip_cons_cons] at e ⊢
    by_cases z : a = k
    · rw [List.find?_cons_of_pos (by exact decide_eq_true z)] at e
      cases e
      exact ⟨v, valV_pos (by exact z), r⟩
    · rw [List.find?_cons_of_neg (by simpa using z)] at e
      rw [valV_neg (by exact z)]
      exact reps_key (by simpa using l) rr e
theorem ix_2 {K : PySem.W.Frag} : Op2 K C (rIxA K) opIx := fun U G H b x y d e Q s u rx ry w => by
  unfold opIx at w
  split at w
  · obtain ⟨a, vs, rfl, ha, ra⟩ := rx.lst s
    cases ry.int
    split at w
    · rename_i h
      obtain ⟨v, hv, rv⟩ := reps_at ra h
      exact .inl (.inl ⟨a, vs, _, v, rfl, rfl, SqL.of ha, hv, same_v s u w rv⟩)
    · exact w.elim
  · obtain ⟨a, vs, rfl, ha, ra, _⟩ := rx.tup s
    cases ry.int
    split at w
    · rename_i h
      obtain ⟨v, hv, rv⟩ := reps_at ra h
      exact .inl (.inr (.inl ⟨a, vs, _, v, rfl, rfl, ha, hv, same_v s u w rv⟩))
    · exact w.elim
  · cases rx.str; cases ry.int
    split at w
    · rename_i hl
      split at w
      · rename_i h
        exact .inl (.inr (.inr ⟨_, _, _, rfl, rfl, lim_le hl, h, same_v s u w (.str _)⟩))
      · exact w.elim
    · exact w.elim
  · obtain ⟨a, vs, rfl, ha, l, ra⟩ := rx.dic s
    obtain ⟨k, rfl, w⟩ := pk_key ry (wp_bind.mp w)
    split at w
    · rename_i h
      obtain ⟨v, hv, rv⟩ := reps_key l ra h
      exact .inr ⟨a, v, rfl, by rw [← hv]; exact dget_rd ha, same_v s u w rv⟩
    · exact w.elim
  · exact w.elim
/-- slices: the ends -/
def tOp' (K : PySem.W.Frag) (C : Nat → Addr) (den : En → M (Option Int)) : TO := fun σ H Q => ∃ U env G0 H0 G b, Here K C U G0 H0 env σ G H b ∧ wp (den env) b fun b' o => ∀ G' H', Ext U G H G' H' → UrnSt U H' b' → Q o H'
abbrev VO (X : Cx) (C : Nat → Addr) (e : Option Expr) (den : En → M (Option Int)) : Prop := PO X e (tOp' X.K C den)
theorem PO.of {e : Option Expr} {t t' : TO} (h : PO X e t) (i : ∀ σ H Q, t' σ H Q → t σ H Q) : PO X e t' := ⟨fun pins s σ H Q I w => h.run pins s σ H Q I (i _ _ _ w)⟩
theorem vo_none : VO X C none (fun _ => .ok none) := PO.of po_none fun σ H Q ⟨U, env, G0, H0, G, b, S, w⟩ => w _ _ (Ext.refl S.sub) S.un
def isI : D → M Int
  | .int i => .ok i
  | _ => .bad
theorem vo_some {e : Expr} {de : En → M D} (h : VP X C e de) : VO X C (some e) (fun env => de env >>= fun d => isI d >>= fun i => .ok (some i)) := PO.of (po_some h) fun σ H Q ⟨U, env, G0, H0, G, b, S, w⟩ => by
  refine ⟨U, env, G0, H0, G, b, S, wp_mono (wp_bind.mp w) fun b1 d1 w1 v1 G1 H1 e1 u1 r1 => ?_⟩
  cases d1 with
  | int i => cases r1.int; exact ⟨i, rfl, w1 _ _ e1 u1⟩
  | _ => exact w1.elim
def cutD {α : Type} (xs : List α) (lo hi : Option Int) : List α := (xs.drop (HT.sIx xs.length 0 lo)).take (HT.sIx xs.length xs.length hi - HT.sIx xs.length 0 lo)
def opSl (d : D) (lo hi : Option Int) : M D := match d with
  | .lst xs => .ok (.lst (cutD xs lo hi))
  | .tup xs => .ok (.tup (cutD xs lo hi))
  | .str z => if z.length ≤ lim then .ok (.str (cutS z lo hi)) else .bad
  | _ => .bad
def opSlL (d : D) (lo hi : Option Int) : M D := match d with
  | .lst xs => .ok (.lst (cutD xs lo hi))
  | _ => .bad
def rSlAny (K : PySem.W.Frag) : V → Option Int → Option Int → Hp → VK → Prop := fun x lo hi H Q => rSlL K x lo hi H Q ∨ rSlA K x lo hi H Q ∨ rSlS x lo hi H Q
theorem sl_any : SlR X (rSlAny X.K) := L2.SlR.or sl_list (L2.SlR.or sl_tupA sl_str)
theorem reps_cut {K : PySem.W.Frag} {U : Option Addr} {G : Hp} {vs : List V} {ds : List D} {lo hi : Option Int} (r : Reps K C U G vs ds) : Reps K C U G (cutV vs lo hi) (cutD ds lo hi) := by
  unfold cutV cutD
  rw [r.length]
  exact (r.drop _).take _
theorem sIx_bd (n d : Nat) (hd : d ≤ n) (o : Option Int) : HT.sIx n d o ≤ n := HT.sIx_le n d hd o
abbrev slV (de : En → M D) (dl dh : En → M (Option Int)) (op : D → Option Int → Option Int → M D) : En → M D := fun env => de env >>= fun d => dl env >>= fun lo => dh env >>= fun hi => op d lo hi
theorem ve_slice {e : Expr} {lo hi : Option Expr} {de : En → M D} {dl dh : En → M (Option Int)} {p2 pos : Pos} (he : VP X C e de) (hl : VO X C lo dl) (hh : VO X C hi dh) : VE X C (.Subscript e (.Slice lo hi none p2) pos) (slV de dl dh opSl) :=
  PE.of (pe_slice sl_any he hl hh) fun σ H Q ⟨U, env, G0, H0, G, b, S, w⟩ => by
    refine ⟨U, env, G0, H0, G, b, S, wp_mono (wp_bind.mp w) fun b1 d1 w1 v1 G1 H1 e1 u1 r1 => ?_⟩
    refine ⟨U, env, G0, H0, G1, b1, S.to e1 u1, wp_mono (wp_bind.mp w1) fun b2 lo w2 G2 H2 e2 u2 => ?_⟩
    refine ⟨U, env, G0, H0, G2, b2, (S.to e1 u1).to e2 u2, wp_mono (wp_bind.mp w2) fun b3 hi w3 G3 H3 e3 u3 => ?_⟩
    have x := e1.trans (e2.trans e3)
    have s := x.sub
    have r3 := r1.to (e2.trans e3)
    have w3 := wp_mono w3 (pv_to x)
    unfold opSl at w3
    split at w3
    · obtain ⟨a, vs, rfl, ha, ra⟩ := r3.lst s
      exact .inl ⟨a, vs, rfl, SqL.of ha, fun p hp => new_v s u3 w3 (show Reps X.K C U _ _ _ from reps_cut ra) hp⟩
    · obtain ⟨a, vs, rfl, ha, ra, r3⟩ := r3.tup s
      refine .inr (.inl ⟨a, vs, rfl, ha, fun z => ?_, fun z p hp => new_t s u3 w3 (reps_cut ra) hp⟩)
      refine same_v s u3 w3 ?_
      rw [ra.length] at z
      unfold cutD
      rw [z.1, z.2, List.drop_zero, Nat.sub_zero, List.take_length]
      exact r3
    · cases r3.str
      split at w3
      · rename_i h
        exact .inr (.inr ⟨_, rfl, lim_le h, same_v s u3 w3 (.str _)⟩)
      · exact w3.elim
    · exact w3.elim
theorem vf_slice {e : Expr} {lo hi : Option Expr} {de : En → M D} {dl dh : En → M (Option Int)} {p2 pos : Pos} (he : VP X C e de) (hl : VO X C lo dl) (hh : VO X C hi dh) : VF X C (.Subscript e (.Slice lo hi none p2) pos) (slV de dl dh opSlL) :=
  PE.of (pe_slice sl_list he hl hh) fun σ H Q ⟨U, env, G0, H0, G, b, S, w⟩ => by
    refine ⟨U, env, G0, H0, G, b, S, wp_mono (wp_bind.mp w) fun b1 d1 w1 v1 G1 H1 e1 u1 r1 => ?_⟩
    refine ⟨U, env, G0, H0, G1, b1, S.to e1 u1, wp_mono (wp_bind.mp w1) fun b2 lo w2 G2 H2 e2 u2 => ?_⟩
    refine ⟨U, env, G0, H0, G2, b2, (S.to e1 u1).to e2 u2, wp_mono (wp_bind.mp w2) fun b3 hi w3 G3 H3 e3 u3 => ?_⟩
    have x := e1.trans (e2.trans e3)
    have s := x.sub
    have r3 := r1.to (e2.trans e3)
    have w3 := wp_mono w3 (pf_to x)
    unfold opSlL at w3
    split at w3
    · obtain ⟨a, vs, rfl, ha, ra⟩ := r3.lst s
      exact ⟨a, vs, rfl, SqL.of ha, fun p hp => fresh_v s u3 w3 (show Reps X.K C U _ _ _ from reps_cut ra) hp⟩
    · exact w3.elim
/-! ### displays -/
theorem vf_lst {es : List Expr} {ds : En → M (List D)} {pos : Pos} (h : VA X C es ds) : VF X C (.List es pos) (fun env => ds env >>= fun xs => guardL xs >>= fun _ => .ok (.lst xs)) :=
  PE.of (pe_lst h) fun σ H Q ⟨U, env, G0, H0, G, b, S, w⟩ => by
    refine ⟨U, env, G0, H0, G, b, S, wp_mono (wp_bind.mp w) fun b1 d1 w1 v1 G1 H1 e1 u1 r1 => ?_⟩
    unfold guardL at w1
    by_cases hl : d1.length ≤ lim
    · rw [if_pos hl] at w1
      refine ⟨lim_le (by rw [r1.length]; exact hl), fun p hp => ?_⟩
      exact fresh_v (d := .lst d1) e1.sub u1 (pf_to e1 _ _ w1) r1 hp
    · rw [if_neg hl] at w1; exact False.elim w1
theorem ve_tup {es : List Expr} {ds : En → M (List D)} {k : Nat} {pos : Pos} (h : VA X C es ds) : VE X C (.Tuple es k pos) (fun env => ds env >>= fun xs => guardL xs >>= fun _ => .ok (.tup xs)) :=
  PE.of (pe_tup h) fun σ H Q ⟨U, env, G0, H0, G, b, S, w⟩ => by
    refine ⟨U, env, G0, H0, G, b, S, wp_mono (wp_bind.mp w) fun b1 d1 w1 v1 G1 H1 e1 u1 r1 => ?_⟩
    unfold guardL at w1
    by_cases hl : d1.length ≤ lim
    · rw [if_pos hl] at w1
      refine ⟨lim_le (by rw [r1.length]; exact hl), fun p hp => ?_⟩
      exact new_t e1.sub u1 (pv_to e1 _ _ w1) r1 hp
    · rw [if_neg hl] at w1; exact False.elim w1
theorem vf_dic0 {pos : Pos} : VF X C (.Dict [] [] pos) (fun _ => .ok (.dic [] [])) := PE.of pe_dnewK fun σ H Q ⟨U, env, G0, H0, G, b, S, w⟩ p hp =>
  fresh_v (d := .dic [] []) (o := .dK []) S.sub S.un w ⟨rfl, .nil⟩ hp
/-! ### built-ins -/
abbrev one (f : D → M D) : List D → M D := fun ds => match ds with
  | [d] => f d
  | _ => .bad
theorem pk_one {K : PySem.W.Frag} {U : Option Addr} {G H : Hp} {xs : List V} {d : D} (r : Paired (Pk K C U G H) xs [d]) : ∃ v, xs = [v] ∧ Pk K C U G H v d := by
  cases r with
  | cons h t => cases t; exact ⟨_, rfl, h⟩
def lenD : D → M D
  | .lst xs => .ok (.int xs.length)
  | .tup xs => .ok (.int xs.length)
  | .str x => if x.length ≤ lim then .ok (.int x.length) else .bad
  | .dic ks _ => .ok (.int ks.length)
  | _ => .bad
def rLenA (K : PySem.W.Frag) : List V → Hp → VK → Prop := fun xs H Q => (∃ p ys, xs = [.ref p] ∧ (SqL K H p ys ∨ SqT K H p ys) ∧ Q (.int ys.length) H) ∨ (∃ z, xs = [.str z] ∧ z.length ≤ sizeLine ∧ Q (.int z.length) H) ∨ (∃ a kvs, xs = [V.ref a] ∧ H a = some (.dK kvs) ∧ Q (.int kvs.length) H)
theorem cr_len : CallR X (.builtin "len") (rLenA X.K) := CallR.or call_len_seq (CallR.or call_len_str call_lenD)
def isFrz (H : Hp) (a : Addr) : Prop := ∃ ob u, H a = some (.frz ob u)
theorem len_1 {K : PySem.W.Frag} : OpN K C (fun xs H Q => rLenA K xs H Q) (one fun d => match d with
  | .dic _ _ => .bad
  | d => lenD d) := fun U G H b xs ds Q s u r w => by
  unfold one at w
  split at w
  · obtain ⟨v, rfl, rv⟩ := pk_one r
    rename_i d
    cases d with
    | lst ds => obtain ⟨a, vs, rfl, h, rr⟩ := rv.lst s; exact .inl ⟨a, vs, rfl, .inl (SqL.of h), by rw [rr.length]; exact same_v s u w (.int _)⟩
    | tup ds => obtain ⟨a, vs, rfl, h, rr, _⟩ := rv.tup s; exact .inl ⟨a, vs, rfl, .inr h, by rw [rr.length]; exact same_v s u w (.int _)⟩
    | str x =>
      cases rv.str
      have w : wp (if x.length ≤ lim then M.ok (D.int x.length) else .bad) b (PV K C U G H Q) := w
      split at w
      · rename_i h; exact .inr (.inl ⟨x, rfl, lim_le h, same_v s u w (.int _)⟩)
      · exact w.elim
    | _ => exact w.elim
  · exact w.elim
def tupD : D → M D
  | .lst xs => .ok (.tup xs)
  | .tup xs => .ok (.tup xs)
  | _ => .bad
theorem tup_1 {K : PySem.W.Frag} : OpN K C (fun xs H Q => ∃ p ys, xs = [.ref p] ∧ ((SqL K H p ys ∧ ∀ l, H l = none → Q (.ref l) (upd H l (.tup ys))) ∨ (SqT K H p ys ∧ Q (.ref p) H))) (one tupD) := fun U G H b xs ds Q s u r w => by
  unfold one at w
  split at w
  · obtain ⟨v, rfl, rv⟩ := pk_one r
    unfold tupD at w
    split at w
    · obtain ⟨a, vs, rfl, h, rr⟩ := rv.lst s
      exact ⟨a, vs, rfl, .inl ⟨SqL.of h, fun l hl => new_t s u w rr hl⟩⟩
    · obtain ⟨a, vs, rfl, h, rr, r0⟩ := rv.tup s
      exact ⟨a, vs, rfl, .inr ⟨h, same_v s u w r0⟩⟩
    · exact w.elim
  · exact w.elim
def lstD : D → M D
  | .lst xs => .ok (.lst xs)
  | .tup xs => .ok (.lst xs)
  | _ => .bad
theorem lst_1 {K : PySem.W.Frag} : OpNF K C (fun xs H Q => ∃ p ys, xs = [.ref p] ∧ (SqL K H p ys ∨ SqT K H p ys) ∧ ∀ l, H l = none → Q (.ref l) (upd H l (.lst ys))) (one lstD) := fun U G H b xs ds Q s u r w => by
  unfold one at w
  split at w
  · obtain ⟨v, rfl, rv⟩ := pk_one r
    unfold lstD at w
    split at w
    · obtain ⟨a, vs, rfl, h, rr⟩ := rv.lst s
      exact ⟨a, vs, rfl, .inl (SqL.of h), fun l hl => fresh_v (d := .lst _) s u w rr hl⟩
    · obtain ⟨a, vs, rfl, h, rr, r0⟩ := rv.tup s
      exact ⟨a, vs, rfl, .inr h, fun l hl => fresh_v (d := .lst _) s u w rr hl⟩
    · exact w.elim
  · exact w.elim
def intD : D → M D
  | .int i => .ok (.int i)
  | .bl k => .ok (.int (if k then 1 else 0))
  | _ => .bad
theorem int_1 {K : PySem.W.Frag} : OpN K C (fun xs H Q => (∃ i, xs = [.int i] ∧ Q (.int i) H) ∨ ∃ k, xs = [.bl k] ∧ Q (.int (if k then 1 else 0)) H) (one intD) := fun U G H b xs ds Q s u r w => by
  unfold one at w
  split at w
  · obtain ⟨v, rfl, rv⟩ := pk_one r
    unfold intD at w
    split at w
    · cases rv.int; exact .inl ⟨_, rfl, same_v s u w (.int _)⟩
    · cases rv.bl; exact .inr ⟨_, rfl, same_v s u w (.int _)⟩
    · exact w.elim
  · exact w.elim
abbrev two (f : D → D → M D) : List D → M D := fun ds => match ds with
  | [d, e] => f d e
  | _ => .bad
theorem pk_two {K : PySem.W.Frag} {U : Option Addr} {G H : Hp} {xs : List V} {d e : D} (r : Paired (Pk K C U G H) xs [d, e]) : ∃ v w, xs = [v, w] ∧ Pk K C U G H v d ∧ Pk K C U G H w e := by
  cases r with
  | cons h t =>
    cases t with
    | cons h2 t => cases t; exact ⟨_, _, rfl, h, h2⟩
def maxD : D → D → M D
  | .int i, .int j => .ok (.int (if j > i then j else i))
  | _, _ => .bad
def minD : D → D → M D
  | .int i, .int j => .ok (.int (if j < i then j else i))
  | _, _ => .bad
theorem max_2 {K : PySem.W.Frag} : OpN K C (fun xs H Q => ∃ i j, xs = [.int i, .int j] ∧ Q (.int (if j > i then j else i)) H) (two maxD) := fun U G H b xs ds Q s u r w => by
  unfold two at w
  split at w
  · obtain ⟨v, v2, rfl, rv, rv2⟩ := pk_two r
    unfold maxD at w
    split at w
    · cases rv.int; cases rv2.int; exact ⟨_, _, rfl, same_v s u w (.int _)⟩
    · exact w.elim
  · exact w.elim
theorem min_2 {K : PySem.W.Frag} : OpN K C (fun xs H Q => ∃ i j, xs = [.int i, .int j] ∧ Q (.int (if j < i then j else i)) H) (two minD) := fun U G H b xs ds Q s u r w => by
  unfold two at w
  split at w
  · obtain ⟨v, v2, rfl, rv, rv2⟩ := pk_two r
    unfold minD at w
    split at w
    · cases rv.int; cases rv2.int; exact ⟨_, _, rfl, same_v s u w (.int _)⟩
    · exact w.elim
  · exact w.elim
/-- lists of bools, ints, texts -/
def allB : List D → Option (List Bool)
  | [] => some []
  | .bl b :: ds => (allB ds).map (b :: ·)
  | _ => none
def allI : List D → Option (List Int)
  | [] => some []
  | .int b :: ds => (allI ds).map (b :: ·)
  | _ => none
def allS : List D → Option (List Str)
  | [] => some []
  | .str b :: ds => (allS ds).map (b :: ·)
  | _ => none
theorem reps_b {K : PySem.W.Frag} {U : Option Addr} {G : Hp} : ∀ {vs : List V} {ds : List D} {bs : List Bool}, Reps K C U G vs ds → allB ds = some bs → vs = bs.map V.bl
  | _, _, _, .nil, e => by cases e; rfl
  | _, _, _, .cons h r, e => by
    cases h <;> first | (cases e; done) | skip
    rw [allB] at e
    obtain ⟨l, e1, e2⟩ := Option.map_eq_some_iff.mp e
    subst e2
    rw [reps_b r e1]
    rfl
theorem reps_i {K : PySem.W.Frag} {U : Option Addr} {G : Hp} : ∀ {vs : List V} {ds : List D} {bs : List Int}, Reps K C U G vs ds → allI ds = some bs → vs = bs.map V.int
  | _, _, _, .nil, e => by cases e; rfl
  | _, _, _, .cons h r, e => by
    cases h <;> first | (cases e; done) | skip
    rw [allI] at e
    obtain ⟨l, e1, e2⟩ := Option.map_eq_some_iff.mp e
    subst e2
    rw [reps_i r e1]
    rfl
theorem reps_s {K : PySem.W.Frag} {U : Option Addr} {G : Hp} : ∀ {vs : List V} {ds : List D} {bs : List Str}, Reps K C U G vs ds → allS ds = some bs → vs = bs.map V.str
  | _, _, _, .nil, e => by cases e; rfl
  | _, _, _, .cons h r, e => by
    cases h <;> first | (cases e; done) | skip
    rw [allS] at e
    obtain ⟨l, e1, e2⟩ := Option.map_eq_some_iff.mp e
    subst e2
    rw [reps_s r e1]
    rfl
theorem strs_reps {K : PySem.W.Frag} {U : Option Addr} {G : Hp} : ∀ l : List Str, Reps K C U G (l.map V.str) (l.map D.str)
  | [] => .nil
  | x :: l => .cons (.str x) (strs_reps l)
theorem ints_reps {K : PySem.W.Frag} {U : Option Addr} {G : Hp} : ∀ l : List Int, Reps K C U G (l.map V.int) (l.map D.int)
  | [] => .nil
  | x :: l => .cons (.int x) (ints_reps l)
def allD : D → M D
  | .lst ds => match allB ds with
    | some bs => .ok (.bl (bs.all id))
    | none => .bad
  | _ => .bad
def anyD : D → M D
  | .lst ds => match allB ds with
    | some bs => .ok (.bl (bs.any id))
    | none => .bad
  | _ => .bad
def sumD : D → M D
  | .lst ds => match allI ds with
    | some bs => .ok (.int bs.sum)
    | none => .bad
  | _ => .bad
theorem all_1 {K : PySem.W.Frag} : OpN K C (rAll K) (one allD) := fun U G H b xs ds Q s u r w => by
  unfold one at w
  split at w
  · obtain ⟨v, rfl, rv⟩ := pk_one r
    unfold allD at w
    split at w
    · obtain ⟨a, vs, rfl, h, rr⟩ := rv.lst s
      split at w
      · rename_i e
        exact ⟨a, _, rfl, by rw [← reps_b rr e]; exact SqL.of h, same_v s u w (.bl _)⟩
      · exact w.elim
    · exact w.elim
  · exact w.elim
theorem any_1 {K : PySem.W.Frag} : OpN K C (rAny K) (one anyD) := fun U G H b xs ds Q s u r w => by
  unfold one at w
  split at w
  · obtain ⟨v, rfl, rv⟩ := pk_one r
    unfold anyD at w
    split at w
    · obtain ⟨a, vs, rfl, h, rr⟩ := rv.lst s
      split at w
      · rename_i e
        exact ⟨a, _, rfl, by rw [← reps_b rr e]; exact SqL.of h, same_v s u w (.bl _)⟩
      · exact w.elim
    · exact w.elim
  · exact w.elim
theorem sum_1 {K : PySem.W.Frag} : OpN K C (rSum K) (one sumD) := fun U G H b xs ds Q s u r w => by
  unfold one at w
  split at w
  · obtain ⟨v, rfl, rv⟩ := pk_one r
    unfold sumD at w
    split at w
    · obtain ⟨a, vs, rfl, h, rr⟩ := rv.lst s
      split at w
      · rename_i e
        exact ⟨a, _, rfl, by rw [← reps_i rr e]; exact SqL.of h, same_v s u w (.int _)⟩
      · exact w.elim
    · exact w.elim
  · exact w.elim
/-! ### walks -/
theorem walk_l {K : PySem.W.Frag} {U : Option Addr} {G : Hp} {a : Addr} {vs : List V} {ds : List D} (h : G a = some (.lst vs)) (r : Reps K C U G vs ds) : WalkOk K C U G (Itl K a) ds where
  stop := fun G' H' g s => ⟨vs, sq_l s (g _ _ h), by rw [r.length]; exact Nat.le_refl _⟩
  go := fun i d G' H' g s e => by
    obtain ⟨v, hv, _⟩ := r.get' e
    exact ⟨vs, v, sq_l s (g _ _ h), hv⟩
  yld := fun i d G' H' x H2 b g s e u y => by
    obtain ⟨rfl, y⟩ := y
    obtain ⟨v, hv, rv⟩ := r.get' e
    have z := y vs (sq_l s (g _ _ h))
    rw [hv] at z
    cases z
    exact ⟨G', Ext.refl s, u, rv.mono g⟩
theorem walk_t {K : PySem.W.Frag} {U : Option Addr} {G : Hp} {a : Addr} {vs : List V} {ds : List D} (h : SqT K G a vs) (r : Reps K C U G vs ds) : WalkOk K C U G (Itt K a) ds where
  stop := fun G' H' g s => ⟨vs, sq_t s (Sx.sqT_same g h), by rw [r.length]; exact Nat.le_refl _⟩
  go := fun i d G' H' g s e => by
    obtain ⟨v, hv, _⟩ := r.get' e
    exact ⟨vs, v, sq_t s (Sx.sqT_same g h), hv⟩
  yld := fun i d G' H' x H2 b g s e u y => by
    obtain ⟨rfl, y⟩ := y
    obtain ⟨v, hv, rv⟩ := r.get' e
    have z := y vs (sq_t s (Sx.sqT_same g h))
    rw [hv] at z
    cases z
    exact ⟨G', Ext.refl s, u, rv.mono g⟩
theorem walk_r {K : PySem.W.Frag} {U : Option Addr} {G : Hp} (lo : Int) (n : Nat) : WalkOk K C U G (Itr lo n) ((List.range n).map fun i => D.int (lo + (i : Nat))) where
  stop := fun G' H' g s => by show n ≤ _; simp
  go := fun i d G' H' g s e => by
    have := (List.getElem?_eq_some_iff.mp e).1
    show i < n
    simpa using this
  yld := fun i d G' H' x H2 b g s e u y => by
    obtain ⟨rfl, rfl⟩ := y
    have l : i < (List.range n).length := by have := (List.getElem?_eq_some_iff.mp e).1; simpa using this
    rw [List.getElem?_map, List.getElem?_eq_getElem l, List.getElem_range] at e
    cases e
    exact ⟨G', Ext.refl s, u, .int _⟩
def signs (x : Str) : List D := x.cps.toList.map fun c => D.str ⟨#[c]⟩
theorem signs_at (x : Str) {i : Nat} {d : D} (e : (signs x)[i]? = some d) : ∃ c, x.cps[i]? = some c ∧ d = .str ⟨#[c]⟩ := by
  unfold signs at e
  rw [List.getElem?_map] at e
  obtain ⟨c, h, rfl⟩ := Option.map_eq_some_iff.mp e
  exact ⟨c, by simpa using h, rfl⟩
theorem walk_s {K : PySem.W.Frag} {U : Option Addr} {G : Hp} (x : Str) : WalkOk K C U G (Its x) (signs x) := by
  refine ⟨fun G' H' g s => ?_, fun i d G' H' g s e => ?_, fun i d G' H' x' H2 b g s e u y => ?_⟩
  · show x.cps.size ≤ _
    unfold signs
    simp
  · obtain ⟨c, h, _⟩ := signs_at x e
    exact (Array.getElem?_eq_some_iff.mp h).1
  · obtain ⟨c, h, rfl⟩ := signs_at x e
    obtain ⟨rfl, c', h', rfl⟩ := y
    rw [h] at h'
    cases h'
    exact ⟨G', Ext.refl s, u, .str _⟩
/-- a list, a tuple, a text -/
def walkD : D → M (List D)
  | .lst ds => .ok ds
  | .tup ds => .ok ds
  | .str x => .ok (signs x)
  | _ => .bad
def iSqS (K : PySem.W.Frag) (te : TE) : TI := fun σ H R => te σ H fun v H1 => (∃ a, v = .ref a ∧ (∃ xs, SqL K H1 a xs) ∧ R (Itl K a) H1) ∨ (∃ a, v = .ref a ∧ (∃ xs, SqT K H1 a xs) ∧ R (Itt K a) H1) ∨ ∃ x, v = .str x ∧ R (Its x) H1
theorem pi_sqs {X : Cx} {tg e : Expr} {te : TE} (he : PE X e te) : PI X tg e (iSqS X.K te) := ⟨fun pins s σ H R I h => by
  refine thn (he.run pins s σ H _ I h) fun v s1 ⟨y, H1, I1, r1, q⟩ => ?_
  rcases q with ⟨a, rfl, ⟨xs, hq⟩, q⟩ | ⟨a, rfl, ⟨xs, hq⟩, q⟩ | ⟨x, rfl, q⟩
  · cases r1
    obtain ⟨its, rv, p, _⟩ := I1.list hq
    exact wpAny_pyIter_list p.isList (pi_one (tk := s1.toks) I1 _ (turn_list a _) ⟨_, Heap.get?_push_size _ rfl, rfl, rfl⟩ q)
  · cases r1
    obtain ⟨its, rv, p, _⟩ := I1.tuple hq
    exact wpAny_pyIter_tuple (show s1.heap.IsTuple a its.toArray from p) (pi_one (tk := s1.toks) I1 _ (turn_tuple a _) ⟨_, Heap.get?_push_size _ rfl, rfl, rfl⟩ q)
  · obtain ⟨t, rfl⟩ := r1
    cases ha : x.cps.all (· < 128)
    · exact wpAny_pyIter_wide ha (pi_one (tk := s1.toks) I1 _ (turn_str _ x t _ (.inr rfl)) ⟨_, Heap.get?_push_size _ rfl, rfl, rfl⟩ q)
    · exact wpAny_pyIter_ascii ha (pi_one (tk := s1.toks) I1 _ (turn_str _ x t _ (.inl rfl)) ⟨_, Heap.get?_push_size _ rfl, rfl, rfl⟩ q)⟩
theorem vi_seq {tg e : Expr} {de : En → M D} (h : VE X C e de) : VI X C tg e (fun env => de env >>= walkD) := PI.of (pi_sqs h) fun σ H R ⟨U, env, G0, H0, G, b, S, w⟩ => by
  refine ⟨U, env, G0, H0, G, b, S, wp_mono (wp_bind.mp w) fun b1 d1 w1 v1 G1 H1 e1 u1 r1 => ?_⟩
  cases r1 with
  | lst h r => exact .inl ⟨_, rfl, ⟨_, sq_l e1.sub h⟩, w1 _ _ _ e1 u1 (walk_l h r)⟩
  | tup h r => exact .inr (.inl ⟨_, rfl, ⟨_, sq_t e1.sub h⟩, w1 _ _ _ e1 u1 (walk_t h r)⟩)
  | str x => exact .inr (.inr ⟨x, rfl, w1 _ _ _ e1 u1 (walk_s x)⟩)
  | _ => exact w1.elim
/-- range(n), range(a, b) -/
def rangeD (lo n : Int) : List D := (List.range (n - lo).toNat).map fun i => D.int (lo + (i : Nat))
abbrev rng1 : List D → M (List D) := fun ds => match ds with
  | [.int n] => if -(2 ^ 60) ≤ n ∧ n ≤ 2 ^ 60 then .ok (rangeD 0 n) else .bad
  | _ => .bad
abbrev rng2 : List D → M (List D) := fun ds => match ds with
  | [.int i, .int j] => if -(2 ^ 60) ≤ i ∧ i ≤ 2 ^ 60 ∧ -(2 ^ 60) ≤ j ∧ j ≤ 2 ^ 60 then .ok (rangeD i j) else .bad
  | _ => .bad
theorem pk_ints {K : PySem.W.Frag} {U : Option Addr} {G H : Hp} {xs : List V} {i : Int} (r : Paired (Pk K C U G H) xs [.int i]) : xs = [.int i] := by
  obtain ⟨v, rfl, q⟩ := pk_one r
  cases q.int; rfl
theorem vi_range1 {tg a : Expr} {ds : En → M (List D)} {p pos : Pos} (hm : X.mg "range" = none) (ha : VPs X C [a] ds) (hg : Gl X "range" := by rfl) (hs : starEach [a] X.env = [(false, eval a X.env)] := by rfl) : VI X C tg (.Call (.Name "range" p) [a] [] pos) (fun env => ds env >>= rng1) :=
  PI.of (pi_range1 hg hm ha hs) fun σ H R ⟨U, env, G0, H0, G, b, S, w⟩ => by
    refine ⟨U, env, G0, H0, G, b, S, wp_mono (wp_bind.mp w) fun b1 d1 w1 v1 G1 H1 e1 u1 r1 => ?_⟩
    unfold rng1 at w1
    split at w1
    · rename_i n
      cases pk_ints r1
      split at w1
      · rename_i h
        refine ⟨n, rfl, by omega, by omega, w1 _ _ _ e1 u1 ?_⟩
        have z := walk_r (C := C) (K := X.K) (U := U) (G := G1) 0 n.toNat
        unfold rangeD
        rw [Int.sub_zero]
        exact z
      · exact w1.elim
    · exact w1.elim
theorem vi_range2 {tg a c : Expr} {ds : En → M (List D)} {p pos : Pos} (hm : X.mg "range" = none) (ha : VPs X C [a, c] ds) (hg : Gl X "range" := by rfl) (hs : starEach [a, c] X.env = [(false, eval a X.env), (false, eval c X.env)] := by rfl) (hs2 : starEach [c] X.env = [(false, eval c X.env)] := by rfl) :
    VI X C tg (.Call (.Name "range" p) [a, c] [] pos) (fun env => ds env >>= rng2) :=
  PI.of (pi_range2 hg hm ha hs hs2) fun σ H R ⟨U, env, G0, H0, G, b, S, w⟩ => by
    refine ⟨U, env, G0, H0, G, b, S, wp_mono (wp_bind.mp w) fun b1 d1 w1 v1 G1 H1 e1 u1 r1 => ?_⟩
    unfold rng2 at w1
    split at w1
    · rename_i i j
      obtain ⟨v, v2, rfl, q1, q2⟩ := pk_two r1
      cases q1.int
      cases q2.int
      split at w1
      · rename_i h
        exact ⟨i, j, rfl, ⟨by omega, by omega, by omega, by omega⟩, w1 _ _ _ e1 u1 (walk_r i _)⟩
      · exact w1.elim
    · exact w1.elim
theorem PI.or {tg e : Expr} {t t' : TI} (h : PI X tg e t) (h' : PI X tg e t') : PI X tg e (fun σ H R => t σ H R ∨ t' σ H R) := ⟨fun pins s σ H Q I w => w.elim (h.run pins s σ H Q I) (h'.run pins s σ H Q I)⟩
end
end Vw

/-! VwF -/
/-! A def sees only what is told: what is hidden stays. -/
namespace Vw
open PySem PySem.Spec PyProof.Rows L2
/-- where G tells, and the own dicts of the instances there -/
def Dm (G H : Hp) (a : Addr) : Prop := G a ≠ none ∨ ∃ p c fs, H a = some (.own p) ∧ G p = some (.ins c a fs)
open Classical in
/-- H there -/
noncomputable def rst (G H : Hp) : Hp := fun a => if Dm G H a then H a else none
open Classical in
/-- R there and at new places, else H -/
noncomputable def mrg (G H R : Hp) : Hp := fun a => if Dm G H a ∨ H a = none then R a else H a
section
variable {G H R : Hp} {a : Addr} {o : HO}
theorem rst_in (h : Dm G H a) : rst G H a = H a := by unfold rst; rw [if_pos h]
theorem rst_out (h : ¬ Dm G H a) : rst G H a = none := by unfold rst; rw [if_neg h]
theorem dm_of (h : G a = some o) : Dm G H a := .inl (by rw [h]; simp)
theorem rst_some (h : rst G H a = some o) : Dm G H a ∧ H a = some o := by
  unfold rst at h
  split at h
  · rename_i z
    exact ⟨z, h⟩
  · cases h
theorem rst_none (h : H a = none) : rst G H a = none := by
  unfold rst
  rw [h]; split <;> rfl
theorem mrg_in (h : Dm G H a) : mrg G H R a = R a := by unfold mrg; rw [if_pos (.inl h)]
theorem mrg_new (h : H a = none) : mrg G H R a = R a := by unfold mrg; rw [if_pos (.inr h)]
theorem mrg_out (h : ¬ Dm G H a) (h2 : H a = some o) : mrg G H R a = some o := by
  unfold mrg
  rw [if_neg, h2]
  rintro (z | z)
  · exact h z
  · rw [h2] at z; cases z
end
section
variable {P : Program} {w : World} {G H R : Hp} {h h' : Heap}
theorem obj_got {a : Addr} {o : HO} (x : ObjOk P w H h a o) : ∃ ob, h.get? a = some ob := by
  cases o with
  | lst xs => obtain ⟨_, _, _, _, z⟩ := x; exact ⟨_, z⟩
  | tup xs => obtain ⟨_, _, _, ob, z, _⟩ := x; exact ⟨ob, z⟩
  | dK kvs => obtain ⟨_, _, _, _, ob, _, _, z, _⟩ := x; exact ⟨ob, z⟩
  | dT kvs => obtain ⟨_, _, _, _, ob, _, _, z, _⟩ := x; exact ⟨ob, z⟩
  | set S n => obtain ⟨ob, _, _, _, z, _⟩ := x; exact ⟨ob, z⟩
  | ins C dx fs => obtain ⟨_, _, _, z, _⟩ := x; exact ⟨_, z⟩
  | own y => exact x
  | xd fs => obtain ⟨_, ⟨ob, _, _, z, _⟩, _⟩ := x; exact ⟨ob, z⟩
  | rng lo hi => obtain ⟨_, _, _, z⟩ := x; exact ⟨_, z⟩
  | frz ob u => exact ⟨ob, x.1⟩
  | tbl ps => exact ⟨_, x⟩
  | met f y => exact ⟨_, x⟩
  | ext φ => exact x.2.1
theorem hok_rst (s : Sub G H) (x : HOk P w H h) : HOk P w (rst G H) h := fun a o e => by
  obtain ⟨dm, e⟩ := rst_some e
  have ob := x a o e
  rcases dm with g | ⟨p, c, fs, e2, _⟩
  · cases gu : G a with
    | none => exact absurd gu g
    | some u =>
      have r := s.to a u gu
      have oks := s.sm a u gu
      unfold okO at oks
      split at oks
      · have r : H a = _ := r
        rw [e] at r; cases r; exact ob
      · have r : H a = _ := r
        rw [e] at r; cases r; exact ob
      · rcases r with r | ⟨z, r⟩ <;> rw [e] at r <;> cases r <;> exact ob
      · have r : H a = _ := r
        rw [e] at r; cases r; exact ob
      · rename_i z kvs
        have r : H a = some (.dK kvs) := r
        rw [e] at r; cases r; exact ob
      · have r : H a = _ := r
        rw [e] at r; cases r
        obtain ⟨h1, h2⟩ := ob
        exact ⟨by rw [rst_in (.inr ⟨a, _, _, h1, gu⟩)]; exact h1, h2⟩
      · exact oks.elim
  · rw [e] at e2
    cases e2
    exact ob
theorem un_mrg {fs : List Addr} (x : HOk P w H h) (u : Un fs [] (rst G H) R h h') : Un fs [] H (mrg G H R) h h' := by
  refine ⟨fun b o e n hb hx => u.keep b o e (rst_none n) hb hx, fun b o e n hb hx => u.slot b o e (rst_none n) hb hx, fun b o e n hx => ?_, fun b o e hx => u.there b o e hx, fun b xs e => ?_, fun b o v e => ?_, fun b ps e => ?_⟩
  · rw [mrg_new n]; exact u.free b o e (rst_none n) hx
  · by_cases g : Dm G H b
    · rw [mrg_in g]; exact u.tups b xs (by rw [rst_in g]; exact e)
    · exact mrg_out g e
  · by_cases g : Dm G H b
    · rw [mrg_in g]; exact u.frzs b o v (by rw [rst_in g]; exact e)
    · exact mrg_out g e
  · by_cases g : Dm G H b
    · rw [mrg_in g]; exact u.tbls b ps (by rw [rst_in g]; exact e)
    · exact ⟨#[], by rw [mrg_out g e]; simp⟩
theorem hok_mrg {fs : List Addr} (s : Sub G H) (x : HOk P w H h) (hf : ∀ b ∈ fs, H b = none) (u : Un fs [] (rst G H) R h h') (y : HOk P w R h') : HOk P w (mrg G H R) h' := fun a o e => by
  have hid : ∀ {b}, ¬ Dm G H b → H b ≠ none → R b = none := fun {b} g n => by
    cases q : H b with
    | none => exact absurd q n
    | some v =>
      obtain ⟨ob, ho⟩ := obj_got (x b v q)
      exact u.free b _ ho (rst_out g) (by simp)
  have same : ∀ {b v}, R b = some v → mrg G H R b = some v := fun {b v} q => by
    by_cases g : Dm G H b
    · rw [mrg_in g]; exact q
    · cases z : H b with
      | none => rw [mrg_new z]; exact q
      | some _ => rw [hid g (by rw [z]; simp)] at q; cases q
  by_cases c : Dm G H a ∨ H a = none
  · have e' : R a = some o := by unfold mrg at e; rw [if_pos c] at e; exact e
    exact (y a o e').stay (fun b v _ q => q) (fun b q => same q) fun b xs q => same q
  · have g : ¬ Dm G H a := fun z => c (.inl z)
    have e' : H a = some o := by unfold mrg at e; rw [if_neg c] at e; exact e
    have noG : ∀ {b}, H b = some (.own a) → ¬ Dm G H b := fun {b} q dm => by
      rcases dm with z | ⟨p, _, _, q2, z⟩
      · cases gv : G b with
        | none => exact z gv
        | some v =>
          have r := s.to b v gv
          have oks := s.sm b v gv
          unfold Rd' at r
          split at r
          · rcases r with r | ⟨_, r⟩ <;> rw [q] at r <;> cases r
          · rw [q] at r; cases r
          · rw [q] at r; cases r; exact oks
      · rw [q] at q2
        cases q2
        exact g (dm_of z)
    have kept : ∀ b v, ¬ Dm G H b → H b ≠ none → h.get? b = some v → h'.get? b = some v := fun b v gb nb q => u.keep b v q (rst_out gb) (fun m => nb (hf b m)) (by simp)
    refine (x a o e').stay (fun b v hb q => ?_) (fun b q => ?_) fun b xs q => ?_
    · rcases hb with rfl | hb
      · exact kept b v g (by rw [e']; simp) q
      · exact kept b v (noG hb) (by rw [hb]; simp) q
    · exact mrg_out (noG q) q
    · exact (un_mrg x u).tups b xs q
end
section
variable {P : Program} {w : World} {K : PySem.W.Frag} {mg : Str → Option Value} {base : Heap} {k : Nat} {f : Addr} {fd : FuncData} {ps : List Str} {sp : Sp}
def spR (sp : Sp) : Sp := fun vs H Q E => ∃ G, Sub G H ∧ sp vs (rst G H) (fun v R => (∀ b, ¬ Dm G H b → H b ≠ none → R b = none) → Q v (mrg G H R)) E
theorem framed (F : FnOk P w K mg base CX0 k f fd ps sp) : FnOk P w K mg base CX0 k f fd ps (spR sp) := by
  refine ⟨fun vs H Q E ⟨G, _, h⟩ => F.len _ _ _ _ h, fun A outer s H args us vs Q E hr e0 hb hv ⟨G, sb, h⟩ => ?_⟩
  have e1 : Env0 P w K mg base A outer s (rst G H) := by
    exact ⟨e0.frames, e0.mod, fun b o q => ⟨(e0.bs b o q).1, rst_none (e0.bs b o q).2⟩, e0.bsz, e0.funs, fun b q => rst_none (e0.frf b q), hok_rst sb e0.hok, e0.bare⟩
  refine codeAny_mono (F.run A outer s (rst G H) args us vs _ E hr e1 hb hv h) fun r s' q => ?_
  cases r with
  | error e => exact q
  | ok fl =>
    cases fl with
    | ret u =>
      obtain ⟨v, R, os, ba, un, hk, rv, q⟩ := q
      exact ⟨v, mrg G H R, os, ba, un_mrg e0.hok un, hok_mrg sb e0.hok e0.frf un hk, rv, q fun b nb hb => by
        cases z : H b with
        | none => exact absurd z hb
        | some v =>
          obtain ⟨ob, ho⟩ := obj_got (e0.hok b v z)
          exact un.free b _ ho (rst_out nb) (by simp)⟩
    | next => exact q
    | brk => exact q
    | cont => exact q
end

/-! ### new objects are told -/
open Classical in
noncomputable def tell (G H R : Hp) (T : Addr → Prop) : Hp := fun a => if (G a).isSome = true then G a else if H a = none ∧ T a then R a else none
section
variable {G H R : Hp} {T : Addr → Prop} {U : Option Addr}
theorem tell_old {a : Addr} {o : HO} (h : G a = some o) : tell G H R T a = some o := by unfold tell; rw [if_pos (by rw [h]; rfl), h]
theorem tell_new {a : Addr} (s : Sub G H) (h : H a = none) (t : T a) : tell G H R T a = R a := by
  unfold tell
  rw [if_neg (by rw [s.ne h]; simp), if_pos ⟨h, t⟩]
theorem tell_some {a : Addr} {o : HO} (h : tell G H R T a = some o) : G a = some o ∨ (G a = none ∧ H a = none ∧ T a ∧ R a = some o) := by
  unfold tell at h
  split at h
  · exact .inl h
  · rename_i z
    split at h
    · rename_i y
      refine .inr ⟨?_, y.1, y.2, h⟩
      cases g : G a with
      | none => rfl
      | some v => rw [g] at z; exact absurd rfl z
    · cases h
/-- what is told of new places: N; as they stand: F -/
structure TellOk (H F N : Hp) (T : Addr → Prop) : Prop where
  sm : ∀ a o, T a → H a = none → N a = some o → okO o ∧ Rd' F a o
/-- all that was tracked is kept -/
theorem ext_all {F N : Hp} (s : Sub G H) (k : ∀ a o, H a = some o → F a = some o) (t : TellOk H F N T) : Ext U G H (tell G H N T) F := by
  refine ⟨fun a o h _ => k a o h, fun a h => ?_, fun a o h => tell_old h, ⟨fun a o h => ?_, fun a o h => ?_⟩, fun a g h => ?_⟩
  · cases q : H a with
    | none => exact absurd q h
    | some o => rw [k a o q]; simp
  · rcases tell_some h with h | ⟨_, h1, h2, h3⟩
    · exact (s.to a o h).same (k a)
    · exact (t.sm _ _ h2 h1 h3).2
  · rcases tell_some h with h | ⟨_, h1, h2, h3⟩
    · exact s.sm _ _ h
    · exact (t.sm _ _ h2 h1 h3).1
  · unfold tell
    rw [if_neg (by rw [g]; simp), if_neg fun z => h z.1]
theorem mrg_keep (k : ∀ a o, rst G H a = some o → R a = some o) {a : Addr} {o : HO} (h : H a = some o) : mrg G H R a = some o := by
  by_cases g : Dm G H a
  · rw [mrg_in g]; exact k a o (by rw [rst_in g]; exact h)
  · exact mrg_out g h
/-- lists, tuples and dicts -/
def isPl (R : Hp) : Addr → Prop := fun a => ∃ o, R a = some o ∧ plainO o
theorem tell_pl : TellOk H R R (isPl R) := ⟨fun a o ⟨o', h, p⟩ _ e => by rw [h] at e; cases e; exact ⟨plain_ok p, .of h p⟩⟩
end
end Vw

/-! VwG -/
/-! Statements that change what is one's own; several targets; further calls. -/
namespace Vw
open PySem PySem.Spec PyProof.Rows L2
section
variable {X : Cx} {C : Nat → Addr}
/-- what the walk never comes to -/
theorem vs_bad {st : Stmt} : VS X C st (fun _ => .bad) := PS.of ps_never fun D σ H ⟨U, env, G0, H0, G, b, S, w⟩ => w.elim
theorem vss_bad {sts : List Stmt} : VSs X C sts (fun _ => .bad) := PSs.of pss_never fun D σ H ⟨U, env, G0, H0, G, b, S, w⟩ => w.elim
theorem ve_bad {e : Expr} {t : TE} (h : PE X e t) : VE X C e (fun _ => .bad) := PE.of h fun σ H Q ⟨U, env, G0, H0, G, b, S, w⟩ => w.elim
theorem wp_absurd {α β : Type} {m : M α} {b : Nat} {Q : Nat → β → Prop} (h : wp m b (fun b' _ => wp (M.bad : M β) b' Q)) : False := by
  induction m generalizing b with
  | ok a => exact h
  | bad => exact h
  | err n xs => exact h
  | take low k ih =>
    obtain ⟨l, _, b', _, h⟩ := h
    exact ih 0 (h 0 l)
theorem wp_none {α : Type} {m : M α} {b : Nat} {R : Nat → α → Prop} (h : wp m b R) (n : ∀ b a, R b a → False) : False := wp_absurd (β := Unit) (Q := fun _ _ => True) (wp_mono h n)
/-- x.append(e) -/
def appM (i : Nat) (d : D) (env : En) : M Fl := match env[i]? with
  | some (.ow (.lst ds)) => if ds.length < lim then .ok (.next (env.set i (.ow (.lst (ds ++ [d]))))) else .bad
  | _ => .bad
theorem vs_append (i : Nat) {x : Str} {e : Expr} {de : En → M D} {np apos cpos pos : Pos} (he : VE X C e de) (hN : X.N[i]? = some x := by rfl) (hv : Vis X.env.scope x := by first | exact Or.inl rfl | exact Or.inr (Or.inl rfl) | exact Or.inr (Or.inr rfl)) (hd : (x == ("__debug__" : Str)) = false := by decide)
    (hcd : (x == ("__classdict__" : Str)) = false := by decide)
    (hbase : attributeBase (.Name x np) "append" X.env (eval (.Name x np) X.env) = eval (.Name x np) X.env := by rfl)
    (hfew : ((backTo cpos (starEach [e] X.env)).all (fun x => !x.1) && (backToKw cpos (keywordEach [] X.env)).all (fun x => x.1.isSome)
      && decide ([e].length + ([] : List Keyword).length + (if ([] : List Keyword).isEmpty then 0 else 1) < 30)) = true := by rfl)
    (hline : (apos.endLine == cpos.line) = true := by rfl) (hs : starEach [e] X.env = [(false, eval e X.env)] := by rfl) (hsw : swapsWith (.Call (.Attribute (.Name x np) "append" apos) [e] [] cpos) none pos.line X.env = pure false := by rfl) :
    VS X C (.Expr (.Call (.Attribute (.Name x np) "append" apos) [e] [] cpos) pos) (fun env => de env >>= fun d => appM i d env) :=
  PS.of (ps_expr (pe_bm PySem.F.plainAttrs_list PySem.F.slot_list_append PySem.F.type_list_append mt_append (pv i hN hv hd hcd) (pa_cons he pa_nil hs) hbase hfew hline hs) hsw) fun E σ H ⟨U, env, G0, H0, G, b, S, w⟩ => by
    have inner := wp_bind.mp w
    unfold appM at inner
    split at inner
    · rename_i ds ei
      obtain ⟨p, o, hp, h, g, r, n, u⟩ := S.st.owned ei
      cases o with
      | lst vs =>
        refine ⟨_, hp, .inl ⟨rfl, _, .inl (.inl h)⟩, U, env, G0, H0, G, b, S, wp_mono inner fun b1 d1 w1 v1 G1 H1 e1 u1 r1 => ?_⟩
        split at w1
        · rename_i hl
          have S1 := S.to e1 u1
          have h1 := e1.keep _ _ h u
          have r' : Reps X.K C U G vs ds := r
          refine ⟨p, vs, v1, rfl, rfl, h1, Nat.lt_trans (by rw [r'.length]; exact hl) lim_line, ?_⟩
          exact w1 _ G1 _ ⟨S1.st.write ei hp (show Reps X.K C U G1 _ _ from (r'.mono e1.grow).snoc r1), u1.mut u⟩ e1.grow
        · exact w1.elim
      | _ => exact r.elim
    · exact (wp_absurd (wp_mono inner fun _ _ z => z)).elim
/-- d[k] = e, an own dict -/
def putM (i : Nat) (k v : D) (env : En) : M Fl := match env[i]? with
  | some (.ow (.dic ks ds)) => keyOf k >>= fun k => if ks.length < lim ∧ ks.length = ds.length then .ok (.next (env.set i (.ow (dicD (putD (ks.zip ds) k v))))) else .bad
  | _ => .bad
theorem kreps_zip {K : PySem.W.Frag} {U : Option Addr} {G : Hp} : ∀ {kvs : List (Key × V)} {ds : List D}, Reps K C U G (kvs.map (·.2)) ds → KReps K C U G kvs ((kvs.map (·.1)).zip ds)
  | [], _, r => by cases r; exact .nil
  | p :: kvs, _, r => by
    cases r with
    | cons h t => exact .cons ⟨rfl, h⟩ (kreps_zip t)
theorem vs_dput (i : Nat) {x : Str} {k e : Expr} {dk de : En → M D} {np tp pos : Pos} (hu : X.A.units + 1 < cLine) (hk : VE X C k dk) (he : VE X C e de) (hs : swapsWith e (some (.Subscript (.Name x np) k tp)) pos.line X.env = pure false := by rfl)
    (hN : X.N[i]? = some x := by rfl) (hv : Vis X.env.scope x := by first | exact Or.inl rfl | exact Or.inr (Or.inl rfl) | exact Or.inr (Or.inr rfl)) (hd : (x == ("__debug__" : Str)) = false := by decide) (hcd : (x == ("__classdict__" : Str)) = false := by decide) :
    VS X C (.Assign [.Subscript (.Name x np) k tp] e pos) (fun env => de env >>= fun d => dk env >>= fun kd => putM i kd d env) :=
  PS.of (ps_dput hu (pv i hN hv hd hcd) hk he hs) fun E σ H ⟨U, env, G0, H0, G, b, S, w⟩ => by
    have inner := wp_bind.mp w
    refine ⟨U, env, G0, H0, G, b, S, wp_mono inner fun b1 d1 w1 v1 G1 H1 e1 u1 r1 => ?_⟩
    have w1 := wp_bind.mp w1
    unfold putM at w1
    split at w1
    · rename_i ks ds ei
      obtain ⟨p, o, hp, h, g, r, n, u⟩ := S.st.owned ei
      cases o with
      | dK kvs =>
        refine ⟨_, hp, U, env, G0, H0, G1, b1, S.to e1 u1, wp_mono w1 fun b2 d2 w2 v2 G2 H2 e2 u2 r2 => ?_⟩
        obtain ⟨key, rfl, w2⟩ := key_of r2 (wp_bind.mp w2)
        split at w2
        · rename_i hl
          have x2 := e1.trans e2
          have S2 := S.to x2 u2
          have h2 := x2.keep _ _ h u
          obtain ⟨rfl, r'⟩ := r
          have kr : KReps X.K C U G2 kvs _ := (kreps_zip r').mono x2.grow
          refine ⟨p, _, rfl, DPut.k h2 (Nat.lt_trans (by simpa using hl.1) lim_line), ?_⟩
          exact w2 _ G2 _ ⟨S2.st.write ei hp (kr.put (r1.mono e2.grow)).hrep, u2.mut u⟩ x2.grow
        · exact w2.elim
      | _ => exact r.elim
    · exact (wp_absurd (wp_mono w1 fun _ _ z => z)).elim
/-- del d[k] -/
def delM (i : Nat) (k : D) (env : En) : M Fl := match env[i]? with
  | some (.ow (.dic ks ds)) => keyOf k >>= fun k => if (ks.any fun q => decide (q = k)) = true ∧ ks.length = ds.length then .ok (.next (env.set i (.ow (dicD ((ks.zip ds).filter fun q => decide (q.1 ≠ k)))))) else .bad
  | _ => .bad
theorem KReps.drop {K : PySem.W.Frag} {U : Option Addr} {G : Hp} {k : Key} : ∀ {kvs : List (Key × V)} {kds : List (Key × D)}, KReps K C U G kvs kds → KReps K C U G (dropK kvs k) (kds.filter fun q => decide (q.1 ≠ k))
  | _, _, .nil => .nil
  | _, _, .cons (a := p) (b := q) h r => by
    unfold dropK
    rw [List.filter_cons, List.filter_cons, h.1]
    split
    · exact .cons h (KReps.drop r)
    · exact KReps.drop r
theorem vs_ddel (i : Nat) {x : Str} {k : Expr} {dk : En → M D} {np tp pos : Pos} (hk : VE X C k dk)
    (hN : X.N[i]? = some x := by rfl) (hv : Vis X.env.scope x := by first | exact Or.inl rfl | exact Or.inr (Or.inl rfl) | exact Or.inr (Or.inr rfl)) (hd : (x == ("__debug__" : Str)) = false := by decide) (hcd : (x == ("__classdict__" : Str)) = false := by decide) :
    VS X C (.Delete [.Subscript (.Name x np) k tp] pos) (fun env => dk env >>= fun kd => delM i kd env) :=
  PS.of (ps_ddel (pv i hN hv hd hcd) hk) fun E σ H ⟨U, env, G0, H0, G, b, S, w⟩ => by
    have inner := wp_bind.mp w
    unfold delM at inner
    split at inner
    · rename_i ks ds ei
      obtain ⟨p, o, hp, h, g, r, n, u⟩ := S.st.owned ei
      cases o with
      | dK kvs =>
        refine ⟨_, hp, U, env, G0, H0, G, b, S, wp_mono inner fun b1 d1 w1 v1 G1 H1 e1 u1 r1 => ?_⟩
        obtain ⟨key, rfl, w2⟩ := key_of r1 (wp_bind.mp w1)
        split at w2
        · rename_i hl
          have S1 := S.to e1 u1
          have h1 := e1.keep _ _ h u
          obtain ⟨rfl, r'⟩ := r
          have kr : KReps X.K C U G1 kvs _ := (kreps_zip r').mono e1.grow
          refine ⟨p, kvs, key, rfl, h1, rfl, ?_, ?_⟩
          · rw [← valV_any key kvs]
            have z := hl.1
            rw [List.any_map] at z
            exact z
          · exact w2 _ G1 _ ⟨S1.st.write ei hp (kr.drop).hrep, u1.mut u⟩ e1.grow
        · exact w2.elim
      | _ => exact r.elim
    · exact (wp_absurd (wp_mono inner fun _ _ z => z)).elim
/-- n += e -/
abbrev augS (i : Nat) (de : En → M D) (op : D → D → M D) : En → M Fl := fun env => rd i env >>= fun x => de env >>= fun y => op x y >>= fun z => .ok (.next (env.set i (.fr z)))
def Ip2 (K : PySem.W.Frag) (C : Nat → Addr) (r : TIp) (op : D → D → M D) : Prop := Op2 K C r op
theorem pip_add : PIp X .Add (rI0 fun i j => .int (i + j)) := fun pins s σ H x y v u Q I rx ry h => iop_add pins s σ H x y v u Q I rx ry h
def opAddI : D → D → M D
  | .int i, .int j => .ok (.int (i + j))
  | _, _ => .bad
theorem addI_2 {K : PySem.W.Frag} : Op2 K C (rI0 fun i j => .int (i + j)) opAddI := fun U G H b x y d e Q s u rx ry w => by
  unfold opAddI at w
  split at w
  · cases rx.int; cases ry.int
    exact ⟨_, _, rfl, rfl, same_v s u w (.int _)⟩
  · exact w.elim
theorem vs_aug {i : Nat} {x : Str} {e : Expr} {de : En → M D} {op : Operator} {r : TIp} {f : D → D → M D} {pos pos' : Pos} (ho : PIp X op r) (h : Op2 X.K C r f) (he : VE X C e de) (hN : X.N.Nodup) (hi : X.N[i]? = some x := by rfl) (hx : Loc X.env.scope x := by first | exact Or.inl rfl | exact Or.inr rfl)
    (hf : X.fn x = true ∨ X.env.scope.names.lookup x = some .local := by first | exact .inl rfl | exact .inr rfl | assumption) : VS X C (.AugAssign (.Name x pos') op e pos) (augS i de f) :=
  PS.of (ps_aug hN hi hx he ho hf) fun E σ H ⟨U, env, G0, H0, G, b, S, w⟩ => by
    have w := wp_bind.mp w
    unfold rd at w
    split at w
    · rename_i d ei
      obtain ⟨v, hv, r0⟩ := S.st.value ei
      refine ⟨v, hv, U, env, G0, H0, G, b, S, wp_mono (wp_bind.mp w) fun b1 d1 w1 v1 G1 H1 e1 u1 r1 => ?_⟩
      refine h U G1 H1 b1 v v1 d d1 _ e1.sub u1 (r0.mono e1.grow).pk r1.pk (wp_mono (wp_bind.mp w1) fun b2 d2 w2 v2 G2 H2 e2 u2 r2 => ?_)
      exact w2 _ G2 H2 ⟨(S.st.to (e1.trans e2)).set i r2, u2⟩ (e1.trans e2).grow
    · exact w.elim

/-! ### a, b = x, y -/
/-- what an item of the right side is -/
inductive MxR (K : PySem.W.Frag) (C : Nat → Addr) (U : Option Addr) (H0 G H : Hp) : V → Sl → Prop
  | fr {v : V} {d : D} : Rep K C U G v d → MxR K C U H0 G H v (.fr d)
  | ow {p : Addr} {o : HO} {d : D} : H0 p = none → H p = some o → G p = none → HRep K C U G o d → U ≠ some p → MxR K C U H0 G H (.ref p) (.ow d)
structure MxsR (K : PySem.W.Frag) (C : Nat → Addr) (U : Option Addr) (H0 G H : Hp) (vs : List V) (ss : List Sl) : Prop where
  all : Paired (MxR K C U H0 G H) vs ss
  ap : ∀ (i j : Nat) (d d' : D) (p : Addr), ss[i]? = some (.ow d) → vs[i]? = some (.ref p) → ss[j]? = some (.ow d') → vs[j]? = some (.ref p) → i = j
theorem MxR.ext {K : PySem.W.Frag} {U : Option Addr} {H0 G H G' H' : Hp} {v : V} {s : Sl} (e : Ext U G H G' H') (h : MxR K C U H0 G H v s) : MxR K C U H0 G' H' v s := by
  cases h with
  | fr r => exact .fr (r.mono e.grow)
  | ow n h g r u => exact .ow n (e.keep _ _ h u) (e.hid _ g (by rw [h]; simp)) (r.mono e.grow) u
abbrev PMx (K : PySem.W.Frag) (C : Nat → Addr) (U : Option Addr) (G H : Hp) (Q : List V → Hp → Prop) : Nat → List Sl → Prop := fun b ss => ∀ vs G' H', Ext U G H G' H' → UrnSt U H' b → MxsR K C U H G' H' vs ss → Q vs H'
def tMx (K : PySem.W.Frag) (C : Nat → Addr) (den : En → M (List Sl)) : TA := fun σ H Q => ∃ U env G0 H0 G b, Here K C U G0 H0 env σ G H b ∧ wp (den env) b (PMx K C U G H Q)
abbrev VM (X : Cx) (C : Nat → Addr) (es : List Expr) (den : En → M (List Sl)) : Prop := PA X es (tMx X.K C den)
theorem vm_nil : VM X C [] (fun _ => .ok []) := PA.of pa_nil fun σ H Q ⟨U, env, G0, H0, G, b, S, w⟩ => w _ _ _ (Ext.refl S.sub) S.un ⟨.nil, fun i j d d' p h => by simp at h⟩
abbrev mxV (de : En → M D) (ds : En → M (List Sl)) : En → M (List Sl) := fun env => de env >>= fun x => ds env >>= fun xs => .ok (.fr x :: xs)
abbrev mxF (de : En → M D) (ds : En → M (List Sl)) : En → M (List Sl) := fun env => de env >>= fun x => ds env >>= fun xs => .ok (.ow x :: xs)
theorem mxr_down {K : PySem.W.Frag} {U : Option Addr} {H0 H1 G H : Hp} {v : V} {s : Sl} (h : MxR K C U H1 G H v s) (d : ∀ p, H1 p = none → H0 p = none) : MxR K C U H0 G H v s := by
  cases h with
  | fr r => exact .fr r
  | ow n h g r u => exact .ow (d _ n) h g r u
theorem vm_v {e : Expr} {es : List Expr} {de : En → M D} {ds : En → M (List Sl)} (h : VE X C e de) (t : VM X C es ds) (hs : starEach (e :: es) X.env = (false, eval e X.env) :: starEach es X.env := by rfl) : VM X C (e :: es) (mxV de ds) :=
  PA.of (pa_cons h t hs) fun σ H Q ⟨U, env, G0, H0, G, b, S, w⟩ => by
    refine ⟨U, env, G0, H0, G, b, S, wp_mono (wp_bind.mp w) fun b1 d1 w1 v1 G1 H1 e1 u1 r1 => ?_⟩
    refine ⟨U, env, G0, H0, G1, b1, S.to e1 u1, wp_mono (wp_bind.mp w1) fun b2 d2 w2 v2 G2 H2 e2 u2 r2 => ?_⟩
    refine w2 _ _ _ (e1.trans e2) u2 ⟨.cons (.fr (r1.mono e2.grow)) (paired_mono (fun _ _ z => mxr_down z fun p => e1.back) r2.all), fun i j d d' p h1 h2 h3 h4 => ?_⟩
    cases i with
    | zero => simp at h1
    | succ i =>
      cases j with
      | zero => simp at h3
      | succ j => exact congrArg (· + 1) (r2.ap i j d d' p (by simpa using h1) (by simpa using h2) (by simpa using h3) (by simpa using h4))
theorem vm_f {e : Expr} {es : List Expr} {de : En → M D} {ds : En → M (List Sl)} (h : VF X C e de) (t : VM X C es ds) (hs : starEach (e :: es) X.env = (false, eval e X.env) :: starEach es X.env := by rfl) : VM X C (e :: es) (mxF de ds) :=
  PA.of (pa_cons h t hs) fun σ H Q ⟨U, env, G0, H0, G, b, S, w⟩ => by
    refine ⟨U, env, G0, H0, G, b, S, wp_mono (wp_bind.mp w) fun b1 d1 w1 p o G1 H1 e1 u1 hp g1 h1 r1 => ?_⟩
    refine ⟨U, env, G0, H0, G1, b1, S.to e1 u1, wp_mono (wp_bind.mp w1) fun b2 d2 w2 v2 G2 H2 e2 u2 r2 => ?_⟩
    have nu : U ≠ some p := S.un.ne hp
    have first : MxR X.K C U H1 G2 H2 (.ref p) (.ow d1) → MxR X.K C U H G2 H2 (.ref p) (.ow d1) := fun z => mxr_down z fun q => e1.back
    have head : MxR X.K C U H G2 H2 (.ref p) (.ow d1) := .ow hp (e2.keep _ _ h1 nu) (e2.hid _ g1 (by rw [h1]; simp)) (r1.mono e2.grow) nu
    have other : ∀ (j : Nat) (d' : D), d2[j]? = some (.ow d') → v2[j]? ≠ some (.ref p) := fun j d' q1 q2 => by
      have : ∀ {vs : List V} {ss : List Sl} {j : Nat}, Paired (MxR X.K C U H1 G2 H2) vs ss → ss[j]? = some (.ow d') → vs[j]? = some (.ref p) → H1 p = none := by
        intro vs ss j hh
        induction hh generalizing j with
        | nil => intro z; simp at z
        | cons z t ih =>
          cases j with
          | zero =>
            intro y1 y2
            simp at y1 y2
            subst y1 y2
            cases z with
            | ow n _ _ _ _ => exact n
          | succ j => intro y1 y2; exact ih (by simpa using y1) (by simpa using y2)
      have z := this r2.all q1 q2
      rw [h1] at z; cases z
    refine w2 _ _ _ (e1.trans e2) u2 ⟨.cons head (paired_mono (fun _ _ z => mxr_down z fun p => e1.back) r2.all), fun i j d d' q q1 q2 q3 q4 => ?_⟩
    cases i with
    | zero =>
      cases j with
      | zero => rfl
      | succ j =>
        simp at q2
        subst q2
        exact absurd (by simpa using q4) (other j d' (by simpa using q3))
    | succ i =>
      cases j with
      | zero =>
        simp at q4
        subst q4
        exact absurd (by simpa using q2) (other i d (by simpa using q1))
      | succ j => exact congrArg (· + 1) (r2.ap i j d d' q (by simpa using q1) (by simpa using q2) (by simpa using q3) (by simpa using q4))
/-- the slots of a row of targets -/
def setAll : List Nat → List Sl → En → En
  | i :: is, s :: ss, env => setAll is ss (env.set i s)
  | _, _, env => env
def setAllV : List Nat → List V → L2.St → L2.St
  | i :: is, v :: vs, σ => setAllV is vs (σ.set i (some v))
  | _, _, σ => σ
theorem st_all {K : PySem.W.Frag} {U : Option Addr} {G0 H0 G H Hb : Hp} : ∀ {is : List Nat} {vs : List V} {ss : List Sl} {env : En} {σ : L2.St}, St K C U G0 H0 env σ G H → MxsR K C U Hb G H vs ss → (∀ p, Hb p = none → H0 p = none) →
    (∀ (j : Nat) (d d' : D) (i : Nat) (p : Addr), ss[i]? = some (.ow d) → vs[i]? = some (.ref p) → env[j]? = some (.ow d') → σ[j]? ≠ some (some (.ref p))) → St K C U G0 H0 (setAll is ss env) (setAllV is vs σ) G H
  | [], _, _, _, _, S, _, _, _ => by unfold setAll setAllV; exact S
  | i :: is, [], [], _, _, S, _, _, _ => by unfold setAll setAllV; exact S
  | i :: is, v :: vs, [], _, _, _, m, _, _ => nomatch m.all
  | i :: is, [], s :: ss, _, _, _, m, _, _ => nomatch m.all
  | i :: is, v :: vs, s :: ss, env, σ, S, m, dn, apart => by
    have ma := m.all
    cases ma with
    | cons z t =>
      have m2 : MxsR K C U Hb G H vs ss := ⟨t, fun a c d d' p h1 h2 h3 h4 => by have := m.ap (a + 1) (c + 1) d d' p (by simpa using h1) (by simpa using h2) (by simpa using h3) (by simpa using h4); omega⟩
      unfold setAll setAllV
      cases z with
      | fr r =>
        refine st_all (S.set i r) m2 dn fun j d d' k p h1 h2 h3 h4 => ?_
        by_cases e : j = i
        · subst e
          rw [List.getElem?_set] at h3
          simp at h3
        · rw [List.getElem?_set_ne (Ne.symm e)] at h3 h4
          exact apart j d d' (k + 1) p (by simpa using h1) (by simpa using h2) h3 h4
      | ow n h g r u =>
        rename_i p o d0
        refine st_all (S.own i h g r (dn _ n) u fun j d' hj h1 h2 => apart j d0 d' 0 p rfl rfl h1 h2) m2 dn fun j d d' k q h1 h2 h3 h4 => ?_
        by_cases e : j = i
        · subst e
          rw [List.getElem?_set] at h4
          split at h4
          · split at h4
            · have : V.ref p = V.ref q := by simpa using h4
              cases this
              have := m.ap 0 (k + 1) d0 d p rfl rfl (by simpa using h1) (by simpa using h2)
              omega
            · cases h4
          · rename_i y; exact absurd rfl y
        · rw [List.getElem?_set_ne (Ne.symm e)] at h3 h4
          exact apart j d d' (k + 1) q (by simpa using h1) (by simpa using h2) h3 h4
abbrev parS (is : List Nat) (ds : En → M (List Sl)) : En → M Fl := fun env => ds env >>= fun ss => if ss.length = is.length then .ok (.next (setAll is ss env)) else .bad
theorem par_fin {K : PySem.W.Frag} {U : Option Addr} {G0 H0 G H : Hp} {env : En} {σ : L2.St} {b b1 : Nat} {is : List Nat} {ss : List Sl} {E : Ends} {vs : List V} {G1 H1 : Hp} (S : Here K C U G0 H0 env σ G H b) (e1 : Ext U G H G1 H1) (u1 : UrnSt U H1 b1)
    (w : SQ K C U G0 H0 G E b1 (.next (setAll is ss env))) (m : MxsR K C U H G1 H1 vs ss) : E.nx (setAllV is vs σ) H1 := by
  refine w _ G1 H1 ⟨st_all (S.st.to e1) m (fun p => S.st.ext.back) fun j d d' i p h1 h2 h3 h4 => ?_, u1⟩ e1.grow
  obtain ⟨q, o, hq, hh, _⟩ := S.st.owned h3
  rw [hq] at h4
  cases h4
  have : ∀ {vs : List V} {ss : List Sl} {j : Nat}, Paired (MxR K C U H G1 H1) vs ss → ss[j]? = some (.ow d) → vs[j]? = some (.ref p) → H p = none := by
    intro vs ss j hx
    induction hx generalizing j with
    | nil => intro z; simp at z
    | cons z t ih =>
      cases j with
      | zero =>
        intro y1 y2
        simp at y1 y2
        subst y1 y2
        cases z with
        | ow n _ _ _ _ => exact n
      | succ j => intro y1 y2; exact ih (by simpa using y1) (by simpa using y2)
  have z := this m.all h1 h2
  rw [hh] at z; cases z
theorem vs_par2 {i j : Nat} {x y : Str} {a b : Expr} {ds : En → M (List Sl)} {px py pt pos : Pos} {kt k2 pt2} (ha : VM X C [a, b] ds) (hN : X.N.Nodup) (hi : X.N[i]? = some x := by rfl) (hj : X.N[j]? = some y := by rfl) (hij : i ≠ j := by decide)
    (hx : X.env.scope.names.lookup x = some .local := by rfl) (hy : X.env.scope.names.lookup y = some .local := by rfl) (hc : X.calm = true := by rfl)
    (hw : swappedStores [.Tuple [.Name x px, .Name y py] kt pt] (.Tuple [a, b] k2 pt2) X.env = pure (some [x, y]) := by rfl)
    (hs : swapsWithSole [.Tuple [.Name x px, .Name y py] kt pt] (.Tuple [a, b] k2 pt2) pos.line X.env = pure false := by rfl) : VS X C (.Assign [.Tuple [.Name x px, .Name y py] kt pt] (.Tuple [a, b] k2 pt2) pos) (parS [i, j] ds) :=
  PS.of (ps_par hc hN hi hj hij hx hy ha hw hs) fun E σ H ⟨U, env, G0, H0, G, b, S, w⟩ => by
    refine ⟨U, env, G0, H0, G, b, S, wp_mono (wp_bind.mp w) fun b1 ss w1 vs G1 H1 e1 u1 m => ?_⟩
    split at w1
    · rename_i hl
      have l2 := Paired.length m.all
      rw [hl] at l2
      match vs, l2 with
      | [v1, v2], _ => exact ⟨v1, v2, rfl, par_fin S e1 u1 w1 m⟩
    · exact w1.elim
theorem vs_par3 {i j l : Nat} {x y z : Str} {a b c : Expr} {ds : En → M (List Sl)} {px py pz pt pos : Pos} {kt k2 pt2} (ha : VM X C [a, b, c] ds) (hN : X.N.Nodup) (hi : X.N[i]? = some x := by rfl) (hj : X.N[j]? = some y := by rfl) (hl : X.N[l]? = some z := by rfl)
    (hij : i ≠ j := by decide) (hil : i ≠ l := by decide) (hjl : j ≠ l := by decide)
    (hx : X.env.scope.names.lookup x = some .local := by rfl) (hy : X.env.scope.names.lookup y = some .local := by rfl) (hz : X.env.scope.names.lookup z = some .local := by rfl) (hc : X.calm = true := by rfl)
    (hw : swappedStores [.Tuple [.Name x px, .Name y py, .Name z pz] kt pt] (.Tuple [a, b, c] k2 pt2) X.env = pure (some [x, y, z]) := by rfl)
    (hs : swapsWithSole [.Tuple [.Name x px, .Name y py, .Name z pz] kt pt] (.Tuple [a, b, c] k2 pt2) pos.line X.env = pure false := by rfl) : VS X C (.Assign [.Tuple [.Name x px, .Name y py, .Name z pz] kt pt] (.Tuple [a, b, c] k2 pt2) pos) (parS [i, j, l] ds) :=
  PS.of (ps_par3 hc hN hi hj hl hij hil hjl hx hy hz ha hw hs) fun E σ H ⟨U, env, G0, H0, G, b, S, w⟩ => by
    refine ⟨U, env, G0, H0, G, b, S, wp_mono (wp_bind.mp w) fun b1 ss w1 vs G1 H1 e1 u1 m => ?_⟩
    split at w1
    · rename_i hl
      have l2 := Paired.length m.all
      rw [hl] at l2
      match vs, l2 with
      | [v1, v2, v3], _ => exact ⟨v1, v2, v3, rfl, par_fin S e1 u1 w1 m⟩
    · exact w1.elim
end
end Vw

/-! SxIu -/
namespace Sx
open PySem PySem.Spec PyProof.Rows L2
/-- d.items(), also of a dict that is walked -/
def tItR (td : TE) : TE := fun σ H Q => td σ H fun x H1 => ∃ (a : Addr) (kvs : List (Key × V)), x = .ref a ∧ Rd H1 a (.dK kvs) ∧ ∀ p, H1 p = none → Q (.ref p) (upd H1 p (DX.itemsO p a))
theorem pe_itR {X : Cx} {o : Expr} {td : TE} {apos cpos : Pos} (ho : PE X o td) (hb : attributeBase o "items" X.env (eval o X.env) = eval o X.env := by rfl) (hl : (apos.endLine == cpos.line) = true := by rfl) :
    PE X (.Call (.Attribute o "items" apos) [] [] cpos) (tItR td) := ⟨fun pins s σ H Q I h => by
  refine wpAny_Call_method0_late hb hl (thn (ho.run pins s σ H _ I h) fun v s1 ⟨x, H1, I1, r1, a, kvs, ex, rd, q⟩ => ?_)
  subst ex
  cases r1
  obtain ⟨t1, t2, _⟩ := isD_at I1 (.inl ⟨kvs, rd⟩)
  obtain ⟨z, hd, vs, rel, ob, es, ep, hob, hx, hdat, _⟩ := dk_rd I1.hok rd
  refine ⟨"dict", _, PySem.F.plainAttrs_dict, PySem.F.slot_dict_items, PySem.F.type_dict_items, t1, t2, Calls.callWith_builtin rfl (PySem.evalArgs_none ?_)⟩
  refine DT.callItems (es := es) (ep := ep) hd ⟨ob, hob, hx, hdat⟩ ?_
  have I2 := I1.laid (t' := s1.toks) (fun b u e => Heap.get?_push_of_some _ e) (Nat.le_refl _) (DX.itemsO_ok (d := a) (Heap.get?_push_size s1.heap rfl))
  exact ⟨.ref s1.heap.objs.size, upd H1 s1.heap.objs.size (DX.itemsO s1.heap.objs.size a), I2, rfl, q _ (I1.hok.fresh (Nat.le_refl _))⟩⟩
def rSortIt3 : List V → Hp → VK → Prop := fun vs H Q => ∃ (p a : Addr) (rw' : List (Str × Int)), vs = [.ref p] ∧ H p = some (DX.itemsO p a) ∧ Rd H a (.dK (rw'.map kiE)) ∧ rw'.length ≤ 10000 ∧
  ∀ (H' : Hp) (l : Addr) (ts : List Addr) (zs : List (Str × Int)), Same H H' → zs.Perm rw' → zs.Pairwise (fun x y => ltKI y x = false) → H' l = some (.lst (ts.map V.ref)) → Paired (fun t (z : Str × Int) => H' t = some (.tup [.str z.1, .int z.2])) ts zs → H l = none → (∀ t ∈ ts, H t = none) → Q (.ref l) H'
theorem cr_sortIt3 {X : Cx} (hc : X.calm = true) : CallR X (.builtin "sorted") rSortIt3 := by
  intro pins s σ H xs us Q I r h
  obtain ⟨p, a, rs, rfl, hp, ha, few, q⟩ := h
  obtain rfl := Vals.ref1 r
  have view : s.heap.IsItemsView p a := (show ObjOk X.prog X.w H s.heap p (DX.itemsO p a) from I.hok p _ hp).1
  obtain ⟨z, hd, vs, rel, o, es, ep, ho, hx, hdat, _, prs, _⟩ := dk_rd I.hok ha
  have l1 : rs.length = vs.length := by
    have y := Paired.length rel
    rw [List.length_map] at y
    exact y
  have l2 : es.size = vs.length := by
    have y := prs.length
    rw [Array.length_toList] at y
    exact y
  refine DT.sortedI (es := es) (ep := ep) (I.ok.hd hc) view ⟨o, ho, hx, hdat⟩ (by rw [sizeLine_eq]; omega) fun h' tk as hk hlt hl hG => ?_
  have lak : as.length = rs.length := by omega
  have nd : as.Nodup := List.Pairwise.imp (fun h => Nat.ne_of_lt h) hG.rise
  have pr : ∀ (j : Nat) (b : Addr), as[j]? = some b → ∃ y, rs[j]? = some y ∧ IsPI h' (.ref b) y ∧ ∀ H2, ObjOk X.prog X.w H2 h' b (.tup [.str y.1, .int y.2]) := by
    intro j b hj
    obtain ⟨en, he, hg⟩ := hG.pairs j b hj
    obtain ⟨v, hv, k1, k2⟩ := pairs_at prs (by rw [Array.getElem?_toList]; exact he)
    have jl : j < rs.length := by rw [l1]; exact (List.getElem?_eq_some_iff.mp hv).1
    obtain ⟨v2, hv2, r1, r2⟩ := paired_get rel (x := kiE rs[j]) (by rw [List.getElem?_map, List.getElem?_eq_getElem jl]; rfl)
    rw [hv] at hv2
    cases hv2
    have rk : RelV (.str rs[j].1) en.key := by
      rw [← r1] at k1
      exact keyIs_rel (k := Sum.inr rs[j].1) k1
    have rv : RelV (.int rs[j].2) en.val := by
      rw [k2]
      exact r2
    exact ⟨rs[j], List.getElem?_eq_getElem jl, ⟨b, _, _, 0, rfl, hg, rfl, rfl, .cons rk (.cons rv .nil)⟩, fun H2 => ⟨(by show 2 ≤ sizeLine; decide), [en.key, en.val], .cons rk (.cons rv .nil), ⟨_, hg, rfl, _, rfl⟩⟩⟩
  have hob : (h'.push { cls := .type "list", data := .seq (as.map Value.ref).toArray }).get? h'.objs.size = some (seqObj "list" (as.map Value.ref).toArray 0) := Heap.get?_push_size _ rfl
  have ne0 : ∀ b o, h'.get? b = some o → b ≠ h'.objs.size := fun b o e => Nat.ne_of_lt (Heap.lt_size e)
  have ka : ∀ b o, h'.get? b = some o → (h'.push { cls := .type "list", data := .seq (as.map Value.ref).toArray }).get? b = some o := fun b o e => Heap.get?_push_of_some _ e
  generalize h'.push { cls := .type "list", data := .seq (as.map Value.ref).toArray } = h2 at hob ka ⊢
  have at_ : ∀ v ∈ as.map Value.ref, ∃ (j : Nat) (b : Addr) (y : Str × Int), v = .ref b ∧ as[j]? = some b ∧ rs[j]? = some y ∧ rowAt as rs v = y ∧ IsPI h' v y := by
    intro v hv'
    obtain ⟨b, hb, rfl⟩ := List.mem_map.mp hv'
    obtain ⟨j, hj⟩ := List.mem_iff_getElem?.mp hb
    obtain ⟨y, hy, ip, _⟩ := pr j b hj
    exact ⟨j, b, y, rfl, hj, hy, rowAt_is nd hj hy, ip⟩
  have stay : ∀ {v : Value} {y : Str × Int} {h3 : Heap}, IsPI h' v y → (∀ b o, h'.get? b = some o → h3.get? b = some o) → IsPI h3 v y := fun {v y h3} ip k => by
    obtain ⟨b, o, its, n, e, ho, r⟩ := ip
    exact ⟨b, o, its, n, e, k _ _ ho, r⟩
  refine wpAny_call_entry PyProof.Rows.slot_list_sort ⟨_, hob, rfl⟩ PyProof.Rows.entry_list_sort
    (SrtO.list_sort_ord (s := { s with heap := h2, toks := tk }) (swo_KI (rowAt as rs)) hob (by rw [List.length_map, sizeLine_eq]; omega) (fun h0 => ki_sortable (s := { s with heap := h2, toks := tk }) (by omega) (fun v hv => ?_) fun o' e => ?_) fun out hs hb => ⟨.none, rfl, ?_⟩) (PyProof.Rows.args_list_sort _)
  · obtain ⟨j, b, y, _, _, _, e, ip⟩ := at_ v hv
    rw [e]
    exact stay ip ka
  · have e' : some o' = some (seqObj "list" (as.map Value.ref).toArray 0) := e.symm.trans hob
    cases e'
    intro c
    exact absurd (Value.type.inj c) (by decide)
  · obtain ⟨ts, eo, pm⟩ := perm_refs2 hb.perm
    subst eo
    obtain ⟨e0, hl3⟩ := sortedHeap_at (vs := as.map Value.ref) (out := (ts.map Value.ref).toArray) hob
    have kp : ∀ b o, h'.get? b = some o → (sortedHeap h2 h'.objs.size (as.map Value.ref) (ts.map Value.ref).toArray).get? b = some o := fun b o e => by
      rw [sortedHeap_old (ne0 b o e) (Heap.lt_size (ka b o e))]
      exact ka b o e
    show EP X pins σ Q (.ref h'.objs.size) { s with heap := sortedHeap h2 h'.objs.size (as.map Value.ref) (ts.map Value.ref).toArray, toks := tk }
    generalize sortedHeap h2 h'.objs.size (as.map Value.ref) (ts.map Value.ref).toArray = h3 at hl3 kp
    have lts : ts.length = as.length := pm.length_eq
    have I1 : Inv X pins σ (upd H h'.objs.size (.lst (ts.map V.ref))) { s with heap := h3, toks := tk } := I.laid (t' := tk) (fun b o e => kp b o (hk b o e)) (Nat.le_of_lt hlt) ⟨by rw [List.length_map, sizeLine_eq]; omega, ts.map Value.ref, e0, vals_refs ts, hl3⟩
    obtain ⟨H2, I2, g, atT⟩ := DX.takeT (P := fun b vs => ∃ (j : Nat) (y : Str × Int), as[j]? = some b ∧ rs[j]? = some y ∧ vs = [.str y.1, .int y.2]) I as _ I1 nd fun b hb => by
      obtain ⟨j, hj⟩ := List.mem_iff_getElem?.mp hb
      obtain ⟨y, hy, ip, ok⟩ := pr j b hj
      have bl := hG.there hb
      refine ⟨Nat.le_of_lt (hG.above b hb), ?_, [.str y.1, .int y.2], ⟨j, y, hj, hy, rfl⟩, fun H2 => ?_⟩
      · rw [upd_ne (Nat.ne_of_lt bl)]
        exact I.hok.fresh (Nat.le_of_lt (hG.above b hb))
      · obtain ⟨c1, c2, c3, o', c4, c5⟩ := ok H2
        exact ⟨c1, c2, c3, o', kp _ _ c4, c5⟩
    have newL : H h'.objs.size = none := I.hok.fresh (Nat.le_of_lt hlt)
    have rowsAs : as.map (fun b => rowAt as rs (.ref b)) = rs := by
      refine List.ext_getElem? fun j => ?_
      rw [List.getElem?_map]
      cases hj : as[j]? with
      | none =>
        have : rs[j]? = none := List.getElem?_eq_none (by have := List.getElem?_eq_none_iff.mp hj; omega)
        rw [this]
        rfl
      | some b =>
        obtain ⟨y, hy, _⟩ := pr j b hj
        rw [hy]
        exact congrArg some (rowAt_is nd hj hy)
    refine ⟨.ref h'.objs.size, H2, I2, rfl, q H2 _ ts (ts.map fun b => rowAt as rs (.ref b)) (fun b o e => g b o (by rw [upd_ne (ne_of_none e newL)]; exact e)) ?_ ?_ (g _ _ upd_same) (paired_own ts fun t ht => ?_) newL fun t ht => I.hok.fresh (Nat.le_of_lt (hG.above t (pm.mem_iff.mp ht)))⟩
    · have y := pm.map (fun b => rowAt as rs (.ref b))
      rw [rowsAs] at y
      exact y
    · exact List.pairwise_map.mpr (List.pairwise_map.mp hs)
    · obtain ⟨vs', ⟨j, y, hj, hy, rfl⟩, ht2⟩ := atT t (pm.mem_iff.mp ht)
      rw [rowAt_is nd hj hy]
      exact ht2
end Sx

/-! VwH -/
/-! Further calls. -/
namespace Vw
open PySem PySem.Spec PyProof.Rows L2
section
variable {X : Cx} {C : Nat → Addr}
theorem VS.fr {i : Nat} {de : En → M D} {st : Stmt} (h : VS X C st (ownS i de)) : VS X C st (setS i de) :=
  PS.of h fun E σ H ⟨U, env, G0, H0, G, b, S, w⟩ => by
    refine ⟨U, env, G0, H0, G, b, S, wp_bind.mpr (wp_mono (wp_bind.mp w) fun b1 d w1 => ?_)⟩
    intro σ' G' H' S' s'
    obtain ⟨G2, s2, S2⟩ := frz_st S' i
    have e : frz i (env.set i (.ow d)) = env.set i (.fr d) := by
      unfold frz
      by_cases hl : i < env.length
      · rw [List.getElem?_set_self hl]
        simp
      · rw [List.set_eq_of_length_le (by omega), List.set_eq_of_length_le (by omega), List.getElem?_eq_none (by omega)]
    rw [e] at S2
    exact w1 σ' G2 H' S2 fun a o q => s2 _ _ (s' _ _ q)
/-! ### isinstance of data -/
def isT (T : String) : D → M Bool
  | .non => .ok false
  | .bl _ => .ok (T == "bool" || T == "int")
  | .int _ => .ok (T == "int")
  | .str _ => .ok (T == "str")
  | .lst _ => .ok (T == "list")
  | .tup _ => .ok (T == "tuple")
  | _ => .bad
def okT (T : String) : Bool := T == "bool" || T == "int" || T == "str" || T == "list" || T == "tuple"
def nameD : D → String
  | .non => "NoneType"
  | .bl _ => "bool"
  | .int _ => "int"
  | .str _ => "str"
  | .lst _ => "list"
  | _ => "tuple"
theorem tyx_pk {K : PySem.W.Frag} {U : Option Addr} {G H : Hp} {v : V} {d : D} {T : String} {b : Nat} {P : Nat → Bool → Prop} (s : Sub G H) (r : Pk K C U G H v d) (w : wp (isT T d) b P) : TyX K H v (.type (nameD d)) := by
  cases d with
  | non => cases r.non; exact .base .non
  | bl i => cases r.bl; exact .base (.bl i)
  | int i => cases r.int; exact .base (.int i)
  | str x => cases r.str; exact .base (.str x)
  | lst ds => obtain ⟨a, vs, rfl, h, _⟩ := r.lst s; exact Sx.tyx_list (SqL.of h)
  | tup ds => obtain ⟨a, vs, rfl, h, _⟩ := r.tup s; exact Sx.tyx_tup h
  | _ => exact w.elim
theorem okT_cases {T : String} (h : okT T = true) : T = "bool" ∨ T = "int" ∨ T = "str" ∨ T = "list" ∨ T = "tuple" := by
  unfold okT at h
  simp only [Bool.or_eq_true, beq_iff_eq] at h
  rcases h with (((h | h) | h) | h) | h
  · exact .inl h
  · exact .inr (.inl h)
  · exact .inr (.inr (.inl h))
  · exact .inr (.inr (.inr (.inl h)))
  · exact .inr (.inr (.inr (.inr h)))
theorem kit_is {T : String} (hT : okT T = true) {d : D} {b : Nat} {P : Nat → Bool → Prop} (w : wp (isT T d) b P) : ∃ c, kitB (nameD d) T = some c ∧ isT T d = .ok c := by
  have all : ∀ n ∈ ["NoneType", "bool", "int", "str", "list", "tuple"], ∀ T ∈ ["bool", "int", "str", "list", "tuple"], kitB n T = some (n == T || (n == "bool" && T == "int")) := by decide +kernel
  have hm : T ∈ ["bool", "int", "str", "list", "tuple"] := by rcases okT_cases hT with h | h | h | h | h <;> subst h <;> simp
  cases d with
  | non => exact ⟨false, by rw [show nameD .non = "NoneType" from rfl, all _ (by simp) T hm]; rcases okT_cases hT with h | h | h | h | h <;> subst h <;> decide, rfl⟩
  | bl i => exact ⟨_, by rw [show nameD (.bl i) = "bool" from rfl, all _ (by simp) T hm], by rcases okT_cases hT with h | h | h | h | h <;> subst h <;> rfl⟩
  | int i => exact ⟨_, by rw [show nameD (.int i) = "int" from rfl, all _ (by simp) T hm], by rcases okT_cases hT with h | h | h | h | h <;> subst h <;> rfl⟩
  | str i => exact ⟨_, by rw [show nameD (.str i) = "str" from rfl, all _ (by simp) T hm], by rcases okT_cases hT with h | h | h | h | h <;> subst h <;> rfl⟩
  | lst i => exact ⟨_, by rw [show nameD (.lst i) = "list" from rfl, all _ (by simp) T hm], by rcases okT_cases hT with h | h | h | h | h <;> subst h <;> rfl⟩
  | tup i => exact ⟨_, by rw [show nameD (.tup i) = "tuple" from rfl, all _ (by simp) T hm], by rcases okT_cases hT with h | h | h | h | h <;> subst h <;> rfl⟩
  | _ => exact w.elim
theorem ve_isi {e : Expr} {de : En → M D} {T : String} {x : Str} {p q pos : Pos} (he : VP X C e de) (hm : X.mg "isinstance" = none) (hT : X.mg x = none) (hb : bootBuiltins x = some (.type T)) (ok : okT T = true := by decide) (hg : Gl X "isinstance" := by rfl) (hg2 : Gl X x := by rfl)
    (hn : x ≠ "__name__" := by decide) (hd : (x == ("__debug__" : Str)) = false := by decide)
    (h1 : starEach [e, .Name x q] X.env = (false, eval e X.env) :: starEach [.Name x q] X.env := by rfl) (h2 : starEach [.Name x q] X.env = (false, eval (.Name x q) X.env) :: starEach [] X.env := by rfl) (hpl : (backTo pos (starEach [.Name x q] X.env)).any (·.1) = false := by rfl) :
    VE X C (.Call (.Name "isinstance" p) [e, .Name x q] [] pos) (fun env => de env >>= fun d => isT T d >>= fun c => .ok (.bl c)) :=
  PE.of (pe_callB call_isi hg hm Sx.bt_isinstance (pa_cons he (pa_cons (pe_bltn (v := .ty T) hg2 hT hb rfl hn hd) pa_nil h2) h1) (by decide) (by decide) h1 hpl) fun σ H Q ⟨U, env, G0, H0, G, b, S, w⟩ => by
    refine ⟨U, env, G0, H0, G, b, S, wp_mono (wp_bind.mp w) fun b1 d1 w1 v1 G1 H1 e1 u1 r1 => ?_⟩
    have w1 := wp_bind.mp w1
    obtain ⟨c, k, ec⟩ := kit_is ok w1
    refine ⟨v1, .ty T, .type (nameD d1), .type T, c, rfl, .ty T, tyx_pk e1.sub r1 w1, kit_ty k, ?_⟩
    rw [ec] at w1
    exact w1 _ _ _ e1 u1 (.bl c)
/-- isinstance(x, (T1, T2)) -/
def isT2 (T T2 : String) (d : D) : M Bool := isT T d >>= fun c => if c = true then .ok true else isT T2 d
theorem ve_isi2 {e : Expr} {de : En → M D} {T T2 : String} {x y : Str} {k : Nat} {p q q2 q3 pos : Pos} (he : VP X C e de) (hm : X.mg "isinstance" = none) (hT : X.mg x = none) (hT2 : X.mg y = none) (hb : bootBuiltins x = some (.type T)) (hb2 : bootBuiltins y = some (.type T2)) (ok : okT T = true := by decide) (ok2 : okT T2 = true := by decide)
    (hg : Gl X "isinstance" := by rfl) (hg2 : Gl X x := by rfl) (hg3 : Gl X y := by rfl) (hn : x ≠ "__name__" := by decide) (hd : (x == ("__debug__" : Str)) = false := by decide) (hn2 : y ≠ "__name__" := by decide) (hd2 : (y == ("__debug__" : Str)) = false := by decide)
    (h1 : starEach [e, .Tuple [.Name x q, .Name y q2] k q3] X.env = (false, eval e X.env) :: starEach [.Tuple [.Name x q, .Name y q2] k q3] X.env := by rfl)
    (h2 : starEach [.Tuple [.Name x q, .Name y q2] k q3] X.env = (false, eval (.Tuple [.Name x q, .Name y q2] k q3) X.env) :: starEach [] X.env := by rfl)
    (h3 : starEach [.Name x q, .Name y q2] X.env = (false, eval (.Name x q) X.env) :: starEach [.Name y q2] X.env := by rfl) (h4 : starEach [.Name y q2] X.env = (false, eval (.Name y q2) X.env) :: starEach [] X.env := by rfl)
    (hpl : (backTo pos (starEach [.Tuple [.Name x q, .Name y q2] k q3] X.env)).any (·.1) = false := by rfl) :
    VE X C (.Call (.Name "isinstance" p) [e, .Tuple [.Name x q, .Name y q2] k q3] [] pos) (fun env => de env >>= fun d => isT2 T T2 d >>= fun c => .ok (.bl c)) :=
  PE.of (pe_callB call_isiT hg hm Sx.bt_isinstance (pa_cons he (pa_cons (pe_tup (pa_cons (pe_bltn (v := .ty T) hg2 hT hb rfl hn hd) (pa_cons (pe_bltn (v := .ty T2) hg3 hT2 hb2 rfl hn2 hd2) pa_nil h4) h3)) pa_nil h2) h1) (by decide) (by decide) h1 hpl) fun σ H Q ⟨U, env, G0, H0, G, b, S, w⟩ => by
    refine ⟨U, env, G0, H0, G, b, S, wp_mono (wp_bind.mp w) fun b1 d1 w1 v1 G1 H1 e1 u1 r1 => ?_⟩
    have w1 := wp_bind.mp w1
    have w2 : wp (isT T d1) b1 fun _ _ => True := wp_mono (wp_bind.mp w1) fun _ _ _ => trivial
    obtain ⟨c, k1, ec⟩ := kit_is ok w2
    have w3 : wp (isT T2 d1) b1 fun _ _ => True := by
      cases d1 <;> first | exact trivial | exact w2.elim
    obtain ⟨c2, k2, ec2⟩ := kit_is ok2 w3
    refine ⟨(by show 2 ≤ sizeLine; decide), fun tp htp => ?_⟩
    have s2 := e1.sub
    have x1 : Ext U G1 H1 G1 (upd H1 tp (.tup [.ty T, .ty T2])) := hp_none s2 htp
    have tx := tyx_pk (Ext.refl (U := U) s2).sub r1 w2
    have tx2 : TyX X.K (upd H1 tp (.tup [.ty T, .ty T2])) v1 (.type (nameD d1)) := tyx_pk x1.sub (r1.to x1) w2
    refine ⟨v1, tp, _, _, _, (c || c2), rfl, upd_same, .cons (.ty _) (.cons (.ty _) .nil), tx2, ?_, ?_⟩
    · refine kitAny_cons (kit_ty k1) (fun h => ?_) (fun h => by rw [h]; rfl)
      rw [h, Bool.false_or]
      exact kitAny_cons (kit_ty k2) (fun h => by rw [h]; exact kitAny_nil) (fun h => h)
    · have e2 : isT2 T T2 d1 = .ok (c || c2) := by
        unfold isT2
        rw [ec, ok_bind, ec2]
        cases c <;> rfl
      rw [e2] at w1
      exact w1 _ _ _ (e1.trans x1) (u1.mut (u1.ne htp)) (.bl _)
/-! ### d.get(k, v) -/
def isDic : D → M Unit
  | .dic _ _ => .ok ()
  | _ => .bad
def opGet (d k v : D) : M D := match d with
  | .dic ks vs => keyOf k >>= fun k => .ok ((getK ks vs k).getD v)
  | _ => .bad
theorem keys_none {k : Key} {vs : List V} {ds : List D} : ∀ {ks : List Key}, ks.length = vs.length → ks.length = ds.length → getK ks ds k = none → valV (ks.zip vs) k = none := by
  intro ks
  induction ks generalizing vs ds with
  | nil => intro _ _ _; rfl
  | cons a ks ih =>
    intro l1 l2 e
    match vs, ds, l1, l2, e with
    | v :: vs, c :: ds, l1, l2, e =>
      unfold getK at e
      rw [List.zip_cons_cons] at e ⊢
      by_cases z : a = k
      · rw [List.find?_cons_of_pos (by exact decide_eq_true z)] at e
        cases e
      · rw [List.find?_cons_of_neg (by simpa using z)] at e
        rw [valV_neg (by exact z)]
        exact ih (by simpa using l1) (by simpa using l2) e
theorem ve_get2 {o e f : Expr} {dd dk dv : En → M D} {apos cpos : Pos} (hu : X.A.units + 1 < cLine) (ho : VP X C o dd) (he : VE X C e dk) (hf : VE X C f dv) (m : M2 X o "get" apos e f cpos := by exact ⟨rfl, rfl, rfl, rfl⟩) :
    VE X C (.Call (.Attribute o "get" apos) [e, f] [] cpos) (fun env => dd env >>= fun d => isDic d >>= fun _ => dk env >>= fun k => dv env >>= fun v => opGet d k v) :=
  PE.of (pe_dget2 hu ho he hf m) fun σ H Q ⟨U, env, G0, H0, G, b, S, w⟩ => by
    refine ⟨U, env, G0, H0, G, b, S, wp_mono (wp_bind.mp w) fun b1 d1 w1 v1 G1 H1 e1 u1 r1 => ?_⟩
    cases d1 with
    | dic ks ds =>
      obtain ⟨a, vs, rfl, h, l, r⟩ := r1.dic e1.sub
      refine ⟨a, rfl, .inl ⟨_, h⟩, U, env, G0, H0, G1, b1, S.to e1 u1, wp_mono (wp_bind.mp w1) fun b2 d2 w2 v2 G2 H2 e2 u2 r2 => ?_⟩
      refine ⟨U, env, G0, H0, G2, b2, (S.to e1 u1).to e2 u2, wp_mono (wp_bind.mp w2) fun b3 d3 w3 v3 G3 H3 e3 u3 r3 => ?_⟩
      have x := e1.trans (e2.trans e3)
      obtain ⟨a', vs', e', h', l', r'⟩ := (r1.to (e2.trans e3)).dic x.sub
      cases e'
      obtain ⟨k, rfl, w4⟩ := key_of r2 (wp_bind.mp w3)
      refine ⟨_, dget_rd h', ?_⟩
      cases q : getK ks ds k with
      | some c =>
        obtain ⟨v, hv, rv⟩ := reps_key l' r' q
        rw [hv]
        rw [q] at w4
        exact w4 _ _ _ x u3 rv
      | none =>
        rw [keys_none l' (by rw [l', r'.length]) q]
        rw [q] at w4
        exact w4 _ _ _ x u3 r3
    | _ => exact w1.elim
/-! ### sorted(d.items()), texts to numbers -/
def allSI : List Key → List D → Option (List (Str × Int))
  | [], [] => some []
  | .inr x :: ks, .int i :: ds => (allSI ks ds).map ((x, i) :: ·)
  | _, _ => none
theorem si_is {K : PySem.W.Frag} {U : Option Addr} {G : Hp} : ∀ {ks : List Key} {vs : List V} {ds : List D} {zs : List (Str × Int)}, ks.length = vs.length → Reps K C U G vs ds → allSI ks ds = some zs → ks.zip vs = zs.map Sx.kiE
  | [], [], [], _, _, _, e => by cases e; rfl
  | k :: ks, v :: vs, d :: ds, zs, l, .cons h r, e => by
    match k, d, h, e with
    | .inr x, .int i, .int _, e =>
      rw [allSI] at e
      obtain ⟨z, e1, e2⟩ := Option.map_eq_some_iff.mp e
      subst e2
      rw [List.zip_cons_cons, si_is (by simpa using l) r e1]
      rfl
/-- the rows, ascending -/
def sortSI (zs : List (Str × Int)) : List (Str × Int) := Sx.srt Sx.ltKI zs
def pairD (z : Str × Int) : D := .tup [.str z.1, .int z.2]
theorem totKI : Sx.Tot Sx.ltKI := by
  refine ⟨fun a => ?_, fun {a b c} h1 h2 => ?_, fun a b => ?_⟩
  · unfold Sx.ltKI; simp
  · unfold Sx.ltKI at h1 h2 ⊢
    by_cases e1 : a.1 = b.1
    · rw [if_pos e1] at h1
      by_cases e2 : b.1 = c.1
      · rw [if_pos e2] at h2
        rw [if_pos (e1.trans e2)]
        have := of_decide_eq_true h1; have := of_decide_eq_true h2
        exact decide_eq_true (by omega)
      · rw [if_neg e2] at h2
        rw [if_neg (by rw [e1]; exact e2), e1]; exact h2
    · rw [if_neg e1] at h1
      by_cases e2 : b.1 = c.1
      · rw [if_neg (by rw [← e2]; exact e1), ← e2]; exact h1
      · rw [if_neg e2] at h2
        have t := Sx.ltS_tr h1 h2
        rw [if_neg fun e => by rw [e, Sx.ltS_irr] at t; cases t]
        exact t
  · unfold Sx.ltKI
    by_cases e : a.1 = b.1
    · rw [if_pos e, if_pos e.symm]
      rcases Int.lt_trichotomy a.2 b.2 with h | h | h
      · exact .inl (decide_eq_true h)
      · exact .inr (.inl (Prod.ext e h))
      · exact .inr (.inr (decide_eq_true h))
    · rw [if_neg e, if_neg (Ne.symm e)]
      rcases Sx.ltS_tri a.1 b.1 with h | h | h
      · exact .inl h
      · exact absurd h e
      · exact .inr (.inr h)
theorem perm_sort {zs ys : List (Str × Int)} (nd : ys.Nodup) (p : zs.Perm ys) (o : zs.Pairwise fun x y => Sx.ltKI y x = false) : zs = sortSI ys := by
  have up : Sx.Up Sx.ltKI zs := Sx.up_of totKI (p.nodup_iff.mpr nd) o
  exact Sx.up_one totKI up (Sx.up_srt totKI ys) fun z => p.mem_iff.trans (Sx.mem_srt totKI).symm
def sortItD : D → M D
  | .dic ks ds => match allSI ks ds with
    | some zs => if (zs.map (·.1)).Nodup ∧ zs.length ≤ 10000 then .ok (.lst ((sortSI zs).map pairD)) else .bad
    | none => .bad
  | _ => .bad
theorem rd_same {H H' : Hp} {a : Addr} {o : HO} (s : Same H H') (h : Rd H a o) : Rd H' a o := h.elim (fun q => .inl (s _ _ q)) fun ⟨ob, q⟩ => .inr ⟨ob, s _ _ q⟩
theorem nodup_of_map {α β : Type} {f : α → β} : ∀ {l : List α}, (l.map f).Nodup → l.Nodup
  | [], _ => List.nodup_nil
  | x :: l, h => by
    rw [List.map_cons, List.nodup_cons] at h
    exact List.nodup_cons.mpr ⟨fun m => h.1 (List.mem_map.mpr ⟨x, m, rfl⟩), nodup_of_map h.2⟩
theorem vf_sortItems {o : Expr} {dd : En → M D} {apos cpos p pos : Pos} (ho : VP X C o dd) (hm : X.mg "sorted" = none) (hc : X.calm = true := by rfl) (hg : Gl X "sorted" := by rfl)
    (hbase : attributeBase o "items" X.env (eval o X.env) = eval o X.env := by rfl) (hline : (apos.endLine == cpos.line) = true := by rfl)
    (h1 : starEach [.Call (.Attribute o "items" apos) [] [] cpos] X.env = (false, eval (.Call (.Attribute o "items" apos) [] [] cpos) X.env) :: starEach [] X.env := by rfl) :
    VF X C (.Call (.Name "sorted" p) [.Call (.Attribute o "items" apos) [] [] cpos] [] pos) (fun env => dd env >>= sortItD) :=
  PE.of (pe_callB (Sx.cr_sortIt3 hc) hg hm Sx.bt_sorted (pa_cons (Sx.pe_itR ho hbase hline) pa_nil h1) (by decide) (by decide) h1 rfl) fun σ H Q ⟨U, env, G0, H0, G, b, S, w⟩ => by
    refine ⟨U, env, G0, H0, G, b, S, wp_mono (wp_bind.mp w) fun b1 d1 w1 v1 G1 H1 e1 u1 r1 => ?_⟩
    cases d1 with
    | dic ks ds =>
      obtain ⟨a, vs, rfl, h, l, r⟩ := r1.dic e1.sub
      have w1 : wp (match allSI ks ds with
        | some zs => if (zs.map (·.1)).Nodup ∧ zs.length ≤ 10000 then M.ok (.lst ((sortSI zs).map pairD)) else .bad
        | none => .bad) b1 (PF X.K C U G H Q) := w1
      split at w1
      · rename_i zs e
        split at w1
        · rename_i nd
          rw [si_is l r e] at h
          · refine ⟨a, _, rfl, h, fun q hq => ?_⟩
            have S1 : Same H1 (upd H1 q (DX.itemsO q a)) := Sx.Same.new hq
            have s1 : Sub G1 (upd H1 q (DX.itemsO q a)) := (hp_none (U := U) e1.sub hq).sub
            have nodup : zs.Nodup := nodup_of_map nd.1
            refine ⟨q, a, zs, rfl, upd_same, rd_same S1 h, nd.2, fun H2 m ts ys S2 pm pw hl hz nm nt => ?_⟩
            have ey := perm_sort nodup pm pw
            subst ey
            have S12 : Same H1 H2 := S1.trans S2
            have back : ∀ p, (upd H1 q (DX.itemsO q a)) p = none → H1 p = none := fun p z => by
              by_cases e : p = q
              · rw [e]; exact hq
              · rw [upd_ne e] at z; exact z
            let T : Addr → Prop := fun p => p ∈ ts
            have tl : ∀ t ∈ ts, ∃ z ∈ sortSI zs, H2 t = some (.tup [.str z.1, .int z.2]) := fun t ht => by
              obtain ⟨j, hj⟩ := List.mem_iff_getElem?.mp ht
              obtain ⟨z, h1, h2⟩ := Sx.paired_get hz hj
              exact ⟨z, List.mem_of_getElem? h1, h2⟩
            have tk : TellOk H1 H2 H2 T := by
              refine ⟨fun p o t _ e => ?_⟩
              obtain ⟨_, _, z⟩ := tl p t
              rw [e] at z; cases z; exact ⟨trivial, e⟩
            have x2 : Ext U G1 H1 (tell G1 H1 H2 T) H2 := ext_all e1.sub S12 tk
            have hm1 : H1 m = none := back m nm
            have mT : m ∉ ts := fun z => by
              obtain ⟨_, _, y⟩ := tl m z
              rw [hl] at y; cases y
            refine w1 m (.lst (ts.map V.ref)) _ H2 (e1.trans x2) (u1.same S12) (e1.back hm1) ?_ hl ?_
            · unfold tell
              rw [if_neg (by rw [e1.sub.ne hm1]; simp), if_neg fun z => mT z.2]
            · have : ∀ {ts' : List Addr} {ys : List (Str × Int)}, (∀ t ∈ ts', t ∈ ts) → Paired (fun t (z : Str × Int) => H2 t = some (.tup [.str z.1, .int z.2])) ts' ys → Reps X.K C U (tell G1 H1 H2 T) (ts'.map V.ref) (ys.map pairD) := by
                intro ts' ys sub hh
                induction hh with
                | nil => exact .nil
                | @cons t z l1 l2 y r ih =>
                  have tm := sub t List.mem_cons_self
                  refine .cons (.tup (.inl (.inl ?_)) (.cons (.str _) (.cons (.int _) .nil))) (ih fun t' ht' => sub t' (List.mem_cons_of_mem _ ht'))
                  rw [tell_new e1.sub (back t (nt t tm)) tm]
                  exact y
              exact this (fun _ z => z) hz
        · exact w1.elim
      · exact w1.elim
    | _ => exact w1.elim
end
end Vw

/-! VwI -/
/-! A Book is told; calls by names; a.append(b.pop(i)). -/
namespace Vw
open PySem PySem.Spec PyProof.Rows L2
/-- the lists and tuples that are told -/
def flt (G : Hp) : Hp := fun a => match G a with
  | some (.lst xs) => some (.lst xs)
  | some (.tup xs) => some (.tup xs)
  | some (.frz ob (.tup xs)) => some (.frz ob (.tup xs))
  | _ => none
theorem flt_some {G : Hp} {a : Addr} {o : HO} (h : flt G a = some o) : G a = some o ∧ ((∃ xs, o = .lst xs) ∨ (∃ xs, o = .tup xs) ∨ ∃ ob xs, o = .frz ob (.tup xs)) := by
  unfold flt at h
  split at h
  · cases h; exact ⟨by assumption, .inl ⟨_, rfl⟩⟩
  · cases h; exact ⟨by assumption, .inr (.inl ⟨_, rfl⟩)⟩
  · cases h; exact ⟨by assumption, .inr (.inr ⟨_, _, rfl⟩)⟩
  · cases h
theorem flt_raw {G H : Hp} {a : Addr} {o : HO} (s : Sub G H) (h : flt G a = some o) : H a = some o := by
  obtain ⟨g, f⟩ := flt_some h
  have r := s.to a o g
  rcases f with ⟨xs, rfl⟩ | ⟨xs, rfl⟩ | ⟨ob, xs, rfl⟩ <;> exact r
theorem flt_sub {G H : Hp} (s : Sub G H) : Sub (flt G) H := ⟨fun a o h => s.to a o (flt_some h).1, fun a o h => s.sm a o (flt_some h).1⟩
theorem flt_lst {G : Hp} {a : Addr} {xs : List V} (h : G a = some (.lst xs)) : flt G a = some (.lst xs) := by unfold flt; rw [h]
theorem flt_tup {G : Hp} {a : Addr} {xs : List V} (h : G a = some (.tup xs)) : flt G a = some (.tup xs) := by unfold flt; rw [h]
theorem flt_frz {G : Hp} {a : Addr} {ob : Obj} {xs : List V} (h : G a = some (.frz ob (.tup xs))) : flt G a = some (.frz ob (.tup xs)) := by unfold flt; rw [h]
def isTu (R : Hp) (a : Addr) : Prop := (∃ xs, R a = some (.tup xs)) ∨ ∃ ob xs, R a = some (.frz ob (.tup xs))
open Classical in
noncomputable def bkN (R : Hp) (an : Addr) (kvs : List (Key × V)) : Hp := fun a => if a = an then some (.frz ⟨.none, none, .plain, #[]⟩ (.dK kvs)) else R a
theorem book_tell {K : PySem.W.Frag} {C : Nat → Addr} {U : Option Addr} {G H R F : Hp} {p : Addr} {ks : List Str} {cs : List (Str × Str)} (s : Sub G H) (k : ∀ a o, H a = some o → F a = some o)
    (r : ∀ a o, R a = some o → F a = some o ∧ (H a = none ∨ (H a = some o ∧ ∃ g, flt G a = some g))) (hp : H p = none) (b : Sx.BookAt K (C 0) R p ks cs) : ∃ G1, Ext U G H G1 F ∧ Rep K C U G1 (.ref p) (.book ks cs) := by
  obtain ⟨dx, ak, ac, an, kvs, ts, h1, h2, h3, h4, h5, h6, h7⟩ := b.ex
  have nan : H an = none := by
    rcases (r an _ h5).2 with z | ⟨z, g, gz⟩
    · exact z
    · have w := flt_raw s gz
      rw [z] at w
      cases w
      obtain ⟨_, f⟩ := flt_some gz
      rcases f with ⟨_, f⟩ | ⟨_, f⟩ | ⟨_, _, f⟩ <;> cases f
  let T : Addr → Prop := fun a => a = p ∨ a = an ∨ isTu R a
  let N := bkN R an kvs
  have npan : p ≠ an := fun z => by rw [z, h5] at h1; cases h1
  have Nan : N an = some (.frz ⟨.none, none, .plain, #[]⟩ (.dK kvs)) := by show bkN R an kvs an = _; unfold bkN; rw [if_pos rfl]
  have Nne : ∀ {a}, a ≠ an → N a = R a := fun {a} z => by show bkN R an kvs a = _; unfold bkN; rw [if_neg z]
  have tk : TellOk H F N T := ⟨fun a o t ha e => by
    by_cases z : a = an
    · subst z
      rw [Nan] at e
      cases e
      exact ⟨trivial, (r _ _ h5).1⟩
    · rw [Nne z] at e
      rcases t with rfl | t | t
      · rw [h1] at e; cases e
        exact ⟨trivial, (r _ _ h1).1⟩
      · exact absurd t z
      · rcases t with ⟨xs, t⟩ | ⟨ob, xs, t⟩
        · rw [t] at e; cases e; exact ⟨trivial, (r _ _ t).1⟩
        · rw [t] at e; cases e; exact ⟨trivial, (r _ _ t).1⟩⟩
  refine ⟨tell G H N T, ext_all s k tk, .book ?_⟩
  have tu : ∀ {a xs}, SqT K R a xs → SqT K (tell G H N T) a xs := fun {a xs} q => by
    have one : ∀ {o}, R a = some o → isTu R a → tell G H N T a = some o := fun {o} e t => by
      have ne : a ≠ an := fun z => by
        rw [z] at t
        rcases t with ⟨_, t⟩ | ⟨_, _, t⟩ <;> rw [h5] at t <;> cases t
      rcases (r a o e).2 with z | ⟨z, g, gz⟩
      · rw [tell_new s z (.inr (.inr t)), Nne ne]; exact e
      · have w := flt_raw s gz
        rw [z] at w
        cases w
        exact tell_old (flt_some gz).1
    rcases q with (q | ⟨ob, q⟩) | q
    · exact .inl (.inl (one q (.inl ⟨_, q⟩)))
    · exact .inl (.inr ⟨ob, one q (.inr ⟨_, _, q⟩)⟩)
    · exact .inr q
  refine ⟨dx, ak, ac, an, ⟨.none, none, .plain, #[]⟩, kvs, ts, ?_, tu h2, tu h3, Sx.paired_imp (fun _ _ z => tu z) h4, ?_, fun q hq => ?_, h7⟩
  · rw [tell_new s hp (.inl rfl), Nne npan]; exact h1
  · rw [tell_new s nan (.inr (.inl rfl)), Nan]
  · obtain ⟨t, a, c⟩ := h6 q hq
    exact ⟨t, a, tu c⟩
/-- a Book as it stands -/
theorem bk_at {K : PySem.W.Frag} {C : Addr} {G H : Hp} {p : Addr} {ks : List Str} {cs : List (Str × Str)} (s : Sub G H) (b : BkG K C G p ks cs) : Sx.BookAt K C H p ks cs := by
  obtain ⟨dx, ak, ac, an, ob, kvs, ts, h1, h2, h3, h4, h5, h6, h7⟩ := b
  refine ⟨dx, ak, ac, an, kvs, ts, s.ins h1, s.sqT h2, s.sqT h3, Sx.paired_imp (fun _ _ z => s.sqT z) h4, s.to _ _ h5, fun k hk => ?_, h7⟩
  obtain ⟨t, a, c⟩ := h6 k hk
  exact ⟨t, a, s.sqT c⟩
/-! ### calls by names -/
def permL {α : Type} (n : Nat) (ix : List Nat) (us ws : List α) : List α := match us with
  | [] => if ws.length = n then ix.filterMap (ws[·]?) else []
  | _ => []
theorem perm_rel {vs : List V} {us : List Value} {zs : List V} {ws : List Value} (n : Nat) (ix : List Nat) (r : Vals vs us) (q : Vals zs ws) : Vals (permL n ix vs zs) (permL n ix us ws) := by
  cases r with
  | nil =>
    unfold permL
    dsimp only
    rw [q.length]
    by_cases hn : ws.length = n
    · rw [if_pos hn, if_pos hn]
      have : ∀ js : List Nat, Vals (js.filterMap (zs[·]?)) (js.filterMap (ws[·]?)) := by
        intro js
        induction js with
        | nil => exact .nil
        | cons j js ih =>
          cases h : zs[j]? with
          | none => rw [List.filterMap_cons_none h, List.filterMap_cons_none (q.none_of h)]; exact ih
          | some v =>
            obtain ⟨u, hu, ru⟩ := q.get h
            rw [List.filterMap_cons_some h, List.filterMap_cons_some hu]
            exact .cons ru ih
      exact this ix
    · rw [if_neg hn, if_neg hn]; exact .nil
  | cons _ _ => exact .nil
theorem perm_reps {K : PySem.W.Frag} {C : Nat → Addr} {U : Option Addr} {G : Hp} {zs : List V} {ds : List D} (n : Nat) (ix : List Nat) (q : Reps K C U G zs ds) : Reps K C U G (permL n ix [] zs) (permL n ix [] ds) := by
  unfold permL
  dsimp only
  rw [q.length]
  by_cases hn : ds.length = n
  · rw [if_pos hn, if_pos hn]
    have : ∀ js : List Nat, Reps K C U G (js.filterMap (zs[·]?)) (js.filterMap (ds[·]?)) := by
      intro js
      induction js with
      | nil => exact .nil
      | cons j js ih =>
        cases h : zs[j]? with
        | none =>
          have h2 : ds[j]? = none := List.getElem?_eq_none (by have := List.getElem?_eq_none_iff.mp h; rw [← q.length]; exact this)
          rw [List.filterMap_cons_none h, List.filterMap_cons_none h2]; exact ih
        | some v =>
          obtain ⟨d, hd, r⟩ := q.get h
          rw [List.filterMap_cons_some h, List.filterMap_cons_some hd]
          exact .cons r ih
    exact this ix
  · rw [if_neg hn, if_neg hn]; exact .nil
/-- a def that is called by the names ks alone; ix tells where each parameter's value stands among them -/
def KwN (P : Program) (w : World) (K : PySem.W.Frag) (mg : Str → Option Value) (base : Heap) (x : Str) (k : Nat) (ps ks : List Str) (ix : List Nat) (sp : Sp) : Prop :=
  ∃ f fd, mg x = some (.ref f) ∧ PySem.W.keepIn K (.ref f) = true ∧ FnOk P w K mg base CX0 k f fd ps sp ∧ KBinds K fd ps ks (permL ks.length ix) (permL ks.length ix)
section
variable {X : Cx} {C : Nat → Addr} {x : Str} {p pos : Pos}
abbrev VK' (X : Cx) (C : Nat → Addr) (kws : List Keyword) (den : En → M (List D)) : Prop := PK X kws (tAs X.K C den)
theorem PK.of {X : Cx} {kws : List Keyword} {t t' : TA} (h : PK X kws t) (i : ∀ σ H Q, t' σ H Q → t σ H Q) : PK X kws t' := ⟨fun pos pins s σ H Q I w => h.run pos pins s σ H Q I (i _ _ _ w)⟩
theorem vk_nil : VK' X C [] (fun _ => .ok []) := PK.of pk_nil fun σ H Q ⟨U, env, G0, H0, G, b, S, w⟩ => w _ _ _ (Ext.refl S.sub) S.un .nil
theorem vk_cons {e : Expr} {kws : List Keyword} {de : En → M D} {ds : En → M (List D)} {nm : Option Str} {kpos : Pos} (h : VE X C e de) (t : VK' X C kws ds) : VK' X C (⟨nm, e, kpos⟩ :: kws) (consD de ds) :=
  PK.of (pk_cons h t) fun σ H Q ⟨U, env, G0, H0, G, b, S, w⟩ => by
    refine ⟨U, env, G0, H0, G, b, S, wp_mono (wp_bind.mp w) fun b1 d1 w1 v1 G1 H1 e1 u1 r1 => ?_⟩
    refine ⟨U, env, G0, H0, G1, b1, S.to e1 u1, wp_mono (wp_bind.mp w1) fun b2 d2 w2 v2 G2 H2 e2 u2 r2 => ?_⟩
    exact w2 _ _ _ (e1.trans e2) u2 (.cons (r1.mono e2.grow) r2)
theorem ve_callKw {k n : Nat} {ps ks : List Str} {ix : List Nat} {den : List D → M D} {kws : List Keyword} {ds : En → M (List D)} (F : KwN X.prog X.w X.K X.mg X.base x k ps ks ix (spV X.K C n den)) (hr : Room k X.A) (hk : VK' X C kws ds) (hg : Gl X x := by rfl)
    (hall : (backToKw pos (keywordEach kws X.env)).all (·.1.isSome) = true := by rfl) (hks : (backToKw pos (keywordEach kws X.env)).filterMap (·.1) = ks := by rfl) (hdb : (x == ("__debug__" : Str)) = false := by decide)
    (hpl : ((backTo pos (starEach [] X.env)).any (·.1) || (backToKw pos (keywordEach kws X.env)).any (·.1.isNone)) = false := by rfl) :
    VE X C (.Call (.Name x p) [] kws pos) (seqN ds (fun xs => arity n den (permL ks.length ix [] xs))) := by
  obtain ⟨f, fd, hm, kp, F, kb⟩ := F
  exact PE.of (Sx.pe_callK0 F hr hg hm kp kb pass0 hk hall hks hdb hpl) fun σ H Q ⟨U, env, G0, H0, G, b, S, w⟩ => args_v S w fun b2 vs xs G2 H2 e u r w => by
    unfold arity at w
    by_cases hl : (permL ks.length ix [] xs).length = n
    · rw [if_pos hl] at w
      have r2 := perm_reps ks.length ix r
      exact ⟨U, G2, b2, _, e.sub, u, (S.st.to e).hidU, r2, by rw [r2.length]; exact hl, wp_mono w (pv_to e)⟩
    · rw [if_neg hl] at w; exact w.elim
/-! ### a.append(b.pop(i)) -/
def popM (i j : Nat) (k : D) (env : En) : M Fl := match env[i]?, env[j]?, k with
  | some (.ow (.lst as)), some (.ow (.lst bs)), .int n => if 0 ≤ n ∧ i ≠ j ∧ as.length < lim ∧ bs.length ≤ lim then match bs[n.toNat]? with
      | some d => .ok (.next ((env.set j (.ow (.lst (bs.eraseIdx n.toNat)))).set i (.ow (.lst (as ++ [d])))))
      | none => .bad else .bad
  | _, _, _ => .bad
theorem reps_erase {K : PySem.W.Frag} {U : Option Addr} {G : Hp} : ∀ {vs : List V} {ds : List D} (n : Nat), Reps K C U G vs ds → Reps K C U G (vs.eraseIdx n) (ds.eraseIdx n)
  | _, _, _, .nil => .nil
  | _, _, 0, .cons _ r => r
  | _, _, n + 1, .cons h r => .cons h (reps_erase n r)
theorem vs_appPop (i j : Nat) {x y : Str} {e : Expr} {de : En → M D} {np apos cpos nq bpos dpos pos : Pos} (he : VE X C e de) (hN : X.N[i]? = some x := by rfl) (hM : X.N[j]? = some y := by rfl)
    (hv : Vis X.env.scope x := by first | exact Or.inl rfl | exact Or.inr (Or.inl rfl) | exact Or.inr (Or.inr rfl)) (hw : Vis X.env.scope y := by first | exact Or.inl rfl | exact Or.inr (Or.inl rfl) | exact Or.inr (Or.inr rfl))
    (hd : (x == ("__debug__" : Str)) = false := by decide) (hcd : (x == ("__classdict__" : Str)) = false := by decide) (hd2 : (y == ("__debug__" : Str)) = false := by decide) (hcd2 : (y == ("__classdict__" : Str)) = false := by decide)
    (hbase : attributeBase (.Name x np) "append" X.env (eval (.Name x np) X.env) = eval (.Name x np) X.env := by rfl) (hbase2 : attributeBase (.Name y nq) "pop" X.env (eval (.Name y nq) X.env) = eval (.Name y nq) X.env := by rfl)
    (hfew : ((backTo cpos (starEach [.Call (.Attribute (.Name y nq) "pop" bpos) [e] [] dpos] X.env)).all (fun x => !x.1) && (backToKw cpos (keywordEach [] X.env)).all (fun x => x.1.isSome)
      && decide (([.Call (.Attribute (.Name y nq) "pop" bpos) [e] [] dpos] : List Expr).length + ([] : List Keyword).length + (if ([] : List Keyword).isEmpty then 0 else 1) < 30)) = true := by rfl)
    (hfew2 : ((backTo dpos (starEach [e] X.env)).all (fun x => !x.1) && (backToKw dpos (keywordEach [] X.env)).all (fun x => x.1.isSome)
      && decide ([e].length + ([] : List Keyword).length + (if ([] : List Keyword).isEmpty then 0 else 1) < 30)) = true := by rfl)
    (hline : (apos.endLine == cpos.line) = true := by rfl) (hline2 : (bpos.endLine == dpos.line) = true := by rfl) (hs : starEach [.Call (.Attribute (.Name y nq) "pop" bpos) [e] [] dpos] X.env = [(false, eval (.Call (.Attribute (.Name y nq) "pop" bpos) [e] [] dpos) X.env)] := by rfl)
    (hs2 : starEach [e] X.env = [(false, eval e X.env)] := by rfl) (hsw : swapsWith (.Call (.Attribute (.Name x np) "append" apos) [.Call (.Attribute (.Name y nq) "pop" bpos) [e] [] dpos] [] cpos) none pos.line X.env = pure false := by rfl) :
    VS X C (.Expr (.Call (.Attribute (.Name x np) "append" apos) [.Call (.Attribute (.Name y nq) "pop" bpos) [e] [] dpos] [] cpos) pos) (fun env => de env >>= fun k => popM i j k env) :=
  PS.of (ps_expr (pe_bm PySem.F.plainAttrs_list PySem.F.slot_list_append PySem.F.type_list_append mt_append (pv i hN hv hd hcd)
      (pa_cons (pe_bm PySem.F.plainAttrs_list PySem.F.slot_list_pop PySem.F.type_list_pop mt_popAt (pv j hM hw hd2 hcd2) (pa_cons he pa_nil hs2) hbase2 hfew2 hline2 hs2) pa_nil hs) hbase hfew hline hs) hsw) fun E σ H ⟨U, env, G0, H0, G, b, S, w⟩ => by
    have inner := wp_bind.mp w
    unfold popM at inner
    cases ei : env[i]? with
    | none => rw [ei] at inner; exact (wp_none inner fun b a z => z).elim
    | some si =>
      cases ej : env[j]? with
      | none =>
        rw [ei, ej] at inner
        refine (wp_none inner fun b1 d1 z => ?_).elim
        split at z
        · rename_i q; cases q
        · exact z
      | some sj =>
        by_cases ok : (∃ as, si = .ow (.lst as)) ∧ ∃ bs, sj = .ow (.lst bs)
        · obtain ⟨⟨as, rfl⟩, bs, rfl⟩ := ok
          obtain ⟨p, o, hp, h, g, r, n, u⟩ := S.st.owned ei
          obtain ⟨q, o2, hq, h2, g2, r2, n2, u2⟩ := S.st.owned ej
          cases o with
          | lst vs =>
            cases o2 with
            | lst ws =>
              refine ⟨_, hp, .inl ⟨rfl, _, .inl (.inl h)⟩, _, hq, .inl ⟨rfl, _, .inl (.inl h2)⟩, U, env, G0, H0, G, b, S, wp_mono inner fun b1 d1 w1 v1 G1 H1 e1 u1 r1 => ?_⟩
              rw [ei, ej] at w1
              cases d1 with
              | int k =>
                cases r1
                have w1 : wp (if 0 ≤ k ∧ i ≠ j ∧ as.length < lim ∧ bs.length ≤ lim then match bs[k.toNat]? with
                  | some d => M.ok (Fl.next ((env.set j (.ow (.lst (bs.eraseIdx k.toNat)))).set i (.ow (.lst (as ++ [d])))))
                  | none => .bad else .bad) b1 (SQ X.K C U G0 H0 G E) := w1
                split at w1
                · rename_i c
                  split at w1
                  · rename_i d hd
                    have S1 := S.to e1 u1
                    have h1' := e1.keep _ _ h u
                    have h2' := e1.keep _ _ h2 u2
                    have rr : Reps X.K C U G1 vs as := (show Reps X.K C U G vs as from r).mono e1.grow
                    have rr2 : Reps X.K C U G1 ws bs := (show Reps X.K C U G ws bs from r2).mono e1.grow
                    obtain ⟨v, hv', rv⟩ := rr2.get' hd
                    have kl : k.toNat < ws.length := (List.getElem?_eq_some_iff.mp hv').1
                    have llim := rr2.length
                    have lb : ws.length ≤ 100000 := by rw [llim]; exact c.2.2.2
                    have npq : p ≠ q := fun z => c.2.1 (S.st.ap i j _ _ p ei hp ej (by rw [z]; exact hq))
                    refine ⟨q, ws, k, k.toNat, v, rfl, rfl, h2', by omega, by omega, by rw [seqIndex_of c.1 (by omega)], hv', ?_⟩
                    have Sa := S1.st.write ej hq (show HRep X.K C U G1 (.lst (ws.eraseIdx k.toNat)) (.lst _) from reps_erase k.toNat rr2)
                    refine ⟨p, vs, v, rfl, rfl, by rw [upd_ne npq]; exact h1', Nat.lt_trans (by rw [rr.length]; exact c.2.2.1) lim_line, ?_⟩
                    have Sb := Sa.write (i := i) (by rw [List.getElem?_set_ne (Ne.symm c.2.1)]; exact ei) hp (show HRep X.K C U G1 (.lst (vs ++ [v])) (.lst _) from rr.snoc rv)
                    exact w1 _ G1 _ ⟨Sb, (u1.mut u2).mut u⟩ e1.grow
                  · exact w1.elim
                · exact w1.elim
              | _ => exact w1.elim
            | _ => exact r2.elim
          | _ => exact r.elim
        · rw [ei, ej] at inner
          refine (wp_none inner fun b1 d1 z => ?_).elim
          split at z
          · rename_i a1 a2 a3 q1 q2
            cases q1; cases q2
            exact absurd ⟨⟨_, rfl⟩, _, rfl⟩ ok
          · exact z
end
end Vw

/-! VwJ -/
/-! Walks of pairs; sorted; signs. -/
namespace Vw
open PySem PySem.Spec PyProof.Rows L2 RZ
section
variable {X : Cx} {C : Nat → Addr}
theorem ve_neg {e : Expr} {de : En → M D} {pos : Pos} (he : VP X C e de) : VE X C (.UnaryOp .USub e pos) (fun env => de env >>= fun d => isI d >>= fun i => .ok (.int (-i))) :=
  PE.of (pe_un un_neg he) fun σ H Q ⟨U, env, G0, H0, G, b, S, w⟩ => ⟨U, env, G0, H0, G, b, S, wp_mono (wp_bind.mp w) fun b1 d1 w1 v1 G1 H1 e1 u1 r1 => by
    cases d1 with
    | int i => cases r1.int; exact ⟨i, rfl, w1 _ _ _ e1 u1 (.int _)⟩
    | _ => exact w1.elim⟩
def enumD (ds : List D) : List D := (List.range ds.length).map fun i => match ds[i]? with
  | some d => .tup [.int (i : Nat), d]
  | none => .non
def listOf : D → M (List D)
  | .lst ds => .ok ds
  | _ => .bad
theorem enum_at {ds : List D} {i : Nat} {d : D} (e : (enumD ds)[i]? = some d) : ∃ c, ds[i]? = some c ∧ d = .tup [.int (i : Nat), c] := by
  unfold enumD at e
  have l : i < (List.range ds.length).length := by have := (List.getElem?_eq_some_iff.mp e).1; simpa using this
  rw [List.getElem?_map, List.getElem?_eq_getElem l, List.getElem_range] at e
  have l2 : i < ds.length := by simpa using l
  rw [Option.map_some, List.getElem?_eq_getElem l2] at e
  cases e
  exact ⟨_, List.getElem?_eq_getElem l2, rfl⟩
theorem walk_e {K : PySem.W.Frag} {U : Option Addr} {G : Hp} {a : Addr} {vs : List V} {ds : List D} (h : G a = some (.lst vs)) (r : Reps K C U G vs ds) : WalkOk K C U G (Ite K a) (enumD ds) where
  stop := fun G' H' g s => ⟨vs, sq_l s (g _ _ h), by rw [r.length]; unfold enumD; simp⟩
  go := fun i d G' H' g s e => by
    obtain ⟨c, hc, _⟩ := enum_at e
    obtain ⟨v, hv, _⟩ := r.get' hc
    exact ⟨vs, v, sq_l s (g _ _ h), hv⟩
  yld := fun i d G' H' x H2 b g s e u y => by
    obtain ⟨c, hc, rfl⟩ := enum_at e
    obtain ⟨T, z, rfl, hT, rfl, q⟩ := y
    obtain ⟨v, hv, rv⟩ := r.get' hc
    have q' := q vs (sq_l s (g _ _ h))
    rw [hv] at q'
    cases q'
    have gT := s.ne hT
    exact ⟨_, (hp_none (U := U) s hT).new hT upd_same gT trivial, u.mut (u.ne hT), .tup (SqT.of upd_same) (.cons (.int _) (.cons ((rv.mono g).mono (same_new gT)) .nil))⟩
theorem vi_enum {e : Expr} {de : En → M D} {elts : List Expr} {kk : Nat} {tpos p pos : Pos} (h : VE X C e de) (hm : X.mg "enumerate" = none) (hg : Gl X "enumerate" := by rfl) (hs : starEach [e] X.env = [(false, eval e X.env)] := by rfl) :
    VI X C (.Tuple elts kk tpos) (.Call (.Name "enumerate" p) [e] [] pos) (fun env => de env >>= listOf >>= fun ds => .ok (enumD ds)) :=
  PI.of (pi_enum hg hm (pa_cons h pa_nil hs) hs) fun σ H R ⟨U, env, G0, H0, G, b, S, w⟩ => by
    refine ⟨U, env, G0, H0, G, b, S, wp_mono (wp_bind.mp (wp_bind.mp w)) fun b1 d1 w1 v1 G1 H1 e1 u1 r1 => ?_⟩
    cases r1 with
    | lst h r => exact ⟨_, _, rfl, sq_l e1.sub h, w1 _ _ _ e1 u1 (walk_e h r)⟩
    | _ => exact w1.elim
def zipD (as bs : List D) : List D := (as.zip bs).map fun p => .tup [p.1, p.2]
def zipM (d e : D) : M (List D) := match d, e with
  | .lst as, .lst bs => .ok (zipD as bs)
  | .tup as, .tup bs => .ok (zipD as bs)
  | _, _ => .bad
theorem zip_at {as bs : List D} {i : Nat} {d : D} (e : (zipD as bs)[i]? = some d) : ∃ a c, as[i]? = some a ∧ bs[i]? = some c ∧ d = .tup [a, c] := by
  unfold zipD at e
  rw [List.getElem?_map] at e
  obtain ⟨⟨a, c⟩, h, rfl⟩ := Option.map_eq_some_iff.mp e
  have := List.getElem?_zip_eq_some.mp h
  exact ⟨a, c, this.1, this.2, rfl⟩
theorem zip_stop {α β : Type} {as : List α} {bs : List β} : as.length ≤ (as.zip bs).length ∨ bs.length ≤ (as.zip bs).length := by
  rw [List.length_zip]; omega
theorem vi_zip {e f : Expr} {de df : En → M D} {elts : List Expr} {kk : Nat} {tpos p pos : Pos} (h : VE X C e de) (h2 : VE X C f df) (hm : X.mg "zip" = none) (hg : Gl X "zip" := by rfl) (hs : starEach [e, f] X.env = (false, eval e X.env) :: starEach [f] X.env := by rfl) (hs2 : starEach [f] X.env = (false, eval f X.env) :: starEach [] X.env := by rfl) (hpl : (backTo pos (starEach [f] X.env)).any (·.1) = false := by rfl) :
    VI X C (.Tuple elts kk tpos) (.Call (.Name "zip" p) [e, f] [] pos) (fun env => de env >>= fun d => df env >>= fun e => zipM d e) :=
  PI.of (pi_zipA hg hm (pa_cons h (pa_cons h2 pa_nil hs2) hs) hs hpl) fun σ H R ⟨U, env, G0, H0, G, b, S, w⟩ => by
    refine ⟨U, env, G0, H0, G, b, S, wp_mono (wp_bind.mp w) fun b1 d1 w1 v1 G1 H1 e1 u1 r1 => ?_⟩
    refine ⟨U, env, G0, H0, G1, b1, S.to e1 u1, wp_mono (wp_bind.mp w1) fun b2 d2 w2 v2 G2 H2 e2 u2 r2 => ?_⟩
    have x2 := e1.trans e2
    have s2 := x2.sub
    have r1 := r1.mono e2.grow
    cases d1 with
    | lst as =>
      cases d2 with
      | lst bs =>
        cases r1 with
        | lst g1 q1 =>
          cases r2 with
          | lst g2 q2 =>
            rename_i a vs a2 ws
            refine ⟨a, a2, vs, ws, rfl, .inl ⟨sq_l s2 g1, sq_l s2 g2, w2 _ _ _ x2 u2 ⟨fun G' H' g s => ?_, fun i d G' H' g s e => ?_, fun i d G' H' x H3 b g s e u y => ?_⟩⟩⟩
            · refine ⟨vs, ws, sq_l s (g _ _ g1), sq_l s (g _ _ g2), ?_⟩
              rw [q1.length, q2.length]
              unfold zipD
              rw [List.length_map]
              exact zip_stop
            · obtain ⟨c1, c2, z1, z2, _⟩ := zip_at e
              obtain ⟨x1, y1, _⟩ := q1.get' z1
              obtain ⟨x2, y2, _⟩ := q2.get' z2
              exact ⟨vs, ws, x1, x2, sq_l s (g _ _ g1), sq_l s (g _ _ g2), y1, y2⟩
            · obtain ⟨c1, c2, z1, z2, rfl⟩ := zip_at e
              obtain ⟨T, t1, t2, rfl, hT, rfl, f1, f2⟩ := y
              obtain ⟨x1, y1, p1⟩ := q1.get' z1
              obtain ⟨x2, y2, p2⟩ := q2.get' z2
              have k1 := f1 vs (sq_l s (g _ _ g1))
              have k2 := f2 ws (sq_l s (g _ _ g2))
              rw [y1] at k1; cases k1
              rw [y2] at k2; cases k2
              have gT := s.ne hT
              exact ⟨_, (hp_none (U := U) s hT).new hT upd_same gT trivial, u.mut (u.ne hT), .tup (SqT.of upd_same) (.cons ((p1.mono g).mono (same_new gT)) (.cons ((p2.mono g).mono (same_new gT)) .nil))⟩
      | _ => exact w2.elim
    | tup as =>
      cases d2 with
      | tup bs =>
        cases r1 with
        | tup g1 q1 =>
          cases r2 with
          | tup g2 q2 =>
            rename_i a vs a2 ws
            refine ⟨a, a2, vs, ws, rfl, .inr ⟨sq_t s2 g1, sq_t s2 g2, w2 _ _ _ x2 u2 ⟨fun G' H' g s => ?_, fun i d G' H' g s e => ?_, fun i d G' H' x H3 b g s e u y => ?_⟩⟩⟩
            · refine ⟨vs, ws, sq_t s (Sx.sqT_same g g1), sq_t s (Sx.sqT_same g g2), ?_⟩
              rw [q1.length, q2.length]
              unfold zipD
              rw [List.length_map]
              exact zip_stop
            · obtain ⟨c1, c2, z1, z2, _⟩ := zip_at e
              obtain ⟨x1, y1, _⟩ := q1.get' z1
              obtain ⟨x2, y2, _⟩ := q2.get' z2
              exact ⟨vs, ws, x1, x2, sq_t s (Sx.sqT_same g g1), sq_t s (Sx.sqT_same g g2), y1, y2⟩
            · obtain ⟨c1, c2, z1, z2, rfl⟩ := zip_at e
              obtain ⟨T, t1, t2, rfl, hT, rfl, f1, f2⟩ := y
              obtain ⟨x1, y1, p1⟩ := q1.get' z1
              obtain ⟨x2, y2, p2⟩ := q2.get' z2
              have k1 := f1 vs (sq_t s (Sx.sqT_same g g1))
              have k2 := f2 ws (sq_t s (Sx.sqT_same g g2))
              rw [y1] at k1; cases k1
              rw [y2] at k2; cases k2
              have gT := s.ne hT
              exact ⟨_, (hp_none (U := U) s hT).new hT upd_same gT trivial, u.mut (u.ne hT), .tup (SqT.of upd_same) (.cons ((p1.mono g).mono (same_new gT)) (.cons ((p2.mono g).mono (same_new gT)) .nil))⟩
      | _ => exact w2.elim
    | _ => exact w2.elim
/-! ### sorted of texts -/
def insS (x : Str) : List Str → List Str
  | [] => [x]
  | y :: l => if Sx.ltS y x = true then y :: insS x l else x :: y :: l
def sortS (l : List Str) : List Str := l.foldr insS []
theorem insS_perm (x : Str) : ∀ l : List Str, (insS x l).Perm (x :: l)
  | [] => .refl _
  | y :: l => by
    unfold insS
    split
    · exact ((insS_perm x l).cons y).trans (List.Perm.swap x y l)
    · exact .refl _
theorem sortS_perm : ∀ l : List Str, (sortS l).Perm l
  | [] => .refl _
  | x :: l => (insS_perm x (sortS l)).trans ((sortS_perm l).cons x)
abbrev OrdS (l : List Str) : Prop := l.Pairwise fun x y => Sx.ltS y x = false
theorem insS_ord {x : Str} : ∀ {l : List Str}, OrdS l → OrdS (insS x l)
  | [], _ => by simp [insS, OrdS]
  | y :: l, h => by
    unfold insS
    obtain ⟨h1, h2⟩ := List.pairwise_cons.mp h
    split
    · rename_i q
      refine List.pairwise_cons.mpr ⟨fun z hz => ?_, insS_ord h2⟩
      rcases List.mem_cons.mp ((insS_perm x l).mem_iff.mp hz) with e | hz
      · rw [e]; exact Sx.ltS_asym q
      · exact h1 z hz
    · rename_i q
      have q' : Sx.ltS y x = false := by cases w : Sx.ltS y x with | true => exact absurd w q | false => rfl
      refine List.pairwise_cons.mpr ⟨fun z hz => ?_, h⟩
      rcases List.mem_cons.mp hz with e | hz
      · rw [e]; exact q'
      · have a := h1 z hz
        cases w : Sx.ltS z x with
        | false => rfl
        | true =>
          rcases Sx.ltS_tri y z with c | c | c
          · have := Sx.ltS_tr c w; rw [q'] at this; cases this
          · rw [c, w] at q'; cases q'
          · rw [a] at c; cases c
theorem sortS_ord : ∀ l : List Str, OrdS (sortS l)
  | [] => .nil
  | x :: l => insS_ord (sortS_ord l)
theorem ord_one : ∀ {l m : List Str}, l.Perm m → OrdS l → OrdS m → l = m := by
  intro l m p h1 h2
  refine List.Perm.eq_of_pairwise (le := fun a b => Sx.ltS b a = false) (fun a b _ _ x y => ?_) h1 h2 p
  rcases Sx.ltS_tri a b with c | c | c
  · rw [y] at c; cases c
  · exact c
  · rw [x] at c; cases c
def sortD : D → M D
  | .lst ds => match allS ds with
    | some xs => .ok (.lst ((sortS xs).map D.str))
    | none => .bad
  | .tup ds => match allS ds with
    | some xs => .ok (.lst ((sortS xs).map D.str))
    | none => .bad
  | _ => .bad
theorem sort_1 {K : PySem.W.Frag} : OpNF K C (Sx.rSortX K) (one sortD) := fun U G H b xs ds Q s u r w => by
  unfold one at w
  split at w
  · obtain ⟨v, rfl, rv⟩ := pk_one r
    unfold sortD at w
    split at w
    · obtain ⟨a, vs, rfl, h, rr⟩ := rv.lst s
      split at w
      · rename_i e
        refine ⟨a, _, rfl, .inl (by rw [← reps_s rr e]; exact SqL.of h), fun ys p pm o hp => ?_⟩
        have ey : ys = _ := ord_one (pm.trans (sortS_perm _).symm) o (sortS_ord _)
        subst ey
        exact fresh_v (d := .lst _) s u w (strs_reps _) hp
      · exact w.elim
    · obtain ⟨a, vs, rfl, h, rr, _⟩ := rv.tup s
      split at w
      · rename_i e
        refine ⟨a, _, rfl, .inr (by rw [← reps_s rr e]; exact h), fun ys p pm o hp => ?_⟩
        have ey : ys = _ := ord_one (pm.trans (sortS_perm _).symm) o (sortS_ord _)
        subst ey
        exact fresh_v (d := .lst _) s u w (strs_reps _) hp
      · exact w.elim
    · exact w.elim
  · exact w.elim
/-- sorted(set(xs)), texts -/
def setSortD : D → M D
  | .lst ds => match allS ds with
    | some xs => if xs.length ≤ 2000 then .ok (.lst ((Sx.srt Sx.ltS xs).map D.str)) else .bad
    | none => .bad
  | _ => .bad
theorem vf_setSort {e : Expr} {de : En → M D} {p q pos pos2 : Pos} (he : VP X C e de) (hm : X.mg "sorted" = none) (hm2 : X.mg "set" = none) (hc : X.calm = true := by rfl) (hg : Gl X "sorted" := by rfl) (hg2 : Gl X "set" := by rfl)
    (h1 : starEach [.Call (.Name "set" q) [e] [] pos2] X.env = (false, eval (.Call (.Name "set" q) [e] [] pos2) X.env) :: starEach [] X.env := by rfl) (h2 : starEach [e] X.env = (false, eval e X.env) :: starEach [] X.env := by rfl) :
    VF X C (.Call (.Name "sorted" p) [.Call (.Name "set" q) [e] [] pos2] [] pos) (fun env => de env >>= setSortD) :=
  PE.of (pe_callB (Sx.cr_sortM hc) hg hm Sx.bt_sorted (pa_cons (pe_callTy (Sx.cr_setT hc) hg2 hm2 Sx.bt_set (pa_cons he pa_nil h2) (by decide) (by decide) h2 rfl) pa_nil h1) (by decide) (by decide) h1 rfl) fun σ H Q ⟨U, env, G0, H0, G, b, S, w⟩ => by
    refine ⟨U, env, G0, H0, G, b, S, wp_mono (wp_bind.mp w) fun b1 d1 w1 v1 G1 H1 e1 u1 r1 => ?_⟩
    unfold setSortD at w1
    split at w1
    · obtain ⟨a, vs, rfl, h, rr⟩ := r1.lst e1.sub
      split at w1
      · rename_i xs e
        split at w1
        · rename_i hl
          refine ⟨a, xs, rfl, by rw [← reps_s rr e]; exact SqL.of h, hl, fun q hq => ?_⟩
          have x1 : Ext U G1 H1 G1 (upd H1 q (Sx.SetM X.w q (· ∈ xs))) := hp_none e1.sub hq
          refine ⟨q, _, rfl, upd_same, fun ys m up mem hm => ?_⟩
          have ey : ys = Sx.srt Sx.ltS xs := Sx.up_one Sx.totS up (Sx.up_srt Sx.totS xs) fun z => (mem z).trans (Sx.mem_srt Sx.totS).symm
          subst ey
          have x2 := e1.trans x1
          exact fresh_v (d := .lst _) x2.sub (u1.mut (u1.ne hq)) (pf_to x2 _ _ w1) (strs_reps _) hm
        · exact w1.elim
      · exact w1.elim
    · exact w1.elim
end
end Vw

/-! VwN -/
/-! while. -/
namespace Vw
open PySem PySem.Spec PyProof.Rows L2
/-- at most n turns -/
def whileM (dt : En → M Bool) (db : En → M Fl) : Nat → En → M Fl
  | 0, _ => .bad
  | n + 1, env => dt env >>= fun c => if c = true then db env >>= fun fl => match fl with
    | .next e => whileM dt db n e
    | .cnt e => whileM dt db n e
    | .brk e => .ok (.next e)
    | .ret d => .ok (.ret d)
    | .fresh d => .ok (.fresh d) else .ok (.next env)
section
variable {X : Cx} {C : Nat → Addr}
theorem vs_while (n : Nat) {c : Expr} {body : List Stmt} {dt : En → M Bool} {db : En → M Fl} {pos : Pos} (hc : VT X C c dt) (hb : VSs X C body db) (hp : PassesOwn (model X.prog X.w) X.A X.env X.xe := by exact PassesOwn.never) : VS X C (.While c body [] pos) (whileM dt db n) :=
  PS.of (ps_while hp hc hb) fun E σ H ⟨U, env, G0, H0, G, b, S, w⟩ => by
    refine ⟨fun m σ' H' => ∃ env' G' b', Here X.K C U G0 H0 env' σ' G' H' b' ∧ Same G G' ∧ wp (whileM dt db m env') b' (SQ X.K C U G0 H0 G E), ⟨n, env, G, b, S, fun _ _ h => h, w⟩, ?_⟩
    rintro m σ' H' ⟨env', G', b', S', s', w'⟩
    cases m with
    | zero => exact w'.elim
    | succ m =>
      have w' : wp (dt env' >>= fun c => if c = true then db env' >>= fun fl => match fl with
        | .next e => whileM dt db m e
        | .cnt e => whileM dt db m e
        | .brk e => .ok (.next e)
        | .ret d => .ok (.ret d)
        | .fresh d => .ok (.fresh d) else .ok (.next env')) b' (SQ X.K C U G0 H0 G E) := w'
      refine ⟨U, env', G0, H0, G', b', S', wp_mono (wp_bind.mp w') fun b1 c w1 G1 H1 e1 u1 => ?_⟩
      have s1 : Same G G1 := fun a o h => e1.grow _ _ (s' _ _ h)
      cases c with
      | false =>
        rw [if_neg (by decide)] at w1
        exact iteF (w1 σ' G1 H1 (S'.to e1 u1) s1)
      | true =>
        rw [if_pos rfl] at w1
        refine iteT ⟨fun σ2 H2 => ∃ env' G' b', Here X.K C U G0 H0 env' σ2 G' H2 b' ∧ Same G G' ∧ wp (whileM dt db m env') b' (SQ X.K C U G0 H0 G E), fun σ2 H2 h => ⟨m, Nat.lt_succ_self _, h⟩, ?_⟩
        refine ⟨U, env', G0, H0, G1, b1, S'.to e1 u1, wp_mono (wp_bind.mp w1) fun b2 fl w2 => ?_⟩
        cases fl with
        | next env4 => exact fun σ4 G4 H4 S4 s4 => ⟨env4, G4, b2, S4, fun a o h => s4 _ _ (s1 _ _ h), w2⟩
        | cnt env4 => exact fun σ4 G4 H4 S4 s4 => ⟨env4, G4, b2, S4, fun a o h => s4 _ _ (s1 _ _ h), w2⟩
        | brk env4 => exact fun σ4 G4 H4 S4 s4 => w2 σ4 G4 H4 S4 fun a o h => s4 _ _ (s1 _ _ h)
        | ret d => exact w2
        | fresh d => exact w2
end
end Vw

/-! VwP -/
/-! Bits. -/
namespace Vw
open PySem PySem.Spec PyProof.Rows L2
def opI2 (f : Int → Int → Int) : D → D → M D
  | .int i, .int j => .ok (.int (f i j))
  | _, _ => .bad
theorem i_2 {K : PySem.W.Frag} {C : Nat → Addr} (f : Int → Int → Int) : Op2 K C (rI0 fun i j => .int (f i j)) (opI2 f) := fun U G H b x y d e Q s u rx ry w => by
  unfold opI2 at w
  split at w
  · cases rx.int; cases ry.int
    exact ⟨_, _, rfl, rfl, same_v s u w (.int _)⟩
  · exact w.elim
abbrev opBand := opI2 Builtin.bitAnd
abbrev opBor := opI2 Builtin.bitOr
abbrev opBxor := opI2 Builtin.bitXor
/-- i << j -/
def opShl : D → D → M D
  | .int i, .int j => if 0 ≤ j ∧ j ≤ 1000 ∧ i.natAbs < 2 ^ 64 then .ok (.int (i * 2 ^ j.toNat)) else .bad
  | _, _ => .bad
theorem shl_2 {K : PySem.W.Frag} {C : Nat → Addr} : Op2 K C (rI CPow fun i j => .int (i * 2 ^ j.toNat)) opShl := fun U G H b x y d e Q s u rx ry w => by
  unfold opShl at w
  split at w
  · cases rx.int; cases ry.int
    split at w
    · rename_i h
      exact ⟨_, _, rfl, rfl, ⟨h.1, by omega, h.2.2⟩, same_v s u w (.int _)⟩
    · exact w.elim
  · exact w.elim
section
variable {X : Cx} {C : Nat → Addr}
theorem ve_inv {e : Expr} {de : En → M D} {pos : Pos} (he : VP X C e de) : VE X C (.UnaryOp .Invert e pos) (fun env => de env >>= fun d => isI d >>= fun i => .ok (.int (Builtin.bitNot i))) :=
  PE.of (pe_un un_inv he) fun σ H Q ⟨U, env, G0, H0, G, b, S, w⟩ => ⟨U, env, G0, H0, G, b, S, wp_mono (wp_bind.mp w) fun b1 d1 w1 v1 G1 H1 e1 u1 r1 => by
    cases d1 with
    | int i => cases r1.int; exact ⟨i, rfl, w1 _ _ _ e1 u1 (.int _)⟩
    | _ => exact w1.elim⟩
theorem ve_bits {o : Expr} {de : En → M D} {apos pos : Pos} (he : VP X C o de) (hbase : attributeBase o "bit_length" X.env (eval o X.env) = eval o X.env := by rfl) (hline : (apos.endLine == pos.line) = true := by rfl) : VE X C (.Call (.Attribute o "bit_length" apos) [] [] pos) (fun env => de env >>= fun d => isI d >>= fun i => .ok (.int (Builtin.Int.intBits i : Nat))) :=
  PE.of (pe_bits he hbase hline) fun σ H Q ⟨U, env, G0, H0, G, b, S, w⟩ => ⟨U, env, G0, H0, G, b, S, wp_mono (wp_bind.mp w) fun b1 d1 w1 v1 G1 H1 e1 u1 r1 => by
    cases d1 with
    | int i => cases r1.int; exact ⟨i, rfl, w1 _ _ _ e1 u1 (.int _)⟩
    | _ => exact w1.elim⟩
end
end Vw

/-! VwQ -/
/-! xs.index(x). -/
namespace Vw
open PySem PySem.Spec PyProof.Rows L2
def firstD : List PyData → PyData → Option Nat
  | [], _ => none
  | z :: qs, p => if PyData.eqv z p = true then some 0 else (firstD qs p).map (· + 1)
theorem first_is {p : PyData} : ∀ {qs : List PyData} {j : Nat}, firstD qs p = some j → ∃ z, qs[j]? = some z ∧ PyData.eqv z p = true ∧ ∀ (m : Nat) (z' : PyData), m < j → qs[m]? = some z' → PyData.eqv z' p = false
  | [], j, e => by cases e
  | z :: qs, j, e => by
    unfold firstD at e
    by_cases h : PyData.eqv z p = true
    · rw [if_pos h] at e
      cases e
      exact ⟨z, rfl, h, fun m _ hm => by omega⟩
    · rw [if_neg h] at e
      obtain ⟨i, e1, rfl⟩ := Option.map_eq_some_iff.mp e
      obtain ⟨y, h1, h2, h3⟩ := first_is e1
      refine ⟨y, by rw [List.getElem?_cons_succ]; exact h1, h2, fun m z' hm hz => ?_⟩
      cases m with
      | zero =>
        rw [List.getElem?_cons_zero] at hz
        cases hz
        cases w : PyData.eqv z p with
        | true => exact absurd w h
        | false => rfl
      | succ m => exact h3 m z' (by omega) (by rw [List.getElem?_cons_succ] at hz; exact hz)
def opIndex (d x : D) : M D := match d with
  | .lst xs => match shp (.lst xs), shp x with
    | some (.list qs), some p => match firstD qs p with
      | some j => .ok (.int (j : Nat))
      | none => .bad
    | _, _ => .bad
  | _ => .bad
section
variable {X : Cx} {C : Nat → Addr}
theorem ve_index {o e : Expr} {dd de : En → M D} {apos cpos : Pos} (hu : X.A.units + 65 < cLine) (ho : VP X C o dd) (he : VE X C e de) (hbase : attributeBase o "index" X.env (eval o X.env) = eval o X.env := by rfl)
    (hfew : ((backTo cpos (starEach [e] X.env)).all (fun x => !x.1) && (backToKw cpos (keywordEach [] X.env)).all (fun x => x.1.isSome)
      && decide ([e].length + ([] : List Keyword).length + (if ([] : List Keyword).isEmpty then 0 else 1) < 30)) = true := by rfl)
    (hline : (apos.endLine == cpos.line) = true := by rfl) (hs : starEach [e] X.env = [(false, eval e X.env)] := by rfl) :
    VE X C (.Call (.Attribute o "index" apos) [e] [] cpos) (seq2 dd de opIndex) :=
  PE.of (pe_bm PySem.F.plainAttrs_list PySem.F.slot_list_index PySem.F.type_list_index (mt_indexD hu) ho (pa_cons he pa_nil hs) hbase hfew hline hs) fun σ H Q ⟨U, env, G0, H0, G, b, S, w⟩ => by
    refine ⟨U, env, G0, H0, G, b, S, wp_mono (wp_bind.mp w) fun b1 d1 w1 v1 G1 H1 e1 u1 r1 => ?_⟩
    cases d1 with
    | lst ds =>
      obtain ⟨a, vs, ev, h, rr⟩ := r1.lst e1.sub
      subst ev
      refine ⟨.inl ⟨rfl, _, .inl (.inl h)⟩, U, env, G0, H0, G1, b1, S.to e1 u1, wp_mono (wp_bind.mp w1) fun b2 d2 w2 v2 G2 H2 e2 u2 r2 => ?_⟩
      have w2 : wp (match shp (.lst ds), shp d2 with
        | some (.list qs), some p => match firstD qs p with
          | some j => M.ok (D.int (j : Nat))
          | none => .bad
        | _, _ => .bad) b2 (PV X.K C U G H Q) := w2
      split at w2
      · rename_i qs p q1 q2
        split at w2
        · rename_i j hj
          obtain ⟨z, z1, z2, z3⟩ := first_is hj
          have x2 := e1.trans e2
          exact ⟨a, v2, p, qs, j, z, rfl, rfl, pk_dp x2.sub (r1.to e2) (shp_of q1).1, rep_dp x2.sub r2 (shp_of q2).1, (shp_of q1).2, (shp_of q2).2, z1, z2, z3, w2 _ G2 _ x2 u2 (.int _)⟩
        · exact w2.elim
      · exact w2.elim
    | _ => exact (wp_none (wp_bind.mp w1) fun b a z => z).elim
end
end Vw

/-! VwR -/
/-! Two tests in a comprehension. -/
namespace Vw
open PySem PySem.Spec PyProof.Rows L2
section
variable {X : Cx} {C : Nat → Addr}
theorem pts_two {c1 c2 : Expr} {t1 t2 : TT} (h1 : PT X c1 t1) (h2 : PT X c2 t2) : PTs X [c1, c2] (fun σ H Q => t1 σ H fun b H1 => if b = true then t2 σ H1 Q else Q false H1) := ⟨fun pins s σ H Q I hw => by
  simp only [List.forIn_cons, List.forIn_nil, if_true]
  refine wpAny_bind (wpAny_bind (wpAny_mono (h1.run pins s σ H _ I hw) (fun b s' hb => wpAny_pure ?_) fun _ _ x => x))
  obtain ⟨H1, I1, q⟩ := hb
  cases b with
  | true =>
    rw [if_pos rfl] at q
    simp only [if_true]
    exact wpAny_bind (wpAny_bind (wpAny_mono (h2.run pins s' σ H1 _ I1 q) (fun b s' hb => wpAny_pure (wpAny_pure hb)) fun _ _ x => x))
  | false =>
    rw [if_neg (by decide)] at q
    simp only [Bool.false_eq_true, if_false]
    exact wpAny_bind (wpAny_pure (wpAny_pure ⟨H1, I1, q⟩))⟩
theorem vts_two {c1 c2 : Expr} {d1 d2 : En → M Bool} (h1 : VT X C c1 d1) (h2 : VT X C c2 d2) : VTs X C [c1, c2] (andB d1 d2) :=
  PTs.of (pts_two h1 h2) fun σ H Q ⟨U, env, G0, H0, G, b, S, w⟩ => by
    refine ⟨U, env, G0, H0, G, b, S, wp_mono (wp_bind.mp w) fun b1 c w1 G1 H1 e1 u1 => ?_⟩
    cases c with
    | true => exact iteT ⟨U, env, G0, H0, G1, b1, S.to e1 u1, wp_mono w1 (pb_to e1)⟩
    | false => exact iteF (w1 _ _ e1 u1)
end
end Vw

/-! VwS -/
/-! [e for x in xs if c for y in ys if d] -/
namespace Vw
open PySem PySem.Spec PyProof.Rows L2
def guardN {α : Type} (ds : List α) : M Unit := if ds.length ≤ 300 then .ok () else .bad
def frOnly (env : En) : M Unit := if (env.all fun s => match s with
  | .ow _ => false
  | _ => true) = true then .ok () else .bad
theorem frOnly_wp {env : En} {b : Nat} {P : Nat → Unit → Prop} (w : wp (frOnly env) b P) : (∀ d, Sl.ow d ∉ env) ∧ P b () := by
  unfold frOnly at w
  split at w
  · rename_i h
    refine ⟨fun d m => ?_, w⟩
    have := List.all_eq_true.mp h _ m
    cases this
  · exact w.elim
theorem st_fr {K : PySem.W.Frag} {C : Nat → Addr} {U : Option Addr} {G0 H0 G H G' H' : Hp} {env : En} {σ : L2.St} (S : St K C U G0 H0 env σ G H) (no : ∀ d, Sl.ow d ∉ env) (s : Same G G') (x : Ext U G0 H0 G' H') : St K C U G0 H0 env σ G' H' := by
  refine ⟨x, ?_, S.ap, S.gu⟩
  have : ∀ {l : En} {τ : L2.St}, Paired (SltR K C U H0 G H) l τ → (∀ d, Sl.ow d ∉ l) → Paired (SltR K C U H0 G' H') l τ := by
    intro l τ h
    induction h with
    | nil => intro _; exact .nil
    | cons q t ih =>
      intro n
      refine .cons ?_ (ih fun d m => n d (List.mem_cons_of_mem _ m))
      cases q with
      | un => exact .un
      | fr r => exact .fr (r.mono s)
      | ow _ _ _ _ _ => exact absurd List.mem_cons_self (n _)
  exact this S.sl no
def catM {α β : Type} (f : α → M (List β)) : List α → M (List β)
  | [] => .ok []
  | d :: ds => f d >>= fun xs => catM f ds >>= fun ys => .ok (xs ++ ys)
abbrev turn2 (vs vs1 : List Nat) (g : D → En → M En) (dt : En → M Bool) (di1 : En → M (List D)) (g1 : D → En → M En) (dt1 : En → M Bool) (de : En → M D) (env : En) (d : D) : M (List D) :=
  g d (wipeE env vs) >>= fun e => dt e >>= fun c => if c = true then frOnly e >>= fun _ => di1 e >>= fun ds1 => guardN ds1 >>= fun _ => optM (turnV vs1 g1 dt1 de e) ds1 else .ok []
abbrev comp2V (vs vs1 : List Nat) (di : En → M (List D)) (g : D → En → M En) (dt : En → M Bool) (di1 : En → M (List D)) (g1 : D → En → M En) (dt1 : En → M Bool) (de : En → M D) : En → M D := fun env => di env >>= fun ds => guardN ds >>= fun _ => catM (turn2 vs vs1 g dt di1 g1 dt1 de env) ds >>= fun r => .ok (.lst r)
theorem guardN_wp {α : Type} {ds : List α} {b : Nat} {P : Nat → Unit → Prop} (w : wp (guardN ds) b P) : ds.length ≤ 300 ∧ P b () := by
  unfold guardN at w
  by_cases h : ds.length ≤ 300
  · rw [if_pos h] at w; exact ⟨h, w⟩
  · rw [if_neg h] at w; exact w.elim
theorem lc2_v {K : PySem.W.Frag} {C : Nat → Addr} {vs vs1 ts ts1 : List Nat} {di di1 : En → M (List D)} {g g1 : D → En → M En} {dt dt1 : En → M Bool} {de : En → M D} {σ : L2.St} {H : Hp} {Q : VK} (hts : ∀ i ∈ ts, i ∈ vs) (hts1 : ∀ i ∈ ts1, i ∈ vs1)
    (h : tF K C (comp2V vs vs1 di g dt di1 g1 dt1 de) σ H Q) : tLc2 (tWk K C di) (tGt K C ts g) (Vw.tB K C dt) (tWk K C di1) (tGt K C ts1 g1) (Vw.tB K C dt1) (tV K C de) vs vs1 σ H Q := by
  obtain ⟨U, env, G0, H0, G, b, S, w⟩ := h
  refine ⟨U, env, G0, H0, G, b, S, wp_mono (wp_bind.mp w) fun b1 ds w1 J G1 H1 e1 u1 wk A hA => ?_⟩
  obtain ⟨hl, w1⟩ := guardN_wp (wp_bind.mp w1)
  have w1 := wp_bind.mp w1
  have nU : U ≠ some A := u1.ne hA
  have S1 := (S.to e1 u1)
  let T := turn2 vs vs1 g dt di1 g1 dt1 de env
  let Wi : Nat → Hp → Prop := fun i H' => ∃ G' b' acc accd, Ext U G1 H1 G' H' ∧ G' A = none ∧ H' A = some (.lst acc) ∧ Reps K C U G' acc accd ∧ acc.length ≤ 300 * i ∧ UrnSt U H' b' ∧ wp (catM T (ds.drop i)) b' fun b'' r => PF K C U G H Q b'' (.lst (accd ++ r))
  refine ⟨fun i m H' => m = ds.length - i ∧ i ≤ ds.length ∧ Wi i H', ⟨ds.length, rfl, Nat.zero_le _, G1, b1, [], [], (Ext.refl S1.sub).mut hA (S1.sub.ne hA), S1.sub.ne hA, upd_same, .nil, Nat.le_refl _, u1.mut nU, w1⟩, ?_⟩
  rintro i m H' ⟨rfl, hi, G', b', acc, accd, e', gA, hA', ra, la, u', w'⟩
  rcases Nat.lt_or_ge i ds.length with lt | ge
  · have hd : ds[i]? = some ds[i] := List.getElem?_eq_getElem lt
    rw [List.drop_eq_getElem_cons lt] at w'
    refine .inr ⟨wk.go i _ G' H' e'.grow e'.sub hd, Wi (i + 1), fun H2 h2 => ⟨ds.length - (i + 1), by omega, rfl, lt, h2⟩, fun x H2 y => ?_⟩
    obtain ⟨G2, e2, u2, r2⟩ := wk.yld i _ G' H' x H2 b' e'.grow e'.sub hd u' y
    have S2 : Here K C U G0 H0 (wipeE env vs) (wipe σ vs) G2 H2 b' := ⟨(S1.st.wipe vs).to (e'.trans e2), u2⟩
    have w' := wp_bind.mp (show wp (T ds[i] >>= fun xs => catM T (ds.drop (i + 1)) >>= fun ys => M.ok (xs ++ ys)) b' fun b'' r => PF K C U G H Q b'' (.lst (accd ++ r)) from w')
    refine ⟨U, _, G0, H0, G2, b', _, S2, r2, wp_mono (wp_bind.mp w') fun b3 env3 w3 σ3 G3 H3 S3 e3 l3 k3 => ?_⟩
    refine ⟨wipe_eq l3 fun j hj => k3 j fun z => hj (hts j z), U, env3, G0, H0, G3, b3, S3, wp_mono (wp_bind.mp w3) fun b4 c w4 G4 H4 e4 u4 => ?_⟩
    have h4 : H4 A = some (.lst acc) := e4.keep _ _ (e3.keep _ _ (e2.keep _ _ hA' nU) nU) nU
    have g4 : G4 A = none := e4.hid _ (e3.hid _ (e2.hid _ gA (by rw [hA']; simp)) (by rw [e2.keep _ _ hA' nU]; simp)) (by rw [e3.keep _ _ (e2.keep _ _ hA' nU) nU]; simp)
    have x4 := e'.trans (e2.trans (e3.trans e4))
    have ra4 := ra.mono fun a o q => e4.grow _ _ (e3.grow _ _ (e2.grow _ _ q))
    cases c with
    | false =>
      refine iteF ⟨G4, b4, acc, accd, x4, g4, h4, ra4, by omega, u4, ?_⟩
      have w4 := wp_bind.mp (show wp (catM T (ds.drop (i + 1)) >>= fun ys => M.ok ([] ++ ys)) b4 fun b'' r => PF K C U G H Q b'' (.lst (accd ++ r)) from w4)
      exact wp_mono w4 fun b5 r w5 => w5
    | true =>
      rw [if_pos rfl] at w4
      obtain ⟨no, w4⟩ := frOnly_wp (wp_bind.mp w4)
      refine iteT ⟨U, env3, G0, H0, G4, b4, S3.to e4 u4, wp_mono (wp_bind.mp w4) fun b5 ds1 w5 J1 G5 H5 e5 u5 wk1 => ?_⟩
      obtain ⟨hl1, w5⟩ := guardN_wp (wp_bind.mp w5)
      have S5 := (S3.to e4 u4).to e5 u5
      have h5 : H5 A = some (.lst acc) := e5.keep _ _ h4 nU
      have g5 : G5 A = none := e5.hid _ g4 (by rw [h4]; simp)
      have x5 := x4.trans e5
      have x0 := S.st.ext.trans e1
      let Vi : Nat → Hp → Prop := fun j H' => ∃ G' b' acc accd, Same G5 G' ∧ Ext U G1 H1 G' H' ∧ G' A = none ∧ H' A = some (.lst acc) ∧ Reps K C U G' acc accd ∧ acc.length ≤ 300 * i + j ∧ UrnSt U H' b' ∧
        wp (optM (turnV vs1 g1 dt1 de env3) (ds1.drop j)) b' fun b6 xs => wp (catM T (ds.drop (i + 1))) b6 fun b'' r => PF K C U G H Q b'' (.lst (accd ++ (xs ++ r)))
      refine ⟨fun j k H' => k = ds1.length - j ∧ j ≤ ds1.length ∧ Vi j H', ⟨ds1.length, rfl, Nat.zero_le _, G5, b5, acc, accd, fun _ _ h => h, x5, g5, h5, ra4.mono e5.grow, by omega, u5, ?_⟩, ?_⟩
      · refine wp_mono w5 fun b6 xs w6 => ?_
        have w6 := wp_bind.mp w6
        exact wp_mono w6 fun b7 ys w7 => w7
      rintro j k H6 ⟨rfl, hj, G6, b6, acc6, accd6, s6, x6, g6, h6, ra6, la6, u6, w6⟩
      rcases Nat.lt_or_ge j ds1.length with lt1 | ge1
      · have hd1 : ds1[j]? = some ds1[j] := List.getElem?_eq_getElem lt1
        rw [List.drop_eq_getElem_cons lt1] at w6
        refine .inr ⟨wk1.go j _ G6 H6 s6 x6.sub hd1, Vi (j + 1), fun H7 h7 => ⟨ds1.length - (j + 1), by omega, rfl, lt1, h7⟩, fun x H7 y => ?_⟩
        obtain ⟨G7, e7, u7, r7⟩ := wk1.yld j _ G6 H6 x H7 b6 s6 x6.sub hd1 u6 y
        have S7 : Here K C U G0 H0 (wipeE env3 vs1) (wipe σ3 vs1) G7 H7 b6 := ⟨(st_fr S5.st no s6 (x0.trans x6)).wipe vs1 |>.to e7, u7⟩
        refine ⟨U, _, G0, H0, G7, b6, _, S7, r7, wp_mono (wp_bind.mp (wp_bind.mp w6)) fun b8 env8 w8 σ8 G8 H8 S8 e8 l8 k8 => ?_⟩
        refine ⟨wipe_eq l8 fun q hq => k8 q fun z => hq (hts1 q z), U, env8, G0, H0, G8, b8, S8, wp_mono (wp_bind.mp w8) fun b9 c9 w9 G9 H9 e9 u9 => ?_⟩
        have h9 : H9 A = some (.lst acc6) := e9.keep _ _ (e8.keep _ _ (e7.keep _ _ h6 nU) nU) nU
        have g9 : G9 A = none := e9.hid _ (e8.hid _ (e7.hid _ g6 (by rw [h6]; simp)) (by rw [e7.keep _ _ h6 nU]; simp)) (by rw [e8.keep _ _ (e7.keep _ _ h6 nU) nU]; simp)
        have x9 := x6.trans (e7.trans (e8.trans e9))
        have s9 : Same G5 G9 := fun a o q => e9.grow _ _ (e8.grow _ _ (e7.grow _ _ (s6 _ _ q)))
        have ra9 := ra6.mono fun a o q => e9.grow _ _ (e8.grow _ _ (e7.grow _ _ q))
        cases c9 with
        | false =>
          have w10 := wp_bind.mp w9
          exact iteF ⟨G9, b9, acc6, accd6, s9, x9, g9, h9, ra9, by omega, u9, wp_mono w10 fun b11 r w12 => w12⟩
        | true =>
          refine iteT ⟨U, env8, G0, H0, G9, b9, S8.to e9 u9, wp_mono (wp_bind.mp w9) fun b10 d10 w10 v10 G10 H10 e10 u10 r10 => ?_⟩
          have h10 : H10 A = some (.lst acc6) := e10.keep _ _ h9 nU
          have g10 : G10 A = none := e10.hid _ g9 (by rw [h9]; simp)
          refine ⟨acc6, h10, Nat.lt_of_le_of_lt (m := 99999) (by omega) (by rw [sizeLine_eq]; decide), G10, b10, acc6 ++ [v10], accd6 ++ [d10], fun a o q => e10.grow _ _ (s9 _ _ q), (x9.trans e10).mut hA g10, g10, upd_same, (ra9.mono e10.grow).snoc r10, by simp; omega, u10.mut nU, ?_⟩
          refine wp_mono (wp_bind.mp w10) fun b11 r w11 => ?_
          have w12 : wp (catM T (ds.drop (i + 1))) b11 fun b'' q => PF K C U G H Q b'' (.lst (accd6 ++ ((d10 :: r) ++ q))) := w11
          refine wp_mono w12 fun b13 q w13 => ?_
          rw [List.append_assoc]
          exact w13
      · have e : j = ds1.length := Nat.le_antisymm hj ge1
        subst e
        rw [List.drop_length] at w6
        have w6 : wp (catM T (ds.drop (i + 1))) b6 fun b'' r => PF K C U G H Q b'' (.lst (accd6 ++ ([] ++ r))) := w6
        exact .inl ⟨wk1.stop G6 H6 s6 x6.sub, G6, b6, acc6, accd6, x6, g6, h6, ra6, by omega, u6, w6⟩
  · have e : i = ds.length := Nat.le_antisymm hi ge
    subst e
    rw [List.drop_length] at w'
    have w' : PF K C U G H Q b' (.lst (accd ++ [])) := w'
    rw [List.append_nil] at w'
    exact .inl ⟨wk.stop G' H' e'.grow e'.sub, w' A (.lst acc) G' H' (e1.trans e') u' (e1.back hA) gA hA' ra⟩

section
variable {X : Cx} {C : Nat → Addr} {elt tg iter tg1 iter1 : Expr} {ifs ifs1 : List Expr} {scope : Scope} {own : List (Str × Nat)} {pos : Pos} {ts ts1 vs1 : List Nat} {di di1 : En → M (List D)} {g g1 : D → En → M En} {dt dt1 : En → M Bool} {de : En → M D}
theorem vf_lc2 (hN : X.N.Nodup) (hi : VI X C tg iter di) (ok : BlkOk X.N X.env.scope scope own)
    (hg : ∀ (s : Shared) (H : Hp) (C' : Addr) (cl : List (Str × Addr)) (fp : List Addr), VG (X.blk s H scope (compEnvC scope cl C' X.env) fp) C tg ts g)
    (ht : ∀ (s : Shared) (H : Hp) (C' : Addr) (cl : List (Str × Addr)) (fp : List Addr), VTs (X.blk s H scope (compEnvC scope cl C' X.env) fp) C ifs dt)
    (hi1 : ∀ (s : Shared) (H : Hp) (C' : Addr) (cl : List (Str × Addr)) (fp : List Addr), VI (X.blk s H scope (compEnvC scope cl C' X.env) fp) C tg1 iter1 di1)
    (hg1 : ∀ (s : Shared) (H : Hp) (C' : Addr) (cl : List (Str × Addr)) (fp : List Addr), VG (X.blk s H scope (compEnvC scope cl C' X.env) fp) C tg1 ts1 g1)
    (ht1 : ∀ (s : Shared) (H : Hp) (C' : Addr) (cl : List (Str × Addr)) (fp : List Addr), VTs (X.blk s H scope (compEnvC scope cl C' X.env) fp) C ifs1 dt1)
    (he : ∀ (s : Shared) (H : Hp) (C' : Addr) (cl : List (Str × Addr)) (fp : List Addr), VE (X.blk s H scope (compEnvC scope cl C' X.env) fp) C elt de)
    (hts : ∀ i ∈ ts, i ∈ own.map (·.2) := by decide) (hts1 : ∀ i ∈ ts1, i ∈ vs1 := by decide) (hv : ∀ i ∈ vs1, i ∈ own.map (·.2) := by decide) (hc : X.calm = true := by rfl) (hs : ∀ x, foldedSetIterable iter X.env x = pure x := by intro _; rfl) (hs1 : ∀ env x, foldedSetIterable iter1 env x = pure x := by intro _ _; rfl) :
    VF X C (.ListComp elt [⟨tg, iter, ifs, 0⟩, ⟨tg1, iter1, ifs1, 0⟩] scope pos) (comp2V (own.map (·.2)) vs1 di g dt di1 g1 dt1 de) :=
  PE.of (pe_lc2 hc hN hi ok hv hg ht hi1 hg1 ht1 he hs hs1) fun σ H Q h => lc2_v hts hts1 h
end
end Vw

/-! SxLcN -/
/-! [e for .. for .. for ..], any number of clauses. -/
namespace Sx
open PySem PySem.Spec PyProof.Rows L2

section
variable {elt t0 i0 t1 i1 : Expr} {ifs0 ifs1 : List Expr} {gs : List Comprehension} {k : Nat} {scope : Scope} {pos : Pos} {it acc : Value} {env : Env}
theorem compTurnN_mid (h0 : gs[k]? = some ⟨t0, i0, ifs0, 0⟩) (h1 : gs[k + 1]? = some ⟨t1, i1, ifs1, 0⟩) :
    compTurn (.ListComp elt gs scope pos) k it acc env = (do
      standAt i0.pos
      match ← pyNext it with
      | none => pure (.done .next)
      | some v =>
        letOwnedTupleGo t0 it v
        assign t0 env v
        let mut ok := true
        for c in ifs0 do
          if ok then ok ← isTrue c env (eval c env)
        if ok then
          let x ← eval i1 env
          standAt i1.pos
          let x ← foldedSetIterable i1 env x
          let _ ← runOwn (.compStart (.ListComp elt gs scope pos) (k + 1) (← holding [x] (pyIter x)) acc env) env
        again (.compLoop (.ListComp elt gs scope pos) k it acc env)) := by
  unfold compTurn
  simp only [h0, h1]
  rfl
theorem compTurnN_last (h0 : gs[k]? = some ⟨t1, i1, ifs1, 0⟩) (h1 : gs[k + 1]? = none) :
    compTurn (.ListComp elt gs scope pos) k it acc env = (do
      standAt i1.pos
      match ← pyNext it with
      | none => pure (.done .next)
      | some v =>
        letOwnedTupleGo t1 it v
        assign t1 env v
        let mut ok := true
        for c in ifs1 do
          if ok then ok ← isTrue c env (eval c env)
        if ok then
          (do let _ ← call (.builtin "list.append") [acc, ← eval elt env])
        again (.compLoop (.ListComp elt gs scope pos) k it acc env)) := by
  unfold compTurn
  simp only [h0, h1]
  rfl
end
section
variable {prog : Program} {w : World} {A : Around} {R : Result → Shared → Prop} {s : Shared} {elt t0 i0 t1 i1 : Expr} {ifs0 ifs1 : List Expr} {gs : List Comprehension} {k : Nat} {scope : Scope} {pos : Pos} {it acc : Value} {env : Env}
theorem compLoopN_mid (g0 : gs[k]? = some ⟨t0, i0, ifs0, 0⟩) (g1 : gs[k + 1]? = some ⟨t1, i1, ifs1, 0⟩) (hs : ∀ x, foldedSetIterable i1 env x = pure x) (I : Nat → Shared → Prop)
    (turn : ∀ n s, I n s → wpAny (model prog w) A (pyNext it) (fun r s₁ => match r with
      | none => R (.ok .next) s₁
      | some v => wpAny (model prog w) A (letOwnedTupleGo t0 it v) (fun _ s₁' => wpAny (model prog w) A (assign t0 env v) (fun _ s₂ =>
          wpAny (model prog w) A (forIn ifs0 true fun c r => if r = true then do let ok ← isTrue c env (eval c env); pure (ForInStep.yield ok) else pure (ForInStep.yield r)) (fun ok s₃ =>
            if ok = true then wpAny (model prog w) A (eval i1 env) (fun x s₄ => wpAny (model prog w) A (pyIter x) (fun it1 s₅ =>
              codeAny (model prog w) A (.compStart (.ListComp elt gs scope pos) (k + 1) it1 acc env) (fun r s' => match r with
                | .ok _ => ∃ m, m < n ∧ I m s'
                | .error _ => False) s₅) (notedBy (model prog w) A env fun e s' => R (.error e) s') s₄) (notedBy (model prog w) A env fun e s' => R (.error e) s') s₃
            else ∃ m, m < n ∧ I m s₃) (notedBy (model prog w) A env fun e s' => R (.error e) s') s₂) (notedBy (model prog w) A env fun e s' => R (.error e) s') s₁') (notedBy (model prog w) A env fun e s' => R (.error e) s') s₁) (notedBy (model prog w) A env fun e s' => R (.error e) s') s)
    (n : Nat) (h : I n s) :
    codeAny (model prog w) A (.compLoop (.ListComp elt gs scope pos) k it acc env) R s := by
  refine codeAny_loop rfl I (fun n s hI => ?_) n h
  show wpAny _ A ((compTurn (.ListComp elt gs scope pos) k it acc env).onRaise (fun x => do noteFrame x env; theTreesLotGoes x)) _ _ s
  refine wpAny_noted ?_
  rw [compTurnN_mid g0 g1]
  refine wpAny_bind (wpAny_standAt (wpAny_bind (wpAny_mono (turn n s hI) (fun r s₁ h₁ => ?_) fun _ _ h' => h')))
  cases r with
  | none => exact wpAny_pure h₁
  | some v =>
    refine wpAny_bind (wpAny_mono h₁ (fun _ s₁' h₁' => ?_) fun _ _ h' => h')
    refine wpAny_bind (wpAny_mono h₁' (fun _ s₂ h₂ => wpAny_bind (wpAny_mono h₂ (fun ok s₃ h₃ => ?_) fun _ _ h' => h')) fun _ _ h' => h')
    cases ok with
    | false => exact wpAny_pure ⟨rfl, h₃⟩
    | true =>
      refine wpAny_bind (wpAny_mono h₃ (fun x s₄ h₄ => ?_) fun _ _ h' => h')
      refine wpAny_bind (wpAny_standAt (wpAny_bind (wpAny_of_eq (hs x) (wpAny_bind (wpAny_holding (wpAny_mono h₄ (fun it1 s₅ h₅ => ?_) fun _ _ h' => h'))))))
      refine wpAny_bind (wpAny_runOwn ?_)
      rw [Around.mark_none]
      refine codeAny_mono h₅ fun r s' hr => ?_
      cases r with
      | ok f =>
        first
          | exact wpAny_pure ⟨rfl, hr⟩
          | exact wpAny_bind (wpAny_pure (wpAny_pure ⟨rfl, hr⟩))
      | error e => exact hr.elim
theorem compLoopN_last (g0 : gs[k]? = some ⟨t1, i1, ifs1, 0⟩) (g1 : gs[k + 1]? = none) (I : Nat → Shared → Prop)
    (turn : ∀ n s, I n s → wpAny (model prog w) A (pyNext it) (fun r s₁ => match r with
      | none => R (.ok .next) s₁
      | some v => wpAny (model prog w) A (letOwnedTupleGo t1 it v) (fun _ s₁' => wpAny (model prog w) A (assign t1 env v) (fun _ s₂ =>
          wpAny (model prog w) A (forIn ifs1 true fun c r => if r = true then do let ok ← isTrue c env (eval c env); pure (ForInStep.yield ok) else pure (ForInStep.yield r)) (fun ok s₃ =>
            if ok = true then wpAny (model prog w) A (eval elt env) (fun x s₄ =>
              wpAny (model prog w) A (call (.builtin "list.append") [acc, x]) (fun _ s₅ => ∃ m, m < n ∧ I m s₅) (notedBy (model prog w) A env fun e s' => R (.error e) s') s₄) (notedBy (model prog w) A env fun e s' => R (.error e) s') s₃
            else ∃ m, m < n ∧ I m s₃) (notedBy (model prog w) A env fun e s' => R (.error e) s') s₂) (notedBy (model prog w) A env fun e s' => R (.error e) s') s₁') (notedBy (model prog w) A env fun e s' => R (.error e) s') s₁) (notedBy (model prog w) A env fun e s' => R (.error e) s') s)
    (n : Nat) (h : I n s) :
    codeAny (model prog w) A (.compLoop (.ListComp elt gs scope pos) k it acc env) R s := by
  refine codeAny_loop rfl I (fun n s hI => ?_) n h
  show wpAny _ A ((compTurn (.ListComp elt gs scope pos) k it acc env).onRaise (fun x => do noteFrame x env; theTreesLotGoes x)) _ _ s
  refine wpAny_noted ?_
  rw [compTurnN_last g0 g1]
  refine wpAny_bind (wpAny_standAt (wpAny_bind (wpAny_mono (turn n s hI) (fun r s₁ h₁ => ?_) fun _ _ h' => h')))
  cases r with
  | none => exact wpAny_pure h₁
  | some v =>
    refine wpAny_bind (wpAny_mono h₁ (fun _ s₁' h₁' => ?_) fun _ _ h' => h')
    refine wpAny_bind (wpAny_mono h₁' (fun _ s₂ h₂ => wpAny_bind (wpAny_mono h₂ (fun ok s₃ h₃ => ?_) fun _ _ h' => h')) fun _ _ h' => h')
    cases ok with
    | false => exact wpAny_pure ⟨rfl, h₃⟩
    | true =>
      exact wpAny_bind (wpAny_bind (wpAny_mono h₃ (fun x s₄ h₄ => wpAny_bind (wpAny_mono h₄ (fun _ s₅ h₅ => wpAny_pure (wpAny_pure ⟨rfl, h₅⟩)) fun _ _ h' => h')) fun _ _ h' => h'))
theorem compStartN_ok (g0 : gs[k]? = some ⟨t0, i0, ifs0, 0⟩) (h0 : codeAny (model prog w) A (.compLoop (.ListComp elt gs scope pos) k it acc env) R s)
    (h : wpAny (model prog w) A (pyIter it) (fun it' s' => codeAny (model prog w) A (.compLoop (.ListComp elt gs scope pos) k it' acc env) R s')
      (notedBy (model prog w) A env fun x s' => R (.error x) s') s) :
    codeAny (model prog w) A (.compStart (.ListComp elt gs scope pos) k it acc env) R s := by
  refine codeAny_of_tree ?_
  show wpAny _ _ ((compStart (.ListComp elt gs scope pos) k it acc env).onRaise (fun x => do noteFrame x env; standAt theWindowsPlace)) _ _ s
  refine wpAny_notedAt ?_
  unfold compStart
  simp only [show clausesOf (.ListComp elt gs scope pos) = gs from rfl, g0]
  show wpAny _ _ (ask >>= _) _ _ s
  refine wpAny_bind (wpAny_askSetting (wpAny_ite ?_))
  split
  · first
      | exact wpAny_bind (wpAny_pure (wpAny_pure (And.intro rfl h0)))
      | exact wpAny_pure (And.intro rfl h0)
  · first
      | exact wpAny_bind (wpAny_rule (wpAny_bind (wpAny_standAt (wpAny_bind (wpAny_mono h (fun it' s' h' => wpAny_pure (And.intro rfl h')) fun _ _ x => x)))))
      | (refine wpAny_bind (wpAny_rule ?_); show wpAny _ _ (standAt i0.pos >>= _) _ _ s; exact wpAny_bind (wpAny_standAt (wpAny_bind (wpAny_mono h (fun it' s' h' => wpAny_pure (And.intro rfl h')) fun _ _ x => x))))
end

structure Cl where
  tg : Expr
  iter : Expr
  ifs : List Expr
  wi : TI
  g : TG
  tt : TT
  vs : List Nat
abbrev Cl.c (c : Cl) : Comprehension := ⟨c.tg, c.iter, c.ifs, 0⟩
/-- what a clause's parts do in the block -/
structure ClGT (Y : Cx) (c : Cl) : Prop where
  g : PG Y c.tg c.g
  t : PTs Y c.ifs c.tt
structure ClOk (Y : Cx) (c : Cl) : Prop extends ClGT Y c where
  i : PI Y c.tg c.iter c.wi
  s : ∀ x, foldedSetIterable c.iter Y.env x = pure x
/-- from a turn of the clauses ahead on -/
def tIn (te : TE) (D : Addr) : List Cl → L2.St → Hp → (Hp → Prop) → Prop
  | [], σ, H, Nx => te σ H fun y H' => ∃ acc, H' D = some (.lst acc) ∧ acc.length < sizeLine ∧ Nx (upd H' D (.lst (acc ++ [y])))
  | c :: cs, σ, H, Nx => c.wi σ H fun J H4 => ∃ W : Nat → Nat → Hp → Prop, (∃ m, W 0 m H4) ∧ ∀ j k H, W j k H →
      (J.stop j H ∧ Nx H) ∨ (J.go j H ∧ ∃ Nx1 : Hp → Prop, (∀ H', Nx1 H' → ∃ k', k' < k ∧ W (j + 1) k' H') ∧ ∀ x H', J.yld j H x H' → c.g x (wipe σ c.vs) H' fun σ3 H5 => wipe σ3 c.vs = wipe σ c.vs ∧ c.tt σ3 H5 fun b H6 =>
        if b = true then tIn te D cs σ3 H6 Nx1 else Nx1 H6)
/-- the names of the clauses: each clause's own and those behind it -/
def nest : List Nat → List Cl → Prop
  | _, [] => True
  | vs, c :: cs => (∀ i ∈ c.vs, i ∈ vs) ∧ nest c.vs cs
section
variable {Y : Cx} {elt : Expr} {scope : Scope} {pos : Pos} {te : TE} {gs : List Comprehension} {D : Addr}
theorem loopN (hx : ∀ e s, ¬ Y.xe e s) (hc : Y.calm = true) (he : PE Y elt te) : ∀ (cs : List Cl) (c : Cl) (k : Nat) (pins : List (Addr × Obj)) (s : Shared) (σ : L2.St) (it : Addr) (fp : List Addr) (tn : Nat → Heap → Prop) (J : It) (W : Nat → Nat → Hp → Prop) (Nx : Hp → Prop) (m0 : Nat) (H0 : Hp),
    gs.drop k = (c :: cs).map Cl.c → ClGT Y c → (∀ d ∈ cs, ClOk Y d) → nest c.vs cs → Turn Y.prog Y.w Y.K c.tg J fp it tn → (∀ b ∈ fp, b ≠ Y.env.locals ∧ b ∉ Y.fs ∧ (b ∈ Y.ex ∨ Y.s_0.heap.objs.size ≤ b) ∧ (∀ x c, Y.env.cells.lookup x = some c → c ≠ b) ∧ ∀ p ∈ Y.pn ++ pins, p.1 ≠ b) →
    Inv Y pins (wipe σ c.vs) H0 s → tn 0 s.heap → (∀ b ∈ fp, H0 b = none) → W 0 m0 H0 →
    (∀ j k H, W j k H → (J.stop j H ∧ Nx H) ∨ (J.go j H ∧ ∃ Nx1 : Hp → Prop, (∀ H', Nx1 H' → ∃ k', k' < k ∧ W (j + 1) k' H') ∧ ∀ x H', J.yld j H x H' → c.g x (wipe σ c.vs) H' fun σ3 H5 => wipe σ3 c.vs = wipe σ c.vs ∧ c.tt σ3 H5 fun b H6 =>
        if b = true then tIn te D cs σ3 H6 Nx1 else Nx1 H6)) →
    codeAny (model Y.prog Y.w) Y.A (.compLoop (.ListComp elt gs scope pos) k (.ref it) (.ref D) Y.env) (fun r s' => match r with
      | .ok f => f = .next ∧ ∃ H', Inv Y pins (wipe σ c.vs) H' s' ∧ Nx H'
      | .error _ => False) s := by
  intro cs
  induction cs with
  | nil =>
    intro c k pins s σ it fp tn J W Nx m0 H0 hd ok _ _ T f0 I0 st0 n0 w0 turn
    have g0 : gs[k]? = some c.c := by
      have := congrArg (fun l : List Comprehension => l[0]?) hd
      simpa using this
    have g1 : gs[k + 1]? = none := by
      have := congrArg (fun l : List Comprehension => l[1]?) hd
      simpa using this
    have stat : ∀ {H' : Hp}, (∀ b ∈ fp, H' b = none) → ∀ b ∈ fp, FpOk Y pins H' b := fun hn b hb => ⟨hn b hb, f0 b hb⟩
    refine compLoopN_last g0 g1 (fun n s' => ∃ i H', Inv Y pins (wipe σ c.vs) H' s' ∧ tn i s'.heap ∧ (∀ b ∈ fp, H' b = none) ∧ W i n H') ?_ m0 ⟨0, H0, I0, st0, n0, w0⟩
    rintro n s5 ⟨i, H5, I5, st5, n5, w5⟩
    rcases turn i n H5 w5 with ⟨stop, nx⟩ | ⟨go, Nx1, hNx, step⟩
    · refine thnF (T.done Y rfl rfl rfl hc i _ s5 _ H5 (fun _ _ => False) I5 (stat n5) st5 stop) fun r s6 ⟨hr, I6⟩ => ?_
      subst hr
      exact ⟨rfl, H5, I6, nx⟩
    · refine thnF (T.item Y rfl rfl rfl hc i _ s5 _ H5 (fun _ _ => False) I5 (stat n5) st5 go) fun r s6 ⟨u, hr, h6⟩ => ?_
      subst hr
      refine thnF h6 fun _ s7 ⟨x, H7, I7, r7, y7, st7, n7⟩ => ?_
      have I7' := I7.pinned (stat n7) (T.obj _ _ st7)
      have no : ∀ {α : Type} {t : Sem α} {Q Q' : α → Shared → Prop} {E : Value → Shared → Prop} {s : Shared}, wpAny (model Y.prog Y.w) Y.A t Q Y.xe s → (∀ a s, Q a s → Q' a s) → wpAny (model Y.prog Y.w) Y.A t Q' E s := fun h q => wpAny_mono h q fun e s z => (hx e s z).elim
      refine no (ok.g.run _ s7 _ H7 x u _ I7' r7 (step x H7 y7)) fun _ s8 ⟨σ8, H8, I8, hw8, q8⟩ => ?_
      refine no (ok.t.run _ s8 σ8 H8 _ I8 q8) fun b s9 ⟨H9, I9, q9⟩ => ?_
      have fin : ∀ {s' : Shared} {H' : Hp}, Inv Y (pins ++ pinsAt fp s7.heap) σ8 H' s' → Nx1 H' → ∃ m, m < n ∧ ∃ i H', Inv Y pins (wipe σ c.vs) H' s' ∧ tn i s'.heap ∧ (∀ b ∈ fp, H' b = none) ∧ W i m H' := fun {s' H'} I' nx => by
        obtain ⟨m', hm, w'⟩ := hNx H' nx
        have pin' : ∀ b ∈ fp, ∀ o, s7.heap.get? b = some o → s'.heap.get? b = some o ∧ H' b = none := fun b hb o e =>
          let z := I'.pin (b, o) (List.mem_append_right _ (List.mem_append_right _ (mem_pinsAt hb e)))
          ⟨z.1, z.2.1⟩
        refine ⟨m', hm, i + 1, H', I'.unpinned.weak (by rw [← hw8, wipe_length]) (fun j v e => by rw [← hw8] at e; exact (wipe_some e).1), T.keep _ _ _ st7 fun b hb o e => (pin' b hb o e).1, fun b hb => ?_, w'⟩
        obtain ⟨o, e, _⟩ := T.obj _ _ st7 b hb
        exact (pin' b hb o e).2
      cases b with
      | false =>
        simp only [Bool.false_eq_true, if_false] at q9 ⊢
        exact fin I9 q9
      | true =>
        simp only [if_true] at q9 ⊢
        refine no (he.run _ s9 σ8 H9 _ I9 q9) fun z s10 ⟨yv, H10, I10, r10, acc, hD, hz, nx⟩ => ?_
        exact app_ok (X := Y) I10 hD hz r10 fun s11 I11 => fin I11 nx
  | cons c1 cs ih =>
    intro c k pins s σ it fp tn J W Nx m0 H0 hd ok oks ns T f0 I0 st0 n0 w0 turn
    have g0 : gs[k]? = some c.c := by
      have := congrArg (fun l : List Comprehension => l[0]?) hd
      simpa using this
    have g1 : gs[k + 1]? = some c1.c := by
      have := congrArg (fun l : List Comprehension => l[1]?) hd
      simpa using this
    have hd1 : gs.drop (k + 1) = (c1 :: cs).map Cl.c := by
      have := congrArg (fun l : List Comprehension => l.drop 1) hd
      simpa using this
    have ok1 := oks c1 List.mem_cons_self
    have stat : ∀ {H' : Hp}, (∀ b ∈ fp, H' b = none) → ∀ b ∈ fp, FpOk Y pins H' b := fun hn b hb => ⟨hn b hb, f0 b hb⟩
    have no : ∀ {α : Type} {t : Sem α} {Q Q' : α → Shared → Prop} {E : Value → Shared → Prop} {s : Shared}, wpAny (model Y.prog Y.w) Y.A t Q Y.xe s → (∀ a s, Q a s → Q' a s) → wpAny (model Y.prog Y.w) Y.A t Q' E s := fun h q => wpAny_mono h q fun e s z => (hx e s z).elim
    refine compLoopN_mid g0 g1 ok1.s (fun n s' => ∃ i H', Inv Y pins (wipe σ c.vs) H' s' ∧ tn i s'.heap ∧ (∀ b ∈ fp, H' b = none) ∧ W i n H') ?_ m0 ⟨0, H0, I0, st0, n0, w0⟩
    rintro n s5 ⟨i, H5, I5, st5, n5, w5⟩
    rcases turn i n H5 w5 with ⟨stop, nx⟩ | ⟨go, Nx1, hNx, step⟩
    · refine thnF (T.done Y rfl rfl rfl hc i _ s5 _ H5 (fun _ _ => False) I5 (stat n5) st5 stop) fun r s6 ⟨hr, I6⟩ => ?_
      subst hr
      exact ⟨rfl, H5, I6, nx⟩
    · refine thnF (T.item Y rfl rfl rfl hc i _ s5 _ H5 (fun _ _ => False) I5 (stat n5) st5 go) fun r s6 ⟨u, hr, h6⟩ => ?_
      subst hr
      refine thnF h6 fun _ s7 ⟨x, H7, I7, r7, y7, st7, n7⟩ => ?_
      have I7' := I7.pinned (stat n7) (T.obj _ _ st7)
      refine no (ok.g.run _ s7 _ H7 x u _ I7' r7 (step x H7 y7)) fun _ s8 ⟨σ8, H8, I8, hw8, q8⟩ => ?_
      refine no (ok.t.run _ s8 σ8 H8 _ I8 q8) fun b s9 ⟨H9, I9, q9⟩ => ?_
      have fin : ∀ {σ9 : L2.St} {s' : Shared} {H' : Hp}, Inv Y (pins ++ pinsAt fp s7.heap) σ9 H' s' → (wipe σ c.vs).length = σ9.length → (∀ (j : Nat) v, (wipe σ c.vs)[j]? = some (some v) → σ9[j]? = some (some v)) → Nx1 H' →
          ∃ m, m < n ∧ ∃ i H', Inv Y pins (wipe σ c.vs) H' s' ∧ tn i s'.heap ∧ (∀ b ∈ fp, H' b = none) ∧ W i m H' := fun {σ9 s' H'} I' hl hk nx => by
        obtain ⟨m', hm, w'⟩ := hNx H' nx
        have pin' : ∀ b ∈ fp, ∀ o, s7.heap.get? b = some o → s'.heap.get? b = some o ∧ H' b = none := fun b hb o e =>
          let z := I'.pin (b, o) (List.mem_append_right _ (List.mem_append_right _ (mem_pinsAt hb e)))
          ⟨z.1, z.2.1⟩
        refine ⟨m', hm, i + 1, H', I'.unpinned.weak hl hk, T.keep _ _ _ st7 fun b hb o e => (pin' b hb o e).1, fun b hb => ?_, w'⟩
        obtain ⟨o, e, _⟩ := T.obj _ _ st7 b hb
        exact (pin' b hb o e).2
      have hl8 : (wipe σ c.vs).length = σ8.length := by rw [← hw8, wipe_length]
      have hk8 : ∀ (j : Nat) v, (wipe σ c.vs)[j]? = some (some v) → σ8[j]? = some (some v) := fun j v e => by
        rw [← hw8] at e
        exact (wipe_some e).1
      have hk9 : ∀ (j : Nat) v, (wipe σ c.vs)[j]? = some (some v) → (wipe σ8 c1.vs)[j]? = some (some v) := fun j v e => by
        rw [← hw8] at e
        obtain ⟨e1, e2⟩ := wipe_some e
        rw [wipe_out fun z => e2 (ns.1 j z)]
        exact e1
      cases b with
      | false =>
        simp only [Bool.false_eq_true, if_false] at q9 ⊢
        exact fin I9 hl8 hk8 q9
      | true =>
        simp only [if_true] at q9 ⊢
        refine no (ok1.i.run _ s9 σ8 H9 _ I9 q9) fun xv s10 hx1 => no hx1 fun itv s11 h11 => ?_
        obtain ⟨it1, fp1, tn1, J1, H11, e1, I11, T1, st11, f11, W1, ⟨m1, w1⟩, turn1⟩ := h11
        subst e1
        have L := ih c1 (k + 1) (pins ++ pinsAt fp s7.heap) s11 σ8 it1 fp1 tn1 J1 W1 Nx1 m1 H11 hd1 ok1.toClGT (fun d hd => oks d (List.mem_cons_of_mem _ hd)) ns.2 T1 (fun b hb => (f11 b hb).2)
          (I11.weak (wipe_length _ _) fun j v e => (wipe_some e).1) st11 (fun b hb => (f11 b hb).1) w1 turn1
        refine codeAny_mono (compStartN_ok (R := fun r s' => match r with
          | .ok f => f = .next ∧ ∃ H', Inv Y (pins ++ pinsAt fp s7.heap) (wipe σ8 c1.vs) H' s' ∧ Nx1 H'
          | .error _ => False) g1 L (T1.self Y.A 0 _ _ _ st11 L)) fun r s' hr => ?_
        cases r with
        | error e => exact hr.elim
        | ok f =>
          obtain ⟨_, H', I', nx⟩ := hr
          exact fin I' (hl8.trans (wipe_length σ8 c1.vs).symm) hk9 nx
end

def tLcN (c : Cl) (cs : List Cl) (te : TE) : TE := fun σ H Q => c.wi σ H fun J H1 => ∀ D, H1 D = none → ∃ W : Nat → Nat → Hp → Prop, (∃ m, W 0 m (upd H1 D (.lst []))) ∧ ∀ j k H, W j k H →
  (J.stop j H ∧ Q (.ref D) H) ∨ (J.go j H ∧ ∃ Nx1 : Hp → Prop, (∀ H', Nx1 H' → ∃ k', k' < k ∧ W (j + 1) k' H') ∧ ∀ x H', J.yld j H x H' → c.g x (wipe σ c.vs) H' fun σ3 H5 => wipe σ3 c.vs = wipe σ c.vs ∧ c.tt σ3 H5 fun b H6 =>
    if b = true then tIn te D cs σ3 H6 Nx1 else Nx1 H6)
section
variable {X : Cx} {elt : Expr} {scope : Scope} {own : List (PySem.Str × Nat)} {te : TE} {c : Cl} {cs : List Cl}
theorem lcN_core {pins : List (Addr × Obj)} {s : Shared} {σ : L2.St} {H : Hp} {Q : VK} {pos pos' : Pos} {use : Option (Value → Sem Unit)} {Qf : Value → Shared → Prop}
    (hc : X.calm = true) (hN : X.N.Nodup) (I : Inv X pins σ H s) (hi : PI X c.tg c.iter c.wi) (ok : BlkOk X.N X.env.scope scope own) (hv : c.vs = own.map (·.2)) (ns : nest c.vs cs)
    (hok : ∀ (s : Shared) (H : Hp) (C : Addr) (cl : List (PySem.Str × Addr)) (fp : List Addr), PG (X.blk s H scope (compEnvC scope cl C X.env) fp) c.tg c.g ∧ PTs (X.blk s H scope (compEnvC scope cl C X.env) fp) c.ifs c.tt)
    (hcs : ∀ (s : Shared) (H : Hp) (C : Addr) (cl : List (PySem.Str × Addr)) (fp : List Addr), ∀ d ∈ cs, ClOk (X.blk s H scope (compEnvC scope cl C X.env) fp) d)
    (he : ∀ (s : Shared) (H : Hp) (C : Addr) (cl : List (PySem.Str × Addr)) (fp : List Addr), PE (X.blk s H scope (compEnvC scope cl C X.env) fp) elt te) (hs : ∀ env x, foldedSetIterable c.iter env x = pure x)
    (h : tLcN c cs te σ H Q)
    (hRR : ∀ D C s' m H', Inv X pins σ H' s' → Q (.ref D) H' → s'.heap.Ns C m → FpOk X pins H' C → compPost (model X.prog X.w) X.A X.xe use Qf (.ref D) C (.ok .next) s') :
    wpAny (model X.prog X.w) X.A (comprehension (.ListComp elt ((c :: cs).map Cl.c) scope pos) scope X.env pos' (newList []) false (eval c.iter X.env) use) Qf X.xe s := by
  have hfree : ∀ y ∈ scope.names, y.2 = .free → ∃ c, X.env.cells.lookup y.1 = some c := fun y hy e => by
    rcases ok.free y hy e with k | k
    · exact I.ok.has _ (.inl k)
    · exact I.ok.has _ (.inr k)
  refine wpAny_comprehension_free (use := use) rfl (hs _) (closure_ok hfree) ok.kind (fun y hy e => by rw [ok.uniq y hy, e])
    (thn (hi.run pins s σ H _ I h) fun xv s1 hx => thn hx fun itv s2 h2 => ?_)
  obtain ⟨it, fp, tn, J, H2, e, I2, T, st2, f2, q⟩ := h2
  subst e
  refine wpAny_newObj_type (newEnv_comp ?_) (by show 0 ≤ sizeLine; decide)
  generalize hD : s2.heap.objs.size = D
  have hDn : H2 D = none := I2.hok.fresh (Nat.le_of_eq hD)
  obtain ⟨W, ⟨m0, w0⟩, turn⟩ := q D hDn
  generalize hs3 : ({ s2 with heap := s2.heap.push { cls := .type "list", data := .seq ([] : List Value).toArray } } : Shared) = s3
  have I3 : Inv X pins σ (upd H2 D (.lst [])) s3 := by
    rw [← hs3]
    refine I2.laid (t' := s2.toks) (fun b o e => Heap.get?_push_of_some _ e) (Nat.le_of_eq hD) ⟨Nat.zero_le _, [], 0, .nil, ?_⟩
    rw [← hD]
    exact Heap.get?_push_size _ rfl
  have h3 : s3.heap = s2.heap.push { cls := .type "list", data := .seq ([] : List Value).toArray } := by rw [← hs3]
  have sz : ∀ b ∈ fp, b < s2.heap.objs.size := fun b hb => by
    obtain ⟨o, e, _⟩ := T.obj _ _ st2 b hb
    exact Heap.lt_size e
  have f3 : ∀ b ∈ fp, FpOk X pins (upd H2 D (.lst [])) b ∧ b < s3.heap.objs.size := fun b hb => by
    have hlt := sz b hb
    refine ⟨⟨?_, (f2 b hb).2⟩, by rw [h3, Heap.size_push]; exact Nat.lt_succ_of_lt hlt⟩
    rw [upd_ne (by rw [← hD]; exact Nat.ne_of_lt hlt)]
    exact (f2 b hb).1
  have st3 : tn 0 s3.heap := T.keep _ _ _ st2 fun b _ o e => by rw [h3]; exact Heap.get?_push_of_some _ e
  have I4 := block_start I3 ok hN f3
  have pg := hok s3 (upd H2 D (.lst [])) s3.heap.objs.size (cellsFrom (s3.heap.objs.size + 1) scope.names (cloFrom X.env.cells scope.names [])) fp
  have pcs := hcs s3 (upd H2 D (.lst [])) s3.heap.objs.size (cellsFrom (s3.heap.objs.size + 1) scope.names (cloFrom X.env.cells scope.names [])) fp
  have pe := he s3 (upd H2 D (.lst [])) s3.heap.objs.size (cellsFrom (s3.heap.objs.size + 1) scope.names (cloFrom X.env.cells scope.names [])) fp
  show codeAny _ _ (.compStart (.ListComp elt ((c :: cs).map Cl.c) scope pos) 0 (.ref it) (.ref D) (compEnvC scope (cellsFrom (s3.heap.objs.size + 1) scope.names (cloFrom X.env.cells scope.names [])) s3.heap.objs.size X.env)) (compPost (model X.prog X.w) X.A X.xe use Qf (.ref D) s3.heap.objs.size) { s3 with heap := pushCells (s3.heap.push { cls := .type "dict", data := .dict #[] }) scope.names }
  have nfp : ∀ b ∈ fp, (upd H2 D (.lst [])) b = none := fun b hb => (f3 b hb).1.1
  generalize hce : compEnvC scope (cellsFrom (s3.heap.objs.size + 1) scope.names (cloFrom X.env.cells scope.names [])) s3.heap.objs.size X.env = ce at I4 pg pcs pe ⊢
  have cL : ce.locals = s3.heap.objs.size := by subst hce; rfl
  generalize hH3 : upd H2 D (.lst []) = H3 at I3 I4 pg pcs pe w0 nfp f3
  generalize hs4 : ({ s3 with heap := pushCells (s3.heap.push { cls := .type "dict", data := .dict #[] }) scope.names } : Shared) = s4 at I4 ⊢
  have st4 : tn 0 s4.heap := T.keep _ _ _ st3 fun b _ o e => by rw [← hs4]; exact pushCells_keeps _ _ _ _ (Heap.get?_push_of_some _ e)
  have fk : ∀ b ∈ fp, FpOk (X.blk s3 H3 scope ce fp) [] H3 b := fun b hb =>
    ⟨nfp b hb, (I4.ok.exf b hb).1, I4.ok.exfs b hb, .inl hb, fun x c e => (I4.ok.exf b hb).2 x c e, fun p hp => absurd (show p ∈ ([] : List (Addr × Obj)) ++ [] from hp) (by simp)⟩
  have loop : codeAny (model X.prog X.w) X.A (.compLoop (.ListComp elt ((c :: cs).map Cl.c) scope pos) 0 (.ref it) (.ref D) ce) (compPost (model X.prog X.w) X.A X.xe use Qf (.ref D) s3.heap.objs.size) s4 := by
    have L := loopN (Y := X.blk s3 H3 scope ce fp) (scope := scope) (pos := pos) (gs := (c :: cs).map Cl.c) (D := D) (fun _ _ z => z) hc pe cs c 0 [] s4 σ it fp tn J W (fun H' => Q (.ref D) H') m0 H3 rfl ⟨pg.1, pg.2⟩ pcs ns T (fun b hb => (fk b hb).2)
      (by rw [hv]; exact I4) st4 nfp w0 turn
    refine codeAny_mono L fun r s6 hr => ?_
    cases r with
    | error e => exact hr.elim
    | ok f =>
      obtain ⟨ef, H5, I6, qq⟩ := hr
      subst ef
      have I7 : Inv X pins σ H5 s6 := I3.call' (ch := fp) I6.os I6.base I6.hok I6.bare fun b hb => ⟨(f3 b hb).1.2.2.2.1, (f3 b hb).1.2.1, (f3 b hb).1.2.2.2.2.1, (f3 b hb).1.2.2.2.2.2⟩
      have nC : H5 s3.heap.objs.size = none := by
        have z : H5 ce.locals = none := I6.free
        rw [cL] at z
        exact z
      obtain ⟨m, hn, _⟩ := I6.loc
      have hn : s6.heap.Ns ce.locals m := hn
      rw [cL] at hn
      have fin := hRR D s3.heap.objs.size s6 m H5 I7 qq hn (I3.fpOk (Nat.le_refl _) nC)
      exact fin
  exact codeAny_compStart_list loop (T.self X.A 0 _ _ _ st4 loop)
theorem pe_lcN {pos : Pos} (hc : X.calm = true) (hN : X.N.Nodup) (hi : PI X c.tg c.iter c.wi) (ok : BlkOk X.N X.env.scope scope own) (hv : c.vs = own.map (·.2)) (ns : nest c.vs cs)
    (hok : ∀ (s : Shared) (H : Hp) (C : Addr) (cl : List (PySem.Str × Addr)) (fp : List Addr), PG (X.blk s H scope (compEnvC scope cl C X.env) fp) c.tg c.g ∧ PTs (X.blk s H scope (compEnvC scope cl C X.env) fp) c.ifs c.tt)
    (hcs : ∀ (s : Shared) (H : Hp) (C : Addr) (cl : List (PySem.Str × Addr)) (fp : List Addr), ∀ d ∈ cs, ClOk (X.blk s H scope (compEnvC scope cl C X.env) fp) d)
    (he : ∀ (s : Shared) (H : Hp) (C : Addr) (cl : List (PySem.Str × Addr)) (fp : List Addr), PE (X.blk s H scope (compEnvC scope cl C X.env) fp) elt te) (hs : ∀ env x, foldedSetIterable c.iter env x = pure x) :
    PE X (.ListComp elt ((c :: cs).map Cl.c) scope pos) (tLcN c cs te) := by
  refine ⟨fun pins s σ H Q I h => ?_⟩
  rw [eval_ListComp]
  refine lcN_core hc hN I hi ok hv ns hok hcs he hs h fun D C s' m H' I' q hn f => ⟨m, hn, fun h'' sb => ?_⟩
  obtain ⟨f0, f1, f2, f3, f4, f5⟩ := f
  exact ⟨.ref D, H', I'.turned (t' := s'.toks) (fun b o hb e => (sb.2 b hb).trans e) f0 f1 f3 f4 f5, rfl, q⟩
theorem ps_setLcN {i : Nat} {y : PySem.Str} {py : Pos} {pos spos : Pos} (hc : X.calm = true) (hN : X.N.Nodup) (hy : X.N[i]? = some y) (hyl : X.env.scope.names.lookup y = some .local)
    (hsw : swapsWith (.ListComp elt ((c :: cs).map Cl.c) scope pos) (some (.Name y py)) spos.line X.env = pure true) (hi : PI X c.tg c.iter c.wi) (ok : BlkOk X.N X.env.scope scope own) (hv : c.vs = own.map (·.2)) (ns : nest c.vs cs)
    (hok : ∀ (s : Shared) (H : Hp) (C : Addr) (cl : List (PySem.Str × Addr)) (fp : List Addr), PG (X.blk s H scope (compEnvC scope cl C X.env) fp) c.tg c.g ∧ PTs (X.blk s H scope (compEnvC scope cl C X.env) fp) c.ifs c.tt)
    (hcs : ∀ (s : Shared) (H : Hp) (C : Addr) (cl : List (PySem.Str × Addr)) (fp : List Addr), ∀ d ∈ cs, ClOk (X.blk s H scope (compEnvC scope cl C X.env) fp) d)
    (he : ∀ (s : Shared) (H : Hp) (C : Addr) (cl : List (PySem.Str × Addr)) (fp : List Addr), PE (X.blk s H scope (compEnvC scope cl C X.env) fp) elt te) (hs : ∀ env x, foldedSetIterable c.iter env x = pure x) :
    PS X (.Assign [.Name y py] (.ListComp elt ((c :: cs).map Cl.c) scope pos) spos) (tAsg (tLcN c cs te) (gName i)) := by
  refine ⟨fun pins s σ H D I h => ?_⟩
  rw [exec_Assign_Name_used _ _ _ _ hsw]
  refine wpAny_bind (wpAny_standAt (wpAny_bind ?_))
  show wpAny _ X.A (do let _ ← comprehension (.ListComp elt ((c :: cs).map Cl.c) scope pos) scope X.env (firstIterPos ((c :: cs).map Cl.c) pos) (newList []) false (eval c.iter X.env) (some (assign (.Name y py) X.env))) _ _ s
  have h : tLcN c cs te σ H (fun x H1 => gName i x σ H1 D.nx) := h
  refine wpAny_bind (thn (lcN_core (Qf := fun _ s' => SP X pins D .next s') hc hN I hi ok hv ns hok hcs he hs h fun L C s' m H' I' q hn f => ?_) fun _ s' hq => wpAny_pure (wpAny_pure hq))
  show wpAny _ _ (assign (.Name y py) X.env (.ref L)) _ _ _
  refine wpAny_assign_Name (store_ok2 (v := V.ref L) I' hN hy (.inl hyl) rfl (fun s2 I2 ⟨a, sb, ha⟩ => ?_) (.inr hyl))
  obtain ⟨f0, f1, f2, f3, f4, f5⟩ := f
  have haC : C ≠ a := by
    rcases ha with z | z
    · rw [z]; exact f1
    · exact fun e => f4 y a z e.symm
  refine ⟨m, hn.sameBut sb haC, fun h3 sb3 => ?_⟩
  exact ⟨_, H', I2.turned (t' := s2.toks) (fun b o hb e => (sb3.2 b hb).trans e) f0 f1 f3 f4 f5, q⟩
end
end Sx

/-! VwT -/
/-! [e for .. for .. for ..], any number of clauses, by values -/
namespace Vw
open PySem PySem.Spec PyProof.Rows L2
open Sx (pe_lcN ps_setLcN)
structure DC where
  vs : List Nat
  ts : List Nat
  di : En → M (List D)
  g : D → En → M En
  dt : En → M Bool
def foldA (f : List D → D → M (List D)) : List D → List D → M (List D)
  | acc, [] => .ok acc
  | acc, d :: ds => f acc d >>= fun acc => foldA f acc ds
def runN (de : En → M D) : List DC → En → List D → M (List D)
  | [], env, acc => de env >>= fun d => if acc.length < 100000 then .ok (acc ++ [d]) else .bad
  | c :: cs, env, acc => frOnly env >>= fun _ => c.di env >>= fun ds => foldA (fun acc d => c.g d (wipeE env c.vs) >>= fun e => c.dt e >>= fun b => if b = true then runN de cs e acc else .ok acc) acc ds
def compN (cs : List DC) (de : En → M D) : En → M D := fun env => runN de cs env [] >>= fun r => .ok (.lst r)
def toCl (K : PySem.W.Frag) (C : Nat → Addr) (g : Comprehension) (c : DC) : Sx.Cl := ⟨g.target, g.iter, g.ifs, tWk K C c.di, tGt K C c.ts c.g, Vw.tB K C c.dt, c.vs⟩
def toCls (K : PySem.W.Frag) (C : Nat → Addr) (gs : List Comprehension) (cs : List DC) : List Sx.Cl := List.zipWith (toCl K C) gs cs
def nestB : List Nat → List DC → Bool
  | _, [] => true
  | vs, c :: cs => (c.vs.all fun i => vs.contains i) && (c.ts.all fun i => c.vs.contains i) && nestB c.vs cs
inductive VCs (Y : Cx) (C : Nat → Addr) : List Comprehension → List DC → Prop
  | nil : VCs Y C [] []
  | cons {tg iter : Expr} {ifs : List Expr} {gs : List Comprehension} {cs : List DC} {c : DC} (hi : VI Y C tg iter c.di) (hg : VG Y C tg c.ts c.g) (ht : VTs Y C ifs c.dt) (hs : ∀ x, foldedSetIterable iter Y.env x = pure x) (t : VCs Y C gs cs) : VCs Y C (⟨tg, iter, ifs, 0⟩ :: gs) (c :: cs)
theorem VCs.ok {Y : Cx} {C : Nat → Addr} : ∀ {gs : List Comprehension} {cs : List DC}, VCs Y C gs cs → ∀ d ∈ toCls Y.K C gs cs, Sx.ClOk Y d
  | _, _, .nil => fun d m => nomatch m
  | _, _, .cons hi hg ht hs t => fun d m => by
    rcases List.mem_cons.mp m with e | m
    · subst e
      exact ⟨⟨hg, ht⟩, hi, hs⟩
    · exact t.ok d m
section
variable {K : PySem.W.Frag} {C : Nat → Addr} {U : Option Addr} {G0 H0 Gb Hb : Hp} {A : Addr} {de : En → M D}
theorem in_v (x0 : Ext U G0 H0 Gb Hb) (hA : Hb A = none) (nU : U ≠ some A) : ∀ (gs : List Comprehension) (cs : List DC) (vs0 : List Nat) (env : En) (σ : L2.St) (G H : Hp) (b : Nat) (acc : List V) (accd : List D) (Post : Nat → List D → Prop) (Nx : Hp → Prop),
    gs.length = cs.length → nestB vs0 cs = true → Here K C U G0 H0 env σ G H b → Ext U Gb Hb G H → G A = none → H A = some (.lst acc) → Reps K C U G acc accd → wp (runN de cs env accd) b Post →
    (∀ G' H' b' acc' accd', Ext U Gb Hb G' H' → Same G G' → G' A = none → H' A = some (.lst acc') → Reps K C U G' acc' accd' → UrnSt U H' b' → Post b' accd' → Nx H') →
    Sx.tIn (tV K C de) A (toCls K C gs cs) σ H Nx := by
  intro gs
  induction gs with
  | nil =>
    intro cs vs0 env σ G H b acc accd Post Nx hl hn S x g h ra w nx
    cases cs with
    | cons c cs => simp at hl
    | nil =>
      refine ⟨U, env, G0, H0, G, b, S, wp_mono (wp_bind.mp w) fun b1 d w1 v G1 H1 e1 u1 r1 => ?_⟩
      have h1 : H1 A = some (.lst acc) := e1.keep _ _ h nU
      have g1 : G1 A = none := e1.hid _ g (by rw [h]; simp)
      split at w1
      · rename_i lt
        refine ⟨acc, h1, Nat.lt_of_lt_of_le (by rw [ra.length]; exact lt) (by rw [sizeLine_eq]; decide), ?_⟩
        exact nx G1 _ b1 (acc ++ [v]) (accd ++ [d]) ((x.trans e1).mut hA g1) e1.grow g1 upd_same ((ra.mono e1.grow).snoc r1) (u1.mut nU) w1
      · exact w1.elim
  | cons gg gs ih =>
    intro cs vs0 env σ G H b acc accd Post Nx hl hn S x g h ra w nx
    cases cs with
    | nil => simp at hl
    | cons c cs =>
      have hn' : ((c.vs.all fun i => vs0.contains i) && (c.ts.all fun i => c.vs.contains i) && nestB c.vs cs) = true := hn
      simp only [Bool.and_eq_true, List.all_eq_true, List.contains_iff_mem] at hn'
      obtain ⟨⟨_, hts⟩, hn1⟩ := hn'
      obtain ⟨no, w⟩ := frOnly_wp (wp_bind.mp w)
      let T : List D → D → M (List D) := fun acc d => c.g d (wipeE env c.vs) >>= fun e => c.dt e >>= fun b => if b = true then runN de cs e acc else .ok acc
      refine ⟨U, env, G0, H0, G, b, S, wp_mono (wp_bind.mp w) fun b5 ds w5 J G5 H5 e5 u5 wk => ?_⟩
      have S5 := S.to e5 u5
      have h5 : H5 A = some (.lst acc) := e5.keep _ _ h nU
      have g5 : G5 A = none := e5.hid _ g (by rw [h]; simp)
      let Vi : Nat → Hp → Prop := fun j H' => ∃ G' b' acc accd, Same G5 G' ∧ Ext U Gb Hb G' H' ∧ G' A = none ∧ H' A = some (.lst acc) ∧ Reps K C U G' acc accd ∧ UrnSt U H' b' ∧ wp (foldA T accd (ds.drop j)) b' Post
      refine ⟨fun j k H' => k = ds.length - j ∧ j ≤ ds.length ∧ Vi j H', ⟨ds.length, rfl, Nat.zero_le _, G5, b5, acc, accd, fun _ _ h => h, x.trans e5, g5, h5, ra.mono e5.grow, u5, w5⟩, ?_⟩
      rintro j k H6 ⟨rfl, hj, G6, b6, acc6, accd6, s6, x6, g6, h6, ra6, u6, w6⟩
      rcases Nat.lt_or_ge j ds.length with lt1 | ge1
      · have hd1 : ds[j]? = some ds[j] := List.getElem?_eq_getElem lt1
        rw [List.drop_eq_getElem_cons lt1] at w6
        refine .inr ⟨wk.go j _ G6 H6 s6 x6.sub hd1, Vi (j + 1), fun H7 h7 => ⟨ds.length - (j + 1), by omega, rfl, lt1, h7⟩, fun xv H7 y => ?_⟩
        obtain ⟨G7, e7, u7, r7⟩ := wk.yld j _ G6 H6 xv H7 b6 s6 x6.sub hd1 u6 y
        have S7 : Here K C U G0 H0 (wipeE env c.vs) (wipe σ c.vs) G7 H7 b6 := ⟨(st_fr S5.st no s6 (x0.trans x6)).wipe c.vs |>.to e7, u7⟩
        have w6 := wp_bind.mp (show wp (T accd6 ds[j] >>= fun acc => foldA T acc (ds.drop (j + 1))) b6 Post from w6)
        refine ⟨U, _, G0, H0, G7, b6, _, S7, r7, wp_mono (wp_bind.mp w6) fun b8 env8 w8 σ8 G8 H8 S8 e8 l8 k8 => ?_⟩
        refine ⟨wipe_eq l8 fun q hq => k8 q fun z => hq (hts q z), U, env8, G0, H0, G8, b8, S8, wp_mono (wp_bind.mp w8) fun b9 c9 w9 G9 H9 e9 u9 => ?_⟩
        have h9 : H9 A = some (.lst acc6) := e9.keep _ _ (e8.keep _ _ (e7.keep _ _ h6 nU) nU) nU
        have g9 : G9 A = none := e9.hid _ (e8.hid _ (e7.hid _ g6 (by rw [h6]; simp)) (by rw [e7.keep _ _ h6 nU]; simp)) (by rw [e8.keep _ _ (e7.keep _ _ h6 nU) nU]; simp)
        have x9 := x6.trans (e7.trans (e8.trans e9))
        have s9 : Same G5 G9 := fun a o q => e9.grow _ _ (e8.grow _ _ (e7.grow _ _ (s6 _ _ q)))
        have ra9 := ra6.mono fun a o q => e9.grow _ _ (e8.grow _ _ (e7.grow _ _ q))
        cases c9 with
        | false => exact iteF ⟨G9, b9, acc6, accd6, s9, x9, g9, h9, ra9, u9, w9⟩
        | true =>
          refine iteT ?_
          rw [if_pos rfl] at w9
          refine ih cs c.vs env8 σ8 G9 H9 b9 acc6 accd6 _ (Vi (j + 1)) (by simpa using hl) hn1 (S8.to e9 u9) x9 g9 h9 ra9 w9 fun G' H' b' acc' accd' x' s' g' h' r' u' w' => ?_
          exact ⟨G', b', acc', accd', fun a o q => s' _ _ (s9 _ _ q), x', g', h', r', u', w'⟩
      · have e : j = ds.length := Nat.le_antisymm hj ge1
        subst e
        rw [List.drop_length] at w6
        exact .inl ⟨wk.stop G6 H6 s6 x6.sub, nx G6 H6 b6 acc6 accd6 x6 (fun a o q => s6 _ _ (e5.grow _ _ q)) g6 h6 ra6 u6 w6⟩

theorem lcN_v {σ : L2.St} {H : Hp} {Q : VK} {gg : Comprehension} {gs : List Comprehension} {c : DC} {cs : List DC} (hl : gs.length = cs.length) (hn' : nestB c.vs (c :: cs) = true) (h : tF K C (compN (c :: cs) de) σ H Q) : Sx.tLcN (toCl K C gg c) (toCls K C gs cs) (tV K C de) σ H Q := by
  obtain ⟨U, env, G0, H0, G, b, S, w⟩ := h
  unfold nestB at hn'
  simp only [Bool.and_eq_true, List.all_eq_true, List.contains_iff_mem] at hn'
  obtain ⟨⟨_, hts⟩, hn1⟩ := hn'
  obtain ⟨no, w⟩ := frOnly_wp (wp_bind.mp (wp_bind.mp w))
  let T : List D → D → M (List D) := fun acc d => c.g d (wipeE env c.vs) >>= fun e => c.dt e >>= fun b => if b = true then runN de cs e acc else .ok acc
  refine ⟨U, env, G0, H0, G, b, S, wp_mono (wp_bind.mp w) fun b5 ds w5 J Gb Hb e5 u5 wk A hA => ?_⟩
  have S5 := S.to e5 u5
  have nU : U ≠ some A := u5.ne hA
  have x0 := S.st.ext.trans e5
  let Post : Nat → List D → Prop := fun b'' r => PF K C U G H Q b'' (.lst r)
  let Vi : Nat → Hp → Prop := fun j H' => ∃ G' b' acc accd, Same Gb G' ∧ Ext U Gb Hb G' H' ∧ G' A = none ∧ H' A = some (.lst acc) ∧ Reps K C U G' acc accd ∧ UrnSt U H' b' ∧ wp (foldA T accd (ds.drop j)) b' Post
  refine ⟨fun j k H' => k = ds.length - j ∧ j ≤ ds.length ∧ Vi j H', ⟨ds.length, rfl, Nat.zero_le _, Gb, b5, [], [], fun _ _ h => h, (Ext.refl S5.sub).mut hA (S5.sub.ne hA), S5.sub.ne hA, upd_same, .nil, u5.mut nU, w5⟩, ?_⟩
  rintro j k H6 ⟨rfl, hj, G6, b6, acc6, accd6, s6, x6, g6, h6, ra6, u6, w6⟩
  rcases Nat.lt_or_ge j ds.length with lt1 | ge1
  · have hd1 : ds[j]? = some ds[j] := List.getElem?_eq_getElem lt1
    rw [List.drop_eq_getElem_cons lt1] at w6
    refine .inr ⟨wk.go j _ G6 H6 s6 x6.sub hd1, Vi (j + 1), fun H7 h7 => ⟨ds.length - (j + 1), by omega, rfl, lt1, h7⟩, fun xv H7 y => ?_⟩
    obtain ⟨G7, e7, u7, r7⟩ := wk.yld j _ G6 H6 xv H7 b6 s6 x6.sub hd1 u6 y
    have S7 : Here K C U G0 H0 (wipeE env c.vs) (wipe σ c.vs) G7 H7 b6 := ⟨(st_fr S5.st no s6 (x0.trans x6)).wipe c.vs |>.to e7, u7⟩
    have w6 := wp_bind.mp (show wp (T accd6 ds[j] >>= fun acc => foldA T acc (ds.drop (j + 1))) b6 Post from w6)
    refine ⟨U, _, G0, H0, G7, b6, _, S7, r7, wp_mono (wp_bind.mp w6) fun b8 env8 w8 σ8 G8 H8 S8 e8 l8 k8 => ?_⟩
    refine ⟨wipe_eq l8 fun q hq => k8 q fun z => hq (hts q z), U, env8, G0, H0, G8, b8, S8, wp_mono (wp_bind.mp w8) fun b9 c9 w9 G9 H9 e9 u9 => ?_⟩
    have h9 : H9 A = some (.lst acc6) := e9.keep _ _ (e8.keep _ _ (e7.keep _ _ h6 nU) nU) nU
    have g9 : G9 A = none := e9.hid _ (e8.hid _ (e7.hid _ g6 (by rw [h6]; simp)) (by rw [e7.keep _ _ h6 nU]; simp)) (by rw [e8.keep _ _ (e7.keep _ _ h6 nU) nU]; simp)
    have x9 := x6.trans (e7.trans (e8.trans e9))
    have s9 : Same Gb G9 := fun a o q => e9.grow _ _ (e8.grow _ _ (e7.grow _ _ (s6 _ _ q)))
    have ra9 := ra6.mono fun a o q => e9.grow _ _ (e8.grow _ _ (e7.grow _ _ q))
    cases c9 with
    | false => exact iteF ⟨G9, b9, acc6, accd6, s9, x9, g9, h9, ra9, u9, w9⟩
    | true =>
      refine iteT ?_
      rw [if_pos rfl] at w9
      refine in_v x0 hA nU gs cs c.vs env8 σ8 G9 H9 b9 acc6 accd6 _ (Vi (j + 1)) hl hn1 (S8.to e9 u9) x9 g9 h9 ra9 w9 fun G' H' b' acc' accd' x' s' g' h' r' u' w' => ?_
      exact ⟨G', b', acc', accd', fun a o q => s' _ _ (s9 _ _ q), x', g', h', r', u', w'⟩
  · have e : j = ds.length := Nat.le_antisymm hj ge1
    subst e
    rw [List.drop_length] at w6
    have w6 : PF K C U G H Q b6 (.lst accd6) := w6
    exact .inl ⟨wk.stop G6 H6 s6 x6.sub, w6 A (.lst acc6) G6 H6 (e5.trans x6) u6 (e5.back hA) g6 h6 ra6⟩
theorem nest_of {K : PySem.W.Frag} {C : Nat → Addr} : ∀ {gs : List Comprehension} {cs : List DC} {vs : List Nat}, nestB vs cs = true → Sx.nest vs (toCls K C gs cs)
  | [], [], _, _ => trivial
  | [], _ :: _, _, _ => trivial
  | _ :: _, [], _, _ => trivial
  | g :: gs, c :: cs, vs, h => by
    unfold nestB at h
    simp only [Bool.and_eq_true, List.all_eq_true, List.contains_iff_mem] at h
    exact ⟨h.1.1, nest_of h.2⟩
end
section
variable {X : Cx} {C : Nat → Addr} {elt tg iter : Expr} {ifs : List Expr} {gs : List Comprehension} {scope : Scope} {own : List (Str × Nat)} {pos : Pos} {ts : List Nat} {di : En → M (List D)} {g : D → En → M En} {dt : En → M Bool} {de : En → M D} {cs : List DC}
theorem vf_lcN (hN : X.N.Nodup) (hi : VI X C tg iter di) (ok : BlkOk X.N X.env.scope scope own)
    (hg : ∀ (s : Shared) (H : Hp) (C' : Addr) (cl : List (Str × Addr)) (fp : List Addr), VG (X.blk s H scope (compEnvC scope cl C' X.env) fp) C tg ts g)
    (ht : ∀ (s : Shared) (H : Hp) (C' : Addr) (cl : List (Str × Addr)) (fp : List Addr), VTs (X.blk s H scope (compEnvC scope cl C' X.env) fp) C ifs dt)
    (hcs : ∀ (s : Shared) (H : Hp) (C' : Addr) (cl : List (Str × Addr)) (fp : List Addr), VCs (X.blk s H scope (compEnvC scope cl C' X.env) fp) C gs cs)
    (he : ∀ (s : Shared) (H : Hp) (C' : Addr) (cl : List (Str × Addr)) (fp : List Addr), VE (X.blk s H scope (compEnvC scope cl C' X.env) fp) C elt de)
    (hn : nestB (own.map (·.2)) (⟨own.map (·.2), ts, di, g, dt⟩ :: cs) = true := by rfl) (hl : gs.length = cs.length := by rfl) (hz : (toCls X.K C gs cs).map Sx.Cl.c = gs := by rfl) (hc : X.calm = true := by rfl) (hs : ∀ env x, foldedSetIterable iter env x = pure x := by intro _ _; rfl) :
    VF X C (.ListComp elt (⟨tg, iter, ifs, 0⟩ :: gs) scope pos) (compN (⟨own.map (·.2), ts, di, g, dt⟩ :: cs) de) := by
  have hn1 : nestB (own.map (·.2)) cs = true := by
    have h := hn
    unfold nestB at h
    simp only [Bool.and_eq_true] at h
    exact h.2
  have P := pe_lcN (X := X) (te := tV X.K C de) (elt := elt) (scope := scope) (own := own) (pos := pos) (c := toCl X.K C ⟨tg, iter, ifs, 0⟩ ⟨own.map (fun p : Str × Nat => p.2), ts, di, g, dt⟩) (cs := toCls X.K C gs cs) hc hN hi ok rfl (nest_of hn1) (fun s H C' cl fp => ⟨hg s H C' cl fp, ht s H C' cl fp⟩) (fun s H C' cl fp => (hcs s H C' cl fp).ok) he hs
  rw [List.map_cons, hz] at P
  exact PE.of P fun σ H Q h => lcN_v hl hn h
/-- name = [..] on one row -/
theorem vs_ownLcN {i : Nat} {y : Str} {py spos : Pos} (hN : X.N.Nodup) (hi : VI X C tg iter di) (ok : BlkOk X.N X.env.scope scope own)
    (hg : ∀ (s : Shared) (H : Hp) (C' : Addr) (cl : List (Str × Addr)) (fp : List Addr), VG (X.blk s H scope (compEnvC scope cl C' X.env) fp) C tg ts g)
    (ht : ∀ (s : Shared) (H : Hp) (C' : Addr) (cl : List (Str × Addr)) (fp : List Addr), VTs (X.blk s H scope (compEnvC scope cl C' X.env) fp) C ifs dt)
    (hcs : ∀ (s : Shared) (H : Hp) (C' : Addr) (cl : List (Str × Addr)) (fp : List Addr), VCs (X.blk s H scope (compEnvC scope cl C' X.env) fp) C gs cs)
    (he : ∀ (s : Shared) (H : Hp) (C' : Addr) (cl : List (Str × Addr)) (fp : List Addr), VE (X.blk s H scope (compEnvC scope cl C' X.env) fp) C elt de)
    (hsw : swapsWith (.ListComp elt (⟨tg, iter, ifs, 0⟩ :: gs) scope pos) (some (.Name y py)) spos.line X.env = pure true) (hy : X.N[i]? = some y := by rfl) (hyl : X.env.scope.names.lookup y = some .local := by rfl)
    (hn : nestB (own.map (·.2)) (⟨own.map (·.2), ts, di, g, dt⟩ :: cs) = true := by rfl) (hl : gs.length = cs.length := by rfl) (hz : (toCls X.K C gs cs).map Sx.Cl.c = gs := by rfl) (hc : X.calm = true := by rfl) (hs : ∀ env x, foldedSetIterable iter env x = pure x := by intro _ _; rfl) :
    VS X C (.Assign [.Name y py] (.ListComp elt (⟨tg, iter, ifs, 0⟩ :: gs) scope pos) spos) (ownS i (compN (⟨own.map (·.2), ts, di, g, dt⟩ :: cs) de)) := by
  have hn1 : nestB (own.map (·.2)) cs = true := by
    have h := hn
    unfold nestB at h
    simp only [Bool.and_eq_true] at h
    exact h.2
  have P := ps_setLcN (X := X) (te := tV X.K C de) (elt := elt) (scope := scope) (own := own) (pos := pos) (i := i) (y := y) (py := py) (spos := spos) (c := toCl X.K C ⟨tg, iter, ifs, 0⟩ ⟨own.map (fun p : Str × Nat => p.2), ts, di, g, dt⟩) (cs := toCls X.K C gs cs) hc hN hy hyl (by rw [List.map_cons, hz]; exact hsw) hi ok rfl (nest_of hn1) (fun s H C' cl fp => ⟨hg s H C' cl fp, ht s H C' cl fp⟩) (fun s H C' cl fp => (hcs s H C' cl fp).ok) he hs
  rw [List.map_cons, hz] at P
  refine PS.of P fun E σ H ⟨U, env, G0, H0, G, b, S, w⟩ => ?_
  refine lcN_v hl hn ⟨U, env, G0, H0, G, b, S, wp_mono (wp_bind.mp w) fun b1 d1 w1 p o G1 H1 e1 u1 hp g h r => w1 _ G1 H1 ⟨(S.st.to e1).own i h g r ?_ (S.un.ne hp) fun j d' hj h1 h2 => ?_, u1⟩ e1.grow⟩
  · exact S.st.ext.back hp
  · obtain ⟨q, o2, hq, h3, _⟩ := S.st.owned h1
    rw [hq] at h2
    cases h2
    rw [hp] at h3
    cases h3
end
end Vw

/-! CrIn -/
namespace Sx
open PySem PySem.Spec PyProof.Rows L2
def inCr (ks : List Str) : PyData → Bool
  | .str k => decide (k ∈ ks)
  | _ => false
theorem inCr_is (ks : List Str) (d : PyData) : ((ks.map sD).any fun z => PyData.eqv z d) = inCr ks d := by
  induction ks with
  | nil => cases d <;> simp [inCr]
  | cons k ks ih =>
    rw [List.map_cons, List.any_cons, ih]
    cases d with
    | str x =>
      have e : PyData.eqv (sD k) (.str x) = (k == x) := by simp only [sD, PyData.eqv]
      rw [e]
      simp only [inCr]
      by_cases h : k = x
      · subst h; simp
      · have h2 : ¬ x = k := fun z => h z.symm
        simp [h, h2]
    | _ => simp [inCr, sD, PyData.eqv]
def spIn (K : PySem.W.Frag) (C : Addr) : Sp := fun vs H Q _ => ∃ (p : Addr) (x : V) (ks : List Str) (cs : List (Str × Str)) (d : PyData), vs = [.ref p, x] ∧ BookAt K C H p ks cs ∧ Oks ks ∧ Dp K H x d ∧ SeqAt.shaped d = true ∧ Q (.bl (inCr ks d)) H
section
variable {P : Program} {w : World} {K : PySem.W.Frag} {mg : Str → Option Value} {base : Heap}
abbrev sIn : Stmt := inClass cBook 7
theorem scIn : FnScope ["self", "kind"] ["self", "kind"] (defScope sIn) := ⟨rfl, rfl, rfl, by decide +kernel, rfl, by decide +kernel, by decide +kernel⟩
theorem ok_in {f C : Addr} {fd : FuncData} {dvs : List V} (F : FunD K "__contains__" "Book.__contains__" (defArgs sIn) (defBody sIn) (defScope sIn) dvs [] f fd) (T : TB K mg C) : FnOk P w K mg base CX0 1 f fd ["self", "kind"] (spIn K C) := by
  refine F.ok scIn (fun vs H Q E h => ?_) (fun cdv A outer s H vs Q E hr h => ?_)
  · obtain ⟨p, x, ks, cs, d, rfl, _⟩ := h
    rfl
  · obtain ⟨p, x, ks, cs, d, rfl, ⟨dx, ak, ac, an, kvs, ts, hp, hak, hac, hts, han, hin, hout⟩, ok, hd, sd, q⟩ := h
    have hu : (A.deeper (envOfC "Book.__contains__" (defScope sIn) s.heap.objs.size f cdv)).units + 65 < cLine := by have := hr.un; omega
    refine ⟨_, (pss_one (ps_ret (pe_cmpR (r := rInD K) (op_inD hu) (pv 1) (pe_fld (pv 0) rfl) (by rfl)))).nox, ?_⟩
    refine ⟨x, rfl, _, rfl, p, C, dx, _, _, rfl, hp, T.cl, T.nK, bkF_kinds _ _ _, d, ks.map sD, hd, dp_tup hak, sd, shp_t ks ok, ?_⟩
    rw [inCr_is]
    exact q
end
end Sx

/-! VwK -/
/-! What is written by hand: the urn, Book, Book.of, x in book. -/
namespace Vw
open PySem PySem.Spec PyProof.Rows L2
section
variable {P : Program} {w : World} {K : PySem.W.Frag} {mg : Str → Option Value} {base : Heap} {C : Nat → Addr} {k : Nat} {f : Addr} {fd : FuncData} {ps : List Str}
/-- the bottom of a recursion -/
theorem fn_bad (n : Nat) (h : n = ps.length) : FnOk P w K mg base CX0 k f fd ps (spV K C n fun _ => .bad) :=
  ⟨fun vs H Q E ⟨_, _, _, _, _, _, _, _, l, _⟩ => by rw [l]; exact h, fun A outer s H args us vs Q E hr e0 hb hv ⟨_, _, _, _, _, _, _, _, _, z⟩ => z.elim⟩
theorem fn_recF {x : Str} {n : Nat} {B : (List D → M D) → List D → M D} {d : Nat → List D → M D} (h0 : d 0 = fun _ => .bad) (h1 : ∀ j, d (j + 1) = B (d j)) (hm : mg x = some (.ref f)) (kp : PySem.W.keepIn K (.ref f) = true) (b : Binds K fd ps []) (hn : n = ps.length)
    (step : ∀ (j : Nat) (self : List D → M D), Sx.FnG P w K mg base x (k + j) ps (spV K C n self) → FnOk P w K mg base CX0 (k + j + 1) f fd ps (spV K C n (B self))) : ∀ j, Sx.FnG P w K mg base x (k + j) ps (spV K C n (d j))
  | 0 => ⟨f, fd, hm, kp, by rw [h0]; exact fn_bad n hn, b⟩
  | j + 1 => ⟨f, fd, hm, kp, by rw [h1]; exact step j (d j) (fn_recF h0 h1 hm kp b hn step j), b⟩

/-! ### the urn -/
def dTake : List D → M D
  | [.urn, .int n] => .take n.toNat fun i => .ok (.int i)
  | _ => .bad
theorem rep_urn {U : Option Addr} {G : Hp} {v : V} (r : Rep K C U G v .urn) : ∃ u, v = .ref u ∧ U = some u := by
  cases r with
  | urn h => exact ⟨_, rfl, h⟩
theorem take_v (F : FnOk P w K mg base CX0 k f fd ps Sx.spTake) : FnOk P w K mg base CX0 k f fd ps (spV K C 2 dTake) := F.imp fun vs H Q E ⟨U, G, b, ds, s, u, gu, r, l, w⟩ => by
  unfold dTake at w
  split at w
  · rename_i n
    cases r with
    | cons r1 r => cases r with
    | cons r2 r => cases r with
    | nil =>
      obtain ⟨ua, rfl, hU⟩ := rep_urn r1
      cases r2
      obtain ⟨h0, h1, b', rfl, w⟩ := w
      obtain ⟨x, y, z, hu, y1, y2, z1, z2⟩ := u ua hU
      have p40 : (2 : Nat) ^ 40 = 1099511627776 := by decide
      have q40 : (2 : Int) ^ 40 = 1099511627776 := by decide
      refine ⟨ua, 2 ^ 40 - (b' + 1), n.toNat, by have e : (n.toNat : Int) = n := Int.toNat_of_nonneg (by omega); rw [e], ⟨x, y, z, hu, y1, y2, z1, by omega⟩, by omega, h0, h1, fun i H' hi U' kp => ?_⟩
      obtain ⟨x', y', z', hu', y1', y2', z1', z2'⟩ := U'.ex
      have gn := gu ua hU
      refine w i hi (.int i) G H' ⟨fun a o e n => ?_, fun a e => ?_, fun _ _ e => e, ⟨fun a o e => ?_, s.sm⟩, fun _ e _ => e⟩ (fun v ev => ?_) (.int _)
      · have ne : a ≠ ua := fun z => n (by rw [z]; exact hU)
        rw [kp a ne]; exact e
      · by_cases z : a = ua
        · rw [z, hu']; simp
        · rw [kp a z]; exact e
      · have ne : a ≠ ua := fun z => by rw [z, gn] at e; cases e
        exact (s.to a o e).same fun v q => by rw [kp a ne]; exact q
      · rw [hU] at ev; cases ev
        exact ⟨x', y', z', hu', y1', y2', z1', by omega⟩
  · exact w.elim

/-! ### x in book -/
def inBk : D → D → M D := fun d e => match e with
  | .book ks _ => match shp d with
    | some p => if (∀ x ∈ ks, PyData.strOk x = true) then .ok (.bl (Sx.inCr ks p)) else .bad
    | none => .bad
  | _ => .bad
theorem in_book : Op2 K C (Sx.rInOwn (C 0) (Sx.spIn K (C 0))) inBk := fun U G H b x y d e Q s u rx ry w => by
  unfold inBk at w
  split at w
  · rename_i ks cs
    split at w
    · rename_i p hp
      split at w
      · rename_i ok
        rcases ry with ry | ⟨_, o, _, _, q, _⟩
        · cases ry with
          | book bg =>
            have bk := bk_at s bg
            obtain ⟨dx, ak, ac, an, kvs, ts, h1, _⟩ := bk.ex
            exact ⟨_, dx, _, rfl, h1, _, x, ks, cs, p, rfl, bk, ok, pk_dp s rx (shp_of hp).1, (shp_of hp).2, _, rfl, same_v s u w (.bl _)⟩
        · cases o <;> exact q.elim
      · exact w.elim
    · exact w.elim
  · exact w.elim
end
section
variable {X : Cx} {C : Nat → Addr}
theorem ve_inBook {k : Nat} {a b : Expr} {da db : En → M D} {pos : Pos} (G : Sx.MtG X.prog X.w X.K X.mg X.base (C 0) "__contains__" k ["self", "kind"] (Sx.spIn X.K (C 0))) (hr : Room k X.A) (ha : VE X C a da) (hb : VE X C b db) (hm : behindInMarks .In b = false := by rfl) :
    VE X C (.Compare a [.In] [b] pos) (seq2 da db inBk) := ve_cmp (Sx.op_inOwn G hr) in_book ha.vp hb.vp hm
end
end Vw

/-! VwL -/
/-! Book.of and Book(..) by values. -/
namespace Vw
open PySem PySem.Spec PyProof.Rows L2
open Sx (srt ltS ltP Sq)
def E0p : Hp := fun _ => none
theorem sub_none {H : Hp} : Sub E0p H := ⟨fun _ _ h => (by cases h), fun _ _ h => (by cases h)⟩
theorem dm_none {H : Hp} {a : Addr} : ¬ Dm E0p H a := by
  rintro (z | ⟨_, _, _, _, z⟩)
  · exact z rfl
  · cases z
def ofKs (t : Str) : List Str := if Sx.frO t = "-" then [] else Txt.split (Sx.frO t) " "
def ofPs (t : Str) : List (Str × Str) := if (Sx.bkO t).length = 0 then [] else (Txt.split (Sx.bkO t) " ").map fun p => match Txt.split p "-" with
  | [a, b] => (a, b)
  | _ => ("", "")
def ofBk : D → M D
  | .str t => if Sx.OfOk t (ofKs t) (ofPs t) then .ok (.book (srt ltS (ofKs t)) (srt ltP ((ofPs t).map Sx.nrm))) else .bad
  | _ => .bad
section
variable {P : Program} {w : World} {K : PySem.W.Frag} {mg : Str → Option Value} {base : Heap} {C : Nat → Addr} {k : Nat} {f : Addr} {fd : FuncData} {ps : List Str}
theorem of_v (F : FnOk P w K mg base CX0 k f fd ps (Sx.spOfB K (C 0))) : FnOk P w K mg base CX0 k f fd ps (spV K C 1 (one ofBk)) := (framed F).imp fun vs H Q E ⟨U, G, b, ds, s, u, gu, r, l, w⟩ => by
  unfold one at w
  split at w
  · rename_i d
    cases r with
    | cons r1 r => cases r with
    | nil =>
      unfold ofBk at w
      split at w
      · cases r1
        split at w
        · rename_i ok
          refine ⟨E0p, sub_none, _, _, _, rfl, ok, fun a R sR bk out => ?_⟩
          have new : ∀ b o, R b = some o → H b = none := fun b o e => by
            cases z : H b with
            | none => rfl
            | some v =>
              have := out b dm_none (by rw [z]; simp)
              rw [e] at this; cases this
          obtain ⟨dx, ak, ac, an, kvs, ts, h1, _⟩ := bk.ex
          have keep : ∀ b o, H b = some o → mrg E0p H R b = some o := fun b o e => mrg_out dm_none e
          obtain ⟨G1, ex, rp⟩ := book_tell (C := C) (U := U) (F := mrg E0p H R) s keep (fun b o e => ⟨by rw [mrg_new (new b o e)]; exact e, .inl (new b o e)⟩) (new a _ h1) bk
          exact w _ G1 _ ex (u.same keep) rp
        · exact w.elim
      · exact w.elim
  · exact w.elim

/-! ### Book(kinds, clashes) -/
def strsOf : List D → Option (List Str)
  | [] => some []
  | .str x :: ds => (strsOf ds).map (x :: ·)
  | _ => none
def seqOf : D → Option (List D)
  | .lst xs => some xs
  | .tup xs => some xs
  | _ => none
def prOf (d : D) : Option (Str × Str) := match seqOf d with
  | some [.str a, .str b] => some (a, b)
  | _ => none
def prsOf : List D → Option (List (Str × Str))
  | [] => some []
  | d :: ds => match prOf d, prsOf ds with
    | some p, some ps => some (p :: ps)
    | _, _ => none
def mkB (ks : List Str) (ps : List (Str × Str)) : M D := if ks.Nodup ∧ ks.length ≤ 40 ∧ (∀ c ∈ ps, c.1 ∈ ks ∧ c.2 ∈ ks) then .ok (.book (srt ltS ks) (srt ltP (ps.map Sx.nrm))) else .bad
def mkBk2 (dk dc : D) : M D := match seqOf dk, seqOf dc with
  | some a, some c => match strsOf a, prsOf c with
    | some ks, some ps => mkB ks ps
    | _, _ => .bad
  | _, _ => .bad
theorem strs_rep {U : Option Addr} {G : Hp} : ∀ {vs : List V} {ds : List D} {ks : List Str}, Reps K C U G vs ds → strsOf ds = some ks → vs = ks.map V.str
  | _, _, _, .nil, e => by cases e; rfl
  | _, d :: ds, ks, .cons r t, e => by
    unfold strsOf at e
    split at e
    · rename_i q
      cases q
    · rename_i q
      obtain ⟨rfl, rfl⟩ := List.cons.inj q
      obtain ⟨zs, e1, rfl⟩ := Option.map_eq_some_iff.mp e
      cases r
      rw [strs_rep t e1]; rfl
    · cases e
theorem flt_sqL {G : Hp} {a : Addr} {vs : List V} (h : G a = some (.lst vs)) : SqL K (flt G) a vs := .inl (.inl (flt_lst h))
theorem flt_sqT {G : Hp} {a : Addr} {vs : List V} (h : SqT K G a vs) : SqT K (flt G) a vs := by
  rcases h with (h | ⟨ob, h⟩) | h
  · exact .inl (.inl (flt_tup h))
  · exact .inl (.inr ⟨ob, flt_frz h⟩)
  · exact .inr h
theorem seq_rep {U : Option Addr} {G : Hp} {v : V} {d : D} {ds : List D} (r : Rep K C U G v d) (e : seqOf d = some ds) : ∃ a vs, v = .ref a ∧ Sq K (flt G) a vs ∧ Reps K C U G vs ds := by
  cases r with
  | lst h r => cases e; exact ⟨_, _, rfl, .inl (flt_sqL h), r⟩
  | tup h r => cases e; exact ⟨_, _, rfl, .inr (flt_sqT h), r⟩
  | _ => cases e
theorem prs_rep {U : Option Addr} {G : Hp} : ∀ {vs : List V} {ds : List D} {ps : List (Str × Str)}, Reps K C U G vs ds → prsOf ds = some ps → ∃ ts : List Addr, vs = ts.map V.ref ∧ Paired (fun t c => Sq K (flt G) t [.str c.1, .str c.2]) ts ps
  | _, _, _, .nil, e => by cases e; exact ⟨[], rfl, .nil⟩
  | _, d :: ds, ps, .cons r t, e => by
    unfold prsOf at e
    split at e
    · rename_i p qs e1 e2
      cases e
      obtain ⟨ts, rfl, pr⟩ := prs_rep t e2
      unfold prOf at e1
      split at e1
      · rename_i q
        cases e1
        obtain ⟨a, vs, rfl, sq, rr⟩ := seq_rep r q
        cases rr with
        | cons r1 rr => cases rr with
        | cons r2 rr => cases rr with
        | nil =>
          cases r1; cases r2
          exact ⟨a :: ts, rfl, .cons sq pr⟩
      · cases e1
    · cases e
theorem same_sq {G R : Hp} (s : Same G R) {a : Addr} {vs : List V} (h : Sq K G a vs) : Sq K R a vs := by
  rcases h with h | h
  · refine .inl ?_
    rcases h with (h | ⟨o, h⟩) | h
    · exact .inl (.inl (s _ _ h))
    · exact .inl (.inr ⟨o, s _ _ h⟩)
    · exact .inr h
  · exact .inr (Sx.sqT_same s h)
/-- the view that __init__ gets -/
def gMk (C : Addr) (G : Hp) (x dx : Addr) : Hp := upd (flt G) x (.ins C dx [])
theorem mk_sp {U : Option Addr} {G H : Hp} {x dx lk lc : Addr} {Q : VK} {ts : List Addr} {ks : List Str} {ps : List (Str × Str)} {b : Nat} (s : Sub G H) (u : UrnSt U H b) (hx : H x = none) (hdx : H dx = none) (ne : dx ≠ x)
    (h1 : Sq K (flt G) lk (ks.map V.str)) (h2 : Sq K (flt G) lc (ts.map V.ref)) (h3 : Paired (fun t c => Sq K (flt G) t [.str c.1, .str c.2]) ts ps) (w : wp (mkB ks ps) b (PV K C U G H Q)) :
    spR (Sx.spInit K (C 0)) [.ref x, .ref lk, .ref lc] (upd (upd H dx (.own x)) x (.ins (C 0) dx [])) (fun v H2 => v = .non ∧ Q (.ref x) H2) E0 := by
  unfold mkB at w
  split at w
  · rename_i ok
    have fx : flt G x = none := by
      cases z : flt G x with
      | none => rfl
      | some o =>
        have := flt_raw s z
        rw [hx] at this; cases this
    have fdx : flt G dx = none := by
      cases z : flt G dx with
      | none => rfl
      | some o =>
        have := flt_raw s z
        rw [hdx] at this; cases this
    let H' := upd (upd H dx (.own x)) x (.ins (C 0) dx [])
    let G' := gMk (C 0) G x dx
    have Hx : H' x = some (.ins (C 0) dx []) := upd_same
    have Hd : H' dx = some (.own x) := by show upd (upd H dx (.own x)) x _ dx = _; rw [upd_ne ne, upd_same]
    have Ho : ∀ {a}, a ≠ x → a ≠ dx → H' a = H a := fun {a} z1 z2 => by show upd (upd H dx (.own x)) x _ a = _; rw [upd_ne z1, upd_ne z2]
    have old : ∀ {a o}, H a = some o → a ≠ x ∧ a ≠ dx := fun {a o} e => ⟨fun z => (by rw [z, hx] at e; cases e), fun z => (by rw [z, hdx] at e; cases e)⟩
    have Hk : ∀ {a o}, H a = some o → H' a = some o := fun {a o} e => by rw [Ho (old e).1 (old e).2]; exact e
    have Gx : G' x = some (.ins (C 0) dx []) := upd_same
    have Go : ∀ {a}, a ≠ x → G' a = flt G a := fun {a} z => upd_ne z
    have s' : Sub G' H' := ⟨fun a o e => by
      by_cases z : a = x
      · subst z
        rw [Gx] at e; cases e; exact Hx
      · rw [Go z] at e
        have q := flt_raw s e
        exact ((flt_sub s).to a o e).same fun v y => Hk y, fun a o e => by
      by_cases z : a = x
      · subst z
        rw [Gx] at e; cases e; trivial
      · rw [Go z] at e
        exact (flt_sub s).sm a o e⟩
    have dm : ∀ {a}, Dm G' H' a → a = x ∨ a = dx ∨ ∃ g, flt G a = some g := fun {a} d => by
      rcases d with z | ⟨p, c, fs, e, z⟩
      · by_cases q : a = x
        · exact .inl q
        · rw [Go q] at z
          cases y : flt G a with
          | none => exact absurd y z
          | some g => exact .inr (.inr ⟨g, rfl⟩)
      · by_cases q : p = x
        · subst q
          rw [Gx] at z
          cases z
          exact .inr (.inl rfl)
        · rw [Go q] at z
          obtain ⟨_, f⟩ := flt_some z
          rcases f with ⟨_, f⟩ | ⟨_, f⟩ | ⟨_, _, f⟩ <;> cases f
    have rx : rst G' H' x = some (.ins (C 0) dx []) := by rw [rst_in (dm_of Gx)]; exact Hx
    have rf : Same (flt G) (rst G' H') := fun a o e => by
      have q := flt_raw s e
      rw [rst_in (dm_of (by rw [Go (old q).1]; exact e))]
      exact Hk q
    refine ⟨G', s', x, dx, lk, lc, ts, ks, ps, rfl, rx, same_sq rf h1, same_sq rf h2, Sx.paired_imp (fun _ _ z => same_sq rf z) h3, ok.1, ok.2.1, ok.2.2, fun R bk kp out => ⟨rfl, ?_⟩⟩
    have keep : ∀ a o, H a = some o → mrg G' H' R a = some o := fun a o e => by
      by_cases d : Dm G' H' a
      · rw [mrg_in d]
        exact kp a o (by rw [rst_in d]; exact Hk e) (old e).1
      · exact mrg_out d (Hk e)
    have rest : ∀ a o, R a = some o → mrg G' H' R a = some o ∧ (H a = none ∨ (H a = some o ∧ ∃ g, flt G a = some g)) := fun a o e => by
      cases z : H' a with
      | none =>
        refine ⟨by rw [mrg_new z]; exact e, .inl ?_⟩
        cases y : H a with
        | none => rfl
        | some v => rw [Hk y] at z; cases z
      | some v =>
        have d : Dm G' H' a := Classical.byContradiction fun nd => by
          have := out a nd (show H' a ≠ none by rw [z]; simp)
          rw [e] at this; cases this
        refine ⟨by rw [mrg_in d]; exact e, ?_⟩
        rcases dm d with rfl | rfl | ⟨g, hg⟩
        · exact .inl hx
        · exact .inl hdx
        · have q := flt_raw s hg
          have y := kp a g (by rw [rst_in d]; exact Hk q) (old q).1
          rw [e] at y; cases y
          exact .inr ⟨q, _, hg⟩
    obtain ⟨G1, ex, rp⟩ := book_tell (C := C) (U := U) (F := mrg G' H' R) s keep rest hx bk
    exact w _ G1 _ ex (u.same keep) rp
  · exact w.elim
end
def MkD (P : Program) (w : World) (K : PySem.W.Frag) (mg : Str → Option Value) (base : Heap) (x : Str) (C : Addr) (k : Nat) (ps : List Str) (sp : Sp) (dvs : List V) : Prop := ∃ f fd ds, mg x = some (.ref C) ∧ Mk K C f ∧ FnOk P w K mg base CX0 k f fd ps sp ∧ Binds K fd ps ds ∧ Vals dvs ds
section
variable {X : Cx} {C : Nat → Addr}
theorem ve_ofBook {k : Nat} {x : Str} {e : Expr} {es : List Expr} {ds : En → M (List D)} {den : List D → M D} {m : Str} {n : Nat} {ps : List Str} {p pos apos : Pos} {pl : Sem Bool} (G : Sx.SmG X.prog X.w X.K X.mg X.base (C 0) m k ps (spV X.K C n den)) (hm : X.mg x = some (.ref (C 0))) (hr : Room k X.A) (ha : VA X C (e :: es) ds) (hg : Gl X x := by rfl) (hdb : (x == ("__debug__" : Str)) = false := by decide)
    (hst : starEach (e :: es) X.env = (false, eval e X.env) :: starEach es X.env := by rfl) (hpl : (backTo pos (starEach es X.env)).any (·.1) = false := by rfl)
    (ht : eval (.Call (.Attribute (.Name x p) m apos) (e :: es) [] pos) X.env = (do
      let ov ← eval (.Name x p) X.env
      standAt apos.atName
      let (f, first) ← holding [ov] (getMethod ov m pl)
      callWith pos f first (backTo pos (starEach (e :: es) X.env)) (backToKw pos (keywordEach [] X.env))) := by rfl) : VE X C (.Call (.Attribute (.Name x p) m apos) (e :: es) [] pos) (seqN ds (arity n den)) :=
  PE.of (Sx.pe_sg G hm hr ha hg hdb hst hpl ht) fun σ H Q ⟨U, env, G0, H0, G, b, S, w⟩ => args_v S w fun b2 vs xs G2 H2 e u r w => by
    unfold arity at w
    by_cases hl : xs.length = n
    · rw [if_pos hl] at w
      refine ⟨U, G2, b2, xs, e.sub, u, (S.st.to e).hidU, by rw [List.append_nil]; exact r, by rw [List.append_nil, r.length]; exact hl, wp_mono w (pv_to e)⟩
    · rw [if_neg hl] at w; exact w.elim
theorem pe_mkd {k : Nat} {C : Addr} {ps : List Str} {sp : Sp} {x : Str} {p pos : Pos} {e : Expr} {es : List Expr} {t : TA} {dvs : List V} (G : MkD X.prog X.w X.K X.mg X.base x C k ps sp dvs) (hr : Room (k + 1) X.A) (ha : PA X (e :: es) t) (hg : Gl X x := by rfl) (hdb : (x == ("__debug__" : Str)) = false := by decide)
    (he : starEach (e :: es) X.env = (false, eval e X.env) :: starEach es X.env := by rfl) (hpl : (backTo pos (starEach es X.env)).any (·.1) = false := by rfl) : PE X (.Call (.Name x p) (e :: es) [] pos) (tMake C sp dvs E0 t) := by
  obtain ⟨f, fd, ds, hm, M, F, b, v⟩ := G
  exact pe_make M F hr hg hm b v pass0 ha hdb he hpl
def mkBk1 : List D → M D
  | [k] => mkBk2 k (.tup [])
  | _ => .bad
def mkBkP : List D → M D
  | [k, c] => mkBk2 k c
  | _ => .bad
theorem seqs_of {dk dc : D} {b : Nat} {P : Nat → D → Prop} (w : wp (mkBk2 dk dc) b P) : ∃ a c ks ps, seqOf dk = some a ∧ seqOf dc = some c ∧ strsOf a = some ks ∧ prsOf c = some ps ∧ wp (mkB ks ps) b P := by
  unfold mkBk2 at w
  split at w
  · split at w
    · exact ⟨_, _, _, _, by assumption, by assumption, by assumption, by assumption, w⟩
    · exact w.elim
  · exact w.elim
theorem ve_mkBook1 {k : Nat} {x : Str} {e0 : Addr} {e : Expr} {es : List Expr} {ds : En → M (List D)} {ps : List Str} {p pos : Pos} (G : MkD X.prog X.w X.K X.mg X.base x (C 0) k ps (spR (Sx.spInit X.K (C 0))) [.ref e0]) (hr : Room (k + 1) X.A) (ha : VA X C (e :: es) ds) (hE : ∀ H, SqT X.K H e0 []) (hg : Gl X x := by rfl) (hdb : (x == ("__debug__" : Str)) = false := by decide)
    (he : starEach (e :: es) X.env = (false, eval e X.env) :: starEach es X.env := by rfl) (hpl : (backTo pos (starEach es X.env)).any (·.1) = false := by rfl) : VE X C (.Call (.Name x p) (e :: es) [] pos) (seqN ds mkBk1) :=
  PE.of (pe_mkd G hr ha hg hdb he hpl) fun σ H Q ⟨U, env, G0, H0, G, b, S, w⟩ => args_v S w fun b2 vs xs G2 H2 e u r w a dx na nd ne => by
    unfold mkBk1 at w
    split at w
    · cases r with
      | cons r1 r => cases r with
      | nil =>
        obtain ⟨ak, ac, ks, ps, q1, q2, q3, q4, w⟩ := seqs_of w
        cases q2
        cases q4
        obtain ⟨lk, ws, rfl, sq, rr⟩ := seq_rep r1 q1
        cases strs_rep rr q3
        exact mk_sp (ts := []) (ps := []) e.sub u na nd ne sq (.inr (hE _)) .nil (wp_mono w (pv_to e))
    · exact w.elim
theorem ve_mkBook2 {k : Nat} {x : Str} {e : Expr} {es : List Expr} {ds : En → M (List D)} {ps : List Str} {p pos : Pos} (G : MkD X.prog X.w X.K X.mg X.base x (C 0) k ps (spR (Sx.spInit X.K (C 0))) []) (hr : Room (k + 1) X.A) (ha : VA X C (e :: es) ds) (hg : Gl X x := by rfl) (hdb : (x == ("__debug__" : Str)) = false := by decide)
    (he : starEach (e :: es) X.env = (false, eval e X.env) :: starEach es X.env := by rfl) (hpl : (backTo pos (starEach es X.env)).any (·.1) = false := by rfl) : VE X C (.Call (.Name x p) (e :: es) [] pos) (seqN ds mkBkP) :=
  PE.of (pe_mkd G hr ha hg hdb he hpl) fun σ H Q ⟨U, env, G0, H0, G, b, S, w⟩ => args_v S w fun b2 vs xs G2 H2 e u r w a dx na nd ne => by
    unfold mkBkP at w
    split at w
    · cases r with
      | cons r1 r => cases r with
      | cons r2 r => cases r with
      | nil =>
        obtain ⟨ak, ac, ks, ps, q1, q2, q3, q4, w⟩ := seqs_of w
        obtain ⟨lk, ws, rfl, sq, rr⟩ := seq_rep r1 q1
        obtain ⟨lc, zs, rfl, sq2, rr2⟩ := seq_rep r2 q2
        cases strs_rep rr q3
        obtain ⟨ts, rfl, h3⟩ := prs_rep rr2 q4
        exact mk_sp e.sub u na nd ne sq sq2 h3 (wp_mono w (pv_to e))
    · exact w.elim
end

theorem hlt {a k : Nat} (h : a + 65 < cLine) (hk : k ≤ 65 := by decide) : a + k < cLine := by omega

section
variable {X : Cx} {C : Nat → Addr}
theorem vt_isN {a : Expr} {da : En → M D} {j : Nat} {pos pos' : Pos} (ha : VP X C a da) : VT X C (.Compare a [.Is] [.Constant .none j pos'] pos) (asB fun env => da env >>= fun d => .ok (.bl (isNon d))) :=
  PT.of (pt_cmp (pc_isN ha) rfl) fun σ H Q ⟨U, env, G0, H0, G, b, S, w⟩ => ⟨U, env, G0, H0, G, b, S, wp_mono (wp_bind.mp (wp_bind.mp w)) fun b1 d1 w1 v1 G1 H1 e1 u1 r1 => by
    refine ⟨_, rfl, ?_⟩
    rw [rep_non r1]
    exact w1 _ _ e1 u1⟩
theorem vt_notN {a : Expr} {da : En → M D} {j : Nat} {pos pos' : Pos} (ha : VP X C a da) : VT X C (.Compare a [.IsNot] [.Constant .none j pos'] pos) (asB fun env => da env >>= fun d => .ok (.bl (!isNon d))) :=
  PT.of (pt_cmp (pc_notN ha) rfl) fun σ H Q ⟨U, env, G0, H0, G, b, S, w⟩ => ⟨U, env, G0, H0, G, b, S, wp_mono (wp_bind.mp (wp_bind.mp w)) fun b1 d1 w1 v1 G1 H1 e1 u1 r1 => by
    refine ⟨_, rfl, ?_⟩
    rw [rep_non r1]
    exact w1 _ _ e1 u1⟩
end
end Vw

/-! VwM -/
/-! Reasoning about what a def makes of values: draws, loops, comprehensions. -/
namespace Vw
open PySem PySem.Spec PyProof.Rows L2
/-- m comes to an end that keeps Q, with at most n draws -/
structure Us {α : Type} (n : Nat) (m : M α) (Q : α → Prop) : Prop where
  run : ∀ b, n ≤ b → wp m b fun b' a => b ≤ b' + n ∧ Q a
section
variable {α β : Type} {n k : Nat} {m : M α} {Q : α → Prop}
theorem Us.ok {a : α} (h : Q a) : Us 0 (.ok a) Q := ⟨fun b _ => ⟨Nat.le_refl _, h⟩⟩
theorem Us.is {a : α} (e : m = .ok a) (h : Q a) : Us 0 m Q := by rw [e]; exact .ok h
theorem Us.more {Q' : α → Prop} (h : Us n m Q) (hn : n ≤ k) (i : ∀ a, Q a → Q' a) : Us k m Q' := ⟨fun b hb => wp_mono (h.run b (by omega)) fun b' a ⟨x, y⟩ => ⟨by omega, i a y⟩⟩
theorem Us.bind {f : α → M β} {R : β → Prop} (h : Us n m Q) (g : ∀ a, Q a → Us k (f a) R) : Us (n + k) (m >>= f) R := ⟨fun b hb => wp_bind.mpr (wp_mono (h.run b (by omega)) fun b' a ⟨x, y⟩ => wp_mono ((g a y).run b' (by omega)) fun b2 c ⟨u, v⟩ => ⟨by omega, v⟩)⟩
theorem Us.bind0 {f : α → M β} {R : β → Prop} {a : α} (e : m = .ok a) (g : Us k (f a) R) : Us k (m >>= f) R := by rw [e]; exact g
theorem Us.take {low : Nat} (h0 : 0 < low) (h1 : low < 1000000) {f : Nat → M α} (h : ∀ i, i < low → Us n (f i) Q) : Us (n + 1) (.take low f) Q := ⟨fun b hb => ⟨h0, h1, b - 1, by omega, fun i hi => wp_mono ((h i hi).run (b - 1) (by omega)) fun b' a ⟨x, y⟩ => ⟨by omega, y⟩⟩⟩
/-- one draw -/
theorem Us.dTake {low : Nat} (h0 : 0 < low) (h1 : low < 1000000) : Us 1 (dTake [.urn, .int (low : Nat)]) fun d => ∃ i : Nat, i < low ∧ d = .int (i : Nat) := by
  unfold Vw.dTake
  show Us 1 (.take (Int.toNat (low : Int)) _) _
  rw [Int.toNat_natCast]
  exact Us.take (n := 0) h0 h1 fun i hi => .ok ⟨i, hi, rfl⟩
theorem loop_cons (f : D → En → M Fl) (d : D) (ds : List D) (env : En) : loopM f (d :: ds) env = (f d env >>= fun fl => match fl with
    | .next e => loopM f ds e
    | .cnt e => loopM f ds e
    | .brk e => .ok (.next e)
    | .ret d => .ok (.ret d)
    | .fresh d => .ok (.fresh d)) := rfl
theorem loop_next {f : D → En → M Fl} {d : D} {ds : List D} {env e : En} (h : f d env = .ok (.next e)) : loopM f (d :: ds) env = loopM f ds e := by rw [loop_cons, h]; rfl
theorem loop_ret {f : D → En → M Fl} {d r : D} {ds : List D} {env : En} (h : f d env = .ok (.ret r)) : loopM f (d :: ds) env = .ok (.ret r) := by rw [loop_cons, h]; rfl
theorem loop_us {f : D → En → M Fl} {J : Nat → En → Prop} : ∀ {ds : List D} {env : En} {i : Nat}, J i env → (∀ j d env, ds[j]? = some d → J (i + j) env → Us k (f d env) fun fl => ∃ e, fl = .next e ∧ J (i + j + 1) e) → Us (k * ds.length) (loopM f ds env) fun fl => ∃ e, fl = .next e ∧ J (i + ds.length) e
  | [], env, i, h, _ => Us.ok ⟨env, rfl, h⟩
  | d :: ds, env, i, h, s => by
    have a := s 0 d env rfl h
    refine (Us.bind (k := k * ds.length) a fun fl ⟨e, he, hj⟩ => ?_).more (by rw [List.length_cons, Nat.mul_add]; omega) fun _ h => h
    subst he
    refine (loop_us (i := i + 1) hj fun j d' env' e' h' => ?_).more (Nat.le_refl _) fun fl ⟨e, he, hj⟩ => ⟨e, he, by rw [List.length_cons]; rw [show i + (ds.length + 1) = i + 1 + ds.length by omega]; exact hj⟩
    have := s (j + 1) d' env' (by simpa using e') (by rw [show i + (j + 1) = i + 1 + j by omega]; exact h')
    rw [show i + (j + 1) + 1 = i + 1 + j + 1 by omega] at this
    exact this
theorem opt_map {β : Type} {f : α → M (Option β)} {g : α → Option β} : ∀ {ds : List α}, (∀ d ∈ ds, f d = .ok (g d)) → optM f ds = .ok (ds.filterMap g)
  | [], _ => rfl
  | d :: ds, h => by
    have a := opt_map (f := f) (g := g) (ds := ds) fun d' m => h d' (List.mem_cons_of_mem _ m)
    show (f d >>= fun o => optM f ds >>= fun r => M.ok _) = _
    rw [h d List.mem_cons_self, ok_bind, a, ok_bind, List.filterMap_cons]
    cases g d <;> rfl
theorem guard_ok {ds : List α} (h : ds.length ≤ lim) : guardL ds = .ok () := by unfold guardL; rw [if_pos h]
/-- [e for x in ds], one value each -/
theorem opt_each {f : D → M (Option D)} {g : D → D} {ds : List D} (h : ∀ d ∈ ds, f d = .ok (some (g d))) : optM f ds = .ok (ds.map g) := by
  rw [opt_map (g := fun d => some (g d)) h]
  exact congrArg M.ok (congrFun List.filterMap_eq_map' ds)
theorem seq_next {f g : En → M Fl} {env e : En} (h : f env = .ok (.next e)) : seqS f g env = g e := by
  show (f env >>= _) = _
  rw [h]; rfl
theorem set_ok {i : Nat} {de : En → M D} {env : En} {d : D} (h : de env = .ok d) : setS i de env = .ok (.next (env.set i (.fr d))) := by
  show (de env >>= _) = _
  rw [h]; rfl
theorem own_ok {i : Nat} {de : En → M D} {env : En} {d : D} (h : de env = .ok d) : ownS i de env = .ok (.next (env.set i (.ow d))) := by
  show (de env >>= _) = _
  rw [h]; rfl
theorem comp_some {vs : List Nat} {di : En → M (List D)} {g : D → En → M En} {dt : En → M Bool} {de : En → M D} {env : En} {ds : List D} {gd : D → Option D} (h0 : di env = .ok ds) (hl : ds.length ≤ lim) (h : ∀ d ∈ ds, turnV vs g dt de env d = .ok (gd d)) : compV vs di g dt de env = .ok (.lst (ds.filterMap gd)) := by
  show (di env >>= _) = _
  rw [h0, ok_bind, guard_ok hl, ok_bind, opt_map h]; rfl
theorem comp_each {vs : List Nat} {di : En → M (List D)} {g : D → En → M En} {dt : En → M Bool} {de : En → M D} {env : En} {ds : List D} {gd : D → D} (h0 : di env = .ok ds) (hl : ds.length ≤ lim) (h : ∀ d ∈ ds, turnV vs g dt de env d = .ok (some (gd d))) : compV vs di g dt de env = .ok (.lst (ds.map gd)) := by
  show (di env >>= _) = _
  rw [h0, ok_bind, guard_ok hl, ok_bind, opt_each h]; rfl
/-- over the pictures of xs -/
theorem comp_map {β : Type} {vs : List Nat} {di : En → M (List D)} {g : D → En → M En} {dt : En → M Bool} {de : En → M D} {env : En} {xs : List β} {p : β → D} {q : β → D} (h0 : di env = .ok (xs.map p)) (hl : xs.length ≤ lim) (h : ∀ x ∈ xs, turnV vs g dt de env (p x) = .ok (some (q x))) : compV vs di g dt de env = .ok (.lst (xs.map q)) := by
  have e : ∀ xs : List β, (∀ x ∈ xs, turnV vs g dt de env (p x) = .ok (some (q x))) → optM (turnV vs g dt de env) (xs.map p) = .ok (xs.map q) := fun xs => by
    induction xs with
    | nil => intro _; rfl
    | cons x xs ih =>
      intro h
      show (turnV vs g dt de env (p x) >>= fun o => optM (turnV vs g dt de env) (xs.map p) >>= fun r => M.ok _) = _
      rw [h x List.mem_cons_self, ok_bind, ih fun y hy => h y (List.mem_cons_of_mem _ hy)]
      rfl
  show (di env >>= _) = _
  rw [h0, ok_bind, guard_ok (by rw [List.length_map]; exact hl), ok_bind, e xs h]; rfl
theorem comp_if {β : Type} {vs : List Nat} {di : En → M (List D)} {g : D → En → M En} {dt : En → M Bool} {de : En → M D} {env : En} {xs : List β} {p : β → D} {c : β → Bool} {q : β → D} (h0 : di env = .ok (xs.map p)) (hl : xs.length ≤ lim) (h : ∀ x ∈ xs, turnV vs g dt de env (p x) = .ok (if c x = true then some (q x) else none)) : compV vs di g dt de env = .ok (.lst ((xs.filter c).map q)) := by
  have e : ∀ xs : List β, (∀ x ∈ xs, turnV vs g dt de env (p x) = .ok (if c x = true then some (q x) else none)) → optM (turnV vs g dt de env) (xs.map p) = .ok ((xs.filter c).map q) := fun xs => by
    induction xs with
    | nil => intro _; rfl
    | cons x xs ih =>
      intro h
      show (turnV vs g dt de env (p x) >>= fun o => optM (turnV vs g dt de env) (xs.map p) >>= fun r => M.ok _) = _
      rw [h x List.mem_cons_self, ok_bind, ih fun y hy => h y (List.mem_cons_of_mem _ hy), List.filter_cons]
      by_cases w : c x = true
      · rw [if_pos w, if_pos w]; rfl
      · rw [if_neg w, if_neg w]; rfl
  show (di env >>= _) = _
  rw [h0, ok_bind, guard_ok (by rw [List.length_map]; exact hl), ok_bind, e xs h]; rfl
theorem turn_ok {vs : List Nat} {g : D → En → M En} {dt : En → M Bool} {de : En → M D} {env e : En} {d r : D} (h : g d (wipeE env vs) = .ok e) (ht : dt e = .ok true) (h2 : de e = .ok r) : turnV vs g dt de env d = .ok (some r) := by
  show (g d (wipeE env vs) >>= _) = _
  rw [h, ok_bind, ht, ok_bind, if_pos rfl, h2]; rfl
theorem turn_if {vs : List Nat} {g : D → En → M En} {dt : En → M Bool} {de : En → M D} {env e : En} {d r : D} {c : Bool} (h : g d (wipeE env vs) = .ok e) (ht : dt e = .ok c) (h2 : c = true → de e = .ok r) : turnV vs g dt de env d = .ok (if c = true then some r else none) := by
  show (g d (wipeE env vs) >>= _) = _
  rw [h, ok_bind, ht, ok_bind]
  cases c with
  | true => rw [if_pos rfl, if_pos rfl, h2 rfl]; rfl
  | false => rfl
theorem cons_ok {a : En → M D} {as : En → M (List D)} {env : En} {x : D} {xs : List D} (h : a env = .ok x) (h2 : as env = .ok xs) : consD a as env = .ok (x :: xs) := by
  show (a env >>= _) = _
  rw [h, ok_bind, h2]; rfl
theorem tup_ok {as : En → M (List D)} {env : En} {xs : List D} (h : as env = .ok xs) (hl : xs.length ≤ lim) : (as env >>= fun xs => guardL xs >>= fun _ => M.ok (D.tup xs)) = .ok (.tup xs) := by
  rw [h, ok_bind, guard_ok hl]; rfl
theorem lst_ok {as : En → M (List D)} {env : En} {xs : List D} (h : as env = .ok xs) (hl : xs.length ≤ lim) : (as env >>= fun xs => guardL xs >>= fun _ => M.ok (D.lst xs)) = .ok (.lst xs) := by
  rw [h, ok_bind, guard_ok hl]; rfl
theorem seqN_ok {as : En → M (List D)} {op : List D → M D} {env : En} {xs : List D} (h : as env = .ok xs) : seqN as op env = op xs := by
  show (as env >>= op) = _
  rw [h]; rfl
theorem seq2_ok {a b : En → M D} {op : D → D → M D} {env : En} {x y : D} (h : a env = .ok x) (h2 : b env = .ok y) : seq2 a b op env = op x y := by
  show (a env >>= _) = _
  rw [h, ok_bind, h2]; rfl
/-- a test's way -/
theorem if_ok {dc : En → M Bool} {da db : En → M Fl} {env : En} {c : Bool} (h : dc env = .ok c) : ifS dc da db env = if c = true then da env else db env := by
  show (dc env >>= _) = _
  rw [h]; rfl
theorem asB_ok {de : En → M D} {env : En} {c : Bool} (h : de env = .ok (.bl c)) : asB de env = .ok c := by
  show (de env >>= _) = _
  rw [h]; rfl
theorem seq_ret {f g : En → M Fl} {env : En} {d : D} (h : f env = .ok (.ret d)) : seqS f g env = .ok (.ret d) := by
  show (f env >>= _) = _
  rw [h]; rfl
theorem if_yes {dc : En → M Bool} {da db : En → M Fl} {env : En} (h : dc env = .ok true) : ifS dc da db env = da env := by
  show (dc env >>= _) = _
  rw [h]; rfl
theorem if_no {dc : En → M Bool} {da db : En → M Fl} {env : En} (h : dc env = .ok false) : ifS dc da db env = db env := by
  show (dc env >>= _) = _
  rw [h]; rfl
theorem and_ok {a b : En → M D} {env : En} {d : D} (h : a env = .ok (.bl true)) (h2 : b env = .ok d) : andV a b env = .ok d := by
  show (a env >>= _) = _
  rw [h, ok_bind]
  show (if true = true then b env else .ok (.bl false)) = _
  rw [if_pos rfl, h2]
theorem ret_ok {de : En → M D} {env : En} {d : D} (h : de env = .ok d) : (de env >>= fun d => M.ok (Fl.ret d)) = .ok (.ret d) := by rw [h]; rfl
theorem andB_t {a b : En → M Bool} {env : En} {c : Bool} (h : a env = .ok true) (h2 : b env = .ok c) : andB a b env = .ok c := by
  show (a env >>= _) = _
  rw [h, ok_bind, if_pos rfl, h2]
theorem andB_f {a b : En → M Bool} {env : En} (h : a env = .ok false) : andB a b env = .ok false := by
  show (a env >>= _) = _
  rw [h]; rfl
theorem orB_f {a b : En → M Bool} {env : En} {c : Bool} (h : a env = .ok false) (h2 : b env = .ok c) : orB a b env = .ok c := by
  show (a env >>= _) = _
  rw [h, ok_bind, if_neg (by decide), h2]
theorem orB_t {a b : En → M Bool} {env : En} (h : a env = .ok true) : orB a b env = .ok true := by
  show (a env >>= _) = _
  rw [h]; rfl
theorem notB_ok {a : En → M Bool} {env : En} {c : Bool} (h : a env = .ok c) : notB a env = .ok (!c) := by
  show (a env >>= _) = _
  rw [h]; rfl
theorem app_ok {i : Nat} {de : En → M D} {env : En} {d : D} {ds : List D} (h : de env = .ok d) (he : env[i]? = some (.ow (.lst ds))) (hl : ds.length < lim) : (de env >>= fun d => appM i d env) = .ok (.next (env.set i (.ow (.lst (ds ++ [d]))))) := by
  rw [h, ok_bind]
  unfold appM
  rw [he]
  show (if ds.length < lim then _ else _) = _
  rw [if_pos hl]
theorem comp_dif {β : Type} {vs : List Nat} {di : En → M (List D)} {g : D → En → M En} {dt : En → M Bool} {dk dv : En → M D} {env : En} {xs : List β} {p : β → D} {c : β → Bool} {q : β → Key × D} (h0 : di env = .ok (xs.map p)) (hl : xs.length ≤ lim) (h : ∀ x ∈ xs, turnD vs g dt dk dv env (p x) = .ok (if c x = true then some (q x) else none)) :
    compD vs di g dt dk dv env = .ok (dicD (((xs.filter c).map q).foldl (fun m q => putD m q.1 q.2) [])) := by
  have e : ∀ xs : List β, (∀ x ∈ xs, turnD vs g dt dk dv env (p x) = .ok (if c x = true then some (q x) else none)) → optM (turnD vs g dt dk dv env) (xs.map p) = .ok ((xs.filter c).map q) := fun xs => by
    induction xs with
    | nil => intro _; rfl
    | cons x xs ih =>
      intro h
      show (turnD vs g dt dk dv env (p x) >>= fun o => optM (turnD vs g dt dk dv env) (xs.map p) >>= fun r => M.ok _) = _
      rw [h x List.mem_cons_self, ok_bind, ih fun y hy => h y (List.mem_cons_of_mem _ hy), List.filter_cons]
      by_cases w : c x = true
      · rw [if_pos w, if_pos w]; rfl
      · rw [if_neg w, if_neg w]; rfl
  show (di env >>= _) = _
  rw [h0, ok_bind, guard_ok (by rw [List.length_map]; exact hl), ok_bind, e xs h]; rfl
theorem turnD_if {vs : List Nat} {g : D → En → M En} {dt : En → M Bool} {dk dv : En → M D} {env e : En} {d k r : D} {key : Key} {c : Bool} (h : g d (wipeE env vs) = .ok e) (ht : dt e = .ok c) (h1 : c = true → dk e = .ok k ∧ keyOf k = .ok key) (h2 : c = true → dv e = .ok r) : turnD vs g dt dk dv env d = .ok (if c = true then some (key, r) else none) := by
  show (g d (wipeE env vs) >>= _) = _
  rw [h, ok_bind, ht, ok_bind]
  cases c with
  | true => rw [if_pos rfl, if_pos rfl, (h1 rfl).1, ok_bind, h2 rfl, ok_bind, (h1 rfl).2]; rfl
  | false => rfl
end
end Vw

/-! SxEn -/
/-! enumerate of a list or a tuple. -/
namespace Sx
open PySem PySem.Spec PyProof.Rows L2
set_option maxHeartbeats 4000000 in
theorem enum_new1 {v : Value} {o : Obj} {H : Heap → Prop} (B : Begins v o H) :
    Meets (Builtin.«enumerate.__new__» ⟨[.type "enumerate", v], []⟩) (fun _ R s => H s.heap ∧
      R (.ok (.ret (.ref (s.heap.push o).objs.size))) { s with heap := (s.heap.push o).push { cls := .type "enumerate", data := .fields #[.none, .bool false, .ref s.heap.objs.size, rawInt 0, .none, .none] } }) :=
  .of_wp fun prog w A R s h => by
    obtain ⟨hp, g, d, tk, os⟩ := s; obtain ⟨h1, h⟩ := h
    have hsub := sub_enumerate
    have q1 : ∀ {A' : Around} {E : Value → Shared → Prop} {Q : Value → Shared → Prop}, Q (.ref hp.objs.size) ⟨hp.push o, g, d, tk, os⟩ → wpAny (model prog w) A' (pyIter v) Q E ⟨hp, g, d, tk, os⟩ :=
      fun q => B.iter prog w _ _ ⟨hp, g, d, tk, os⟩ _ h1 q
    wp_walk using q1
    refine wpAny_stack_any fun st => wpAny_pure ?_
    split
    · rename_i c _ _ _ _ _
      cases (c == Value.type "enumerate")
      · wp_walk using q1
        exact ⟨_, rfl, h⟩
      · wp_walk using q1
        exact ⟨_, rfl, h⟩
    · wp_walk using q1
      exact ⟨_, rfl, h⟩
theorem enum_begins1 {prog : Program} {w : World} {A : Around} {E : Value → Shared → Prop} {s : Shared} {v : Value} {o : Obj} {H : Heap → Prop} {Q : Value → Shared → Prop} (B : Begins v o H) (h1 : H s.heap)
    (h : ∀ h', IsEnum h' (s.heap.objs.size + 1) s.heap.objs.size 0 .none → h'.get? s.heap.objs.size = some o → h'.objs.size = s.heap.objs.size + 2 →
      (∀ b o, s.heap.get? b = some o → h'.get? b = some o) → Q (.ref (s.heap.objs.size + 1)) { s with heap := h' }) :
    wpAny (model prog w) A (call (.type "enumerate") [v]) Q E s := by
  refine callType_new F.called_enumerate (by decide) (F.typeCall_enumerate_1 _) (F.newCall_enumerate_1 _) (fun obj => F.args_object_init_2 obj _) F.entry_enumerate_new
    (enum_new1 B) ⟨h1, ?_⟩
  have hz : (s.heap.push o).objs.size = s.heap.objs.size + 1 := Heap.size_push ..
  show _ ∧ _
  rw [hz]
  have he : IsEnum ((s.heap.push o).push { cls := .type "enumerate", data := .fields #[.none, .bool false, .ref s.heap.objs.size, rawInt 0, .none, .none] }) (s.heap.objs.size + 1) s.heap.objs.size 0 .none := by
    have := Heap.get?_push_size (s.heap.push o) (o := { cls := .type "enumerate", data := .fields #[.none, .bool false, .ref s.heap.objs.size, rawInt 0, .none, .none] }) rfl
    rw [hz] at this; exact this
  refine ⟨⟨_, he, rfl⟩, h _ he (Heap.get?_push_of_some _ (Heap.get?_push_size _ B.free)) (by rw [Heap.size_push, hz]) fun b o x => Heap.get?_push_of_some _ (Heap.get?_push_of_some _ x)⟩
/-- the tuple at a as it stands at each turn, each item in a new pair -/
def IteT (K : PySem.W.Frag) (a : Addr) : It :=
  ⟨fun i H => ∃ (xs : List V) (x : V), SqT K H a xs ∧ xs[i]? = some x, fun i H v H' => ∃ T x, v = .ref T ∧ H T = none ∧ H' = upd H T (.tup [.int (i : Nat), x]) ∧ ∀ xs, SqT K H a xs → xs[i]? = some x, fun i H => ∃ xs : List V, SqT K H a xs ∧ xs.length = i⟩
theorem turn_enumT {P : Program} {w : World} {K : PySem.W.Frag} {elts : List Expr} {kk : Nat} {tpos : Pos} (a e it : Addr) :
    Turn P w K (.Tuple elts kk tpos) (IteT K a) [e, it] e (fun i h => (∃ old, IsEnum h e it ((i : Nat) : Int) old) ∧ h.IsTupleIter it a i ∧ e ≠ it) where
  mem := by simp
  obj := fun i h st b hb => by
    obtain ⟨⟨old, he⟩, ⟨o, ho, hc, hd⟩, _⟩ := st
    have e' : b = e ∨ b = it := by simpa using hb
    rcases e' with z | z
    · rw [z]; exact ⟨_, he, fun v q => nomatch q⟩
    · rw [z]; exact ⟨o, ho, fun v q => by rw [hd] at q; cases q⟩
  keep := fun i h h' st k => let ⟨⟨old, he⟩, hi, hne⟩ := st; ⟨⟨old, k e (by simp) _ he⟩, hi.at fun o q => k it (by simp) o q, hne⟩
  item := by
    intro X hP hw hK hc i pins s σ H E I hf st hg
    subst hP hw hK
    obtain ⟨⟨old, he⟩, hit, hne⟩ := st
    obtain ⟨xs, x, hq, hx⟩ := hg
    obtain ⟨its, rv, p, hz⟩ := I.tuple hq
    have p : s.heap.IsTuple a its.toArray := p
    obtain ⟨u, hu, ru⟩ := rv.get hx
    have hel : e < s.heap.objs.size := Heap.lt_size he
    have hil : it < s.heap.objs.size := by obtain ⟨_, q, _⟩ := hit; exact Heap.lt_size q
    have nai : a ≠ it := fun z => by
      obtain ⟨o1, h1, c1, _⟩ := hit
      obtain ⟨o2, h2, c2, _⟩ := id p
      rw [z, h1] at h2
      cases h2
      rw [c1] at c2
      simp at c2
    have nea : e ≠ a := fun z => by
      obtain ⟨o2, h2, c2, _⟩ := id p
      have he2 : s.heap.get? e = _ := he
      rw [z, h2] at he2
      cases he2
      simp at c2
    refine wpAny_pyNext_enum_itemD (Draws.tuple (A := X.A.in1) (I.ok.hd hc) it a nai its.toArray) he ⟨hit, p⟩ ?_ hne (by simp [hne, nea]) fun y h' tk hy ho hst hT hsz hk => ?_
    · have := (List.getElem?_eq_some_iff.mp hu).1
      simpa using this
    have ey : y = u := by
      have hy : its.toArray[i]? = some y := hy
      rw [show its.toArray[i]? = its[i]? by simp, hu] at hy
      cases hy; rfl
    subst ey
    refine ⟨_, rfl, wpAny_letOwnedTupleGo_enum (s := { s with heap := h', toks := tk + 1 }) ho fun h'' he' sb => ?_⟩
    have hT2 : h''.get? s.heap.objs.size = some { cls := .type "tuple", data := .seq #[.int i tk, y] } := (sb.2 _ (Nat.ne_of_gt hel)).trans hT
    have new : ObjOk X.prog X.w (upd H s.heap.objs.size (.tup [.int (i : Nat), x])) h'' s.heap.objs.size (.tup [.int (i : Nat), x]) :=
      ⟨by show 2 ≤ sizeLine; decide, [.int i tk, y], .cons ⟨_, rfl⟩ (.cons ru .nil), ⟨_, hT2, rfl, _, rfl⟩⟩
    have I1 : Inv X pins σ (upd H s.heap.objs.size (.tup [.int (i : Nat), x])) { s with heap := h'', toks := tk + 1 } :=
      I.turnedNew (ch := [e, it]) (fun b ob hb q => (sb.2 b (fun z => hb (by simp [z]))).trans (hk b ob (fun z => hb (by simp [z])) (fun z => hb (by simp [z])) q)) hf (Nat.le_refl _) new
    refine ⟨.ref s.heap.objs.size, _, I1, rfl, ⟨_, x, rfl, I.hok.fresh (Nat.le_refl _), rfl, fun ys hy => by rw [I.tuple_inj hy hq]; exact hx⟩, ⟨⟨y, ?_⟩, hst.1.at fun o q => (sb.2 it (Ne.symm hne)).trans q, hne⟩, fun b hb => ?_⟩
    · have e1 : ((i + 1 : Nat) : Int) = (i : Int) + 1 := by omega
      rw [e1]; exact he'
    · have hb' : b < s.heap.objs.size := by
        have e' : b = e ∨ b = it := by simpa using hb
        rcases e' with z | z
        · rw [z]; exact hel
        · rw [z]; exact hil
      rw [upd_ne (Nat.ne_of_lt hb')]
      exact (hf b hb).1
  done := by
    intro X hP hw hK hc i pins s σ H E I hf st hg
    subst hP hw hK
    obtain ⟨⟨old, he⟩, hit, hne⟩ := st
    obtain ⟨xs, hq, hx⟩ := hg
    obtain ⟨its, rv, p, hz⟩ := I.tuple hq
    have p : s.heap.IsTuple a its.toArray := p
    obtain ⟨f0, f1, f2, f3, f4, f5⟩ := hf it (by simp)
    have hl := rv.length
    have nai : a ≠ it := fun z => by
      obtain ⟨o1, h1, c1, _⟩ := hit
      obtain ⟨o2, h2, c2, _⟩ := id p
      rw [z, h1] at h2
      cases h2
      rw [c1] at c2
      simp at c2
    have ez : its.toArray.size = i := by simp; omega
    exact wpAny_pyNext_enum_endD (Draws.tuple (A := X.A.in1) (I.ok.hd hc) it a nai its.toArray) he (by rw [ez]; exact ⟨hit, p⟩) fun h' eb => ⟨rfl, I.turned (t' := s.toks) (fun b o hb q => eb b o hb q) f0 f1 f3 f4 f5⟩
  self := fun A i s Q E st h => let ⟨⟨_, he⟩, _⟩ := st; wpAny_pyIter_enum he h
def iEnumA (K : PySem.W.Frag) (ta : TA) : TI := fun σ H R => ta σ H fun vs H1 => ∃ a xs, vs = [.ref a] ∧ ((SqL K H1 a xs ∧ R (Ite K a) H1) ∨ (SqT K H1 a xs ∧ R (IteT K a) H1))
theorem pi_enumA {X : Cx} {e : Expr} {ta : TA} {p pos tpos : Pos} {elts : List Expr} {kk : Nat} (hg : Gl X "enumerate") (hm : X.mg "enumerate" = none) (ha : PA X [e] ta) (hs : starEach [e] X.env = [(false, eval e X.env)] := by rfl) :
    PI X (.Tuple elts kk tpos) (.Call (.Name "enumerate" p) [e] [] pos) (iEnumA X.K ta) := by
  refine ⟨fun pins s σ H R I h => ?_⟩
  refine Call_ (ld_blt I hg hm boot_enumerate (PyProof.Rows.callWith_type1 (thn (ha.run pos pins s σ H _ I h) fun us s1 ⟨vs, H1, I1, r1, q1⟩ => ?_) hs rfl))
  obtain ⟨a, xs, ex, q1⟩ := q1
  subst ex
  cases r1 with
  | cons r rr =>
    cases rr
    cases r
    have fk : ∀ b ∈ [s1.heap.objs.size + 1, s1.heap.objs.size], FpOk X pins H1 b := fun b hb => by
      have e' : b = s1.heap.objs.size + 1 ∨ b = s1.heap.objs.size := by simpa using hb
      have hle : s1.heap.objs.size ≤ b := by
        rcases e' with z | z
        · rw [z]; exact Nat.le_add_right _ _
        · rw [z]; exact Nat.le_refl _
      exact I1.fpOk hle (I1.hok.fresh hle)
    rcases q1 with ⟨hq, q⟩ | ⟨hq, q⟩
    · obtain ⟨its, rv, p', hz⟩ := I1.list hq
      refine call_enumerate_list p'.isList fun h' he hit hsz hk => wpAny_pyIter_enum he ?_
      have I2 : Inv X pins σ H1 { s1 with heap := h' } := I1.kept (t' := s1.toks) hk
      exact ⟨s1.heap.objs.size + 1, [s1.heap.objs.size + 1, s1.heap.objs.size], _, _, H1, rfl, I2, turn_enum a (s1.heap.objs.size + 1) s1.heap.objs.size, ⟨⟨.none, he⟩, hit, Nat.succ_ne_self _⟩, fk, q⟩
    · obtain ⟨its, rv, p', hz⟩ := I1.tuple hq
      refine enum_begins1 (begins_tuple a its.toArray) p' fun h' he hit hsz hk => wpAny_pyIter_enum he ?_
      have I2 : Inv X pins σ H1 { s1 with heap := h' } := I1.kept (t' := s1.toks) hk
      exact ⟨s1.heap.objs.size + 1, [s1.heap.objs.size + 1, s1.heap.objs.size], _, _, H1, rfl, I2, turn_enumT a (s1.heap.objs.size + 1) s1.heap.objs.size, ⟨⟨.none, he⟩, ⟨_, hit, rfl, rfl⟩, Nat.succ_ne_self _⟩, fk, q⟩
end Sx

/-! VwU -/
/-! sorted of a list of tuples of texts, by values; a method without arguments. -/
namespace Vw
open PySem PySem.Spec PyProof.Rows L2
theorem bt_sum : bootBuiltins "sum" = some (.builtin "sum") := by decide +kernel
theorem bt_any : bootBuiltins "any" = some (.builtin "any") := by decide +kernel
theorem vals_str_one : ∀ {ks ls : List Str} {us : List Value}, Vals (ks.map V.str) us → Vals (ls.map V.str) us → ks = ls
  | [], [], _, _, _ => rfl
  | [], l :: ls, _, h, g => by cases h; cases g
  | k :: ks, [], _, h, g => by cases h; cases g
  | k :: ks, l :: ls, us, h, g => by
    cases h with
    | cons r t =>
      cases g with
      | cons r2 t2 =>
        obtain ⟨z, e1⟩ := r
        obtain ⟨z2, e2⟩ := r2
        rw [e1] at e2
        cases e2
        rw [vals_str_one t t2]
theorem isTP_one {h : Heap} {v : Value} {ks ls : List Str} (p : Sx.IsTP h v ks) (q : Sx.IsTP h v ls) : ks = ls := by
  obtain ⟨a, o, its, n, rfl, e1, _, d1, v1⟩ := p
  obtain ⟨a2, o2, its2, n2, e0, e2, _, d2, v2⟩ := q
  cases e0
  rw [e1] at e2
  cases e2
  rw [d1] at d2
  cases d2
  exact vals_str_one v1 v2
def rSortTZ (K : PySem.W.Frag) : List V → Hp → VK → Prop := fun vs H Q => ∃ (a : Addr) (xs : List V) (kss : List (List Str)), vs = [V.ref a] ∧ SqL K H a xs ∧ Paired (fun x ks => ks ≠ [] ∧ ∃ t, x = V.ref t ∧ SqT K H t (ks.map V.str)) xs kss ∧
  ∀ (ps : List (V × List Str)) p, ps.Perm (xs.zip kss) → ps.Pairwise (fun x y => Sx.ltL y.2 x.2 = false) → H p = none → Q (.ref p) (upd H p (.lst (ps.map (·.1))))
open Classical in
theorem cr_sortTZ {X : Cx} : CallR X (.builtin "sorted") (rSortTZ X.K) := by
  intro pins s σ H vs us Q I r h
  obtain ⟨a, xs, kss, rfl, hl, hp, q⟩ := h
  have one : ∀ {x : V} {ks ls : List Str}, (∃ t, x = V.ref t ∧ SqT X.K H t (ks.map V.str)) → (∃ t, x = V.ref t ∧ SqT X.K H t (ls.map V.str)) → ks = ls := fun {x ks ls} ⟨t, e, h1⟩ ⟨t2, e2, h2⟩ => by
    rw [e] at e2
    cases e2
    exact isTP_one (Sx.isTP_of I h1) (Sx.isTP_of I h2)
  let k : V → List Str := fun x => if h : ∃ ks : List Str, ∃ t, x = V.ref t ∧ SqT X.K H t (ks.map V.str) then Classical.choose h else []
  have kk : ∀ {x : V} {ks : List Str}, (∃ t, x = V.ref t ∧ SqT X.K H t (ks.map V.str)) → k x = ks := fun {x ks} h => by
    have e : ∃ ks : List Str, ∃ t, x = V.ref t ∧ SqT X.K H t (ks.map V.str) := ⟨ks, h⟩
    show (if h : ∃ ks : List Str, ∃ t, x = V.ref t ∧ SqT X.K H t (ks.map V.str) then Classical.choose h else []) = ks
    rw [dif_pos e]
    exact one (Classical.choose_spec e) h
  have zip : ∀ {xs : List V} {kss : List (List Str)}, Paired (fun x ks => ks ≠ [] ∧ ∃ t, x = V.ref t ∧ SqT X.K H t (ks.map V.str)) xs kss → xs.map (fun x => (x, k x)) = xs.zip kss := by
    intro xs kss h
    induction h with
    | nil => rfl
    | cons a t ih => rw [List.map_cons, List.zip_cons_cons, ih, kk a.2]
  have each : ∀ {xs : List V} {kss : List (List Str)}, Paired (fun x ks => ks ≠ [] ∧ ∃ t, x = V.ref t ∧ SqT X.K H t (ks.map V.str)) xs kss → ∀ x ∈ xs, k x ≠ [] ∧ ∃ t, x = V.ref t ∧ SqT X.K H t ((k x).map V.str) := by
    intro xs kss h
    induction h with
    | nil => intro x m; cases m
    | cons a t ih =>
      intro x m
      rcases List.mem_cons.mp m with rfl | m
      · rw [kk a.2]; exact a
      · exact ih x m
  refine Sx.cr_sortTL pins s σ H _ us Q I r ⟨a, xs, k, rfl, hl, each hp, fun ys p pm o hn => ?_⟩
  have e := q (ys.map fun y => (y, k y)) p (by rw [← zip hp]; exact pm.map _) (by rw [List.pairwise_map]; exact o) hn
  rw [List.map_map] at e
  have e3 : ys.map ((fun p : V × List Str => p.1) ∘ fun y => (y, k y)) = ys := List.map_id'' (fun _ => rfl) ys
  rw [e3] at e
  exact e
def tupS (ks : List Str) : D := .tup (ks.map D.str)
def allT : List D → Option (List (List Str))
  | [] => some []
  | .tup ds :: l => match allS ds with
    | some ks => if ks = [] then none else (allT l).map (ks :: ·)
    | none => none
  | _ => none
def insL (x : List Str) : List (List Str) → List (List Str)
  | [] => [x]
  | y :: l => if Sx.ltL y x = true then y :: insL x l else x :: y :: l
def sortL (l : List (List Str)) : List (List Str) := l.foldr insL []
theorem insL_perm (x : List Str) : ∀ l, (insL x l).Perm (x :: l)
  | [] => .refl _
  | y :: l => by
    unfold insL
    split
    · exact ((insL_perm x l).cons y).trans (List.Perm.swap x y l)
    · exact .refl _
theorem sortL_perm : ∀ l, (sortL l).Perm l
  | [] => .refl _
  | x :: l => (insL_perm x (sortL l)).trans ((sortL_perm l).cons x)
abbrev OrdL (l : List (List Str)) : Prop := l.Pairwise fun x y => Sx.ltL y x = false
theorem insL_ord {x : List Str} : ∀ {l}, OrdL l → OrdL (insL x l)
  | [], _ => by simp [insL, OrdL]
  | y :: l, h => by
    unfold insL
    obtain ⟨h1, h2⟩ := List.pairwise_cons.mp h
    split
    · rename_i q
      refine List.pairwise_cons.mpr ⟨fun z hz => ?_, insL_ord h2⟩
      rcases List.mem_cons.mp ((insL_perm x l).mem_iff.mp hz) with e | hz
      · rw [e]; exact Sx.ltL_asym q
      · exact h1 z hz
    · rename_i q
      have q' : Sx.ltL y x = false := by cases w : Sx.ltL y x with | true => exact absurd w q | false => rfl
      refine List.pairwise_cons.mpr ⟨fun z hz => ?_, h⟩
      rcases List.mem_cons.mp hz with e | hz
      · rw [e]; exact q'
      · have a := h1 z hz
        cases w : Sx.ltL z x with
        | false => rfl
        | true =>
          rcases Sx.ltL_tri y z with c | c | c
          · have := Sx.ltL_tr c w; rw [q'] at this; cases this
          · rw [c, w] at q'; cases q'
          · rw [a] at c; cases c
theorem sortL_ord : ∀ l, OrdL (sortL l)
  | [] => .nil
  | x :: l => insL_ord (sortL_ord l)
theorem ordL_one : ∀ {l m : List (List Str)}, l.Perm m → OrdL l → OrdL m → l = m := by
  intro l m p h1 h2
  refine List.Perm.eq_of_pairwise (le := fun a b => Sx.ltL b a = false) (fun a b _ _ x y => ?_) h1 h2 p
  rcases Sx.ltL_tri a b with c | c | c
  · rw [y] at c; cases c
  · exact c
  · rw [x] at c; cases c
/-- sorted of a list of tuples of texts -/
def sortTD : D → M D
  | .lst ds => match allT ds with
    | some xs => .ok (.lst ((sortL xs).map tupS))
    | none => .bad
  | _ => .bad
def sortAll (d : D) : M D := match sortD d with
  | .ok r => .ok r
  | _ => sortTD d
theorem allS_eq : ∀ {ds : List D} {ks : List Str}, allS ds = some ks → ds = ks.map D.str
  | [], _, e => by cases e; rfl
  | d :: ds, _, e => by
    cases d with
    | str x =>
      have e : (allS ds).map (x :: ·) = some _ := e
      obtain ⟨l, e1, e2⟩ := Option.map_eq_some_iff.mp e
      subst e2
      rw [allS_eq e1]; rfl
    | _ => cases e
theorem reps_T {K : PySem.W.Frag} {C : Nat → Addr} {U : Option Addr} {G H : Hp} (s : Sub G H) : ∀ {vs : List V} {ds : List D} {kss : List (List Str)}, Reps K C U G vs ds → allT ds = some kss →
    Paired (fun x ks => ks ≠ [] ∧ ∃ t, x = V.ref t ∧ SqT K H t (ks.map V.str)) vs kss ∧ ∀ p ∈ vs.zip kss, Rep K C U G p.1 (tupS p.2)
  | _, _, _, .nil, e => by cases e; exact ⟨.nil, fun p m => by cases m⟩
  | v :: vs, d :: ds, kss, .cons h r, e => by
    cases h with
    | tup g rr =>
      rename_i a ws es
      unfold allT at e
      cases es1 : allS es with
      | none => rw [es1] at e; cases e
      | some ks =>
        rw [es1] at e
        have e : (if ks = [] then none else (allT ds).map (ks :: ·)) = some kss := e
        split at e
        · cases e
        · rename_i ne
          obtain ⟨l, e1, e2⟩ := Option.map_eq_some_iff.mp e
          subst e2
          obtain ⟨p, q⟩ := reps_T s r e1
          have ew := reps_s rr es1
          have ed := allS_eq es1
          subst ew ed
          refine ⟨.cons ⟨ne, _, rfl, sq_t s g⟩ p, fun z m => ?_⟩
          rcases List.mem_cons.mp m with rfl | m
          · exact .tup g (strs_reps _)
          · exact q z m
    | _ => cases e
theorem sortT_1 {K : PySem.W.Frag} {C : Nat → Addr} : OpNF K C (rSortTZ K) (one sortTD) := fun U G H b xs ds Q s u r w => by
  unfold one at w
  split at w
  · obtain ⟨v, rfl, rv⟩ := pk_one r
    unfold sortTD at w
    split at w
    · obtain ⟨a, vs, rfl, h, rr⟩ := rv.lst s
      split at w
      · rename_i kss e
        obtain ⟨pr, rp⟩ := reps_T s rr e
        refine ⟨a, vs, kss, rfl, SqL.of h, pr, fun ps p pm o hp => ?_⟩
        have el : vs.length = kss.length := by
          clear rp e w r rr h rv
          clear pm
          induction pr with
          | nil => rfl
          | cons _ t ih => simp [ih]
        have e2 : ps.map (·.2) = sortL kss := by
          refine ordL_one ?_ (by rw [OrdL, List.pairwise_map]; exact o) (sortL_ord _)
          have := pm.map (·.2)
          rw [show (vs.zip kss).map (·.2) = kss by rw [← List.unzip_snd, List.unzip_zip el]] at this
          exact this.trans (sortL_perm _).symm
        refine fresh_v (d := .lst ((sortL kss).map tupS)) s u w ?_ hp
        rw [← e2]
        have rp' : ∀ q ∈ ps, Rep K C U G q.1 (tupS q.2) := fun q m => rp q (pm.mem_iff.mp m)
        show Reps K C U G (ps.map (·.1)) ((ps.map (·.2)).map tupS)
        clear pm o e2 w
        induction ps with
        | nil => exact .nil
        | cons q l ih => exact .cons (rp' q List.mem_cons_self) (ih fun z m => rp' z (List.mem_cons_of_mem _ m))
      · exact w.elim
    · exact w.elim
  · exact w.elim
theorem sortAll_1 {K : PySem.W.Frag} {C : Nat → Addr} : OpNF K C (fun x H Q => Sx.rSortX K x H Q ∨ rSortTZ K x H Q) (one sortAll) := fun U G H b xs ds Q s u r w => by
  unfold one at w
  split at w
  · rename_i d
    unfold sortAll at w
    cases e : sortD d with
    | ok z =>
      rw [e] at w
      exact .inl (sort_1 U G H b xs [d] Q s u r (by show wp (sortD d) b _; rw [e]; exact w))
    | bad => rw [e] at w; exact .inr (sortT_1 U G H b xs [d] Q s u r w)
    | err n l => rw [e] at w; exact .inr (sortT_1 U G H b xs [d] Q s u r w)
    | take l k => rw [e] at w; exact .inr (sortT_1 U G H b xs [d] Q s u r w)
  · exact w.elim
theorem cr_sortAll {X : Cx} : CallR X (.builtin "sorted") (fun x H Q => Sx.rSortX X.K x H Q ∨ rSortTZ X.K x H Q) := or_call Sx.cr_sortX cr_sortTZ
section
variable {X : Cx} {C : Nat → Addr}
/-- e.m(), a method -/
theorem ve_meth0 {k : Nat} {m : Str} {ps : List Str} {o : Expr} {de : En → M D} {den : List D → M D} {pos apos : Pos} {pl : Sem Bool} (G : Sx.MtG X.prog X.w X.K X.mg X.base (C 0) m k ps (spV X.K C 1 den)) (cl : Cls X.K (C 0)) (hr : Room k X.A) (ho : VE X C o de)
    (n1 : ¬ m = "_near" := by decide +kernel) (n2 : ¬ m = "_clashes" := by decide +kernel) (n3 : ¬ m = "_kinds" := by decide +kernel)
    (ht : eval (.Call (.Attribute o m apos) [] [] pos) X.env = (do
      let ov ← eval o X.env
      standAt apos.atName
      let (f, first) ← holding [ov] (getMethod ov m pl)
      callWith pos f first (backTo pos (starEach [] X.env)) (backToKw pos (keywordEach [] X.env))) := by rfl) :
    VE X C (.Call (.Attribute o m apos) [] [] pos) (fun env => de env >>= fun d => match d with
      | .book ks cs => den [.book ks cs]
      | _ => .bad) :=
  PE.of (Sx.pe_mg0 G cl ho hr ht) fun σ H Q ⟨U, env, G0, H0, G, b, S, w⟩ => by
    refine ⟨U, env, G0, H0, G, b, S, wp_mono (wp_bind.mp w) fun b1 d1 w1 v1 G1 H1 e1 u1 r1 => ?_⟩
    cases d1 with
    | book ks cs =>
      have r0 := r1
      cases r1 with
      | book bg =>
        obtain ⟨dx, ak, ac, an, ob, kvs, ts, h1, _⟩ := bg
        exact ⟨_, dx, _, rfl, e1.sub.ins h1, Sx.bkF_no _ _ _ n1 n2 n3, U, G1, b1, [.book ks cs], e1.sub, u1, (S.st.to e1).hidU, .cons r0 .nil, rfl, wp_mono w1 (pv_to e1)⟩
    | _ => exact w1.elim
end
/-! ### enumerate of a list or a tuple -/
def seqO : D → M (List D)
  | .lst ds => .ok ds
  | .tup ds => .ok ds
  | _ => .bad
theorem walk_eT {K : PySem.W.Frag} {C : Nat → Addr} {U : Option Addr} {G : Hp} {a : Addr} {vs : List V} {ds : List D} (h : SqT K G a vs) (r : Reps K C U G vs ds) : WalkOk K C U G (Sx.IteT K a) (enumD ds) where
  stop := fun G' H' g s => ⟨vs, sq_t s (Sx.sqT_same g h), by rw [r.length]; unfold enumD; simp⟩
  go := fun i d G' H' g s e => by
    obtain ⟨c, hc, _⟩ := enum_at e
    obtain ⟨v, hv, _⟩ := r.get' hc
    exact ⟨vs, v, sq_t s (Sx.sqT_same g h), hv⟩
  yld := fun i d G' H' x H2 b g s e u y => by
    obtain ⟨c, hc, rfl⟩ := enum_at e
    obtain ⟨T, z, rfl, hT, rfl, q⟩ := y
    obtain ⟨v, hv, rv⟩ := r.get' hc
    have q' := q vs (sq_t s (Sx.sqT_same g h))
    rw [hv] at q'
    cases q'
    have gT := s.ne hT
    exact ⟨_, (hp_none (U := U) s hT).new hT upd_same gT trivial, u.mut (u.ne hT), .tup (SqT.of upd_same) (.cons (.int _) (.cons ((rv.mono g).mono (same_new gT)) .nil))⟩
theorem vi_enumA {X : Cx} {C : Nat → Addr} {e : Expr} {de : En → M D} {elts : List Expr} {kk : Nat} {tpos p pos : Pos} (h : VE X C e de) (hm : X.mg "enumerate" = none) (hg : Gl X "enumerate" := by rfl) (hs : starEach [e] X.env = [(false, eval e X.env)] := by rfl) :
    VI X C (.Tuple elts kk tpos) (.Call (.Name "enumerate" p) [e] [] pos) (fun env => de env >>= seqO >>= fun ds => .ok (enumD ds)) :=
  PI.of (Sx.pi_enumA hg hm (pa_cons h pa_nil hs) hs) fun σ H R ⟨U, env, G0, H0, G, b, S, w⟩ => by
    refine ⟨U, env, G0, H0, G, b, S, wp_mono (wp_bind.mp (wp_bind.mp w)) fun b1 d1 w1 v1 G1 H1 e1 u1 r1 => ?_⟩
    cases r1 with
    | lst h r => exact ⟨_, _, rfl, .inl ⟨sq_l e1.sub h, w1 _ _ _ e1 u1 (walk_e h r)⟩⟩
    | tup h r => exact ⟨_, _, rfl, .inr ⟨sq_t e1.sub h, w1 _ _ _ e1 u1 (walk_eT h r)⟩⟩
    | _ => exact w1.elim
/-! ### len, of a dict, too -/
theorem call_lenR {X : Cx} : CallR X (.builtin "len") (fun xs H Q => ∃ a kvs, xs = [V.ref a] ∧ Rd H a (.dK kvs) ∧ Q (.int kvs.length) H) := by
  intro pins s σ H xs us Q I r h
  obtain ⟨a, kvs, rfl, ha, q⟩ := h
  obtain ⟨u, rfl, ru⟩ := vals1 r
  cases ru
  exact d_len I ha fun t s' I' => ⟨.int kvs.length, H, I', ⟨t, rfl⟩, q⟩
theorem cr_lenB {X : Cx} : CallR X (.builtin "len") (fun xs H Q => rLenA X.K xs H Q ∨ ∃ a kvs, xs = [V.ref a] ∧ Rd H a (.dK kvs) ∧ Q (.int kvs.length) H) := or_call cr_len call_lenR
theorem lenB_1 {K : PySem.W.Frag} {C : Nat → Addr} : OpN K C (fun xs H Q => rLenA K xs H Q ∨ ∃ a kvs, xs = [V.ref a] ∧ Rd H a (.dK kvs) ∧ Q (.int kvs.length) H) (one lenD) := fun U G H b xs ds Q s u r w => by
  unfold one at w
  split at w
  · rename_i d
    cases d with
    | dic ks vs =>
      obtain ⟨v, rfl, rv⟩ := pk_one r
      obtain ⟨a, ws, rfl, h, hl, rr⟩ := rv.dic s
      refine .inr ⟨a, _, rfl, h, ?_⟩
      have e : (ks.zip ws).length = ks.length := by rw [List.length_zip, hl, Nat.min_self]
      rw [e]
      exact same_v s u w (.int _)
    | lst _ => exact .inl (len_1 U G H b xs _ Q s u r w)
    | tup _ => exact .inl (len_1 U G H b xs _ Q s u r w)
    | str _ => exact .inl (len_1 U G H b xs _ Q s u r w)
    | _ => exact w.elim
  · exact w.elim
/-! ### t.index(x), a tuple of texts made by tuple(..) -/
/-- tuple(xs) of a list: a new tuple without a dict of its own -/
def rTupN (K : PySem.W.Frag) : List V → Hp → VK → Prop := fun xs H Q => ∃ p ys, xs = [.ref p] ∧ SqL K H p ys ∧ ∀ (l : Addr) (ob : Obj), ob.cls = .type "tuple" → ob.dict = none → H l = none → Q (.ref l) (upd H l (.frz ob (.tup ys)))
theorem cr_tupN {X : Cx} : CallR X (.type "tuple") (rTupN X.K) := by
  intro pins s σ H xs us Q I r h
  obtain ⟨p, ys, rfl, hq, q⟩ := h
  obtain ⟨u, rfl, rx⟩ := vals1 r
  cases rx
  obtain ⟨its, r', pl, hz⟩ := I.list hq
  have hlen := r'.length
  refine call_tuple_list pl.isList (fun h' kp => ?_) (by simp only [List.size_toArray] <;> omega)
  have I1 : Inv X pins σ H { s with heap := h' } := I.kept (t' := s.toks) kp
  have I2 : Inv X pins σ (upd H h'.objs.size (.frz { cls := .type "tuple", data := .seq its.toArray } (.tup ys))) { s with heap := h'.push { cls := .type "tuple", data := .seq its.toArray } } :=
    I1.laid (t' := s.toks) (fun b o e => Heap.get?_push_of_some _ e) (Nat.le_refl _) (show ObjOk X.prog X.w _ _ _ (.frz _ (.tup ys)) from ⟨Heap.get?_push_size _ rfl, hz, its, r', IsTup.new _ _⟩)
  exact ⟨.ref h'.objs.size, _, I2, rfl, q _ _ rfl rfl (I1.hok.fresh (Nat.le_refl _))⟩
theorem Ext.newN {U : Option Addr} {G H G' H' : Hp} {p : Addr} {ob : Obj} {vs : List V} (e : Ext U G H G' H') (hp : H p = none) (h : H' p = some (.frz ob (.tup vs))) (g : G' p = none) : Ext U G H (upd G' p (.frz ob (.tup vs))) H' := by
  refine ⟨e.keep, e.live, fun a u q => ?_, ⟨fun a u q => ?_, fun a u q => ?_⟩, fun a q r => ?_⟩
  · have q' := e.grow a u q
    by_cases z : a = p
    · rw [z] at q'; rw [q'] at g; cases g
    · rw [upd_ne z]; exact q'
  · by_cases z : a = p
    · subst z; rw [upd_same] at q; cases q; exact h
    · rw [upd_ne z] at q; exact e.sub.to a u q
  · by_cases z : a = p
    · subst z; rw [upd_same] at q; cases q; exact trivial
    · rw [upd_ne z] at q; exact e.sub.sm a u q
  · have z : a ≠ p := fun z => r (by rw [z]; exact hp)
    rw [upd_ne z]
    exact e.hid a q r
def tupND : D → M D
  | .lst xs => .ok (.ntup xs)
  | _ => .bad
theorem tupN_1 {K : PySem.W.Frag} {C : Nat → Addr} : OpN K C (rTupN K) (one tupND) := fun U G H b xs ds Q s u r w => by
  unfold one at w
  split at w
  · obtain ⟨v, rfl, rv⟩ := pk_one r
    unfold tupND at w
    split at w
    · obtain ⟨a, vs, rfl, h, rr⟩ := rv.lst s
      exact ⟨a, vs, rfl, SqL.of h, fun l ob h1 h2 hl => w _ _ _ ((hp_none s hl).newN hl upd_same (s.ne hl)) (u.mut (u.ne hl)) (.ntup upd_same h1 h2 (rr.mono (same_new (s.ne hl))))⟩
    · exact w.elim
  · exact w.elim
theorem Pk.ntup {K : PySem.W.Frag} {C : Nat → Addr} {U : Option Addr} {G H : Hp} {v : V} {ds : List D} (s : Sub G H) (r : Pk K C U G H v (.ntup ds)) : ∃ a ob vs, v = .ref a ∧ H a = some (.frz ob (.tup vs)) ∧ ob.cls = .type "tuple" ∧ ob.dict = none ∧ Reps K C U G vs ds := by
  rcases r with r | ⟨p, o, rfl, h, q, n⟩
  · cases r with
    | ntup h c d r => exact ⟨_, _, _, rfl, s.to _ _ h, c, d, r⟩
  · cases o <;> exact q.elim
theorem Rep.weakN {K : PySem.W.Frag} {C : Nat → Addr} {U : Option Addr} {G : Hp} {v : V} {ds : List D} (r : Rep K C U G v (.ntup ds)) : Rep K C U G v (.tup ds) := by
  cases r with
  | ntup h c d r => exact .tup (.inl (.inr ⟨_, h⟩)) r
def wkD : D → D
  | .ntup ds => .tup ds
  | d => d
theorem Rep.wk {K : PySem.W.Frag} {C : Nat → Addr} {U : Option Addr} {G : Hp} {v : V} {d : D} (r : Rep K C U G v d) : Rep K C U G v (wkD d) := by
  cases d with
  | ntup ds => exact r.weakN
  | _ => exact r
/-- as a tuple -/
theorem VE.wk {X : Cx} {C : Nat → Addr} {e : Expr} {de : En → M D} (h : VE X C e de) : VE X C e (fun env => de env >>= fun d => .ok (wkD d)) := PE.of h fun σ H Q ⟨U, env, G0, H0, G, b, S, w⟩ =>
  ⟨U, env, G0, H0, G, b, S, wp_mono (wp_bind.mp w) fun b' d q v G' H' e u r => q v G' H' e u r.wk⟩
def opTIndex (d x : D) : M D := match d, x with
  | .ntup xs, .str z => match allS xs with
    | some ss => if z ∈ ss then .ok (.int (ss.idxOf z : Nat)) else .bad
    | none => .bad
  | _, _ => .bad
theorem idxOf_first {z : Str} : ∀ {ss : List Str}, z ∈ ss → ss[ss.idxOf z]? = some z ∧ ∀ m, m < ss.idxOf z → ss[m]? ≠ some z
  | [], h => by cases h
  | x :: ss, h => by
    by_cases e : x = z
    · subst e
      simp
    · have m : z ∈ ss := by
        rcases List.mem_cons.mp h with q | q
        · exact absurd q.symm e
        · exact q
      obtain ⟨h1, h2⟩ := idxOf_first m
      have ei : (x :: ss).idxOf z = ss.idxOf z + 1 := by
        rw [List.idxOf_cons, show (x == z) = false by simpa using e]
        rfl
      rw [ei]
      refine ⟨by rw [List.getElem?_cons_succ]; exact h1, fun m hm => ?_⟩
      cases m with
      | zero => rw [List.getElem?_cons_zero]; intro q; cases q; exact e rfl
      | succ m => rw [List.getElem?_cons_succ]; exact h2 m (by omega)
section
variable {X : Cx} {C : Nat → Addr}
def tyN (T : String) (x : V) (H : Hp) : Prop := ∃ p ob u, x = .ref p ∧ H p = some (.frz ob u) ∧ ob.cls = .type T ∧ ob.dict = none
theorem tyN_is {pins : List (Addr × Obj)} {σ : L2.St} {H : Hp} {s : Shared} {T : String} {x : V} {v : Value} (I : Inv X pins σ H s) (r : RelV x v) (ty : tyN T x H) : s.TypeIs v T ∧ ∀ a, v = .ref a → ∃ ob, s.heap.get? a = some ob ∧ ob.dict = none := by
  obtain ⟨p, ob, u, rfl, h, c, d⟩ := ty
  cases r
  have g := (I.hok p _ h).1
  exact ⟨⟨ob, g, c⟩, fun a e => by cases e; exact ⟨ob, g, d⟩⟩
theorem pe_bmN {o e : Expr} {es : List Expr} {to : TE} {t : TA} {name : Str} {apos cpos : Pos} {T id : String} {r : V → List V → Hp → VK → Prop} (pa : PlainAttrs T) (slot : Slot T name id) (hty : typeOf (.builtin id) = pure (.type "method_descriptor")) (hm : MtR X id r) (ho : PE X o to) (ha : PA X (e :: es) t)
    (hbase : attributeBase o name X.env (eval o X.env) = eval o X.env := by rfl)
    (hfew : ((backTo cpos (starEach (e :: es) X.env)).all (fun x => !x.1) && (backToKw cpos (keywordEach [] X.env)).all (fun x => x.1.isSome)
      && decide ((e :: es).length + ([] : List Keyword).length + (if ([] : List Keyword).isEmpty then 0 else 1) < 30)) = true := by rfl)
    (hline : (apos.endLine == cpos.line) = true := by rfl) (hs : starEach (e :: es) X.env = (false, eval e X.env) :: starEach es X.env := by rfl) (hplain : (backTo cpos (starEach es X.env)).any (·.1) = false := by rfl) :
    PE X (.Call (.Attribute o name apos) (e :: es) [] cpos) (fun σ H Q => to σ H fun x H1 => tyN T x H1 ∧ t σ H1 fun xs H2 => r x xs H2 Q) := by
  refine ⟨fun pins s σ H Q I h => ?_⟩
  refine wpAny_Call_method_late hbase hfew hline rfl (thn (ho.run pins s σ H _ I h) fun v s1 ⟨x, H1, I1, r1, ty, q1⟩ => ?_)
  obtain ⟨h1, h2⟩ := tyN_is I1 r1 ty
  refine ⟨T, id, pa, slot, hty, h1, h2, ?_⟩
  have hA := ha.run cpos pins s1 σ H1 _ I1 q1
  rw [hs] at hA ⊢
  refine Calls.callWith_builtin (by show (false || (backTo cpos (starEach es X.env)).any (·.1)) = false; rw [hplain] <;> rfl) (Calls.evalArgs_plain ?_)
  exact thn hA fun us s2 ⟨vs, H2, I2, r2, q2⟩ => hm pins s2 σ H2 x vs v us Q I2 r1 r2 q2
theorem ve_tindex {o e : Expr} {dd de : En → M D} {apos cpos : Pos} (ho : VP X C o dd) (he : VE X C e de) (hbase : attributeBase o "index" X.env (eval o X.env) = eval o X.env := by rfl)
    (hfew : ((backTo cpos (starEach [e] X.env)).all (fun x => !x.1) && (backToKw cpos (keywordEach [] X.env)).all (fun x => x.1.isSome)
      && decide ([e].length + ([] : List Keyword).length + (if ([] : List Keyword).isEmpty then 0 else 1) < 30)) = true := by rfl)
    (hline : (apos.endLine == cpos.line) = true := by rfl) (hs : starEach [e] X.env = [(false, eval e X.env)] := by rfl) :
    VE X C (.Call (.Attribute o "index" apos) [e] [] cpos) (seq2 dd de opTIndex) :=
  PE.of (pe_bmN PySem.F.plainAttrs_tuple PySem.F.slot_tuple_index PySem.F.type_tuple_index mt_tup_index ho (pa_cons he pa_nil hs) hbase hfew hline hs) fun σ H Q ⟨U, env, G0, H0, G, b, S, w⟩ => by
    refine ⟨U, env, G0, H0, G, b, S, wp_mono (wp_bind.mp w) fun b1 d1 w1 v1 G1 H1 e1 u1 r1 => ?_⟩
    cases d1 with
    | ntup ds =>
      obtain ⟨a, ob, vs, ev, h, hc, hd, rr⟩ := r1.ntup e1.sub
      subst ev
      refine ⟨⟨a, ob, _, rfl, h, hc, hd⟩, U, env, G0, H0, G1, b1, S.to e1 u1, wp_mono (wp_bind.mp w1) fun b2 d2 w2 v2 G2 H2 e2 u2 r2 => ?_⟩
      cases d2 with
      | str z =>
        cases r2
        have w2 : wp (match allS ds with
          | some ss => if z ∈ ss then M.ok (D.int (ss.idxOf z : Nat)) else .bad
          | none => .bad) b2 (PV X.K C U G H Q) := w2
        split at w2
        · rename_i ss es
          split at w2
          · rename_i mz
            have x2 := e1.trans e2
            obtain ⟨h1, h2⟩ := idxOf_first mz
            obtain ⟨a2, ob2, vs2, ev2, g, _, _, rr2⟩ := (r1.to e2).ntup x2.sub
            cases ev2
            have ew := reps_s rr2 es
            exact ⟨a, ss, z, _, rfl, rfl, .inl (.inr ⟨_, by rw [← ew]; exact g⟩), h1, h2, w2 _ G2 _ x2 u2 (.int _)⟩
          · exact w2.elim
        · exact w2.elim
      | _ => exact w2.elim
    | _ => exact (wp_none (wp_bind.mp w1) fun b a z => z).elim
end
end Vw

/-! VwO -/
/-! A Book's own fields; properties and methods by values. -/
namespace Vw
open PySem PySem.Spec PyProof.Rows L2
def kindsD : D → M D
  | .book ks _ => .ok (.tup (ks.map D.str))
  | _ => .bad
def prD (c : Str × Str) : D := .tup [.str c.1, .str c.2]
def clashesD : D → M D
  | .book _ cs => .ok (.tup (cs.map prD))
  | _ => .bad
/-- book._near[k] -/
def nearD (d k : D) : M D := match d, k with
  | .book ks cs, .str x => if x ∈ ks then .ok (.tup ((Sx.nearM cs x).map D.str)) else .bad
  | _, _ => .bad
/-- k in book._near -/
def inNear (k d : D) : M D := match d, k with
  | .book ks _, .str x => .ok (.bl (decide (x ∈ ks)))
  | _, _ => .bad
section
variable {X : Cx} {C : Nat → Addr}
theorem prs_reps {K : PySem.W.Frag} {U : Option Addr} {G : Hp} : ∀ {ts : List Addr} {cs : List (Str × Str)}, Sx.Prs K G ts cs → Reps K C U G (ts.map V.ref) (cs.map prD)
  | _, _, .nil => .nil
  | _, _, .cons h t => .cons (.tup h (.cons (.str _) (.cons (.str _) .nil))) (prs_reps t)
theorem ve_kinds {e : Expr} {de : En → M D} {pos : Pos} (cl : Cls X.K (C 0)) (no : NoAttr X.K (C 0) "_kinds") (he : VE X C e de) (hb : attributeBase e "_kinds" X.env (eval e X.env) = eval e X.env := by rfl) : VE X C (.Attribute e "_kinds" pos) (fun env => de env >>= kindsD) :=
  PE.of (pe_fld he hb) fun σ H Q ⟨U, env, G0, H0, G, b, S, w⟩ => by
    refine ⟨U, env, G0, H0, G, b, S, wp_mono (wp_bind.mp w) fun b1 d1 w1 v1 G1 H1 e1 u1 r1 => ?_⟩
    cases d1 with
    | book ks cs =>
      cases r1 with
      | book bg =>
        obtain ⟨dx, ak, ac, an, ob, kvs, ts, h1, h2, _⟩ := bg
        exact ⟨_, _, dx, _, _, rfl, e1.sub.ins h1, cl, no, Sx.bkF_kinds _ _ _, w1 _ G1 _ e1 u1 (.tup h2 (strs_reps ks))⟩
    | _ => exact w1.elim
theorem ve_clashes {e : Expr} {de : En → M D} {pos : Pos} (cl : Cls X.K (C 0)) (no : NoAttr X.K (C 0) "_clashes") (he : VE X C e de) (hb : attributeBase e "_clashes" X.env (eval e X.env) = eval e X.env := by rfl) : VE X C (.Attribute e "_clashes" pos) (fun env => de env >>= clashesD) :=
  PE.of (pe_fld he hb) fun σ H Q ⟨U, env, G0, H0, G, b, S, w⟩ => by
    refine ⟨U, env, G0, H0, G, b, S, wp_mono (wp_bind.mp w) fun b1 d1 w1 v1 G1 H1 e1 u1 r1 => ?_⟩
    cases d1 with
    | book ks cs =>
      cases r1 with
      | book bg =>
        obtain ⟨dx, ak, ac, an, ob, kvs, ts, h1, h2, h3, h4, _⟩ := bg
        exact ⟨_, _, dx, _, _, rfl, e1.sub.ins h1, cl, no, Sx.bkF_clashes _ _ _, w1 _ G1 _ e1 u1 (.tup h3 (prs_reps h4))⟩
    | _ => exact w1.elim
/-- e.m, a property -/
theorem ve_prop {k : Nat} {m : Str} {e : Expr} {de : En → M D} {den : List D → M D} {pos : Pos} (G : Sx.PrG X.prog X.w X.K X.mg X.base (C 0) m k (spV X.K C 1 den)) (cl : Cls X.K (C 0)) (hr : Room (k + 1) X.A) (he : VE X C e de)
    (hab : attributeBase e m X.env (eval e X.env) = eval e X.env := by rfl) : VE X C (.Attribute e m pos) (fun env => de env >>= fun d => match d with
      | .book ks cs => den [.book ks cs]
      | _ => .bad) :=
  PE.of (Sx.pe_pg G cl he hr hab) fun σ H Q ⟨U, env, G0, H0, G, b, S, w⟩ => by
    refine ⟨U, env, G0, H0, G, b, S, wp_mono (wp_bind.mp w) fun b1 d1 w1 v1 G1 H1 e1 u1 r1 => ?_⟩
    cases d1 with
    | book ks cs =>
      have r0 := r1
      cases r1 with
      | book bg =>
        obtain ⟨dx, ak, ac, an, ob, kvs, ts, h1, _⟩ := bg
        exact ⟨_, dx, _, rfl, e1.sub.ins h1, U, G1, b1, [.book ks cs], e1.sub, u1, (S.st.to e1).hidU, .cons r0 .nil, rfl, wp_mono w1 (pv_to e1)⟩
    | _ => exact w1.elim
/-- e.m(..), a method -/
theorem ve_meth {k n : Nat} {m : Str} {ps : List Str} {o e : Expr} {es : List Expr} {de : En → M D} {ds : En → M (List D)} {den : List D → M D} {pos apos : Pos} {pl : Sem Bool} (G : Sx.MtG X.prog X.w X.K X.mg X.base (C 0) m k ps (spV X.K C n den)) (cl : Cls X.K (C 0)) (hr : Room k X.A) (ho : VE X C o de) (ha : VA X C (e :: es) ds)
    (n1 : ¬ m = "_near" := by decide +kernel) (n2 : ¬ m = "_clashes" := by decide +kernel) (n3 : ¬ m = "_kinds" := by decide +kernel)
    (hst : starEach (e :: es) X.env = (false, eval e X.env) :: starEach es X.env := by rfl) (hpl : (backTo pos (starEach es X.env)).any (·.1) = false := by rfl)
    (ht : eval (.Call (.Attribute o m apos) (e :: es) [] pos) X.env = (do
      let ov ← eval o X.env
      standAt apos.atName
      let (f, first) ← holding [ov] (getMethod ov m pl)
      callWith pos f first (backTo pos (starEach (e :: es) X.env)) (backToKw pos (keywordEach [] X.env))) := by rfl) :
    VE X C (.Call (.Attribute o m apos) (e :: es) [] pos) (fun env => de env >>= fun d => ds env >>= fun xs => match d with
      | .book ks cs => arity n den (.book ks cs :: xs)
      | _ => .bad) :=
  PE.of (Sx.pe_mg G cl ho hr ha hst hpl ht) fun σ H Q ⟨U, env, G0, H0, G, b, S, w⟩ => by
    refine ⟨U, env, G0, H0, G, b, S, wp_mono (wp_bind.mp w) fun b1 d1 w1 v1 G1 H1 e1 u1 r1 => ?_⟩
    cases d1 with
    | book ks cs =>
      have r0 := r1
      cases r1 with
      | book bg =>
        obtain ⟨dx, ak, ac, an, ob, kvs, ts, h1, _⟩ := bg
        refine ⟨_, dx, _, rfl, e1.sub.ins h1, Sx.bkF_no _ _ _ n1 n2 n3, U, env, G0, H0, G1, b1, S.to e1 u1, wp_mono (wp_bind.mp w1) fun b2 xs w2 vs G2 H2 e2 u2 r2 => ?_⟩
        have w2 : wp (arity n den (.book ks cs :: xs)) b2 (PV X.K C U G H Q) := w2
        unfold arity at w2
        by_cases hl : (D.book ks cs :: xs).length = n
        · rw [if_pos hl] at w2
          have x2 := e1.trans e2
          have rr : Reps X.K C U G2 (_ :: vs) (.book ks cs :: xs) := .cons (r0.mono e2.grow) r2
          exact ⟨U, G2, b2, .book ks cs :: xs, x2.sub, u2, (S.st.to x2).hidU, by rw [List.append_nil]; exact rr, by rw [List.append_nil, rr.length]; exact hl, wp_mono w2 (pv_to x2)⟩
        · rw [if_neg hl] at w2; exact w2.elim
    | _ =>
      refine (wp_none (wp_bind.mp w1) fun b a z => z).elim
/-- e._near[k] -/
theorem ve_near {e i : Expr} {de dk : En → M D} {apos pos : Pos} (hu : X.A.units + 1 < cLine) (cl : Cls X.K (C 0)) (no : NoAttr X.K (C 0) "_near") (he : VE X C e de) (hi : VE X C i dk) (hb : attributeBase e "_near" X.env (eval e X.env) = eval e X.env := by rfl) (hs : PlainIx i := by exact fun _ _ => rfl) :
    VE X C (.Subscript (.Attribute e "_near" apos) i pos) (seq2 de dk nearD) :=
  PE.of (pe_ix (ix_dict hu) (pe_fld he hb) hi hs) fun σ H Q ⟨U, env, G0, H0, G, b, S, w⟩ => by
    refine ⟨U, env, G0, H0, G, b, S, wp_mono (wp_bind.mp w) fun b1 d1 w1 v1 G1 H1 e1 u1 r1 => ?_⟩
    cases d1 with
    | book ks cs =>
      cases r1 with
      | book bg =>
        have bg0 := bg
        obtain ⟨dx, ak, ac, an, ob, kvs, ts, h1, _⟩ := bg
        refine ⟨_, _, dx, _, _, rfl, e1.sub.ins h1, cl, no, Sx.bkF_near _ _ _, U, env, G0, H0, G1, b1, S.to e1 u1, wp_mono (wp_bind.mp w1) fun b2 d2 w2 v2 G2 H2 e2 u2 r2 => ?_⟩
        cases d2 with
        | str x =>
          cases r2
          have w2 : wp (if x ∈ ks then M.ok (.tup ((Sx.nearM cs x).map D.str)) else .bad) b2 (PV X.K C U G H Q) := w2
          by_cases m : x ∈ ks
          · rw [if_pos m] at w2
            have bg2 := bg0.same e2.grow
            obtain ⟨dx', ak', ac', an', ob', kvs', ts', g1, g2, g3, g4, g5, g6, g7⟩ := bg2
            rw [e2.grow _ _ h1] at g1
            cases g1
            have x2 := e1.trans e2
            obtain ⟨t, t1, t2⟩ := g6 x m
            have hk : H2 an = some (.dK kvs') := x2.sub.to _ _ g5
            exact ⟨_, _, rfl, by have := DGet.k (k := .inr x) hk; rw [t1] at this; exact this, w2 _ G2 _ x2 u2 (.tup t2 (strs_reps _))⟩
          · rw [if_neg m] at w2; exact w2.elim
        | _ => exact w2.elim
    | _ => exact (wp_none (wp_bind.mp w1) fun b a z => z).elim
end
end Vw

/-! BkM -/
/-! Book's kinds, clashes, clash, clashing by values. -/
namespace Vw
open PySem PySem.Spec PyProof.Rows L2
open Sx (cBook FnG MtG PrG Blt TB)
section
variable {X : Cx} {C : Nat → Addr}
/-- k not in e._near -/
theorem vt_ninNear {a e : Expr} {da de : En → M D} {apos pos : Pos} (hu : X.A.units + 1 < cLine) (cl : Cls X.K (C 0)) (no : NoAttr X.K (C 0) "_near") (ha : VE X C a da) (he : VE X C e de) (hb : attributeBase e "_near" X.env (eval e X.env) = eval e X.env := by rfl) (hm : behindInMarks .NotIn (.Attribute e "_near" apos) = false := by rfl) :
    VT X C (.Compare a [.NotIn] [.Attribute e "_near" apos] pos) (notB (asB (seq2 da de inNear))) :=
  PT.of (pt_cmpR (op_dNin hu) ha (pe_fld he hb) hm) fun σ H Q ⟨U, env, G0, H0, G, b, S, w⟩ => by
    have w := wp_bind.mp (wp_bind.mp w)
    refine ⟨U, env, G0, H0, G, b, S, wp_mono (wp_bind.mp w) fun b1 d1 w1 v1 G1 H1 e1 u1 r1 => ?_⟩
    refine ⟨U, env, G0, H0, G1, b1, S.to e1 u1, wp_mono (wp_bind.mp w1) fun b2 d2 w2 v2 G2 H2 e2 u2 r2 => ?_⟩
    cases d2 with
    | book ks cs =>
      cases d1 with
      | str x =>
        cases r1
        cases r2 with
        | book bg =>
          have x2 := e1.trans e2
          obtain ⟨dx, ak, ac, an, ob, kvs, ts, g1, g2, g3, g4, g5, g6, g7⟩ := bg
          have hk : H2 an = some (.dK kvs) := x2.sub.to _ _ g5
          refine ⟨_, _, dx, _, _, rfl, x2.sub.ins g1, cl, no, Sx.bkF_near _ _ _, _, _, rfl, DGet.k (k := .inr x) hk, _, rfl, ?_⟩
          have ev : (valV kvs (.inr x)).isSome = decide (x ∈ ks) := by
            by_cases m : x ∈ ks
            · obtain ⟨t, t1, _⟩ := g6 x m
              rw [t1, decide_eq_true m]; rfl
            · rw [g7 x m, decide_eq_false m]; rfl
          rw [ev]
          exact w2 _ _ x2 u2
      | _ => exact w2.elim
    | _ => exact w2.elim
end
abbrev sBkinds : Stmt := inClass cBook 2
abbrev sBclashes : Stmt := inClass cBook 3
abbrev sBask : Stmt := inClass cBook 9
abbrev sBclash : Stmt := inClass cBook 10
abbrev sBclashing : Stmt := inClass cBook 11
def bBkinds : En → M Fl := fun env => (fun env => (rd 0) env >>= kindsD) env >>= fun d => .ok (.ret d)
def dBkinds : List D → M D := bodyD 1 bBkinds
def bBclashes : En → M Fl := fun env => (fun env => (rd 0) env >>= clashesD) env >>= fun d => .ok (.ret d)
def dBclashes : List D → M D := bodyD 1 bBclashes
def bBask : En → M Fl := forS (fun env => (rd 1) env >>= walkD) (setG 2) (ifS (notB (asB (seq2 (rd 2) (rd 0) inNear))) (fun _ => .bad) (fun env => .ok (.next env)))
def dBask : List D → M D := bodyD 3 bBask
section
variable {P : Program} {w : World} {K : PySem.W.Frag} {mg : Str → Option Value} {base : Heap} {C : Nat → Addr} {f : Addr} {fd : FuncData} {dvs : List V}
theorem scBkinds : FnScope ["self"] ["self"] (defScope sBkinds) := ⟨rfl, rfl, rfl, by decide +kernel, rfl, by decide +kernel, by decide +kernel⟩
theorem okBkinds (F : FunD K "kinds" "Book.kinds" (defArgs sBkinds) (defBody sBkinds) (defScope sBkinds) dvs [] f fd) (T : TB K mg (C 0)) : FnOk P w K mg base CX0 1 f fd ["self"] (spV K C 1 dBkinds) :=
  fn_v F scBkinds fun cdv A outer s H E hr => vs_one (vs_ret (ve_kinds T.cl T.nK (ve_var 0)))
theorem scBclashes : FnScope ["self"] ["self"] (defScope sBclashes) := ⟨rfl, rfl, rfl, by decide +kernel, rfl, by decide +kernel, by decide +kernel⟩
theorem okBclashes (F : FunD K "clashes" "Book.clashes" (defArgs sBclashes) (defBody sBclashes) (defScope sBclashes) dvs [] f fd) (T : TB K mg (C 0)) : FnOk P w K mg base CX0 1 f fd ["self"] (spV K C 1 dBclashes) :=
  fn_v F scBclashes fun cdv A outer s H E hr => vs_one (vs_ret (ve_clashes T.cl T.nC (ve_var 0)))
theorem scBask : FnScope ["self", "kinds", "kind"] ["self", "kinds"] (defScope sBask) := ⟨rfl, rfl, rfl, by decide +kernel, rfl, by decide +kernel, by decide +kernel⟩
theorem okBask (F : FunD K "_ask_for" "Book._ask_for" (defArgs sBask) (defBody sBask) (defScope sBask) dvs [] f fd) (T : TB K mg (C 0)) : FnOk P w K mg base CX0 1 f fd ["self", "kinds"] (spV K C 2 dBask) :=
  fn_v F scBask fun cdv A outer s H E hr => by
    have hu : (A.deeper (envOfC "Book._ask_for" (defScope sBask) s.heap.objs.size f cdv)).units + 65 < cLine := by have := hr.un; omega
    exact vs_one (vs_for (vi_seq (ve_var 1)) (vg_name 2 scBask.nd) (vs_one (vs_if (vt_ninNear (hlt hu) T.cl T.nN (ve_var 2) (ve_var 0)) (vs_one vs_bad) vs_nil)))
def bBclash : En → M Fl := seqS (fun env => (fun env => (rd 0) env >>= fun d => (consD (fun env => (consD (rd 1) (consD (rd 2) (fun _ => .ok []))) env >>= fun xs => guardL xs >>= fun _ => .ok (.tup xs)) (fun _ => .ok [])) env >>= fun xs => match d with
  | .book ks cs => arity 2 dBask (.book ks cs :: xs)
  | _ => .bad) env >>= fun _ => .ok (.next env)) (fun env => (seq2 (pk 2) (seq2 (rd 0) (rd 1) nearD) opIn) env >>= fun d => .ok (.ret d))
def dBclash : List D → M D := bodyD 3 bBclash
theorem scBclash : FnScope ["self", "one", "other"] ["self", "one", "other"] (defScope sBclash) := ⟨rfl, rfl, rfl, by decide +kernel, rfl, by decide +kernel, by decide +kernel⟩
theorem okBclash (F : FunD K "clash" "Book.clash" (defArgs sBclash) (defBody sBclash) (defScope sBclash) dvs [] f fd) (T : TB K mg (C 0)) (GA : MtG P w K mg base (C 0) "_ask_for" 1 ["self", "kinds"] (spV K C 2 dBask)) : FnOk P w K mg base CX0 2 f fd ["self", "one", "other"] (spV K C 3 dBclash) :=
  fn_v F scBclash fun cdv A outer s H E hr => by
    have hu : (A.deeper (envOfC "Book.clash" (defScope sBclash) s.heap.objs.size f cdv)).units + 65 < cLine := by have := hr.un; omega
    exact vs_cons (vs_expr (ve_meth GA T.cl (hr.mono (by decide)) (ve_var 0) (va_cons (ve_tup (va_cons (ve_var 1) (va_cons (ve_var 2) va_nil))) va_nil))) (vs_one (vs_ret (ve_cmp (or_in hu) in_2 (vp_var 2) (VE.vp (ve_near (hlt hu) T.cl T.nN (ve_var 0) (ve_var 1))) (by rfl))))
end
end Vw

/-! BkN -/
/-! Book.clashing by values (where the law's text has its body). -/
namespace Vw
open PySem PySem.Spec PyProof.Rows L2
open Sx (cBook FnG MtG PrG Blt TB)
def bBclashing : En → M Fl := seqS (fun env => (fun env => (rd 0) env >>= fun d => (consD (fun env => (consD (rd 1) (fun _ => .ok [])) env >>= fun xs => guardL xs >>= fun _ => .ok (.tup xs)) (fun _ => .ok [])) env >>= fun xs => match d with
  | .book ks cs => arity 2 dBask (.book ks cs :: xs)
  | _ => .bad) env >>= fun _ => .ok (.next env)) (fun env => (seq2 (rd 0) (rd 1) nearD) env >>= fun d => .ok (.ret d))
def dBclashing : List D → M D := bodyD 2 bBclashing
section
variable {P : Program} {w : World} {K : PySem.W.Frag} {mg : Str → Option Value} {base : Heap} {C : Nat → Addr} {f : Addr} {fd : FuncData} {dvs : List V}
theorem scBclashing : FnScope ["self", "kind"] ["self", "kind"] (defScope sBclashing) := ⟨rfl, rfl, rfl, by decide +kernel, rfl, by decide +kernel, by decide +kernel⟩
theorem okBclashing (F : FunD K "clashing" "Book.clashing" (defArgs sBclashing) (defBody sBclashing) (defScope sBclashing) dvs [] f fd) (T : TB K mg (C 0)) (GA : MtG P w K mg base (C 0) "_ask_for" 1 ["self", "kinds"] (spV K C 2 dBask)) : FnOk P w K mg base CX0 2 f fd ["self", "kind"] (spV K C 2 dBclashing) :=
  fn_v F scBclashing fun cdv A outer s H E hr => by
    have hu : (A.deeper (envOfC "Book.clashing" (defScope sBclashing) s.heap.objs.size f cdv)).units + 65 < cLine := by have := hr.un; omega
    exact vs_cons (vs_expr (ve_meth GA T.cl (hr.mono (by decide)) (ve_var 0) (va_cons (ve_tup (va_cons (ve_var 1) va_nil)) va_nil))) (vs_one (vs_ret (ve_near (hlt hu) T.cl T.nN (ve_var 0) (ve_var 1))))
end
end Vw

/-! BkT -/
/-! Book.turned by values (where the law's text has its body). -/
namespace Vw
open PySem PySem.Spec PyProof.Rows L2
open Sx (cBook FnG MtG PrG Blt TB spIn spInit)
abbrev sBturned : Stmt := inClass cBook 18
abbrev nBturned : List Str := ["self", "pairs", "one", "other"]
def bBturned : En → M Fl := seqS (setS 1 (compN [⟨[2, 3], [2], (fun env => (fun env => (rd 0) env >>= kindsD) env >>= walkD), setG 2, (fun _ => .ok true)⟩, ⟨[3], [3], (fun env => (fun env => (rd 0) env >>= kindsD) env >>= walkD), setG 3, (asB (seq2 (pk 2) (pk 3) opLe))⟩] (fun env => (consD (rd 2) (consD (rd 3) (fun _ => .ok []))) env >>= fun xs => guardL xs >>= fun _ => .ok (.tup xs))))
  (fun env => (seqN (consD (fun env => (rd 0) env >>= kindsD) (consD (compV [2, 3] (fun env => (rd 1) env >>= walkD) (seqG 2 (consG (setG 2) (consG (setG 3) nilG))) (asB (seq2 (pk 3) (seq2 (rd 0) (rd 2) nearD) opNin)) (fun env => (consD (rd 2) (consD (rd 3) (fun _ => .ok []))) env >>= fun xs => guardL xs >>= fun _ => .ok (.tup xs))) (fun _ => .ok []))) mkBkP) env >>= fun d => .ok (.ret d))
def dBturned : List D → M D := bodyD 4 bBturned
section
variable {P : Program} {w : World} {K : PySem.W.Frag} {mg : Str → Option Value} {base : Heap} {C : Nat → Addr} {f : Addr} {fd : FuncData} {dvs : List V}
theorem scBturned : FnScope nBturned ["self"] (defScope sBturned) := ⟨rfl, rfl, rfl, by decide +kernel, rfl, by decide +kernel, by decide +kernel⟩
theorem okBturned (F : FunD K "turned" "Book.turned" (defArgs sBturned) (defBody sBturned) (defScope sBturned) dvs [] f fd) (T : TB K mg (C 0)) (GMk2 : MkD P w K mg base "Book" (C 0) 1 ["self", "kinds", "clashes"] (spR (spInit K (C 0))) []) : FnOk P w K mg base CX0 3 f fd ["self"] (spV K C 1 dBturned) :=
  fn_v F scBturned fun cdv A outer s H E hr => by
    have hu : (A.deeper (envOfC "Book.turned" (defScope sBturned) s.heap.objs.size f cdv)).units + 65 < cLine := by have := hr.un; omega
    exact vs_cons
      (VS.fr (vs_ownLcN (own := [("one", 2), ("other", 3)]) (i := 1) scBturned.nd (vi_seq (ve_kinds T.cl T.nK (ve_var 0))) (blkOk_by (N := nBturned) (sc := defScope sBturned) (by decide +kernel))
        (fun _ _ _ _ _ => (vg_name 2 scBturned.nd)) (fun _ _ _ _ _ => vts_nil)
        (fun _ _ _ _ _ => .cons (c := ⟨[3], [3], (fun env => (fun env => (rd 0) env >>= kindsD) env >>= walkD), setG 3, (asB (seq2 (pk 2) (pk 3) opLe))⟩) (vi_seq (ve_kinds T.cl T.nK (ve_var 0))) (vg_name 3 scBturned.nd) (vts_one (vt_cmp or_le le_2 (vp_var 2) (vp_var 3) (nomark _))) (by intro _; rfl) .nil)
        (fun _ _ _ _ _ => (ve_tup (va_cons (ve_var 2) (va_cons (ve_var 3) va_nil)))) (sw_true rfl rfl rfl (by decide +kernel))))
      (vs_one (vs_ret (ve_mkBook2 GMk2 (hr.mono (by decide)) (va_cons (ve_kinds T.cl T.nK (ve_var 0)) (va_cons (VF.ve (vf_lc (own := [("one", 2), ("other", 3)]) scBturned.nd (vi_seq (ve_var 1)) (blkOk_by (N := nBturned) (sc := defScope sBturned) (by decide +kernel))
        (fun _ _ _ _ _ => (vg_seq rfl (vgs_cons (vg_name 2 scBturned.nd) (vgs_cons (vg_name 3 scBturned.nd) vgs_nil))))
        (fun _ _ _ _ _ => (vts_one (vt_cmp (or_nin hu) nin_2 (vp_var 3) (VE.vp (ve_near (hlt hu) T.cl T.nN (ve_var 0) (ve_var 2))) (by rfl))))
        (fun _ _ _ _ _ => (ve_tup (va_cons (ve_var 2) (va_cons (ve_var 3) va_nil)))))) va_nil)))))
end
end Vw

/-! G71 -/
namespace Vw
open PySem PySem.Spec PyProof.Rows L2
open Sx (top Blt FnG MtG PrG SmG spIn spInit)
abbrev sones : Stmt := top 4
abbrev nones : List Str := ["bits", "found"]
theorem scones : FnScope nones ["bits"] (defScope sones) := ⟨rfl, rfl, rfl, by decide +kernel, rfl, by decide +kernel, by decide +kernel⟩
def bones_L1 : En → M Fl :=
  (seqS (fun env => (seq2 (fun env => (seq2 (pk 0) (fun env => (pk 0) env >>= fun d => isI d >>= fun i => .ok (.int (-i))) opBand) env >>= fun d => isI d >>= fun i => .ok (.int (Builtin.Int.intBits i : Nat))) (fun _ => .ok (.int 1)) opSub) env >>= fun d => appM 1 d env)
  (setS 0 (seq2 (pk 0) (seq2 (pk 0) (fun _ => .ok (.int 1)) opSub) opBand)))
def bones : En → M Fl :=
  (seqS (ownS 1 (fun env => (fun _ => .ok []) env >>= fun xs => guardL xs >>= fun _ => .ok (.lst xs)))
  (seqS (whileM (asB (seq2 (pk 0) (fun _ => .ok (.int 0)) opGt))
  bones_L1 100000)
  (fun env => (fun env => (rd 1) env >>= fun d => .ok (.ret d)) (frz 1 env))))
def dones : List D → M D := bodyD 2 bones
section
variable {P : Program} {w : World} {K : PySem.W.Frag} {mg : Str → Option Value} {base : Heap} {C : Nat → Addr}
theorem okones {f : Addr} {fd : FuncData} {dvs : List V} (F : FunD K "ones" "ones" (defArgs sones) (defBody sones) (defScope sones) dvs [] f fd) (B : Blt mg) : FnOk P w K mg base CX0 1 f fd ["bits"] (spV K C 1 dones) :=
  fn_v F scones fun cdv A outer s H E hr => by
    have hu : (A.deeper (envOfC "ones" (defScope sones) s.heap.objs.size f cdv)).units + 65 < cLine := by have := hr.un; omega
    exact (vs_cons (vs_own (i := 1) (vf_lst va_nil) scones.nd)
      (vs_cons (vs_while 100000 (vt_cmp or_gt gt_2 (vp_var 0) (VE.vp ve_int) (nomark _)) (vs_cons (vs_append 1 (ve_op op_sub sub_2 (VE.vp (ve_bits (VE.vp (ve_op op_and (i_2 _) (vp_var 0) (VE.vp (ve_neg (vp_var 0))))))) (VE.vp ve_int)))
      (vs_one (vs_set (i := 0) (ve_op op_and (i_2 _) (vp_var 0) (VE.vp (ve_op op_sub sub_2 (vp_var 0) (VE.vp ve_int)))) scones.nd))))
      (vs_one (vs_frz 1 (vs_ret (ve_var 1))))))
end

abbrev sclash_bits : Stmt := top 11
abbrev nclash_bits : List Str := ["book", "place", "at", "kind", "other"]
theorem scclash_bits : FnScope nclash_bits ["book"] (defScope sclash_bits) := ⟨rfl, rfl, rfl, by decide +kernel, rfl, by decide +kernel, by decide +kernel⟩
def bclash_bits : En → M Fl :=
  (seqS (setS 1 (compD [2, 3] (fun env => (fun env => (rd 0) env >>= fun d => match d with
  | .book ks cs => dBkinds [.book ks cs]
  | _ => .bad) env >>= seqO >>= fun ds => .ok (enumD ds)) (seqG 2 (consG (setG 2) (consG (setG 3) nilG))) (fun _ => .ok true) (rd 3) (rd 2)))
  (fun env => (compV [3] (fun env => (fun env => (rd 0) env >>= fun d => match d with
  | .book ks cs => dBkinds [.book ks cs]
  | _ => .bad) env >>= walkD) (setG 3) (fun _ => .ok true) (seqN (consD (compV [4] (fun env => (fun env => (rd 0) env >>= fun d => (consD (rd 3) (fun _ => .ok [])) env >>= fun xs => match d with
  | .book ks cs => arity 2 dBclashing (.book ks cs :: xs)
  | _ => .bad) env >>= walkD) (setG 4) (fun _ => .ok true) (seq2 (fun _ => .ok (.int 1)) (seq2 (pk 1) (pk 4) opIx) opShl)) (fun _ => .ok [])) (one sumD))) env >>= fun d => .ok (.ret d)))
def dclash_bits : List D → M D := bodyD 5 bclash_bits
section
variable {P : Program} {w : World} {K : PySem.W.Frag} {mg : Str → Option Value} {base : Heap} {C : Nat → Addr}
theorem okclash_bits {f : Addr} {fd : FuncData} {dvs : List V} (F : FunD K "clash_bits" "clash_bits" (defArgs sclash_bits) (defBody sclash_bits) (defScope sclash_bits) dvs [] f fd) (B : Blt mg)  (GBclashing : MtG P w K mg base (C 0) "clashing" 2 ["self", "kind"] (spV K C 2 dBclashing)) (cl : Cls K (C 0))  (GBkinds : PrG P w K mg base (C 0) "kinds" 1 (spV K C 1 dBkinds)) (cl : Cls K (C 0))  (Bsum : mg "sum" = none) : FnOk P w K mg base CX0 3 f fd ["book"] (spV K C 1 dclash_bits) :=
  fn_v F scclash_bits fun cdv A outer s H E hr => by
    have hu : (A.deeper (envOfC "clash_bits" (defScope sclash_bits) s.heap.objs.size f cdv)).units + 65 < cLine := by have := hr.un; omega
    exact (vs_cons (vs_set (i := 1) (VF.ve (vf_dc (own := [("at", 2), ("kind", 3)]) scclash_bits.nd (vi_enumA (ve_prop GBkinds cl (hr.mono (by decide)) (ve_var 0)) B.enumerate) (blkOk_by (N := nclash_bits) (sc := defScope sclash_bits) (by decide +kernel)) (fun _ _ _ _ _ => (vg_seq rfl (vgs_cons (vg_name 2 scclash_bits.nd) (vgs_cons (vg_name 3 scclash_bits.nd) vgs_nil)))) (fun _ _ _ _ _ => vts_nil) (fun _ _ _ _ _ => (ve_var 3)) (fun _ _ _ _ _ => (ve_var 2)))) scclash_bits.nd)
      (vs_one (vs_ret (VF.ve (vf_lc (own := [("kind", 3)]) scclash_bits.nd (vi_seq (ve_prop GBkinds cl (hr.mono (by decide)) (ve_var 0))) (blkOk_by (N := nclash_bits) (sc := defScope sclash_bits) (by decide +kernel)) (fun _ _ _ _ _ => (vg_name 3 scclash_bits.nd)) (fun _ _ _ _ _ => vts_nil) (fun _ _ _ _ _ => (ve_callB (cr_sum rfl) sum_1 Bsum bt_sum (vps_cons (VF.vp (vf_lc (own := [("other", 4)]) scclash_bits.nd (vi_seq (ve_meth GBclashing cl (hr.mono (by decide)) (ve_var 0) (va_cons (ve_var 3) va_nil))) (blkOk_in (by show blkC nclash_bits (seen (defScope sclash_bits) _) _ _ = true; decide +kernel)) (fun _ _ _ _ _ => (vg_name 4 scclash_bits.nd)) (fun _ _ _ _ _ => vts_nil) (fun _ _ _ _ _ => (ve_op op_shl shl_2 (VE.vp ve_int) (VE.vp (ve_ix (ix_any (hlt hu)) ix_2 (vp_var 1) (vp_var 4))))))) vps_nil))))))))
end

abbrev s_is_bad : Stmt := top 15
abbrev n_is_bad : List Str := ["four", "place", "a", "b", "c", "d", "kind"]
theorem sc_is_bad : FnScope n_is_bad ["four", "place"] (defScope s_is_bad) := ⟨rfl, rfl, rfl, by decide +kernel, rfl, by decide +kernel, by decide +kernel⟩
def b_is_bad : En → M Fl :=
  (seqS (fun env => (compV [6] (fun env => (rd 0) env >>= walkD) (setG 6) (fun _ => .ok true) (fun env => (pk 1) env >>= fun d => isDic d >>= fun _ => (rd 6) env >>= fun k => (seqN (consD (pk 1) (fun _ => .ok [])) (one lenD)) env >>= fun v => opGet d k v)) env >>= fun d => (seqG 4 (consG (setG 2) (consG (setG 3) (consG (setG 4) (consG (setG 5) nilG))))) d env >>= fun env' => .ok (.next env'))
  (fun env => (andV (seq2 (pk 2) (pk 3) opLt) (seq2 (pk 5) (pk 4) opLt)) env >>= fun d => .ok (.ret d)))
def d_is_bad : List D → M D := bodyD 7 b_is_bad
section
variable {P : Program} {w : World} {K : PySem.W.Frag} {mg : Str → Option Value} {base : Heap} {C : Nat → Addr}
theorem ok_is_bad {f : Addr} {fd : FuncData} {dvs : List V} (F : FunD K "_is_bad" "_is_bad" (defArgs s_is_bad) (defBody s_is_bad) (defScope s_is_bad) dvs [] f fd) (B : Blt mg) : FnOk P w K mg base CX0 1 f fd ["four", "place"] (spV K C 2 d_is_bad) :=
  fn_v F sc_is_bad fun cdv A outer s H E hr => by
    have hu : (A.deeper (envOfC "_is_bad" (defScope s_is_bad) s.heap.objs.size f cdv)).units + 65 < cLine := by have := hr.un; omega
    exact (vs_cons (vs_asg (VF.ve (vf_lc (own := [("kind", 6)]) sc_is_bad.nd (vi_seq (ve_var 0)) (blkOk_by (N := n_is_bad) (sc := defScope s_is_bad) (by decide +kernel)) (fun _ _ _ _ _ => (vg_name 6 sc_is_bad.nd)) (fun _ _ _ _ _ => vts_nil) (fun _ _ _ _ _ => (ve_get2 (hlt hu) (vp_var 1) (ve_var 6) (ve_callB cr_lenB lenB_1 B.len Sx.bt_len (vps_cons (vp_var 1) vps_nil)))))) (vg_seq rfl (vgs_cons (vg_name 2 sc_is_bad.nd) (vgs_cons (vg_name 3 sc_is_bad.nd) (vgs_cons (vg_name 4 sc_is_bad.nd) (vgs_cons (vg_name 5 sc_is_bad.nd) vgs_nil))))))
      (vs_one (vs_ret (ve_and (ve_cmp or_lt lt_2 (vp_var 2) (vp_var 3) (nomark _)) (ve_one (ve_cmp or_lt lt_2 (vp_var 5) (vp_var 4) (nomark _)))))))
end

abbrev s_fours : Stmt := top 14
abbrev n_fours : List Str := ["book", "clash", "found", "a", "b", "c", "d", "at", "four"]
theorem sc_fours : FnScope n_fours ["book"] (defScope s_fours) := ⟨rfl, rfl, rfl, by decide +kernel, rfl, by decide +kernel, by decide +kernel⟩
def b_fours : En → M Fl :=
  (seqS (setS 1 (seqN (consD (rd 0) (fun _ => .ok [])) (arity 1 dclash_bits)))
  (seqS (setS 2 (compN [⟨[3, 4, 5, 6], [3], (fun env => (consD (seqN (consD (pk 1) (fun _ => .ok [])) (one lenD)) (fun _ => .ok [])) env >>= rng1), (setG 3), (fun _ => .ok true)⟩, ⟨[4, 5, 6], [4], (fun env => (seqN (consD (seq2 (pk 1) (pk 3) opIx) (fun _ => .ok [])) (arity 1 dones)) env >>= walkD), (setG 4), (fun _ => .ok true)⟩, ⟨[5, 6], [5], (fun env => (seqN (consD (seq2 (seq2 (pk 1) (pk 4) opIx) (fun env => (seq2 (pk 1) (pk 3) opIx) env >>= fun d => isI d >>= fun i => .ok (.int (Builtin.bitNot i))) opBand) (fun _ => .ok [])) (arity 1 dones)) env >>= walkD), (setG 5), (fun _ => .ok true)⟩, ⟨[6], [6], (fun env => (seqN (consD (seq2 (seq2 (seq2 (pk 1) (pk 5) opIx) (fun env => (seq2 (pk 1) (pk 3) opIx) env >>= fun d => isI d >>= fun i => .ok (.int (Builtin.bitNot i))) opBand) (fun env => (seq2 (pk 1) (pk 4) opIx) env >>= fun d => isI d >>= fun i => .ok (.int (Builtin.bitNot i))) opBand) (fun _ => .ok [])) (arity 1 dones)) env >>= walkD), (setG 6), (asB (seq2 (pk 3) (pk 6) opLt))⟩] (fun env => (consD (rd 3) (consD (rd 4) (consD (rd 5) (consD (rd 6) (fun _ => .ok []))))) env >>= fun xs => guardL xs >>= fun _ => .ok (.tup xs))))
  (fun env => (compV [8] (fun env => (rd 2) env >>= walkD) (setG 8) (fun _ => .ok true) (seqN (consD (compV [7] (fun env => (rd 8) env >>= walkD) (setG 7) (fun _ => .ok true) (seq2 (fun env => (rd 0) env >>= fun d => match d with
  | .book ks cs => dBkinds [.book ks cs]
  | _ => .bad) (pk 7) opIx)) (fun _ => .ok [])) (one tupD))) env >>= fun d => .ok (.ret d))))
def d_fours : List D → M D := bodyD 9 b_fours
section
variable {P : Program} {w : World} {K : PySem.W.Frag} {mg : Str → Option Value} {base : Heap} {C : Nat → Addr}
theorem ok_fours {f : Addr} {fd : FuncData} {dvs : List V} (F : FunD K "_fours" "_fours" (defArgs s_fours) (defBody s_fours) (defScope s_fours) dvs [] f fd) (B : Blt mg) (Gclash_bits : FnG P w K mg base "clash_bits" 3 ["book"] (spV K C 1 dclash_bits)) (Gones : FnG P w K mg base "ones" 1 ["bits"] (spV K C 1 dones))  (GBkinds : PrG P w K mg base (C 0) "kinds" 1 (spV K C 1 dBkinds)) (cl : Cls K (C 0)) : FnOk P w K mg base CX0 4 f fd ["book"] (spV K C 1 d_fours) :=
  fn_v F sc_fours fun cdv A outer s H E hr => by
    have hu : (A.deeper (envOfC "_fours" (defScope s_fours) s.heap.objs.size f cdv)).units + 65 < cLine := by have := hr.un; omega
    exact (vs_cons (vs_set (i := 1) (ve_call Gclash_bits (hr.mono (by decide)) (va_cons (ve_var 0) va_nil)) sc_fours.nd)
      (vs_cons (VS.fr (vs_ownLcN (own := [("a", 3), ("b", 4), ("c", 5), ("d", 6)]) (i := 2) sc_fours.nd (vi_range1 B.range (vps_cons (VE.vp (ve_callB cr_lenB lenB_1 B.len Sx.bt_len (vps_cons (vp_var 1) vps_nil))) vps_nil)) (blkOk_by (N := n_fours) (sc := defScope s_fours) (by decide +kernel)) (fun _ _ _ _ _ => (vg_name 3 sc_fours.nd)) (fun _ _ _ _ _ => vts_nil) (fun _ _ _ _ _ => (.cons (c := ⟨[4, 5, 6], [4], (fun env => (seqN (consD (seq2 (pk 1) (pk 3) opIx) (fun _ => .ok [])) (arity 1 dones)) env >>= walkD), (setG 4), (fun _ => .ok true)⟩) (vi_seq (ve_call Gones (hr.mono (by decide)) (va_cons (ve_ix (ix_any (hlt hu)) ix_2 (vp_var 1) (vp_var 3)) va_nil))) (vg_name 4 sc_fours.nd) vts_nil (by intro _; rfl) (.cons (c := ⟨[5, 6], [5], (fun env => (seqN (consD (seq2 (seq2 (pk 1) (pk 4) opIx) (fun env => (seq2 (pk 1) (pk 3) opIx) env >>= fun d => isI d >>= fun i => .ok (.int (Builtin.bitNot i))) opBand) (fun _ => .ok [])) (arity 1 dones)) env >>= walkD), (setG 5), (fun _ => .ok true)⟩) (vi_seq (ve_call Gones (hr.mono (by decide)) (va_cons (ve_op op_and (i_2 _) (VE.vp (ve_ix (ix_any (hlt hu)) ix_2 (vp_var 1) (vp_var 4))) (VE.vp (ve_inv (VE.vp (ve_ix (ix_any (hlt hu)) ix_2 (vp_var 1) (vp_var 3)))))) va_nil))) (vg_name 5 sc_fours.nd) vts_nil (by intro _; rfl) (.cons (c := ⟨[6], [6], (fun env => (seqN (consD (seq2 (seq2 (seq2 (pk 1) (pk 5) opIx) (fun env => (seq2 (pk 1) (pk 3) opIx) env >>= fun d => isI d >>= fun i => .ok (.int (Builtin.bitNot i))) opBand) (fun env => (seq2 (pk 1) (pk 4) opIx) env >>= fun d => isI d >>= fun i => .ok (.int (Builtin.bitNot i))) opBand) (fun _ => .ok [])) (arity 1 dones)) env >>= walkD), (setG 6), (asB (seq2 (pk 3) (pk 6) opLt))⟩) (vi_seq (ve_call Gones (hr.mono (by decide)) (va_cons (ve_op op_and (i_2 _) (VE.vp (ve_op op_and (i_2 _) (VE.vp (ve_ix (ix_any (hlt hu)) ix_2 (vp_var 1) (vp_var 5))) (VE.vp (ve_inv (VE.vp (ve_ix (ix_any (hlt hu)) ix_2 (vp_var 1) (vp_var 3))))))) (VE.vp (ve_inv (VE.vp (ve_ix (ix_any (hlt hu)) ix_2 (vp_var 1) (vp_var 4)))))) va_nil))) (vg_name 6 sc_fours.nd) (vts_one (vt_cmp or_lt lt_2 (vp_var 3) (vp_var 6) (nomark _))) (by intro _; rfl) .nil)))) (fun _ _ _ _ _ => (ve_tup (va_cons (ve_var 3) (va_cons (ve_var 4) (va_cons (ve_var 5) (va_cons (ve_var 6) va_nil)))))) (sw_true rfl rfl rfl (by decide +kernel))))
      (vs_one (vs_ret (VF.ve (vf_lc (own := [("four", 8)]) sc_fours.nd (vi_seq (ve_var 2)) (blkOk_by (N := n_fours) (sc := defScope s_fours) (by decide +kernel)) (fun _ _ _ _ _ => (vg_name 8 sc_fours.nd)) (fun _ _ _ _ _ => vts_nil) (fun _ _ _ _ _ => (ve_callTy call_tuple_of tup_1 B.tuple Sx.bt_tuple (vps_cons (VF.vp (vf_lc (own := [("at", 7)]) sc_fours.nd (vi_seq (ve_var 8)) (blkOk_in (by show blkC n_fours (seen (defScope s_fours) _) _ _ = true; decide +kernel)) (fun _ _ _ _ _ => (vg_name 7 sc_fours.nd)) (fun _ _ _ _ _ => vts_nil) (fun _ _ _ _ _ => (ve_ix (ix_any (hlt hu)) ix_2 (VE.vp (ve_prop GBkinds cl (hr.mono (by decide)) (ve_var 0))) (vp_var 7))))) vps_nil)))))))))
end

abbrev sbad_four : Stmt := top 13
abbrev nbad_four : List Str := ["book", "order", "place", "at", "kind", "found"]
theorem scbad_four : FnScope nbad_four ["book", "order"] (defScope sbad_four) := ⟨rfl, rfl, rfl, by decide +kernel, rfl, by decide +kernel, by decide +kernel⟩
def bbad_four_L1 : En → M Fl :=
  (ifS (asB (seqN (consD (rd 5) (consD (rd 2) (fun _ => .ok []))) (arity 2 d_is_bad)))
  (fun env => (rd 5) env >>= fun d => .ok (.ret d)) (fun env => .ok (.next env)))
def bbad_four : En → M Fl :=
  (seqS (setS 2 (compD [3, 4] (fun env => (rd 1) env >>= seqO >>= fun ds => .ok (enumD ds)) (seqG 2 (consG (setG 3) (consG (setG 4) nilG))) (fun _ => .ok true) (rd 4) (rd 3)))
  (seqS (forS (fun env => (seqN (consD (rd 0) (fun _ => .ok [])) (arity 1 d_fours)) env >>= walkD) (setG 5)
  bbad_four_L1)
  (fun env => (fun _ => .ok .non) env >>= fun d => .ok (.ret d))))
def dbad_four : List D → M D := bodyD 6 bbad_four
section
variable {P : Program} {w : World} {K : PySem.W.Frag} {mg : Str → Option Value} {base : Heap} {C : Nat → Addr}
theorem okbad_four {f : Addr} {fd : FuncData} {dvs : List V} (F : FunD K "bad_four" "bad_four" (defArgs sbad_four) (defBody sbad_four) (defScope sbad_four) dvs [] f fd) (B : Blt mg) (G_fours : FnG P w K mg base "_fours" 4 ["book"] (spV K C 1 d_fours)) (G_is_bad : FnG P w K mg base "_is_bad" 1 ["four", "place"] (spV K C 2 d_is_bad)) : FnOk P w K mg base CX0 5 f fd ["book", "order"] (spV K C 2 dbad_four) :=
  fn_v F scbad_four fun cdv A outer s H E hr => by
    have hu : (A.deeper (envOfC "bad_four" (defScope sbad_four) s.heap.objs.size f cdv)).units + 65 < cLine := by have := hr.un; omega
    exact (vs_cons (VS.fr (vs_ownDc (own := [("at", 3), ("kind", 4)]) (i := 2) scbad_four.nd (vi_enumA (ve_var 1) B.enumerate) (blkOk_by (N := nbad_four) (sc := defScope sbad_four) (by decide +kernel)) (fun _ _ _ _ _ => (vg_seq rfl (vgs_cons (vg_name 3 scbad_four.nd) (vgs_cons (vg_name 4 scbad_four.nd) vgs_nil)))) (fun _ _ _ _ _ => vts_nil) (fun _ _ _ _ _ => (ve_var 4)) (fun _ _ _ _ _ => (ve_var 3)) (Sx.swD rfl rfl rfl (by decide +kernel))))
      (vs_cons (vs_for (vi_seq (ve_call G_fours (hr.mono (by decide)) (va_cons (ve_var 0) va_nil))) (vg_name 5 scbad_four.nd) (vs_one (vs_if (vt_val (VE.vp (ve_call G_is_bad (hr.mono (by decide)) (va_cons (ve_var 5) (va_cons (ve_var 2) va_nil)))))
      (vs_one (vs_ret (ve_var 5))) vs_nil)))
      (vs_one (vs_ret ve_non))))
end

abbrev s_law_same : Stmt := top 20
abbrev n_law_same : List Str := ["_law_got", "_law_goal", "_law_mine_so", "_law_own"]
theorem sc_law_same : FnScope n_law_same ["_law_got", "_law_goal"] (defScope s_law_same) := ⟨rfl, rfl, rfl, by decide +kernel, rfl, by decide +kernel, by decide +kernel⟩
def b_law_same (self : List D → M D) : En → M Fl :=
  (seqS (ifS (asB (fun env => (pk 1) env >>= fun d => isT2 "list" "tuple" d >>= fun c => .ok (.bl c)))
  (seqS (ifS (orB (asB (seq2 (fun env => (pk 0) env >>= fun d => isT "list" d >>= fun c => .ok (.bl c)) (fun env => (pk 1) env >>= fun d => isT "list" d >>= fun c => .ok (.bl c)) opNe)) (asB (seq2 (fun env => (pk 0) env >>= fun d => isT "tuple" d >>= fun c => .ok (.bl c)) (fun env => (pk 1) env >>= fun d => isT "tuple" d >>= fun c => .ok (.bl c)) opNe)))
  (fun env => (fun _ => .ok (.bl false)) env >>= fun d => .ok (.ret d)) (fun env => .ok (.next env)))
  (fun env => (andV (seq2 (seqN (consD (pk 0) (fun _ => .ok [])) (one lenD)) (seqN (consD (pk 1) (fun _ => .ok [])) (one lenD)) opEq) (seqN (consD (compV [2, 3] (fun env => (rd 0) env >>= fun d => (rd 1) env >>= fun e => zipM d e) (seqG 2 (consG (setG 2) (consG (setG 3) nilG))) (fun _ => .ok true) (seqN (consD (rd 2) (consD (rd 3) (fun _ => .ok []))) (arity 2 self))) (fun _ => .ok [])) (one allD))) env >>= fun d => .ok (.ret d))) (fun env => .ok (.next env)))
  (seqS (ifS (orB (asB (fun env => (pk 1) env >>= fun d => .ok (.bl (isNon d)))) (asB (fun env => (pk 1) env >>= fun d => isT2 "bool" "str" d >>= fun c => .ok (.bl c))))
  (fun env => (andV (seq2 (pk 0) (pk 1) opEq) (andV (seq2 (fun env => (pk 0) env >>= fun d => isT "bool" d >>= fun c => .ok (.bl c)) (fun env => (pk 1) env >>= fun d => isT "bool" d >>= fun c => .ok (.bl c)) opEq) (seq2 (fun env => (pk 0) env >>= fun d => .ok (.bl (isNon d))) (fun env => (pk 1) env >>= fun d => .ok (.bl (isNon d))) opEq))) env >>= fun d => .ok (.ret d)) (fun env => .ok (.next env)))
  (fun env => (andV (fun env => (pk 0) env >>= fun d => isT "int" d >>= fun c => .ok (.bl c)) (andV (notV (fun env => (pk 0) env >>= fun d => isT "bool" d >>= fun c => .ok (.bl c))) (seq2 (pk 0) (pk 1) opEq))) env >>= fun d => .ok (.ret d))))
def d_law_same : Nat → List D → M D
  | 0 => fun _ => .bad
  | n + 1 => bodyD 4 (b_law_same (d_law_same n))
section
variable {P : Program} {w : World} {K : PySem.W.Frag} {mg : Str → Option Value} {base : Heap} {C : Nat → Addr}
theorem ok_law_same {f : Addr} {fd : FuncData} {dvs : List V} {j : Nat} {self : List D → M D} (F : FunD K "_law_same" "_law_same" (defArgs s_law_same) (defBody s_law_same) (defScope s_law_same) dvs [] f fd) (B : Blt mg) (Gself : FnG P w K mg base "_law_same" (0 + j) ["_law_got", "_law_goal"] (spV K C 2 self)) : FnOk P w K mg base CX0 (0 + j + 1) f fd ["_law_got", "_law_goal"] (spV K C 2 (bodyD 4 (b_law_same self))) :=
  fn_v F sc_law_same fun cdv A outer s H E hr => by
    have hu : (A.deeper (envOfC "_law_same" (defScope s_law_same) s.heap.objs.size f cdv)).units + 65 < cLine := by have := hr.un; omega
    exact (vs_cons (vs_if (vt_val (VE.vp (ve_isi2 (T := "list") (T2 := "tuple") (vp_var 1) B.isinstance B.list B.tuple Sx.bt_list Sx.bt_tuple)))
      (vs_cons (vs_if (VW.vt (vw_or (vt_cmp (op_neD (hlt hu)) ne_2 (VE.vp (ve_isi (T := "list") (vp_var 0) B.isinstance B.list Sx.bt_list)) (VE.vp (ve_isi (T := "list") (vp_var 1) B.isinstance B.list Sx.bt_list)) (nomark _)) (vw_or1 (vt_cmp (op_neD (hlt hu)) ne_2 (VE.vp (ve_isi (T := "tuple") (vp_var 0) B.isinstance B.tuple Sx.bt_tuple)) (VE.vp (ve_isi (T := "tuple") (vp_var 1) B.isinstance B.tuple Sx.bt_tuple)) (nomark _)))))
      (vs_one (vs_ret ve_bl)) vs_nil)
      (vs_one (vs_ret (ve_and (ve_cmp (op_eqD (hlt hu)) eq_2 (VE.vp (ve_callB cr_lenB lenB_1 B.len Sx.bt_len (vps_cons (vp_var 0) vps_nil))) (VE.vp (ve_callB cr_lenB lenB_1 B.len Sx.bt_len (vps_cons (vp_var 1) vps_nil))) (nomark _)) (ve_one (ve_callB (cr_all rfl) all_1 B.all Sx.bt_all (vps_cons (VF.vp (vf_lc (own := [("_law_mine_so", 2), ("_law_own", 3)]) sc_law_same.nd (vi_zip (ve_var 0) (ve_var 1) B.zip) (blkOk_by (N := n_law_same) (sc := defScope s_law_same) (by decide +kernel)) (fun _ _ _ _ _ => (vg_seq rfl (vgs_cons (vg_name 2 sc_law_same.nd) (vgs_cons (vg_name 3 sc_law_same.nd) vgs_nil)))) (fun _ _ _ _ _ => vts_nil) (fun _ _ _ _ _ => (ve_call Gself hr (va_cons (ve_var 2) (va_cons (ve_var 3) va_nil)))))) vps_nil))))))) vs_nil)
      (vs_cons (vs_if (VW.vt (vw_or (vt_isN (vp_var 1)) (vw_or1 (vt_val (VE.vp (ve_isi2 (T := "bool") (T2 := "str") (vp_var 1) B.isinstance B.bool B.str Sx.bt_bool Sx.bt_str))))))
      (vs_one (vs_ret (ve_and (ve_cmp (op_eqD (hlt hu)) eq_2 (vp_var 0) (vp_var 1) (nomark _)) (ve_and (ve_cmp (op_eqD (hlt hu)) eq_2 (VE.vp (ve_isi (T := "bool") (vp_var 0) B.isinstance B.bool Sx.bt_bool)) (VE.vp (ve_isi (T := "bool") (vp_var 1) B.isinstance B.bool Sx.bt_bool)) (nomark _)) (ve_one (ve_cmp (op_eqD (hlt hu)) eq_2 (VE.vp (ve_isN (vp_var 0))) (VE.vp (ve_isN (vp_var 1))) (nomark _))))))) vs_nil)
      (vs_one (vs_ret (ve_and (ve_isi (T := "int") (vp_var 0) B.isinstance B.int Sx.bt_int) (ve_and (ve_not (ve_isi (T := "bool") (vp_var 0) B.isinstance B.bool Sx.bt_bool)) (ve_one (ve_cmp (op_eqD (hlt hu)) eq_2 (vp_var 0) (vp_var 1) (nomark _)))))))))
end

abbrev s_law_pick : Stmt := top 21
abbrev n_law_pick : List Str := ["_law_urn", "_law_goods_so", "_law_many_so", "_law_left_so", "_law_found", "_law_turn"]
theorem sc_law_pick : FnScope n_law_pick ["_law_urn", "_law_goods_so", "_law_many_so"] (defScope s_law_pick) := ⟨rfl, rfl, rfl, by decide +kernel, rfl, by decide +kernel, by decide +kernel⟩
def b_law_pick_L1 : En → M Fl :=
  (fun env => (seqN (consD (rd 0) (consD (seqN (consD (pk 3) (fun _ => .ok [])) (one lenD)) (fun _ => .ok []))) (arity 2 dTake)) env >>= fun k => popM 4 3 k env)
def b_law_pick : En → M Fl :=
  (seqS (parS [3, 4] (mxF (seqN (consD (pk 1) (fun _ => .ok [])) (one lstD)) (mxF (fun env => (fun _ => .ok []) env >>= fun xs => guardL xs >>= fun _ => .ok (.lst xs)) (fun _ => .ok []))))
  (seqS (forS (fun env => (consD (pk 2) (fun _ => .ok [])) env >>= rng1) (setG 5)
  b_law_pick_L1)
  (fun env => (fun env => (rd 4) env >>= fun d => .ok (.ret d)) (frz 4 env))))
def d_law_pick : List D → M D := bodyD 6 b_law_pick
section
variable {P : Program} {w : World} {K : PySem.W.Frag} {mg : Str → Option Value} {base : Heap} {C : Nat → Addr}
theorem ok_law_pick {f : Addr} {fd : FuncData} {dvs : List V} (F : FunD K "_law_pick" "_law_pick" (defArgs s_law_pick) (defBody s_law_pick) (defScope s_law_pick) dvs [] f fd) (B : Blt mg) (G_law_take : FnG P w K mg base "_law_take" 1 ["_law_urn", "_law_low_so"] (spV K C 2 dTake)) : FnOk P w K mg base CX0 2 f fd ["_law_urn", "_law_goods_so", "_law_many_so"] (spV K C 3 d_law_pick) :=
  fn_v F sc_law_pick fun cdv A outer s H E hr => by
    have hu : (A.deeper (envOfC "_law_pick" (defScope s_law_pick) s.heap.objs.size f cdv)).units + 65 < cLine := by have := hr.un; omega
    exact (vs_cons (vs_par2 (i := 3) (j := 4) (vm_f (vf_callTy call_list_of lst_1 B.list Sx.bt_list (vps_cons (vp_var 1) vps_nil)) (vm_f (vf_lst va_nil) vm_nil)) sc_law_pick.nd)
      (vs_cons (vs_for (vi_range1 B.range (vps_cons (vp_var 2) vps_nil)) (vg_name 5 sc_law_pick.nd) (vs_one (vs_appPop 4 3 (ve_call G_law_take (hr.mono (by decide)) (va_cons (ve_var 0) (va_cons (ve_callB cr_lenB lenB_1 B.len Sx.bt_len (vps_cons (vp_var 3) vps_nil)) va_nil))))))
      (vs_one (vs_frz 4 (vs_ret (ve_var 4))))))
end

abbrev s_law_tags : Stmt := top 22
abbrev n_law_tags : List Str := ["_law_urn", "_law_many_so", "_law_pool_so"]
theorem sc_law_tags : FnScope n_law_tags ["_law_urn", "_law_many_so"] (defScope s_law_tags) := ⟨rfl, rfl, rfl, by decide +kernel, rfl, by decide +kernel, by decide +kernel⟩
def b_law_tags : En → M Fl :=
  (seqS (setS 2 (fun env => (consD (fun _ => .ok (.str "a")) (consD (fun _ => .ok (.str "b")) (consD (fun _ => .ok (.str "c")) (consD (fun _ => .ok (.str "d")) (consD (fun _ => .ok (.str "ab")) (consD (fun _ => .ok (.str "aa")) (consD (fun _ => .ok (.str "mail")) (consD (fun _ => .ok (.str "z")) (consD (fun _ => .ok (.str "zzzzzzzz")) (consD (fun _ => .ok (.str "ba")) (consD (fun _ => .ok (.str "x")) (consD (fun _ => .ok (.str "port")) (fun _ => .ok []))))))))))))) env >>= fun xs => guardL xs >>= fun _ => .ok (.lst xs)))
  (fun env => (seqN (consD (seqN (consD (seqN (consD (rd 0) (consD (rd 2) (consD (rd 1) (fun _ => .ok [])))) (arity 3 d_law_pick)) (fun _ => .ok [])) (one sortAll)) (fun _ => .ok [])) (one tupD)) env >>= fun d => .ok (.ret d)))
def d_law_tags : List D → M D := bodyD 3 b_law_tags
section
variable {P : Program} {w : World} {K : PySem.W.Frag} {mg : Str → Option Value} {base : Heap} {C : Nat → Addr}
theorem ok_law_tags {f : Addr} {fd : FuncData} {dvs : List V} (F : FunD K "_law_tags" "_law_tags" (defArgs s_law_tags) (defBody s_law_tags) (defScope s_law_tags) dvs [] f fd) (B : Blt mg) (G_law_pick : FnG P w K mg base "_law_pick" 2 ["_law_urn", "_law_goods_so", "_law_many_so"] (spV K C 3 d_law_pick)) : FnOk P w K mg base CX0 3 f fd ["_law_urn", "_law_many_so"] (spV K C 2 d_law_tags) :=
  fn_v F sc_law_tags fun cdv A outer s H E hr => by
    have hu : (A.deeper (envOfC "_law_tags" (defScope s_law_tags) s.heap.objs.size f cdv)).units + 65 < cLine := by have := hr.un; omega
    exact (vs_cons (vs_set (i := 2) (VF.ve (vf_lst (va_cons ve_str (va_cons ve_str (va_cons ve_str (va_cons ve_str (va_cons ve_str (va_cons ve_str (va_cons ve_str (va_cons ve_str (va_cons ve_str (va_cons ve_str (va_cons ve_str (va_cons ve_str va_nil)))))))))))))) sc_law_tags.nd)
      (vs_one (vs_ret (ve_callTy call_tuple_of tup_1 B.tuple Sx.bt_tuple (vps_cons (VF.vp (vf_callB cr_sortAll sortAll_1 B.sorted Sx.bt_sorted (vps_cons (VE.vp (ve_call G_law_pick (hr.mono (by decide)) (va_cons (ve_var 0) (va_cons (ve_var 2) (va_cons (ve_var 1) va_nil))))) vps_nil))) vps_nil)))))
end

abbrev s_law_ties : Stmt := top 23
abbrev n_law_ties : List Str := ["_law_urn", "_law_tags_here", "_law_thick_so", "_law_found", "_law_k", "_law_one", "_law_own"]
theorem sc_law_ties : FnScope n_law_ties ["_law_urn", "_law_tags_here", "_law_thick_so"] (defScope s_law_ties) := ⟨rfl, rfl, rfl, by decide +kernel, rfl, by decide +kernel, by decide +kernel⟩
def b_law_ties_L1 : En → M Fl :=
  (setS 3 (seq2 (pk 3) (compV [6] (fun env => (slV (pk 1) (fun env => (seq2 (pk 4) (fun _ => .ok (.int 1)) opAdd) env >>= fun d => isI d >>= fun i => .ok (some i)) (fun _ => .ok none) opSl) env >>= walkD) (setG 6) (asB (seq2 (seqN (consD (rd 0) (consD (fun _ => .ok (.int 4)) (fun _ => .ok []))) (arity 2 dTake)) (pk 2) opLt)) (fun env => (consD (rd 5) (consD (rd 6) (fun _ => .ok []))) env >>= fun xs => guardL xs >>= fun _ => .ok (.tup xs))) opAdd))
def b_law_ties : En → M Fl :=
  (seqS (setS 3 (fun env => (fun _ => .ok []) env >>= fun xs => guardL xs >>= fun _ => .ok (.lst xs)))
  (seqS (forS (fun env => (rd 1) env >>= seqO >>= fun ds => .ok (enumD ds)) (seqG 2 (consG (setG 4) (consG (setG 5) nilG)))
  b_law_ties_L1)
  (fun env => (seqN (consD (pk 3) (fun _ => .ok [])) (one tupD)) env >>= fun d => .ok (.ret d))))
def d_law_ties : List D → M D := bodyD 7 b_law_ties
section
variable {P : Program} {w : World} {K : PySem.W.Frag} {mg : Str → Option Value} {base : Heap} {C : Nat → Addr}
theorem ok_law_ties {f : Addr} {fd : FuncData} {dvs : List V} (F : FunD K "_law_ties" "_law_ties" (defArgs s_law_ties) (defBody s_law_ties) (defScope s_law_ties) dvs [] f fd) (B : Blt mg) (G_law_take : FnG P w K mg base "_law_take" 1 ["_law_urn", "_law_low_so"] (spV K C 2 dTake)) : FnOk P w K mg base CX0 2 f fd ["_law_urn", "_law_tags_here", "_law_thick_so"] (spV K C 3 d_law_ties) :=
  fn_v F sc_law_ties fun cdv A outer s H E hr => by
    have hu : (A.deeper (envOfC "_law_ties" (defScope s_law_ties) s.heap.objs.size f cdv)).units + 65 < cLine := by have := hr.un; omega
    exact (vs_cons (vs_set (i := 3) (VF.ve (vf_lst va_nil)) sc_law_ties.nd)
      (vs_cons (vs_for (vi_enumA (ve_var 1) B.enumerate) (vg_seq rfl (vgs_cons (vg_name 4 sc_law_ties.nd) (vgs_cons (vg_name 5 sc_law_ties.nd) vgs_nil))) (vs_one (vs_set (i := 3) (ve_op or_add add_2 (vp_var 3) (VF.vp (vf_lc (own := [("_law_own", 6)]) sc_law_ties.nd (vi_seq (ve_slice (vp_var 1) (vo_some (VE.vp (ve_op or_add add_2 (vp_var 4) (VE.vp ve_int)))) vo_none)) (blkOk_by (N := n_law_ties) (sc := defScope s_law_ties) (by decide +kernel)) (fun _ _ _ _ _ => (vg_name 6 sc_law_ties.nd)) (fun _ _ _ _ _ => (vts_one (vt_cmp or_lt lt_2 (VE.vp (ve_call G_law_take (hr.mono (by decide)) (va_cons (ve_var 0) (va_cons ve_int va_nil)))) (vp_var 2) (nomark _)))) (fun _ _ _ _ _ => (ve_tup (va_cons (ve_var 5) (va_cons (ve_var 6) va_nil))))))) sc_law_ties.nd)))
      (vs_one (vs_ret (ve_callTy call_tuple_of tup_1 B.tuple Sx.bt_tuple (vps_cons (vp_var 3) vps_nil))))))
end

abbrev s_law_foe : Stmt := top 24
abbrev n_law_foe : List Str := ["_law_ties_here", "_law_one", "_law_own"]
theorem sc_law_foe : FnScope n_law_foe ["_law_ties_here", "_law_one", "_law_own"] (defScope s_law_foe) := ⟨rfl, rfl, rfl, by decide +kernel, rfl, by decide +kernel, by decide +kernel⟩
def b_law_foe : En → M Fl :=
  (fun env => (seq2 (seqN (consD (seqN (consD (fun env => (consD (rd 1) (consD (rd 2) (fun _ => .ok []))) env >>= fun xs => guardL xs >>= fun _ => .ok (.tup xs)) (fun _ => .ok [])) (one sortAll)) (fun _ => .ok [])) (one tupD)) (pk 0) opIn) env >>= fun d => .ok (.ret d))
def d_law_foe : List D → M D := bodyD 3 b_law_foe
section
variable {P : Program} {w : World} {K : PySem.W.Frag} {mg : Str → Option Value} {base : Heap} {C : Nat → Addr}
theorem ok_law_foe {f : Addr} {fd : FuncData} {dvs : List V} (F : FunD K "_law_foe" "_law_foe" (defArgs s_law_foe) (defBody s_law_foe) (defScope s_law_foe) dvs [] f fd) (B : Blt mg) : FnOk P w K mg base CX0 1 f fd ["_law_ties_here", "_law_one", "_law_own"] (spV K C 3 d_law_foe) :=
  fn_v F sc_law_foe fun cdv A outer s H E hr => by
    have hu : (A.deeper (envOfC "_law_foe" (defScope s_law_foe) s.heap.objs.size f cdv)).units + 65 < cLine := by have := hr.un; omega
    exact (vs_one (vs_ret (ve_cmp (or_in hu) in_2 (VE.vp (ve_callTy call_tuple_of tup_1 B.tuple Sx.bt_tuple (vps_cons (VF.vp (vf_callB cr_sortAll sortAll_1 B.sorted Sx.bt_sorted (vps_cons (VE.vp (ve_tup (va_cons (ve_var 1) (va_cons (ve_var 2) va_nil)))) vps_nil))) vps_nil))) (vp_var 0) (by rfl))))
end

abbrev s_law_host : Stmt := top 25
abbrev n_law_host : List Str := ["_law_tags_here", "_law_ties_here"]
theorem sc_law_host : FnScope n_law_host ["_law_tags_here", "_law_ties_here"] (defScope s_law_host) := ⟨rfl, rfl, rfl, by decide +kernel, rfl, by decide +kernel, by decide +kernel⟩
def b_law_host : En → M Fl :=
  (fun env => (seqN (consD (rd 0) (consD (rd 1) (fun _ => .ok []))) mkBkP) env >>= fun d => .ok (.ret d))
def d_law_host : List D → M D := bodyD 2 b_law_host
section
variable {P : Program} {w : World} {K : PySem.W.Frag} {mg : Str → Option Value} {base : Heap} {C : Nat → Addr}
theorem ok_law_host {f : Addr} {fd : FuncData} {dvs : List V} (F : FunD K "_law_host" "_law_host" (defArgs s_law_host) (defBody s_law_host) (defScope s_law_host) dvs [] f fd) (B : Blt mg)  (GMk2 : MkD P w K mg base "Book" (C 0) 1 ["self", "kinds", "clashes"] (spR (spInit K (C 0))) []) : FnOk P w K mg base CX0 3 f fd ["_law_tags_here", "_law_ties_here"] (spV K C 2 d_law_host) :=
  fn_v F sc_law_host fun cdv A outer s H E hr => by
    have hu : (A.deeper (envOfC "_law_host" (defScope s_law_host) s.heap.objs.size f cdv)).units + 65 < cLine := by have := hr.un; omega
    exact (vs_one (vs_ret (ve_mkBook2 GMk2 (hr.mono (by decide)) (va_cons (ve_var 0) (va_cons (ve_var 1) va_nil)))))
end

abbrev s_law_drawn : Stmt := top 26
abbrev n_law_drawn : List Str := ["_law_urn", "_law_many_so", "_law_tags_here"]
theorem sc_law_drawn : FnScope n_law_drawn ["_law_urn", "_law_many_so"] (defScope s_law_drawn) := ⟨rfl, rfl, rfl, by decide +kernel, rfl, by decide +kernel, by decide +kernel⟩
def b_law_drawn : En → M Fl :=
  (seqS (setS 2 (seqN (consD (rd 0) (consD (rd 1) (fun _ => .ok []))) (arity 2 d_law_tags)))
  (fun env => (fun env => (consD (rd 2) (consD (seqN (consD (rd 0) (consD (rd 2) (consD (seq2 (fun _ => .ok (.int 1)) (seqN (consD (rd 0) (consD (fun _ => .ok (.int 3)) (fun _ => .ok []))) (arity 2 dTake)) opAdd) (fun _ => .ok [])))) (arity 3 d_law_ties)) (fun _ => .ok []))) env >>= fun xs => guardL xs >>= fun _ => .ok (.tup xs)) env >>= fun d => .ok (.ret d)))
def d_law_drawn : List D → M D := bodyD 3 b_law_drawn
section
variable {P : Program} {w : World} {K : PySem.W.Frag} {mg : Str → Option Value} {base : Heap} {C : Nat → Addr}
theorem ok_law_drawn {f : Addr} {fd : FuncData} {dvs : List V} (F : FunD K "_law_drawn" "_law_drawn" (defArgs s_law_drawn) (defBody s_law_drawn) (defScope s_law_drawn) dvs [] f fd) (B : Blt mg) (G_law_tags : FnG P w K mg base "_law_tags" 3 ["_law_urn", "_law_many_so"] (spV K C 2 d_law_tags)) (G_law_ties : FnG P w K mg base "_law_ties" 2 ["_law_urn", "_law_tags_here", "_law_thick_so"] (spV K C 3 d_law_ties)) (G_law_take : FnG P w K mg base "_law_take" 1 ["_law_urn", "_law_low_so"] (spV K C 2 dTake)) : FnOk P w K mg base CX0 4 f fd ["_law_urn", "_law_many_so"] (spV K C 2 d_law_drawn) :=
  fn_v F sc_law_drawn fun cdv A outer s H E hr => by
    have hu : (A.deeper (envOfC "_law_drawn" (defScope s_law_drawn) s.heap.objs.size f cdv)).units + 65 < cLine := by have := hr.un; omega
    exact (vs_cons (vs_set (i := 2) (ve_call G_law_tags (hr.mono (by decide)) (va_cons (ve_var 0) (va_cons (ve_var 1) va_nil))) sc_law_drawn.nd)
      (vs_one (vs_ret (ve_tup (va_cons (ve_var 2) (va_cons (ve_call G_law_ties (hr.mono (by decide)) (va_cons (ve_var 0) (va_cons (ve_var 2) (va_cons (ve_op or_add add_2 (VE.vp ve_int) (VE.vp (ve_call G_law_take (hr.mono (by decide)) (va_cons (ve_var 0) (va_cons ve_int va_nil))))) va_nil)))) va_nil))))))
end

abbrev s_law_ends_four : Stmt := top 28
abbrev n_law_ends_four : List Str := ["_law_ties_here", "_law_a", "_law_b", "_law_c", "_law_d"]
theorem sc_law_ends_four : FnScope n_law_ends_four ["_law_ties_here", "_law_a", "_law_b", "_law_c", "_law_d"] (defScope s_law_ends_four) := ⟨rfl, rfl, rfl, by decide +kernel, rfl, by decide +kernel, by decide +kernel⟩
def b_law_ends_four : En → M Fl :=
  (fun env => (andV (seq2 (pk 4) (pk 2) opNe) (andV (seqN (consD (rd 0) (consD (rd 3) (consD (rd 4) (fun _ => .ok [])))) (arity 3 d_law_foe)) (andV (notV (seqN (consD (rd 0) (consD (rd 1) (consD (rd 4) (fun _ => .ok [])))) (arity 3 d_law_foe))) (notV (seqN (consD (rd 0) (consD (rd 2) (consD (rd 4) (fun _ => .ok [])))) (arity 3 d_law_foe)))))) env >>= fun d => .ok (.ret d))
def d_law_ends_four : List D → M D := bodyD 5 b_law_ends_four
section
variable {P : Program} {w : World} {K : PySem.W.Frag} {mg : Str → Option Value} {base : Heap} {C : Nat → Addr}
theorem ok_law_ends_four {f : Addr} {fd : FuncData} {dvs : List V} (F : FunD K "_law_ends_four" "_law_ends_four" (defArgs s_law_ends_four) (defBody s_law_ends_four) (defScope s_law_ends_four) dvs [] f fd) (B : Blt mg) (G_law_foe : FnG P w K mg base "_law_foe" 1 ["_law_ties_here", "_law_one", "_law_own"] (spV K C 3 d_law_foe)) : FnOk P w K mg base CX0 2 f fd ["_law_ties_here", "_law_a", "_law_b", "_law_c", "_law_d"] (spV K C 5 d_law_ends_four) :=
  fn_v F sc_law_ends_four fun cdv A outer s H E hr => by
    have hu : (A.deeper (envOfC "_law_ends_four" (defScope s_law_ends_four) s.heap.objs.size f cdv)).units + 65 < cLine := by have := hr.un; omega
    exact (vs_one (vs_ret (ve_and (ve_cmp (op_neD (hlt hu)) ne_2 (vp_var 4) (vp_var 2) (nomark _)) (ve_and (ve_call G_law_foe (hr.mono (by decide)) (va_cons (ve_var 0) (va_cons (ve_var 3) (va_cons (ve_var 4) va_nil)))) (ve_and (ve_not (ve_call G_law_foe (hr.mono (by decide)) (va_cons (ve_var 0) (va_cons (ve_var 1) (va_cons (ve_var 4) va_nil))))) (ve_one (ve_not (ve_call G_law_foe (hr.mono (by decide)) (va_cons (ve_var 0) (va_cons (ve_var 2) (va_cons (ve_var 4) va_nil)))))))))))
end

abbrev s_law_rows_of_four : Stmt := top 27
abbrev n_law_rows_of_four : List Str := ["_law_tags_here", "_law_ties_here", "_law_found", "_law_a", "_law_b", "_law_c", "_law_d"]
theorem sc_law_rows_of_four : FnScope n_law_rows_of_four ["_law_tags_here", "_law_ties_here"] (defScope s_law_rows_of_four) := ⟨rfl, rfl, rfl, by decide +kernel, rfl, by decide +kernel, by decide +kernel⟩
def b_law_rows_of_four_L1 : En → M Fl :=
  (ifS (andB (asB (seq2 (pk 5) (pk 3) opNe)) (andB (asB (seqN (consD (rd 1) (consD (rd 4) (consD (rd 5) (fun _ => .ok [])))) (arity 3 d_law_foe))) (notB (asB (seqN (consD (rd 1) (consD (rd 3) (consD (rd 5) (fun _ => .ok [])))) (arity 3 d_law_foe))))))
  (setS 2 (seq2 (pk 2) (compV [6] (fun env => (rd 0) env >>= walkD) (setG 6) (andB (asB (seq2 (pk 3) (pk 6) opLt)) (asB (seqN (consD (rd 1) (consD (rd 3) (consD (rd 4) (consD (rd 5) (consD (rd 6) (fun _ => .ok [])))))) (arity 5 d_law_ends_four)))) (fun env => (consD (rd 3) (consD (rd 4) (consD (rd 5) (consD (rd 6) (fun _ => .ok []))))) env >>= fun xs => guardL xs >>= fun _ => .ok (.tup xs))) opAdd)) (fun env => .ok (.next env)))
def b_law_rows_of_four_L2 : En → M Fl :=
  (forS (fun env => (ifV (andB (asB (seq2 (pk 4) (pk 3) opNe)) (asB (seqN (consD (rd 1) (consD (rd 3) (consD (rd 4) (fun _ => .ok [])))) (arity 3 d_law_foe)))) (rd 0) (fun env => (fun _ => .ok []) env >>= fun xs => guardL xs >>= fun _ => .ok (.lst xs))) env >>= walkD) (setG 5)
  b_law_rows_of_four_L1)
def b_law_rows_of_four_L3 : En → M Fl :=
  (forS (fun env => (rd 0) env >>= walkD) (setG 4)
  b_law_rows_of_four_L2)
def b_law_rows_of_four : En → M Fl :=
  (seqS (setS 2 (fun env => (fun _ => .ok []) env >>= fun xs => guardL xs >>= fun _ => .ok (.lst xs)))
  (seqS (forS (fun env => (rd 0) env >>= walkD) (setG 3)
  b_law_rows_of_four_L3)
  (fun env => (seqN (consD (pk 2) (fun _ => .ok [])) (one sortAll)) env >>= fun d => .ok (.ret d))))
def d_law_rows_of_four : List D → M D := bodyD 7 b_law_rows_of_four
section
variable {P : Program} {w : World} {K : PySem.W.Frag} {mg : Str → Option Value} {base : Heap} {C : Nat → Addr}
theorem ok_law_rows_of_four {f : Addr} {fd : FuncData} {dvs : List V} (F : FunD K "_law_rows_of_four" "_law_rows_of_four" (defArgs s_law_rows_of_four) (defBody s_law_rows_of_four) (defScope s_law_rows_of_four) dvs [] f fd) (B : Blt mg) (G_law_foe : FnG P w K mg base "_law_foe" 1 ["_law_ties_here", "_law_one", "_law_own"] (spV K C 3 d_law_foe)) (G_law_ends_four : FnG P w K mg base "_law_ends_four" 2 ["_law_ties_here", "_law_a", "_law_b", "_law_c", "_law_d"] (spV K C 5 d_law_ends_four)) : FnOk P w K mg base CX0 3 f fd ["_law_tags_here", "_law_ties_here"] (spV K C 2 d_law_rows_of_four) :=
  fn_v F sc_law_rows_of_four fun cdv A outer s H E hr => by
    have hu : (A.deeper (envOfC "_law_rows_of_four" (defScope s_law_rows_of_four) s.heap.objs.size f cdv)).units + 65 < cLine := by have := hr.un; omega
    exact (vs_cons (vs_set (i := 2) (VF.ve (vf_lst va_nil)) sc_law_rows_of_four.nd)
      (vs_cons (vs_for (vi_seq (ve_var 0)) (vg_name 3 sc_law_rows_of_four.nd) (vs_one (vs_for (vi_seq (ve_var 0)) (vg_name 4 sc_law_rows_of_four.nd) (vs_one (vs_for (vi_seq (ve_if (VW.vt (vw_and (vt_cmp (op_neD (hlt hu)) ne_2 (vp_var 4) (vp_var 3) (nomark _)) (vw_and1 (vt_val (VE.vp (ve_call G_law_foe (hr.mono (by decide)) (va_cons (ve_var 1) (va_cons (ve_var 3) (va_cons (ve_var 4) va_nil))))))))) (ve_var 0) (VF.ve (vf_lst va_nil)))) (vg_name 5 sc_law_rows_of_four.nd) (vs_one (vs_if (VW.vt (vw_and (vt_cmp (op_neD (hlt hu)) ne_2 (vp_var 5) (vp_var 3) (nomark _)) (vw_and (vt_val (VE.vp (ve_call G_law_foe (hr.mono (by decide)) (va_cons (ve_var 1) (va_cons (ve_var 4) (va_cons (ve_var 5) va_nil)))))) (vw_and1 (vt_not (vt_val (VE.vp (ve_call G_law_foe (hr.mono (by decide)) (va_cons (ve_var 1) (va_cons (ve_var 3) (va_cons (ve_var 5) va_nil)))))))))))
      (vs_one (vs_set (i := 2) (ve_op or_add add_2 (vp_var 2) (VF.vp (vf_lc (own := [("_law_d", 6)]) sc_law_rows_of_four.nd (vi_seq (ve_var 0)) (blkOk_by (N := n_law_rows_of_four) (sc := defScope s_law_rows_of_four) (by decide +kernel)) (fun _ _ _ _ _ => (vg_name 6 sc_law_rows_of_four.nd)) (fun _ _ _ _ _ => (vts_one (VW.vt (vw_and (vt_cmp or_lt lt_2 (vp_var 3) (vp_var 6) (nomark _)) (vw_and1 (vt_val (VE.vp (ve_call G_law_ends_four (hr.mono (by decide)) (va_cons (ve_var 1) (va_cons (ve_var 3) (va_cons (ve_var 4) (va_cons (ve_var 5) (va_cons (ve_var 6) va_nil))))))))))))) (fun _ _ _ _ _ => (ve_tup (va_cons (ve_var 3) (va_cons (ve_var 4) (va_cons (ve_var 5) (va_cons (ve_var 6) va_nil))))))))) sc_law_rows_of_four.nd)) vs_nil)))))))
      (vs_one (vs_ret (VF.ve (vf_callB cr_sortAll sortAll_1 B.sorted Sx.bt_sorted (vps_cons (vp_var 2) vps_nil)))))))
end

abbrev s_law_mixed : Stmt := top 29
abbrev n_law_mixed : List Str := ["_law_urn", "_law_tags_here"]
theorem sc_law_mixed : FnScope n_law_mixed ["_law_urn", "_law_tags_here"] (defScope s_law_mixed) := ⟨rfl, rfl, rfl, by decide +kernel, rfl, by decide +kernel, by decide +kernel⟩
def b_law_mixed : En → M Fl :=
  (fun env => (seqN (consD (seqN (consD (rd 0) (consD (rd 1) (consD (seqN (consD (pk 1) (fun _ => .ok [])) (one lenD)) (fun _ => .ok [])))) (arity 3 d_law_pick)) (fun _ => .ok [])) (one tupND)) env >>= fun d => .ok (.ret d))
def d_law_mixed : List D → M D := bodyD 2 b_law_mixed
section
variable {P : Program} {w : World} {K : PySem.W.Frag} {mg : Str → Option Value} {base : Heap} {C : Nat → Addr}
theorem ok_law_mixed {f : Addr} {fd : FuncData} {dvs : List V} (F : FunD K "_law_mixed" "_law_mixed" (defArgs s_law_mixed) (defBody s_law_mixed) (defScope s_law_mixed) dvs [] f fd) (B : Blt mg) (G_law_pick : FnG P w K mg base "_law_pick" 2 ["_law_urn", "_law_goods_so", "_law_many_so"] (spV K C 3 d_law_pick)) : FnOk P w K mg base CX0 3 f fd ["_law_urn", "_law_tags_here"] (spV K C 2 d_law_mixed) :=
  fn_v F sc_law_mixed fun cdv A outer s H E hr => by
    have hu : (A.deeper (envOfC "_law_mixed" (defScope s_law_mixed) s.heap.objs.size f cdv)).units + 65 < cLine := by have := hr.un; omega
    exact (vs_one (vs_ret (ve_callTy cr_tupN tupN_1 B.tuple Sx.bt_tuple (vps_cons (VE.vp (ve_call G_law_pick (hr.mono (by decide)) (va_cons (ve_var 0) (va_cons (ve_var 1) (va_cons (ve_callB cr_lenB lenB_1 B.len Sx.bt_len (vps_cons (vp_var 1) vps_nil)) va_nil))))) vps_nil))))
end

abbrev s_law_due : Stmt := top 30
abbrev n_law_due : List Str := ["_law_fours_so", "_law_order_so", "_law_a", "_law_b", "_law_c", "_law_d"]
theorem sc_law_due : FnScope n_law_due ["_law_fours_so", "_law_order_so"] (defScope s_law_due) := ⟨rfl, rfl, rfl, by decide +kernel, rfl, by decide +kernel, by decide +kernel⟩
def b_law_due_L1 : En → M Fl :=
  (ifS (andB (asB (seq2 (seq2 (pk 1) (rd 2) opTIndex) (seq2 (pk 1) (rd 3) opTIndex) opLt)) (asB (seq2 (seq2 (pk 1) (rd 5) opTIndex) (seq2 (pk 1) (rd 4) opTIndex) opLt)))
  (fun env => (fun env => (consD (rd 2) (consD (rd 3) (consD (rd 4) (consD (rd 5) (fun _ => .ok []))))) env >>= fun xs => guardL xs >>= fun _ => .ok (.tup xs)) env >>= fun d => .ok (.ret d)) (fun env => .ok (.next env)))
def b_law_due : En → M Fl :=
  (seqS (forS (fun env => (rd 0) env >>= walkD) (seqG 4 (consG (setG 2) (consG (setG 3) (consG (setG 4) (consG (setG 5) nilG)))))
  b_law_due_L1)
  (fun env => (fun _ => .ok .non) env >>= fun d => .ok (.ret d)))
def d_law_due : List D → M D := bodyD 6 b_law_due
section
variable {P : Program} {w : World} {K : PySem.W.Frag} {mg : Str → Option Value} {base : Heap} {C : Nat → Addr}
theorem ok_law_due {f : Addr} {fd : FuncData} {dvs : List V} (F : FunD K "_law_due" "_law_due" (defArgs s_law_due) (defBody s_law_due) (defScope s_law_due) dvs [] f fd) (B : Blt mg) : FnOk P w K mg base CX0 1 f fd ["_law_fours_so", "_law_order_so"] (spV K C 2 d_law_due) :=
  fn_v F sc_law_due fun cdv A outer s H E hr => by
    have hu : (A.deeper (envOfC "_law_due" (defScope s_law_due) s.heap.objs.size f cdv)).units + 65 < cLine := by have := hr.un; omega
    exact (vs_cons (vs_for (vi_seq (ve_var 0)) (vg_seq rfl (vgs_cons (vg_name 2 sc_law_due.nd) (vgs_cons (vg_name 3 sc_law_due.nd) (vgs_cons (vg_name 4 sc_law_due.nd) (vgs_cons (vg_name 5 sc_law_due.nd) vgs_nil))))) (vs_one (vs_if (VW.vt (vw_and (vt_cmp or_lt lt_2 (VE.vp (ve_tindex (vp_var 1) (ve_var 2))) (VE.vp (ve_tindex (vp_var 1) (ve_var 3))) (nomark _)) (vw_and1 (vt_cmp or_lt lt_2 (VE.vp (ve_tindex (vp_var 1) (ve_var 5))) (VE.vp (ve_tindex (vp_var 1) (ve_var 4))) (nomark _)))))
      (vs_one (vs_ret (ve_tup (va_cons (ve_var 2) (va_cons (ve_var 3) (va_cons (ve_var 4) (va_cons (ve_var 5) va_nil))))))) vs_nil)))
      (vs_one (vs_ret ve_non)))
end

abbrev s_law_case_right : Stmt := top 31
abbrev n_law_case_right : List Str := ["_law_urn", "_law_tags_here", "_law_ties_here", "_law_host_here", "_law_fours_so", "_law_turn", "_law_order_so", "_law_goal"]
theorem sc_law_case_right : FnScope n_law_case_right ["_law_urn", "_law_tags_here", "_law_ties_here"] (defScope s_law_case_right) := ⟨rfl, rfl, rfl, by decide +kernel, rfl, by decide +kernel, by decide +kernel⟩
def b_law_case_right_L1 : En → M Fl :=
  (seqS (setS 6 (seqN (consD (rd 0) (consD (rd 1) (fun _ => .ok []))) (arity 2 d_law_mixed)))
  (seqS (setS 7 (seqN (consD (rd 4) (consD (rd 6) (fun _ => .ok []))) (arity 2 d_law_due)))
  (ifS (notB (asB (seqN (consD (fun env => (consD (seqN (consD (rd 3) (consD (fun env => (rd 6) env >>= fun d => .ok (wkD d)) (fun _ => .ok []))) (arity 2 dbad_four)) (consD (seqN (consD (seqN (consD (fun env => (rd 6) env >>= fun d => .ok (wkD d)) (fun _ => .ok [])) (one lstD)) (consD (rd 3) (fun _ => .ok []))) (fun xs => arity 2 dbad_four (permL (["order", "book"] : List Str).length [1, 0] [] xs))) (fun _ => .ok []))) env >>= fun xs => guardL xs >>= fun _ => .ok (.lst xs)) (consD (fun env => (consD (rd 7) (consD (rd 7) (fun _ => .ok []))) env >>= fun xs => guardL xs >>= fun _ => .ok (.lst xs)) (fun _ => .ok []))) (arity 2 (d_law_same 8)))))
  (fun env => (fun _ => .ok (.bl false)) env >>= fun d => .ok (.ret d)) (fun env => .ok (.next env)))))
def b_law_case_right : En → M Fl :=
  (seqS (parS [3, 4] (mxV (seqN (consD (rd 1) (consD (rd 2) (fun _ => .ok []))) (arity 2 d_law_host)) (mxV (seqN (consD (rd 1) (consD (rd 2) (fun _ => .ok []))) (arity 2 d_law_rows_of_four)) (fun _ => .ok []))))
  (seqS (forS (fun env => (consD (fun _ => .ok (.int 5)) (fun _ => .ok [])) env >>= rng1) (setG 5)
  b_law_case_right_L1)
  (fun env => (fun _ => .ok (.bl true)) env >>= fun d => .ok (.ret d))))
def d_law_case_right : List D → M D := bodyD 8 b_law_case_right
section
variable {P : Program} {w : World} {K : PySem.W.Frag} {mg : Str → Option Value} {base : Heap} {C : Nat → Addr}
theorem ok_law_case_right {f : Addr} {fd : FuncData} {dvs : List V} (F : FunD K "_law_case_right" "_law_case_right" (defArgs s_law_case_right) (defBody s_law_case_right) (defScope s_law_case_right) dvs [] f fd) (B : Blt mg) (G_law_host : FnG P w K mg base "_law_host" 3 ["_law_tags_here", "_law_ties_here"] (spV K C 2 d_law_host)) (G_law_rows_of_four : FnG P w K mg base "_law_rows_of_four" 3 ["_law_tags_here", "_law_ties_here"] (spV K C 2 d_law_rows_of_four)) (G_law_mixed : FnG P w K mg base "_law_mixed" 3 ["_law_urn", "_law_tags_here"] (spV K C 2 d_law_mixed)) (G_law_due : FnG P w K mg base "_law_due" 1 ["_law_fours_so", "_law_order_so"] (spV K C 2 d_law_due)) (G_law_same : FnG P w K mg base "_law_same" 8 ["_law_got", "_law_goal"] (spV K C 2 (d_law_same 8))) (Gbad_four : FnG P w K mg base "bad_four" 5 ["book", "order"] (spV K C 2 dbad_four)) (Kbad_four1_0 : KwN P w K mg base "bad_four" 5 ["book", "order"] ["order", "book"] [1, 0] (spV K C 2 dbad_four))  : FnOk P w K mg base CX0 9 f fd ["_law_urn", "_law_tags_here", "_law_ties_here"] (spV K C 3 d_law_case_right) :=
  fn_v F sc_law_case_right fun cdv A outer s H E hr => by
    have hu : (A.deeper (envOfC "_law_case_right" (defScope s_law_case_right) s.heap.objs.size f cdv)).units + 65 < cLine := by have := hr.un; omega
    exact (vs_cons (vs_par2 (i := 3) (j := 4) (vm_v (ve_call G_law_host (hr.mono (by decide)) (va_cons (ve_var 1) (va_cons (ve_var 2) va_nil))) (vm_v (ve_call G_law_rows_of_four (hr.mono (by decide)) (va_cons (ve_var 1) (va_cons (ve_var 2) va_nil))) vm_nil)) sc_law_case_right.nd)
      (vs_cons (vs_for (vi_range1 B.range (vps_cons (VE.vp ve_int) vps_nil)) (vg_name 5 sc_law_case_right.nd) (vs_cons (vs_set (i := 6) (ve_call G_law_mixed (hr.mono (by decide)) (va_cons (ve_var 0) (va_cons (ve_var 1) va_nil))) sc_law_case_right.nd)
      (vs_cons (vs_set (i := 7) (ve_call G_law_due (hr.mono (by decide)) (va_cons (ve_var 4) (va_cons (ve_var 6) va_nil))) sc_law_case_right.nd)
      (vs_one (vs_if (vt_not (vt_val (VE.vp (ve_call G_law_same (hr.mono (by decide)) (va_cons (VF.ve (vf_lst (va_cons (ve_call Gbad_four (hr.mono (by decide)) (va_cons (ve_var 3) (va_cons (VE.wk (ve_var 6)) va_nil))) (va_cons (ve_callKw Kbad_four1_0 (hr.mono (by decide)) (vk_cons (VF.ve (vf_callTy call_list_of lst_1 B.list Sx.bt_list (vps_cons (VE.vp (VE.wk (ve_var 6))) vps_nil))) (vk_cons (ve_var 3) vk_nil))) va_nil)))) (va_cons (VF.ve (vf_lst (va_cons (ve_var 7) (va_cons (ve_var 7) va_nil)))) va_nil))))))
      (vs_one (vs_ret ve_bl)) vs_nil)))))
      (vs_one (vs_ret ve_bl))))
end

abbrev s_law_by_hand_right : Stmt := top 32
abbrev n_law_by_hand_right : List Str := ["_law_row_so", "_law_ring_so", "_law_some", "_law_got", "_law_own", "_law_goal", "_law_tags_here", "_law_k", "_law_far"]
theorem sc_law_by_hand_right : FnScope n_law_by_hand_right [] (defScope s_law_by_hand_right) := ⟨rfl, rfl, rfl, by decide +kernel, rfl, by decide +kernel, by decide +kernel⟩
def b_law_by_hand_right : En → M Fl :=
  (seqS (fun env => (fun env => (consD (seqN (consD (fun _ => .ok (.str "a b c d; a-b b-c c-d")) (fun _ => .ok [])) (arity 1 (one ofBk))) (consD (seqN (consD (fun _ => .ok (.str "a b c d e; a-b a-e b-c c-d d-e")) (fun _ => .ok [])) (arity 1 (one ofBk))) (fun _ => .ok []))) env >>= fun xs => guardL xs >>= fun _ => .ok (.tup xs)) env >>= fun d => (seqG 2 (consG (setG 0) (consG (setG 1) nilG))) d env >>= fun env' => .ok (.next env'))
  (seqS (setS 2 (fun env => (consD (fun env => (consD (fun _ => .ok (.str "a")) (consD (fun _ => .ok (.str "d")) (consD (fun _ => .ok (.str "b")) (consD (fun _ => .ok (.str "c")) (fun _ => .ok []))))) env >>= fun xs => guardL xs >>= fun _ => .ok (.tup xs)) (consD (fun env => (consD (fun _ => .ok (.str "d")) (consD (fun _ => .ok (.str "a")) (consD (fun _ => .ok (.str "c")) (consD (fun _ => .ok (.str "b")) (fun _ => .ok []))))) env >>= fun xs => guardL xs >>= fun _ => .ok (.tup xs)) (consD (fun env => (consD (fun _ => .ok (.str "a")) (consD (fun _ => .ok (.str "b")) (consD (fun _ => .ok (.str "d")) (consD (fun _ => .ok (.str "c")) (fun _ => .ok []))))) env >>= fun xs => guardL xs >>= fun _ => .ok (.tup xs)) (consD (fun env => (consD (fun _ => .ok (.str "d")) (consD (fun _ => .ok (.str "c")) (consD (fun _ => .ok (.str "a")) (consD (fun _ => .ok (.str "b")) (fun _ => .ok []))))) env >>= fun xs => guardL xs >>= fun _ => .ok (.tup xs)) (consD (fun env => (consD (fun _ => .ok (.str "a")) (consD (fun _ => .ok (.str "d")) (consD (fun _ => .ok (.str "c")) (consD (fun _ => .ok (.str "b")) (fun _ => .ok []))))) env >>= fun xs => guardL xs >>= fun _ => .ok (.tup xs)) (consD (fun env => (consD (fun _ => .ok (.str "d")) (consD (fun _ => .ok (.str "a")) (consD (fun _ => .ok (.str "b")) (consD (fun _ => .ok (.str "c")) (fun _ => .ok []))))) env >>= fun xs => guardL xs >>= fun _ => .ok (.tup xs)) (fun _ => .ok []))))))) env >>= fun xs => guardL xs >>= fun _ => .ok (.lst xs)))
  (seqS (setS 2 (seq2 (pk 2) (fun env => (consD (fun env => (consD (fun _ => .ok (.str "a")) (consD (fun _ => .ok (.str "b")) (consD (fun _ => .ok (.str "c")) (consD (fun _ => .ok (.str "d")) (fun _ => .ok []))))) env >>= fun xs => guardL xs >>= fun _ => .ok (.tup xs)) (consD (fun env => (consD (fun _ => .ok (.str "b")) (consD (fun _ => .ok (.str "a")) (consD (fun _ => .ok (.str "c")) (consD (fun _ => .ok (.str "d")) (fun _ => .ok []))))) env >>= fun xs => guardL xs >>= fun _ => .ok (.tup xs)) (consD (fun env => (consD (fun _ => .ok (.str "c")) (consD (fun _ => .ok (.str "b")) (consD (fun _ => .ok (.str "a")) (consD (fun _ => .ok (.str "d")) (fun _ => .ok []))))) env >>= fun xs => guardL xs >>= fun _ => .ok (.tup xs)) (consD (fun env => (consD (fun _ => .ok (.str "d")) (consD (fun _ => .ok (.str "c")) (consD (fun _ => .ok (.str "b")) (consD (fun _ => .ok (.str "a")) (fun _ => .ok []))))) env >>= fun xs => guardL xs >>= fun _ => .ok (.tup xs)) (consD (fun env => (consD (fun _ => .ok (.str "b")) (consD (fun _ => .ok (.str "c")) (consD (fun _ => .ok (.str "d")) (consD (fun _ => .ok (.str "a")) (fun _ => .ok []))))) env >>= fun xs => guardL xs >>= fun _ => .ok (.tup xs)) (consD (fun env => (consD (fun _ => .ok (.str "a")) (consD (fun _ => .ok (.str "c")) (consD (fun _ => .ok (.str "b")) (consD (fun _ => .ok (.str "d")) (fun _ => .ok []))))) env >>= fun xs => guardL xs >>= fun _ => .ok (.tup xs)) (fun _ => .ok []))))))) env >>= fun xs => guardL xs >>= fun _ => .ok (.lst xs)) opAdd))
  (seqS (setS 3 (compV [4] (fun env => (rd 2) env >>= walkD) (setG 4) (fun _ => .ok true) (seqN (consD (rd 0) (consD (rd 4) (fun _ => .ok []))) (arity 2 dbad_four))))
  (seqS (setS 5 (seq2 (seq2 (fun env => (consD (fun env => (consD (fun _ => .ok (.str "a")) (consD (fun _ => .ok (.str "b")) (consD (fun _ => .ok (.str "c")) (consD (fun _ => .ok (.str "d")) (fun _ => .ok []))))) env >>= fun xs => guardL xs >>= fun _ => .ok (.tup xs)) (fun _ => .ok [])) env >>= fun xs => guardL xs >>= fun _ => .ok (.lst xs)) (fun _ => .ok (.int 6)) opMul) (seq2 (fun env => (consD (fun _ => .ok .non) (fun _ => .ok [])) env >>= fun xs => guardL xs >>= fun _ => .ok (.lst xs)) (fun _ => .ok (.int 6)) opMul) opAdd))
  (seqS (setS 3 (seq2 (pk 3) (fun env => (consD (seqN (consD (rd 1) (consD (fun env => (consD (fun _ => .ok (.str "a")) (consD (fun _ => .ok (.str "b")) (consD (fun _ => .ok (.str "c")) (consD (fun _ => .ok (.str "d")) (consD (fun _ => .ok (.str "e")) (fun _ => .ok [])))))) env >>= fun xs => guardL xs >>= fun _ => .ok (.tup xs)) (fun _ => .ok []))) (arity 2 dbad_four)) (consD (seqN (consD (rd 1) (consD (fun env => (consD (fun _ => .ok (.str "e")) (consD (fun _ => .ok (.str "d")) (consD (fun _ => .ok (.str "c")) (consD (fun _ => .ok (.str "b")) (consD (fun _ => .ok (.str "a")) (fun _ => .ok [])))))) env >>= fun xs => guardL xs >>= fun _ => .ok (.tup xs)) (fun _ => .ok []))) (arity 2 dbad_four)) (consD (seqN (consD (seqN (consD (fun env => (fun _ => .ok []) env >>= fun xs => guardL xs >>= fun _ => .ok (.tup xs)) (fun _ => .ok [])) mkBk1) (consD (fun env => (fun _ => .ok []) env >>= fun xs => guardL xs >>= fun _ => .ok (.tup xs)) (fun _ => .ok []))) (arity 2 dbad_four)) (fun _ => .ok [])))) env >>= fun xs => guardL xs >>= fun _ => .ok (.lst xs)) opAdd))
  (seqS (setS 5 (seq2 (pk 5) (fun env => (consD (fun env => (consD (fun _ => .ok (.str "a")) (consD (fun _ => .ok (.str "e")) (consD (fun _ => .ok (.str "d")) (consD (fun _ => .ok (.str "c")) (fun _ => .ok []))))) env >>= fun xs => guardL xs >>= fun _ => .ok (.tup xs)) (consD (fun env => (consD (fun _ => .ok (.str "c")) (consD (fun _ => .ok (.str "b")) (consD (fun _ => .ok (.str "a")) (consD (fun _ => .ok (.str "e")) (fun _ => .ok []))))) env >>= fun xs => guardL xs >>= fun _ => .ok (.tup xs)) (consD (fun _ => .ok .non) (fun _ => .ok [])))) env >>= fun xs => guardL xs >>= fun _ => .ok (.lst xs)) opAdd))
  (seqS (setS 3 (seq2 (pk 3) (fun env => (consD (seqN (consD (seqN (consD (fun _ => .ok (.str "a b c d; a-a a-b b-c c-c c-d")) (fun _ => .ok [])) (arity 1 (one ofBk))) (consD (fun env => (consD (fun _ => .ok (.str "a")) (consD (fun _ => .ok (.str "d")) (consD (fun _ => .ok (.str "b")) (consD (fun _ => .ok (.str "c")) (fun _ => .ok []))))) env >>= fun xs => guardL xs >>= fun _ => .ok (.tup xs)) (fun _ => .ok []))) (arity 2 dbad_four)) (consD (seqN (consD (fun env => (rd 0) env >>= fun d => match d with
  | .book ks cs => dBturned [.book ks cs]
  | _ => .bad) (consD (fun env => (consD (fun _ => .ok (.str "b")) (consD (fun _ => .ok (.str "c")) (consD (fun _ => .ok (.str "a")) (consD (fun _ => .ok (.str "d")) (fun _ => .ok []))))) env >>= fun xs => guardL xs >>= fun _ => .ok (.tup xs)) (fun _ => .ok []))) (arity 2 dbad_four)) (fun _ => .ok []))) env >>= fun xs => guardL xs >>= fun _ => .ok (.lst xs)) opAdd))
  (seqS (setS 5 (seq2 (pk 5) (fun env => (consD (fun env => (consD (fun _ => .ok (.str "a")) (consD (fun _ => .ok (.str "b")) (consD (fun _ => .ok (.str "c")) (consD (fun _ => .ok (.str "d")) (fun _ => .ok []))))) env >>= fun xs => guardL xs >>= fun _ => .ok (.tup xs)) (consD (fun env => (consD (fun _ => .ok (.str "b")) (consD (fun _ => .ok (.str "d")) (consD (fun _ => .ok (.str "a")) (consD (fun _ => .ok (.str "c")) (fun _ => .ok []))))) env >>= fun xs => guardL xs >>= fun _ => .ok (.tup xs)) (fun _ => .ok []))) env >>= fun xs => guardL xs >>= fun _ => .ok (.lst xs)) opAdd))
  (seqS (setS 6 (compV [7] (fun env => (consD (fun _ => .ok (.int 40)) (fun _ => .ok [])) env >>= rng1) (setG 7) (fun _ => .ok true) (seq2 (seq2 (fun _ => .ok (.str "k")) (seq2 (fun _ => .ok (.str "abcdefghij")) (seq2 (pk 7) (fun _ => .ok (.int 4)) opDiv) opIx) opAdd) (seq2 (fun _ => .ok (.str "abcd")) (seq2 (pk 7) (fun _ => .ok (.int 4)) opMod) opIx) opAdd)))
  (seqS (setS 8 (seqN (consD (rd 6) (consD (compV [7] (fun env => (consD (fun _ => .ok (.int 39)) (fun _ => .ok [])) env >>= rng1) (setG 7) (fun _ => .ok true) (fun env => (consD (seq2 (pk 6) (pk 7) opIx) (consD (seq2 (pk 6) (seq2 (pk 7) (fun _ => .ok (.int 1)) opAdd) opIx) (fun _ => .ok []))) env >>= fun xs => guardL xs >>= fun _ => .ok (.tup xs))) (fun _ => .ok []))) mkBkP))
  (seqS (setS 3 (seq2 (pk 3) (fun env => (consD (seqN (consD (rd 8) (consD (rd 6) (fun _ => .ok []))) (arity 2 dbad_four)) (consD (seqN (consD (rd 8) (consD (seq2 (slV (pk 6) (fun _ => .ok none) (fun env => (fun _ => .ok (.int 36)) env >>= fun d => isI d >>= fun i => .ok (some i)) opSl) (fun env => (consD (seq2 (pk 6) (fun _ => .ok (.int 36)) opIx) (consD (seq2 (pk 6) (fun _ => .ok (.int 39)) opIx) (consD (seq2 (pk 6) (fun _ => .ok (.int 37)) opIx) (consD (seq2 (pk 6) (fun _ => .ok (.int 38)) opIx) (fun _ => .ok []))))) env >>= fun xs => guardL xs >>= fun _ => .ok (.lst xs)) opAdd) (fun _ => .ok []))) (arity 2 dbad_four)) (fun _ => .ok []))) env >>= fun xs => guardL xs >>= fun _ => .ok (.lst xs)) opAdd))
  (fun env => (seqN (consD (rd 3) (consD (seq2 (pk 5) (fun env => (consD (fun _ => .ok .non) (consD (seqN (consD (slV (pk 6) (fun env => (fun _ => .ok (.int 36)) env >>= fun d => isI d >>= fun i => .ok (some i)) (fun _ => .ok none) opSl) (fun _ => .ok [])) (one tupD)) (fun _ => .ok []))) env >>= fun xs => guardL xs >>= fun _ => .ok (.lst xs)) opAdd) (fun _ => .ok []))) (arity 2 (d_law_same 8))) env >>= fun d => .ok (.ret d))))))))))))))
def d_law_by_hand_right : List D → M D := bodyD 9 b_law_by_hand_right
section
variable {P : Program} {w : World} {K : PySem.W.Frag} {mg : Str → Option Value} {base : Heap} {C : Nat → Addr}
theorem ok_law_by_hand_right {f : Addr} {fd : FuncData} {dvs : List V} (F : FunD K "_law_by_hand_right" "_law_by_hand_right" (defArgs s_law_by_hand_right) (defBody s_law_by_hand_right) (defScope s_law_by_hand_right) dvs [] f fd) (B : Blt mg) (Gbad_four : FnG P w K mg base "bad_four" 5 ["book", "order"] (spV K C 2 dbad_four)) (G_law_same : FnG P w K mg base "_law_same" 8 ["_law_got", "_law_goal"] (spV K C 2 (d_law_same 8)))  {e0 : Addr} (GMk1 : MkD P w K mg base "Book" (C 0) 1 ["self", "kinds", "clashes"] (spR (spInit K (C 0))) [.ref e0]) (hE : ∀ H, SqT K H e0 [])  (GMk2 : MkD P w K mg base "Book" (C 0) 1 ["self", "kinds", "clashes"] (spR (spInit K (C 0))) [])  (GOf : SmG P w K mg base (C 0) "of" 3 ["text"] (spV K C 1 (one ofBk))) (mC : mg "Book" = some (.ref (C 0)))  (GBturned : MtG P w K mg base (C 0) "turned" 3 ["self"] (spV K C 1 dBturned)) (cl : Cls K (C 0)) : FnOk P w K mg base CX0 9 f fd [] (spV K C 0 d_law_by_hand_right) :=
  fn_v F sc_law_by_hand_right fun cdv A outer s H E hr => by
    have hu : (A.deeper (envOfC "_law_by_hand_right" (defScope s_law_by_hand_right) s.heap.objs.size f cdv)).units + 65 < cLine := by have := hr.un; omega
    exact (vs_cons (vs_asg (ve_tup (va_cons (ve_ofBook GOf mC (hr.mono (by decide)) (va_cons ve_str va_nil)) (va_cons (ve_ofBook GOf mC (hr.mono (by decide)) (va_cons ve_str va_nil)) va_nil))) (vg_seq rfl (vgs_cons (vg_name 0 sc_law_by_hand_right.nd) (vgs_cons (vg_name 1 sc_law_by_hand_right.nd) vgs_nil))))
      (vs_cons (vs_set (i := 2) (VF.ve (vf_lst (va_cons (ve_tup (va_cons ve_str (va_cons ve_str (va_cons ve_str (va_cons ve_str va_nil))))) (va_cons (ve_tup (va_cons ve_str (va_cons ve_str (va_cons ve_str (va_cons ve_str va_nil))))) (va_cons (ve_tup (va_cons ve_str (va_cons ve_str (va_cons ve_str (va_cons ve_str va_nil))))) (va_cons (ve_tup (va_cons ve_str (va_cons ve_str (va_cons ve_str (va_cons ve_str va_nil))))) (va_cons (ve_tup (va_cons ve_str (va_cons ve_str (va_cons ve_str (va_cons ve_str va_nil))))) (va_cons (ve_tup (va_cons ve_str (va_cons ve_str (va_cons ve_str (va_cons ve_str va_nil))))) va_nil)))))))) sc_law_by_hand_right.nd)
      (vs_cons (vs_set (i := 2) (ve_op or_add add_2 (vp_var 2) (VF.vp (vf_lst (va_cons (ve_tup (va_cons ve_str (va_cons ve_str (va_cons ve_str (va_cons ve_str va_nil))))) (va_cons (ve_tup (va_cons ve_str (va_cons ve_str (va_cons ve_str (va_cons ve_str va_nil))))) (va_cons (ve_tup (va_cons ve_str (va_cons ve_str (va_cons ve_str (va_cons ve_str va_nil))))) (va_cons (ve_tup (va_cons ve_str (va_cons ve_str (va_cons ve_str (va_cons ve_str va_nil))))) (va_cons (ve_tup (va_cons ve_str (va_cons ve_str (va_cons ve_str (va_cons ve_str va_nil))))) (va_cons (ve_tup (va_cons ve_str (va_cons ve_str (va_cons ve_str (va_cons ve_str va_nil))))) va_nil))))))))) sc_law_by_hand_right.nd)
      (vs_cons (VS.fr (vs_ownLc (own := [("_law_own", 4)]) (i := 3) sc_law_by_hand_right.nd (vi_seq (ve_var 2)) (blkOk_by (N := n_law_by_hand_right) (sc := defScope s_law_by_hand_right) (by decide +kernel)) (fun _ _ _ _ _ => (vg_name 4 sc_law_by_hand_right.nd)) (fun _ _ _ _ _ => vts_nil) (fun _ _ _ _ _ => (ve_call Gbad_four (hr.mono (by decide)) (va_cons (ve_var 0) (va_cons (ve_var 4) va_nil)))) (sw_true rfl rfl rfl (by decide +kernel))))
      (vs_cons (vs_set (i := 5) (ve_op or_add add_2 (VE.vp (ve_op or_mul mul_2 (VF.vp (vf_lst (va_cons (ve_tup (va_cons ve_str (va_cons ve_str (va_cons ve_str (va_cons ve_str va_nil))))) va_nil))) (VE.vp ve_int))) (VE.vp (ve_op or_mul mul_2 (VF.vp (vf_lst (va_cons ve_non va_nil))) (VE.vp ve_int)))) sc_law_by_hand_right.nd)
      (vs_cons (vs_set (i := 3) (ve_op or_add add_2 (vp_var 3) (VF.vp (vf_lst (va_cons (ve_call Gbad_four (hr.mono (by decide)) (va_cons (ve_var 1) (va_cons (ve_tup (va_cons ve_str (va_cons ve_str (va_cons ve_str (va_cons ve_str (va_cons ve_str va_nil)))))) va_nil))) (va_cons (ve_call Gbad_four (hr.mono (by decide)) (va_cons (ve_var 1) (va_cons (ve_tup (va_cons ve_str (va_cons ve_str (va_cons ve_str (va_cons ve_str (va_cons ve_str va_nil)))))) va_nil))) (va_cons (ve_call Gbad_four (hr.mono (by decide)) (va_cons (ve_mkBook1 GMk1 (hr.mono (by decide)) (va_cons (ve_tup va_nil) va_nil) hE) (va_cons (ve_tup va_nil) va_nil))) va_nil)))))) sc_law_by_hand_right.nd)
      (vs_cons (vs_set (i := 5) (ve_op or_add add_2 (vp_var 5) (VF.vp (vf_lst (va_cons (ve_tup (va_cons ve_str (va_cons ve_str (va_cons ve_str (va_cons ve_str va_nil))))) (va_cons (ve_tup (va_cons ve_str (va_cons ve_str (va_cons ve_str (va_cons ve_str va_nil))))) (va_cons ve_non va_nil)))))) sc_law_by_hand_right.nd)
      (vs_cons (vs_set (i := 3) (ve_op or_add add_2 (vp_var 3) (VF.vp (vf_lst (va_cons (ve_call Gbad_four (hr.mono (by decide)) (va_cons (ve_ofBook GOf mC (hr.mono (by decide)) (va_cons ve_str va_nil)) (va_cons (ve_tup (va_cons ve_str (va_cons ve_str (va_cons ve_str (va_cons ve_str va_nil))))) va_nil))) (va_cons (ve_call Gbad_four (hr.mono (by decide)) (va_cons (ve_meth0 GBturned cl (hr.mono (by decide)) (ve_var 0)) (va_cons (ve_tup (va_cons ve_str (va_cons ve_str (va_cons ve_str (va_cons ve_str va_nil))))) va_nil))) va_nil))))) sc_law_by_hand_right.nd)
      (vs_cons (vs_set (i := 5) (ve_op or_add add_2 (vp_var 5) (VF.vp (vf_lst (va_cons (ve_tup (va_cons ve_str (va_cons ve_str (va_cons ve_str (va_cons ve_str va_nil))))) (va_cons (ve_tup (va_cons ve_str (va_cons ve_str (va_cons ve_str (va_cons ve_str va_nil))))) va_nil))))) sc_law_by_hand_right.nd)
      (vs_cons (vs_set (i := 6) (VF.ve (vf_lc (own := [("_law_k", 7)]) sc_law_by_hand_right.nd (vi_range1 B.range (vps_cons (VE.vp ve_int) vps_nil)) (blkOk_by (N := n_law_by_hand_right) (sc := defScope s_law_by_hand_right) (by decide +kernel)) (fun _ _ _ _ _ => (vg_name 7 sc_law_by_hand_right.nd)) (fun _ _ _ _ _ => vts_nil) (fun _ _ _ _ _ => (ve_op or_add add_2 (VE.vp (ve_op or_add add_2 (VE.vp ve_str) (VE.vp (ve_ix (ix_any (hlt hu)) ix_2 (VE.vp ve_str) (VE.vp (ve_op op_fdiv div_2 (vp_var 7) (VE.vp ve_int))))))) (VE.vp (ve_ix (ix_any (hlt hu)) ix_2 (VE.vp ve_str) (VE.vp (ve_op op_mod mod_2 (vp_var 7) (VE.vp ve_int))))))))) sc_law_by_hand_right.nd)
      (vs_cons (vs_set (i := 8) (ve_mkBook2 GMk2 (hr.mono (by decide)) (va_cons (ve_var 6) (va_cons (VF.ve (vf_lc (own := [("_law_k", 7)]) sc_law_by_hand_right.nd (vi_range1 B.range (vps_cons (VE.vp ve_int) vps_nil)) (blkOk_by (N := n_law_by_hand_right) (sc := defScope s_law_by_hand_right) (by decide +kernel)) (fun _ _ _ _ _ => (vg_name 7 sc_law_by_hand_right.nd)) (fun _ _ _ _ _ => vts_nil) (fun _ _ _ _ _ => (ve_tup (va_cons (ve_ix (ix_any (hlt hu)) ix_2 (vp_var 6) (vp_var 7)) (va_cons (ve_ix (ix_any (hlt hu)) ix_2 (vp_var 6) (VE.vp (ve_op or_add add_2 (vp_var 7) (VE.vp ve_int)))) va_nil)))))) va_nil))) sc_law_by_hand_right.nd)
      (vs_cons (vs_set (i := 3) (ve_op or_add add_2 (vp_var 3) (VF.vp (vf_lst (va_cons (ve_call Gbad_four (hr.mono (by decide)) (va_cons (ve_var 8) (va_cons (ve_var 6) va_nil))) (va_cons (ve_call Gbad_four (hr.mono (by decide)) (va_cons (ve_var 8) (va_cons (ve_op or_add add_2 (VE.vp (ve_slice (vp_var 6) vo_none (vo_some (VE.vp ve_int)))) (VF.vp (vf_lst (va_cons (ve_ix (ix_any (hlt hu)) ix_2 (vp_var 6) (VE.vp ve_int)) (va_cons (ve_ix (ix_any (hlt hu)) ix_2 (vp_var 6) (VE.vp ve_int)) (va_cons (ve_ix (ix_any (hlt hu)) ix_2 (vp_var 6) (VE.vp ve_int)) (va_cons (ve_ix (ix_any (hlt hu)) ix_2 (vp_var 6) (VE.vp ve_int)) va_nil))))))) va_nil))) va_nil))))) sc_law_by_hand_right.nd)
      (vs_one (vs_ret (ve_call G_law_same (hr.mono (by decide)) (va_cons (ve_var 3) (va_cons (ve_op or_add add_2 (vp_var 5) (VF.vp (vf_lst (va_cons ve_non (va_cons (ve_callTy call_tuple_of tup_1 B.tuple Sx.bt_tuple (vps_cons (VE.vp (ve_slice (vp_var 6) (vo_some (VE.vp ve_int)) vo_none)) vps_nil)) va_nil))))) va_nil)))))))))))))))))
end

abbrev s_law_right : Stmt := top 33
abbrev n_law_right : List Str := ["_law_urn", "_law_turn", "_law_tags_here", "_law_ties_here"]
theorem sc_law_right : FnScope n_law_right ["_law_urn"] (defScope s_law_right) := ⟨rfl, rfl, rfl, by decide +kernel, rfl, by decide +kernel, by decide +kernel⟩
def b_law_right_L1 : En → M Fl :=
  (seqS (fun env => (seqN (consD (rd 0) (consD (seq2 (fun _ => .ok (.int 3)) (seqN (consD (rd 0) (consD (fun _ => .ok (.int 5)) (fun _ => .ok []))) (arity 2 dTake)) opAdd) (fun _ => .ok []))) (arity 2 d_law_drawn)) env >>= fun d => (seqG 2 (consG (setG 2) (consG (setG 3) nilG))) d env >>= fun env' => .ok (.next env'))
  (seqS (ifS (asB (seq2 (seqN (consD (rd 0) (consD (fun _ => .ok (.int 2)) (fun _ => .ok []))) (arity 2 dTake)) (fun _ => .ok (.int 0)) opEq))
  (setS 3 (seq2 (pk 3) (fun env => (consD (fun env => (consD (seq2 (pk 2) (fun env => (fun _ => .ok (.int 1)) env >>= fun d => isI d >>= fun i => .ok (.int (-i))) opIx) (consD (seq2 (pk 2) (fun env => (fun _ => .ok (.int 1)) env >>= fun d => isI d >>= fun i => .ok (.int (-i))) opIx) (fun _ => .ok []))) env >>= fun xs => guardL xs >>= fun _ => .ok (.tup xs)) (fun _ => .ok [])) env >>= fun xs => guardL xs >>= fun _ => .ok (.tup xs)) opAdd)) (fun env => .ok (.next env)))
  (ifS (notB (asB (seqN (consD (rd 0) (consD (rd 2) (consD (rd 3) (fun _ => .ok [])))) (arity 3 d_law_case_right))))
  (fun env => (fun _ => .ok (.bl false)) env >>= fun d => .ok (.ret d)) (fun env => .ok (.next env)))))
def b_law_right : En → M Fl :=
  (seqS (forS (fun env => (consD (fun _ => .ok (.int 8)) (fun _ => .ok [])) env >>= rng1) (setG 1)
  b_law_right_L1)
  (fun env => (fun _ => .ok (.bl true)) env >>= fun d => .ok (.ret d)))
def d_law_right : List D → M D := bodyD 4 b_law_right
section
variable {P : Program} {w : World} {K : PySem.W.Frag} {mg : Str → Option Value} {base : Heap} {C : Nat → Addr}
theorem ok_law_right {f : Addr} {fd : FuncData} {dvs : List V} (F : FunD K "_law_right" "_law_right" (defArgs s_law_right) (defBody s_law_right) (defScope s_law_right) dvs [] f fd) (B : Blt mg) (G_law_drawn : FnG P w K mg base "_law_drawn" 4 ["_law_urn", "_law_many_so"] (spV K C 2 d_law_drawn)) (G_law_take : FnG P w K mg base "_law_take" 1 ["_law_urn", "_law_low_so"] (spV K C 2 dTake)) (G_law_case_right : FnG P w K mg base "_law_case_right" 9 ["_law_urn", "_law_tags_here", "_law_ties_here"] (spV K C 3 d_law_case_right)) : FnOk P w K mg base CX0 10 f fd ["_law_urn"] (spV K C 1 d_law_right) :=
  fn_v F sc_law_right fun cdv A outer s H E hr => by
    have hu : (A.deeper (envOfC "_law_right" (defScope s_law_right) s.heap.objs.size f cdv)).units + 65 < cLine := by have := hr.un; omega
    exact (vs_cons (vs_for (vi_range1 B.range (vps_cons (VE.vp ve_int) vps_nil)) (vg_name 1 sc_law_right.nd) (vs_cons (vs_asg (ve_call G_law_drawn (hr.mono (by decide)) (va_cons (ve_var 0) (va_cons (ve_op or_add add_2 (VE.vp ve_int) (VE.vp (ve_call G_law_take (hr.mono (by decide)) (va_cons (ve_var 0) (va_cons ve_int va_nil))))) va_nil))) (vg_seq rfl (vgs_cons (vg_name 2 sc_law_right.nd) (vgs_cons (vg_name 3 sc_law_right.nd) vgs_nil))))
      (vs_cons (vs_if (vt_cmp (op_eqD (hlt hu)) eq_2 (VE.vp (ve_call G_law_take (hr.mono (by decide)) (va_cons (ve_var 0) (va_cons ve_int va_nil)))) (VE.vp ve_int) (nomark _))
      (vs_one (vs_set (i := 3) (ve_op or_add add_2 (vp_var 3) (VE.vp (ve_tup (va_cons (ve_tup (va_cons (ve_ix (ix_any (hlt hu)) ix_2 (vp_var 2) (VE.vp (ve_neg (VE.vp ve_int)))) (va_cons (ve_ix (ix_any (hlt hu)) ix_2 (vp_var 2) (VE.vp (ve_neg (VE.vp ve_int)))) va_nil))) va_nil)))) sc_law_right.nd)) vs_nil)
      (vs_one (vs_if (vt_not (vt_val (VE.vp (ve_call G_law_case_right (hr.mono (by decide)) (va_cons (ve_var 0) (va_cons (ve_var 2) (va_cons (ve_var 3) va_nil)))))))
      (vs_one (vs_ret ve_bl)) vs_nil)))))
      (vs_one (vs_ret ve_bl)))
end
end Vw

/-! Q1 -/
/-! Bits of a number: which places; sums of powers of two; & and ~; the loop of `ones`. -/
namespace Vw
open PySem PySem.Spec PyProof.Rows L2
/-- the places of the ones of n, below f -/
def places (f n : Nat) : List Nat := (List.range f).filter fun i => n.testBit i
theorem places_succ (f n : Nat) : places (f + 1) n = (if n % 2 = 1 then [0] else []) ++ (places f (n / 2)).map (· + 1) := by
  unfold places
  rw [List.range_succ_eq_map, List.filter_cons, List.filter_map]
  have e0 : n.testBit 0 = decide (n % 2 = 1) := Nat.testBit_zero n
  have e1 : ((fun i => n.testBit i) ∘ Nat.succ) = fun i => (n / 2).testBit i := by
    funext i
    exact Nat.testBit_succ n i
  rw [e0, e1]
  by_cases h : n % 2 = 1
  · rw [if_pos h, if_pos (decide_eq_true h)]; rfl
  · rw [if_neg h, if_neg (by simpa using h)]; rfl
theorem places_zero (f : Nat) : places f 0 = [] := by
  unfold places
  rw [List.filter_eq_nil_iff]
  intro i _
  simp
theorem and_two (m b m2 b2 : Nat) (hb : b < 2) (hb2 : b2 < 2) : (2 * m + b) &&& (2 * m2 + b2) = 2 * (m &&& m2) + (b &&& b2) := by
  apply Nat.eq_of_testBit_eq
  intro i
  cases i with
  | zero =>
    rw [Nat.testBit_and, Nat.testBit_zero, Nat.testBit_zero, Nat.testBit_zero]
    have : b = 0 ∨ b = 1 := by omega
    have : b2 = 0 ∨ b2 = 1 := by omega
    rcases ‹b = 0 ∨ b = 1› with rfl | rfl <;> rcases ‹b2 = 0 ∨ b2 = 1› with rfl | rfl <;> simp <;> omega
  | succ i =>
    rw [Nat.testBit_and, Nat.testBit_succ, Nat.testBit_succ, Nat.testBit_succ]
    have e1 : (2 * m + b) / 2 = m := by omega
    have e2 : (2 * m2 + b2) / 2 = m2 := by omega
    have e3 : (2 * (m &&& m2) + (b &&& b2)) / 2 = m &&& m2 := by
      have : b &&& b2 < 2 := Nat.and_lt_two_pow (n := 1) _ hb2
      omega
    rw [e1, e2, e3, Nat.testBit_and]
/-- without the lowest one -/
def remN (n : Nat) : Nat := n &&& (n - 1)
theorem rem_odd (m : Nat) : remN (2 * m + 1) = 2 * m := by
  unfold remN
  have := and_two m 1 m 0 (by omega) (by omega)
  rw [show 2 * m + 1 - 1 = 2 * m + 0 by omega, this, Nat.and_self]
  rfl
theorem rem_even (m : Nat) (h : 0 < m) : remN (2 * m) = 2 * remN m := by
  unfold remN
  have := and_two m 0 (m - 1) 1 (by omega) (by omega)
  rw [show 2 * m - 1 = 2 * (m - 1) + 1 by omega]
  rw [show (2 * m + 0) = 2 * m by omega] at this
  rw [this]
  rfl
theorem rem_le (n : Nat) : remN n ≤ n := Nat.and_le_left
theorem low_of : ∀ (f n : Nat), n < 2 ^ f → 0 < n → ∃ k, k < f ∧ n - remN n = 2 ^ k ∧ remN n < 2 ^ f ∧ places f n = k :: places f (remN n)
  | 0, n, h, h0 => by simp at h; omega
  | f + 1, n, h, h0 => by
    have hp : 2 ^ (f + 1) = 2 * 2 ^ f := by rw [Nat.pow_succ]; omega
    have hl : remN n < 2 ^ (f + 1) := Nat.lt_of_le_of_lt (rem_le n) h
    rw [places_succ, places_succ]
    rcases Nat.mod_two_eq_zero_or_one n with e | e
    · have en : n = 2 * (n / 2) := by omega
      have hm : 0 < n / 2 := by omega
      obtain ⟨k, k1, k2, k3, k4⟩ := low_of f (n / 2) (by omega) hm
      have er : remN n = 2 * remN (n / 2) := by
        have := rem_even (n / 2) hm
        rw [← en] at this
        exact this
      refine ⟨k + 1, by omega, ?_, hl, ?_⟩
      · rw [er, Nat.pow_succ]; omega
      · rw [if_neg (by omega), er, if_neg (by omega), show 2 * remN (n / 2) / 2 = remN (n / 2) by omega, k4]
        rfl
    · have en : n = 2 * (n / 2) + 1 := by omega
      have er : remN n = 2 * (n / 2) := by
        have := rem_odd (n / 2)
        rw [← en] at this
        exact this
      refine ⟨0, by omega, by rw [er]; omega, hl, ?_⟩
      rw [if_pos e, er, if_neg (by omega), show 2 * (n / 2) / 2 = n / 2 by omega]
      rfl
theorem places_bit {f n i : Nat} (h : n < 2 ^ f) : i ∈ places f n ↔ n.testBit i = true := by
  unfold places
  rw [List.mem_filter, List.mem_range]
  constructor
  · exact fun h => h.2
  · intro q
    refine ⟨?_, q⟩
    apply Nat.lt_of_not_le
    intro le
    have : n < 2 ^ i := Nat.lt_of_lt_of_le h (Nat.pow_le_pow_right (by omega) le)
    rw [Nat.testBit_lt_two_pow this] at q
    cases q
/-- x & ~y -/
theorem sub_and_bit : ∀ (i x y : Nat), (x - (x &&& y)).testBit i = (x.testBit i && !y.testBit i) := by
  have key : ∀ x y : Nat, ∃ r, r < 2 ∧ x - (x &&& y) = 2 * (x / 2 - (x / 2 &&& y / 2)) + r ∧ (decide (r = 1) = (decide (x % 2 = 1) && !decide (y % 2 = 1))) := fun x y => by
    have ex : x = 2 * (x / 2) + x % 2 := by omega
    have ey : y = 2 * (y / 2) + y % 2 := by omega
    have ea : x &&& y = 2 * (x / 2 &&& y / 2) + (x % 2 &&& y % 2) := by
      conv => lhs; rw [ex, ey]
      exact and_two _ _ _ _ (by omega) (by omega)
    have le : (x / 2 &&& y / 2) ≤ x / 2 := Nat.and_le_left
    rcases Nat.mod_two_eq_zero_or_one x with a | a <;> rcases Nat.mod_two_eq_zero_or_one y with b | b
    · refine ⟨0, by omega, ?_, by simp [a, b]⟩
      rw [ea, a, b, show (0 &&& 0) = 0 from rfl]; omega
    · refine ⟨0, by omega, ?_, by simp [a, b]⟩
      rw [ea, a, b, show (0 &&& 1) = 0 from rfl]; omega
    · refine ⟨1, by omega, ?_, by simp [a, b]⟩
      rw [ea, a, b, show (1 &&& 0) = 0 from rfl]; omega
    · refine ⟨0, by omega, ?_, by simp [a, b]⟩
      rw [ea, a, b, show (1 &&& 1) = 1 from rfl]; omega
  intro i
  induction i with
  | zero =>
    intro x y
    obtain ⟨r, h1, h2, h3⟩ := key x y
    rw [Nat.testBit_zero, Nat.testBit_zero, Nat.testBit_zero, ← h3, h2]
    congr 1
    apply propext
    constructor <;> intro <;> omega
  | succ i ih =>
    intro x y
    obtain ⟨r, h1, h2, h3⟩ := key x y
    rw [Nat.testBit_succ, Nat.testBit_succ, Nat.testBit_succ, h2, show (2 * (x / 2 - (x / 2 &&& y / 2)) + r) / 2 = x / 2 - (x / 2 &&& y / 2) by omega]
    exact ih _ _
/-- a new power of two -/
theorem add_bit : ∀ (a s i : Nat), s.testBit a = false → (s + 2 ^ a).testBit i = (s.testBit i || decide (i = a))
  | 0, s, i, h => by
    rw [Nat.testBit_zero] at h
    have h : s % 2 ≠ 1 := by simpa using h
    cases i with
    | zero =>
      rw [Nat.testBit_zero, Nat.testBit_zero]
      simp
      try omega
    | succ i =>
      rw [Nat.testBit_succ, Nat.testBit_succ, show (s + 2 ^ 0) / 2 = s / 2 by omega]
      simp
  | a + 1, s, i, h => by
    rw [Nat.testBit_succ] at h
    cases i with
    | zero =>
      rw [Nat.testBit_zero, Nat.testBit_zero, Nat.pow_succ]
      simp
      try omega
    | succ i =>
      rw [Nat.testBit_succ, Nat.testBit_succ, Nat.pow_succ, show (s + 2 ^ a * 2) / 2 = s / 2 + 2 ^ a by omega, add_bit a (s / 2) i h]
      congr 1
      try simp
theorem sum_bits : ∀ (l : List Nat), l.Nodup → ∀ i, ((l.map fun a => 2 ^ a).sum).testBit i = decide (i ∈ l)
  | [], _, i => by simp
  | a :: l, h, i => by
    obtain ⟨h1, h2⟩ := List.nodup_cons.mp h
    rw [List.map_cons, List.sum_cons, Nat.add_comm, add_bit a _ i (by rw [sum_bits l h2]; simp [h1]), sum_bits l h2]
    simp [Bool.or_comm, eq_comm]
    try (by_cases e : i = a <;> simp [e])
theorem sum_lt : ∀ (l : List Nat) (f : Nat), l.Nodup → (∀ a ∈ l, a < f) → (l.map fun a => 2 ^ a).sum < 2 ^ f := fun l f h hl => by
  apply Nat.lt_of_not_le
  intro le
  obtain ⟨i, hi, q⟩ := Nat.exists_ge_and_testBit_of_ge_two_pow le
  rw [sum_bits l h] at q
  have := hl i (by simpa using q)
  omega
/-! ### as Python's numbers -/
theorem band_nat (a b : Nat) : Builtin.bitAnd (a : Int) (b : Int) = ((a &&& b : Nat) : Int) := by
  unfold Builtin.bitAnd
  rw [decide_eq_true (Int.natCast_nonneg a), decide_eq_true (Int.natCast_nonneg b)]
  rfl
theorem band_not (a b : Nat) : Builtin.bitAnd (a : Int) (Builtin.bitNot (b : Int)) = ((a - (a &&& b) : Nat) : Int) := by
  unfold Builtin.bitAnd Builtin.bitNot
  rw [decide_eq_true (Int.natCast_nonneg a), decide_eq_false (show ¬ (0 : Int) ≤ -(b : Int) - 1 by omega)]
  show (a : Int) - ((Int.toNat (a : Int) &&& Int.toNat (-(-(b : Int) - 1) - 1) : Nat) : Int) = _
  rw [show -(-(b : Int) - 1) - 1 = (b : Int) by omega, Int.toNat_natCast, Int.toNat_natCast]
  have : (a &&& b) ≤ a := Nat.and_le_left
  omega
theorem band_neg (a : Nat) (h : 0 < a) : Builtin.bitAnd (a : Int) (-(a : Int)) = ((a - remN a : Nat) : Int) := by
  have : -(a : Int) = Builtin.bitNot ((a - 1 : Nat) : Int) := by unfold Builtin.bitNot; omega
  rw [this, band_not]
  rfl
theorem bits_pow (k : Nat) : Builtin.Int.intBits ((2 ^ k : Nat) : Int) = k + 1 := by
  unfold Builtin.Int.intBits
  have h : ((2 ^ k : Nat) : Int) ≠ 0 := by
    have := Nat.two_pow_pos k
    omega
  rw [if_neg (by simpa using h), Int.natAbs_natCast, Nat.log2_two_pow]
end Vw

/-! Pg -/
/-! Values: what is used for any law. -/
namespace Vw
open PySem PySem.Spec PyProof.Rows L2
theorem bind_ok {α β : Type} {m : M α} {f : α → M β} {a : α} (h : m = .ok a) : (m >>= f) = f a := by rw [h]; rfl
theorem fresh_ok {de : En → M D} {env : En} {d : D} (h : de env = .ok d) : (de env >>= fun d => M.ok (Fl.fresh d)) = .ok (.fresh d) := by rw [h]; rfl
def seqB (l : Bool) (xs : List D) : D := if l = true then .lst xs else .tup xs
theorem walk_seqB (l : Bool) (xs : List D) : walkD (seqB l xs) = .ok xs := by cases l <;> rfl
theorem cut_take {α : Type} (xs : List α) (d : Nat) : cutD xs none (some (d : Nat)) = xs.take d := by
  unfold cutD
  rw [HT.sIx_none, HT.sIx_nat, List.drop_zero, Nat.sub_zero]
  rcases Nat.le_total d xs.length with h | h
  · rw [Nat.min_eq_left h]
  · rw [Nat.min_eq_right h, List.take_of_length_le h, List.take_of_length_le (Nat.le_refl _)]
theorem cut_drop {α : Type} (xs : List α) (d : Nat) : cutD xs (some (d : Nat)) none = xs.drop d := by
  unfold cutD
  rw [HT.sIx_none, HT.sIx_nat]
  rcases Nat.le_total d xs.length with h | h
  · rw [Nat.min_eq_left h, List.take_of_length_le (by rw [List.length_drop]; exact Nat.le_refl _)]
  · rw [Nat.min_eq_right h, List.drop_of_length_le h, List.drop_of_length_le (Nat.le_refl _)]; simp
theorem sl_seqB (l : Bool) (xs : List D) (lo hi : Option Int) : opSl (seqB l xs) lo hi = .ok (seqB l (cutD xs lo hi)) := by cases l <;> rfl
theorem len_seqB (l : Bool) (xs : List D) : (one fun d => match d with
  | .dic _ _ => .bad
  | d => lenD d) [seqB l xs] = .ok (.int xs.length) := by cases l <;> rfl
theorem range_is (n : Nat) : rangeD 0 (n : Nat) = (List.range n).map fun i => D.int (i : Nat) := by
  unfold rangeD
  rw [show ((n : Int) - 0).toNat = n by omega]
  apply List.map_congr_left
  intro i _
  rw [Int.zero_add]
theorem rng1_ok {n : Nat} (h : n ≤ 10000) : rng1 [.int (n : Nat)] = .ok ((List.range n).map fun i => D.int (i : Nat)) := by
  rw [← range_is]
  show (if -(2 ^ 60) ≤ ((n : Nat) : Int) ∧ ((n : Nat) : Int) ≤ 2 ^ 60 then M.ok (rangeD 0 (n : Nat)) else .bad) = _
  rw [if_pos ⟨by omega, by omega⟩]
theorem all_strs : ∀ L : List Str, allS (L.map D.str) = some L
  | [] => rfl
  | x :: L => by
    show (allS (L.map D.str)).map (x :: ·) = _
    rw [all_strs L]; rfl
theorem eqS (x y : Str) : PyData.eqv (.str x) (.str y) = (x == y) := by simp only [PyData.eqv]
theorem shp_s {x : Str} (h : PyData.strOk x = true) : shp (.str x) = some (.str x) := by
  show (if SeqAt.shaped (.str x) = true then some (PyData.str x) else none) = _
  rw [if_pos]
  show (PyData.canLay0 (.str x) && decide ((PyData.str x).depth ≤ 64)) = true
  simp [PyData.canLay0, PyData.depth, h]
theorem opEq_s {x y : Str} (hx : PyData.strOk x = true) (hy : PyData.strOk y = true) : opEq (.str x) (.str y) = .ok (.bl (decide (x = y))) := by
  unfold opEq
  rw [shp_s hx, shp_s hy]
  show M.ok (D.bl (PyData.eqv (.str x) (.str y))) = _
  rw [eqS]
  congr 2
/-! ### data that may be compared -/
inductive Nice : Nat → D → Prop
  | non {n : Nat} : Nice n .non
  | bl {n : Nat} (b : Bool) : Nice n (.bl b)
  | int {n : Nat} (i : Int) : Nice n (.int i)
  | str {n : Nat} {x : Str} : PyData.strOk x = true → Nice n (.str x)
  | lst {n : Nat} {xs : List D} : xs.length ≤ lim → (∀ d ∈ xs, Nice n d) → Nice (n + 1) (.lst xs)
  | tup {n : Nat} {xs : List D} : xs.length ≤ lim → (∀ d ∈ xs, Nice n d) → Nice (n + 1) (.tup xs)
theorem nice_all {n : Nat} : ∀ {xs : List D}, (∀ d ∈ xs, ∃ p, toP d = some p ∧ p.canLay0 = true ∧ p.depth ≤ n) → ∃ ps, toPs xs = some ps ∧ PyData.canLayAll0 ps = true ∧ PyData.depthAll ps ≤ n
  | [], _ => ⟨[], by rw [toPs], by rw [PyData.canLayAll0], by rw [PyData.depthAll]; omega⟩
  | d :: xs, h => by
    obtain ⟨p, e1, e2, e3⟩ := h d List.mem_cons_self
    obtain ⟨ps, f1, f2, f3⟩ := nice_all (xs := xs) fun d m => h d (List.mem_cons_of_mem _ m)
    refine ⟨p :: ps, by rw [toPs, e1, f1], by rw [PyData.canLayAll0, e2, f2]; rfl, by rw [PyData.depthAll]; omega⟩
theorem nice_p {n : Nat} {d : D} (h : Nice n d) : ∃ p, toP d = some p ∧ p.canLay0 = true ∧ p.depth ≤ n := by
  induction h with
  | non => exact ⟨.none, by rw [toP], by rw [PyData.canLay0], by rw [PyData.depth]; omega⟩
  | bl b => exact ⟨.bool b, by rw [toP], by rw [PyData.canLay0], by rw [PyData.depth]; omega⟩
  | int i => exact ⟨.int i, by rw [toP], by rw [PyData.canLay0], by rw [PyData.depth]; omega⟩
  | str ok => exact ⟨.str _, by rw [toP], by rw [PyData.canLay0]; exact ok, by rw [PyData.depth]; omega⟩
  | lst hl _ ih =>
    obtain ⟨ps, f1, f2, f3⟩ := nice_all ih
    exact ⟨.list ps, by rw [toP, f1]; rfl, by rw [PyData.canLay0]; exact f2, by rw [PyData.depth]; omega⟩
  | tup hl _ ih =>
    obtain ⟨ps, f1, f2, f3⟩ := nice_all ih
    exact ⟨.tuple ps, by rw [toP, f1]; rfl, by rw [PyData.canLay0]; exact f2, by rw [PyData.depth]; omega⟩
theorem nice_shp {n : Nat} {d : D} (h : Nice n d) (hn : n ≤ 64) : ∃ p, shp d = some p ∧ toP d = some p ∧ p.canLay0 = true := by
  obtain ⟨p, e1, e2, e3⟩ := nice_p h
  refine ⟨p, ?_, e1, e2⟩
  unfold shp
  rw [e1]
  show (if SeqAt.shaped p = true then some p else none) = _
  rw [if_pos (Sx.shp e2 (by omega))]
theorem nice_eq {n : Nat} {d : D} (h : Nice n d) (hn : n ≤ 64) : opEq d d = .ok (.bl true) := by
  obtain ⟨p, e1, _, e2⟩ := nice_shp h hn
  unfold opEq
  rw [e1]
  show M.ok (D.bl (PyData.eqv p p)) = _
  rw [SeqAt.eqv_refl p e2]
theorem len_eq (i j : Int) : opEq (.int i) (.int j) = .ok (.bl (decide (i = j))) := by
  show M.ok (D.bl (PyData.eqv (.int i) (.int j))) = _
  have e : PyData.eqv (.int i) (.int j) = (i == j) := by simp only [PyData.eqv]
  rw [e]
  congr 2
theorem int_ne (i j : Int) : opNe (.int i) (.int j) = .ok (.bl (!decide (i = j))) := by
  show M.ok (D.bl (!PyData.eqv (.int i) (.int j))) = _
  have e : PyData.eqv (.int i) (.int j) = (i == j) := by simp only [PyData.eqv]
  rw [e]
  congr 2
theorem all_true {n : Nat} : allD (.lst (List.replicate n (.bl true))) = .ok (.bl true) := by
  have e : ∀ n : Nat, allB (List.replicate n (.bl true)) = some (List.replicate n true) := fun n => by
    induction n with
    | zero => rfl
    | succ n ih =>
      rw [List.replicate_succ, List.replicate_succ]
      show (allB (List.replicate n (D.bl true))).map (true :: ·) = _
      rw [ih]; rfl
  show (match allB (List.replicate n (D.bl true)) with
    | some bs => M.ok (D.bl (bs.all id))
    | none => .bad) = _
  rw [e]
  show M.ok (D.bl ((List.replicate n true).all id)) = _
  congr 2
  rw [List.all_eq_true]
  intro x hx
  rw [(List.mem_replicate.mp hx).2]; rfl
section
variable {α β : Type} {n k : Nat} {m : M α} {Q : α → Prop} {R : β → Prop}
theorem Us.then {f : α → M β} (h : Us n m Q) (g : ∀ a, Q a → ∃ r, f a = .ok r ∧ R r) : Us n (m >>= f) R := Us.bind (k := 0) h fun a q => by
  obtain ⟨r, e, h⟩ := g a q
  exact Us.is e h
end
section
variable {n k : Nat} {f g : En → M Fl} {env : En} {J : En → Prop} {R : Fl → Prop}
theorem Us.seq (h : Us n (f env) fun fl => ∃ e, fl = .next e ∧ J e) (t : ∀ e, J e → Us k (g e) R) : Us (n + k) (seqS f g env) R := Us.bind h fun fl ⟨e, he, j⟩ => by
  subst he
  exact t e j
theorem Us.set {i : Nat} {de : En → M D} {Q : D → Prop} (h : Us n (de env) Q) : Us n (setS i de env) fun fl => ∃ e, fl = .next e ∧ ∃ d, Q d ∧ e = env.set i (.fr d) := Us.then h fun d q => ⟨_, rfl, _, rfl, d, q, rfl⟩
end
theorem Us.eq {α : Type} {n : Nat} {m m' : M α} {Q : α → Prop} (h : Us n m' Q) (e : m = m') : Us n m Q := by rw [e]; exact h
theorem perm_erase {α : Type} : ∀ (l : List α) (k : Nat) (h : k < l.length), (l[k] :: l.eraseIdx k).Perm l
  | x :: l, 0, _ => List.Perm.refl _
  | x :: l, k + 1, h => by
    show (l[k]'(by simpa using h) :: x :: l.eraseIdx k).Perm (x :: l)
    exact (List.Perm.swap _ _ _).trans ((perm_erase l k (by simpa using h)).cons x)
theorem perm_strs {ys : List D} {ks : List Str} (h : ys.Perm (ks.map D.str)) : ∃ zs : List Str, ys = zs.map D.str ∧ zs.Perm ks := by
  have all : ∀ y ∈ ys, ∃ k, y = D.str k := fun y hy => by
    obtain ⟨k, _, e⟩ := List.mem_map.mp (h.mem_iff.mp hy)
    exact ⟨k, e.symm⟩
  have ex : ∀ l : List D, (∀ y ∈ l, ∃ k, y = D.str k) → ∃ zs : List Str, l = zs.map D.str := fun l => by
    induction l with
    | nil => exact fun _ => ⟨[], rfl⟩
    | cons y l ih =>
      intro a
      obtain ⟨k, e⟩ := a y List.mem_cons_self
      obtain ⟨zs, e2⟩ := ih fun z hz => a z (List.mem_cons_of_mem _ hz)
      exact ⟨k :: zs, by rw [e, e2]; rfl⟩
  obtain ⟨zs, e⟩ := ex ys all
  subst e
  refine ⟨zs, rfl, ?_⟩
  have g : ∀ l : List Str, (l.map D.str).map (fun d => match d with
    | .str k => k
    | _ => "") = l := fun l => by
    rw [List.map_map]
    exact List.map_id l
  have := h.map (fun d => match d with
    | .str k => k
    | _ => "")
  rw [g, g] at this
  exact this

/-! ### comprehensions with several clauses -/
theorem fold_puts {β : Type} {f : List D → D → M (List D)} {p : β → D} {r : β → List D} {N : Nat} : ∀ {xs : List β}, (∀ x ∈ xs, ∀ acc, acc.length + (r x).length ≤ N → f acc (p x) = .ok (acc ++ r x)) → ∀ acc, acc.length + (xs.flatMap r).length ≤ N → foldA f acc (xs.map p) = .ok (acc ++ xs.flatMap r)
  | [], _, acc, _ => by show M.ok acc = _; simp
  | x :: xs, h, acc, hl => by
    have hl' : acc.length + ((r x).length + (xs.flatMap r).length) ≤ N := by
      rw [List.flatMap_cons, List.length_append] at hl; exact hl
    show (f acc (p x) >>= fun acc => foldA f acc (xs.map p)) = _
    rw [h x List.mem_cons_self acc (by omega), ok_bind, fold_puts (xs := xs) (fun y hy => h y (List.mem_cons_of_mem _ hy)) (acc ++ r x) (by rw [List.length_append]; omega)]
    rw [List.flatMap_cons, List.append_assoc]
theorem runN_puts {β : Type} {de : En → M D} {c : DC} {cs : List DC} {env : En} {xs : List β} {p : β → D} {r : β → List D} {N : Nat} (h0 : frOnly env = .ok ()) (h1 : c.di env = .ok (xs.map p))
    (h2 : ∀ x ∈ xs, ∃ e b, c.g (p x) (wipeE env c.vs) = .ok e ∧ c.dt e = .ok b ∧ (b = true → ∀ acc, acc.length + (r x).length ≤ N → runN de cs e acc = .ok (acc ++ r x)) ∧ (b = false → r x = [])) (acc : List D) (hl : acc.length + (xs.flatMap r).length ≤ N) :
    runN de (c :: cs) env acc = .ok (acc ++ xs.flatMap r) := by
  show (frOnly env >>= fun _ => c.di env >>= fun ds => foldA (fun acc d => c.g d (wipeE env c.vs) >>= fun e => c.dt e >>= fun b => if b = true then runN de cs e acc else .ok acc) acc ds) = _
  rw [h0, ok_bind, h1, ok_bind]
  refine fold_puts (N := N) (fun x hx acc hl => ?_) acc hl
  obtain ⟨e, b, e1, e2, e3, e4⟩ := h2 x hx
  show (c.g (p x) (wipeE env c.vs) >>= fun e => c.dt e >>= fun b => if b = true then runN de cs e acc else .ok acc) = _
  rw [e1, ok_bind, e2, ok_bind]
  cases b with
  | true => rw [if_pos rfl]; exact e3 rfl acc hl
  | false => rw [if_neg (by decide), e4 rfl, List.append_nil]
theorem runN_end {de : En → M D} {env : En} {d : D} (h : de env = .ok d) (acc : List D) (hl : acc.length + 1 ≤ 100000) : runN de [] env acc = .ok (acc ++ [d]) := by
  show (de env >>= fun d => if acc.length < 100000 then M.ok (acc ++ [d]) else .bad) = _
  rw [h, ok_bind, if_pos (by omega)]
theorem compN_ok {de : En → M D} {cs : List DC} {env : En} {r : List D} (h : runN de cs env [] = .ok ([] ++ r)) : compN cs de env = .ok (.lst r) := by
  show (runN de cs env [] >>= fun r => M.ok (D.lst r)) = _
  rw [h]; rfl
theorem ar1 (f : List D → M D) (a : D) : arity 1 f [a] = f [a] := rfl
theorem ar2 (f : List D → M D) (a b : D) : arity 2 f [a, b] = f [a, b] := rfl
theorem ar3 (f : List D → M D) (a b c : D) : arity 3 f [a, b, c] = f [a, b, c] := rfl
theorem ar4 (f : List D → M D) (a b c d : D) : arity 4 f [a, b, c, d] = f [a, b, c, d] := rfl
theorem ar5 (f : List D → M D) (a b c d e : D) : arity 5 f [a, b, c, d, e] = f [a, b, c, d, e] := rfl
theorem for_ok {di : En → M (List D)} {g : D → En → M En} {db : En → M Fl} {env : En} {ds : List D} (h : di env = .ok ds) : forS di g db env = loopM (fun d e => g d e >>= db) ds env := by
  show (di env >>= fun ds => loopM (fun d e => g d e >>= db) ds env) = _
  rw [h]; rfl
theorem ret_is {m : M D} {d : D} (e : m = .ok d) : runB (m >>= fun d => M.ok (Fl.ret d)) = .ok d := by rw [e]; rfl
end Vw

/-! Q2 -/
namespace Vw
open PySem PySem.Spec PyProof.Rows L2
def iD (i : Nat) : D := .int (i : Nat)
theorem ones_body {n k : Nat} {acc : List D} (h0 : 0 < n) (hk : n - remN n = 2 ^ k) (hl : acc.length < lim) : bones_L1 [.fr (.int (n : Nat)), .ow (.lst acc)] = .ok (.next [.fr (.int (remN n : Nat)), .ow (.lst (acc ++ [iD k]))]) := by
  unfold bones_L1
  refine (seq_next (e := [.fr (.int (n : Nat)), .ow (.lst (acc ++ [iD k]))]) ?_).trans ?_
  · refine app_ok (d := iD k) ?_ rfl hl
    show M.ok (D.int ((Builtin.Int.intBits (Builtin.bitAnd (n : Int) (-(n : Int))) : Nat) - 1)) = _
    rw [band_neg n h0, hk, bits_pow]
    unfold iD
    congr 2
    omega
  · refine set_ok (d := .int (remN n : Nat)) ?_
    show M.ok (D.int (Builtin.bitAnd (n : Int) ((n : Int) - 1))) = _
    rw [show (n : Int) - 1 = ((n - 1 : Nat) : Int) by omega, band_nat]
    rfl
theorem ones_loop (f : Nat) : ∀ (m n : Nat) (acc : List D), n < 2 ^ f → (places f n).length < m → acc.length + (places f n).length < lim →
    whileM (asB (seq2 (pk 0) (fun _ => .ok (.int 0)) opGt)) bones_L1 m [.fr (.int (n : Nat)), .ow (.lst acc)] = .ok (.next [.fr (.int 0), .ow (.lst (acc ++ (places f n).map iD))])
  | 0, n, acc, _, h, _ => by omega
  | m + 1, n, acc, hn, h, hl => by
    rcases Nat.eq_zero_or_pos n with e | h0
    · subst e
      rw [places_zero, List.map_nil, List.append_nil]
      rfl
    · obtain ⟨k, k1, k2, k3, k4⟩ := low_of f n hn h0
      rw [k4] at h hl ⊢
      simp only [List.length_cons] at h hl
      have t : asB (seq2 (pk 0) (fun _ => .ok (.int 0)) opGt) [.fr (.int (n : Nat)), .ow (.lst acc)] = .ok true := by
        show M.ok (decide ((0 : Int) < (n : Int))) = _
        rw [decide_eq_true (by omega)]
      show (asB (seq2 (pk 0) (fun _ => .ok (.int 0)) opGt) [.fr (.int (n : Nat)), .ow (.lst acc)] >>= _) = _
      rw [t, ok_bind, if_pos rfl, ones_body h0 k2 (by omega), ok_bind]
      show whileM _ _ m [.fr (.int (remN n : Nat)), .ow (.lst (acc ++ [iD k]))] = _
      rw [ones_loop f m (remN n) _ k3 (by omega) (by simp; omega)]
      simp
theorem places_len (f n : Nat) : (places f n).length ≤ f := by
  unfold places
  exact Nat.le_trans (List.length_filter_le _ _) (by simp)
theorem ones_ok {f n : Nat} (hf : f ≤ 1000) (hn : n < 2 ^ f) : dones [.int (n : Nat)] = .ok (.lst ((places f n).map iD)) := by
  have hp := places_len f n
  show runB (bones [.fr (.int (n : Nat)), .un]) = _
  unfold bones
  rw [seq_next (e := [.fr (.int (n : Nat)), .ow (.lst [])]) rfl, seq_next (ones_loop f 100000 n [] hn (by omega) (by simp [lim]; omega))]
  rfl
/-! ### a book's kinds, what clashes -/
/-- strictly rising -/
abbrev Up (K : List Str) : Prop := K.Pairwise fun a b => Sx.ltS a b = true
abbrev isin (l : List Str) (k : Str) : Bool := decide (k ∈ l)
structure Bk (K : List Str) (S : List (Str × Str)) : Prop where
  up : Up K
  few : K.length ≤ 40
  nd : ∀ k, (Sx.nearM S k).Nodup
  mem : ∀ k, ∀ o ∈ Sx.nearM S k, o ∈ K
theorem Bk.nodup {K : List Str} {S : List (Str × Str)} (h : Bk K S) : K.Nodup := h.up.imp fun {a b} q e => by rw [e, Sx.ltS_irr] at q; cases q
/-- a dict of places -/
def plD (K : List Str) : D := .dic (K.map Sum.inr) ((List.range K.length).map iD)
theorem put_new (kds : List (Key × D)) (k : Key) (d : D) (h : k ∉ kds.map (·.1)) : putD kds k d = kds ++ [(k, d)] := by
  unfold putD
  rw [if_neg]
  intro q
  obtain ⟨x, hx, e⟩ := List.any_eq_true.mp q
  exact h (List.mem_map.mpr ⟨x, hx, of_decide_eq_true e⟩)
theorem fold_new : ∀ (l acc : List (Key × D)), ((acc ++ l).map (·.1)).Nodup → l.foldl (fun m q => putD m q.1 q.2) acc = acc ++ l
  | [], acc, _ => by simp
  | q :: l, acc, h => by
    have e : acc ++ q :: l = (acc ++ [q]) ++ l := by simp
    have nq : q.1 ∉ acc.map (·.1) := by
      intro m
      rw [List.map_append, List.map_cons] at h
      have := (List.nodup_append.mp h).2.2 _ m q.1 (by simp)
      exact this rfl
    rw [List.foldl_cons, put_new acc q.1 q.2 nq, fold_new l (acc ++ [q]) (by rw [← e]; exact h), ← e]
theorem enum_map (ds : List D) : enumD ds = ((List.range ds.length).zip ds).map fun p => D.tup [iD p.1, p.2] := by
  unfold enumD
  apply List.ext_getElem
  · simp
  · intro i h1 h2
    have hi : i < ds.length := by simpa using h1
    simp [iD]
    rw [List.getElem?_eq_getElem hi]
/-- {k: at for at, k in enumerate(..)} -/
theorem placeD {vs : List Nat} {di : En → M (List D)} {g : D → En → M En} {dt : En → M Bool} {dk dv : En → M D} {env : En} {K : List Str} (nd : K.Nodup) (hl : K.length ≤ 1000) (h0 : di env = .ok (enumD (K.map D.str)))
    (h : ∀ (i : Nat) (k : Str), turnD vs g dt dk dv env (.tup [iD i, .str k]) = .ok (some (Sum.inr k, iD i))) : compD vs di g dt dk dv env = .ok (plD K) := by
  have e := comp_dif (β := Nat × Str) (vs := vs) (di := di) (g := g) (dt := dt) (dk := dk) (dv := dv) (env := env) (xs := (List.range K.length).zip K) (p := fun p => .tup [iD p.1, .str p.2]) (c := fun _ => true) (q := fun p => (Sum.inr p.2, iD p.1)) (by
    rw [h0, enum_map, List.length_map, List.zip_map_right, List.map_map]; rfl) (by rw [List.length_zip, List.length_range]; unfold lim; omega) (fun p _ => by rw [if_pos rfl]; exact h p.1 p.2)
  have l1 : (List.range K.length).length ≤ K.length := by simp
  have l2 : K.length ≤ (List.range K.length).length := by simp
  have k1 : (((List.range K.length).zip K).map fun p => ((Sum.inr p.2 : Key), iD p.1)).map (·.1) = K.map Sum.inr := by
    rw [List.map_map]
    have : ((fun x : Key × D => x.1) ∘ fun p : Nat × Str => ((Sum.inr p.2 : Key), iD p.1)) = Sum.inr ∘ Prod.snd := rfl
    rw [this, ← List.map_map, List.map_snd_zip l2]
  have k2 : (((List.range K.length).zip K).map fun p => ((Sum.inr p.2 : Key), iD p.1)).map (·.2) = (List.range K.length).map iD := by
    rw [List.map_map]
    have : ((fun x : Key × D => x.2) ∘ fun p : Nat × Str => ((Sum.inr p.2 : Key), iD p.1)) = iD ∘ Prod.fst := rfl
    rw [this, ← List.map_map, List.map_fst_zip l1]
  have f1 : ((List.range K.length).zip K).filter (fun _ => true) = (List.range K.length).zip K := List.filter_eq_self.mpr fun _ _ => rfl
  rw [e, f1, fold_new]
  · rw [List.nil_append]
    unfold dicD plD
    rw [k1, k2]
  · rw [List.nil_append, k1]
    exact List.pairwise_map.mpr (nd.imp fun n e => n (Sum.inr.inj e))
/-- place[k] -/
def idx (K : List Str) (k : Str) : Nat := K.idxOf k
theorem getK_pl : ∀ (K : List Str) (s : Nat) (k : Str), k ∈ K → getK (K.map Sum.inr) ((List.range' s K.length).map iD) (.inr k) = some (iD (s + K.idxOf k))
  | [], _, _, h => by cases h
  | x :: K, s, k, h => by
    unfold getK
    rw [List.map_cons, List.length_cons, List.range'_succ, List.map_cons, List.zip_cons_cons]
    by_cases e : x = k
    · rw [List.find?_cons_of_pos (by simp [e])]
      subst e
      simp
    · rw [List.find?_cons_of_neg (by simp [e])]
      have m : k ∈ K := by
        rcases List.mem_cons.mp h with z | z
        · exact absurd z.symm e
        · exact z
      have := getK_pl K (s + 1) k m
      unfold getK at this
      rw [this, List.idxOf_cons, show (x == k) = false by simpa using e]
      show some (iD (s + 1 + K.idxOf k)) = some (iD (s + (K.idxOf k + 1)))
      congr 2
      omega
theorem getK_not : ∀ (K : List Str) (vs : List D) (k : Str), k ∉ K → getK (K.map Sum.inr) vs (.inr k) = none := fun K vs k h => by
  unfold getK
  rw [Option.map_eq_none_iff, List.find?_eq_none]
  intro x hx
  obtain ⟨h1, _⟩ := List.of_mem_zip hx
  obtain ⟨y, hy, e⟩ := List.mem_map.mp h1
  simp
  rw [← e]
  intro z
  cases z
  exact h hy
theorem pl_ix {K : List Str} {k : Str} (h : k ∈ K) : opIx (plD K) (.str k) = .ok (iD (idx K k)) := by
  have := getK_pl K 0 k h
  rw [← List.range_eq_range', Nat.zero_add] at this
  show (match getK (K.map Sum.inr) ((List.range K.length).map iD) (.inr k) with
    | some d => M.ok d
    | none => .bad) = _
  rw [this]
  rfl
theorem idx_lt {K : List Str} {k : Str} (h : k ∈ K) : idx K k < K.length := List.idxOf_lt_length_of_mem h
theorem idx_get {K : List Str} {k : Str} (h : k ∈ K) : K[idx K k]'(idx_lt h) = k := List.getElem_idxOf (idx_lt h)
theorem idx_inj {K : List Str} {a b : Str} (ha : a ∈ K) (hb : b ∈ K) (e : idx K a = idx K b) : a = b := by
  have h1 := idx_get ha
  have h2 := idx_get hb
  rw [← h1, ← h2]
  congr 1
theorem idx_of {K : List Str} (nd : K.Nodup) {i : Nat} (h : i < K.length) : idx K K[i] = i := nd.idxOf_getElem i h
end Vw

/-! Q3 -/
namespace Vw
open PySem PySem.Spec PyProof.Rows L2
def nearI (K : List Str) (S : List (Str × Str)) (k : Str) : List Nat := (Sx.nearM S k).map (idx K)
def bitsK (K : List Str) (S : List (Str × Str)) (k : Str) : Nat := ((nearI K S k).map fun a => 2 ^ a).sum
theorem clashing_ok {K : List Str} {S : List (Str × Str)} {k : Str} (h : k ∈ K) : dBclashing [.book K S, .str k] = .ok (.tup ((Sx.nearM S k).map D.str)) := by
  have a : dBask [.book K S, .tup [.str k]] = .ok .non := by
    show runB (bBask [.fr (.book K S), .fr (.tup [.str k]), .un]) = _
    have t : (notB (asB (seq2 (rd 2) (rd 0) inNear))) [.fr (.book K S), .fr (.tup [.str k]), .fr (.str k)] = .ok false := by
      show M.ok (!(decide (k ∈ K))) = _
      rw [decide_eq_true h]; rfl
    have l : bBask [.fr (.book K S), .fr (.tup [.str k]), .un] = .ok (.next [.fr (.book K S), .fr (.tup [.str k]), .fr (.str k)]) := by
      show loopM (fun d e => setG 2 d e >>= ifS (notB (asB (seq2 (rd 2) (rd 0) inNear))) (fun _ => .bad) (fun env => .ok (.next env))) [.str k] [.fr (.book K S), .fr (.tup [.str k]), .un] = _
      refine (loop_next (e := [.fr (.book K S), .fr (.tup [.str k]), .fr (.str k)]) ?_).trans rfl
      exact Eq.trans (b := ifS (notB (asB (seq2 (rd 2) (rd 0) inNear))) (fun _ => .bad) (fun env => .ok (.next env)) [.fr (.book K S), .fr (.tup [.str k]), .fr (.str k)]) rfl (if_no t)
    rw [l]; rfl
  have n : nearD (.book K S) (.str k) = .ok (.tup ((Sx.nearM S k).map D.str)) := by
    show (if k ∈ K then M.ok _ else .bad) = _
    rw [if_pos h]
  show runB (bBclashing [.fr (.book K S), .fr (.str k)]) = _
  unfold bBclashing
  rw [seq_next (e := [.fr (.book K S), .fr (.str k)])]
  · show runB (nearD (.book K S) (.str k) >>= fun d => M.ok (Fl.ret d)) = _
    rw [n]; rfl
  · show (arity 2 dBask [.book K S, .tup [.str k]] >>= _) = _
    rw [show arity 2 dBask [.book K S, .tup [.str k]] = dBask [.book K S, .tup [.str k]] from rfl, a]; rfl
theorem allI_map {α : Type} (f : α → Int) : ∀ l : List α, allI (l.map fun x => D.int (f x)) = some (l.map f)
  | [] => rfl
  | x :: l => by
    show (allI (l.map fun x => D.int (f x))).map _ = _
    rw [allI_map f l]; rfl
theorem sum_nat : ∀ l : List Nat, (l.map fun i : Nat => (i : Int)).sum = ((l.sum : Nat) : Int)
  | [] => rfl
  | x :: l => by rw [List.map_cons, List.sum_cons, List.sum_cons, sum_nat l]; omega
theorem clash_ok {K : List Str} {S : List (Str × Str)} (h : Bk K S) : dclash_bits [.book K S] = .ok (.lst (K.map fun k => iD (bitsK K S k))) := by
  show runB (bclash_bits [.fr (.book K S), .un, .un, .un, .un]) = _
  unfold bclash_bits
  rw [seq_next (e := [.fr (.book K S), .fr (plD K), .un, .un, .un])]
  · refine (show ∀ {m : M D} {d : D}, m = .ok d → runB (m >>= fun d => M.ok (Fl.ret d)) = .ok d from fun e => by rw [e]; rfl) ?_
    refine comp_map (xs := K) (p := D.str) (q := fun k => iD (bitsK K S k)) rfl (by have := h.few; unfold lim; omega) fun k hk => ?_
    refine turn_ok (e := [.fr (.book K S), .fr (plD K), .un, .fr (.str k), .un]) rfl rfl ?_
    have inner : compV [4] (fun env => (fun env => (rd 0) env >>= fun d => (consD (rd 3) (fun _ => .ok [])) env >>= fun xs => match d with
      | .book ks cs => arity 2 dBclashing (.book ks cs :: xs)
      | _ => .bad) env >>= walkD) (setG 4) (fun _ => .ok true) (seq2 (fun _ => .ok (.int 1)) (seq2 (pk 1) (pk 4) opIx) opShl) [.fr (.book K S), .fr (plD K), .un, .fr (.str k), .un]
        = .ok (.lst ((Sx.nearM S k).map fun o => .int ((2 ^ idx K o : Nat) : Int))) := by
      have ln : (Sx.nearM S k).length ≤ 40 := by
        have := Sx.few_of (h.nd k) (h.mem k)
        have := h.few
        omega
      refine comp_map (xs := Sx.nearM S k) (p := D.str) (q := fun o => .int ((2 ^ idx K o : Nat) : Int)) ?_ (by unfold lim; omega) fun o ho => ?_
      · show (arity 2 dBclashing [.book K S, .str k] >>= walkD) = _
        rw [show arity 2 dBclashing [.book K S, .str k] = dBclashing [.book K S, .str k] from rfl, clashing_ok hk]; rfl
      · have mo := h.mem k o ho
        have lt := idx_lt mo
        have := h.few
        refine turn_ok (e := [.fr (.book K S), .fr (plD K), .un, .fr (.str k), .fr (.str o)]) rfl rfl ?_
        show (opIx (plD K) (.str o) >>= fun y => opShl (.int 1) y) = _
        rw [pl_ix mo, ok_bind]
        unfold iD
        show (if (0 : Int) ≤ (idx K o : Nat) ∧ ((idx K o : Nat) : Int) ≤ 1000 ∧ (1 : Int).natAbs < 2 ^ 64 then M.ok (D.int (1 * 2 ^ ((idx K o : Nat) : Int).toNat)) else .bad) = _
        rw [if_pos ⟨by omega, by omega, by decide⟩, Int.toNat_natCast, Int.one_mul]
        congr 2
    refine (seqN_ok (xs := [_]) (cons_ok inner rfl)).trans ?_
    show sumD _ = _
    unfold sumD
    dsimp only
    rw [allI_map (fun o => ((2 ^ idx K o : Nat) : Int))]
    show M.ok (D.int _) = _
    unfold iD bitsK nearI
    rw [List.map_map]
    have : ((Sx.nearM S k).map fun o => ((2 ^ idx K o : Nat) : Int)) = ((Sx.nearM S k).map ((fun a => 2 ^ a) ∘ idx K)).map fun i : Nat => (i : Int) := by rw [List.map_map]; rfl
    rw [this, sum_nat]
  · refine set_ok (placeD h.nodup (by have := h.few; omega) ?_ fun i k => rfl)
    show (M.ok _ >>= _) = _
    rfl
/-- which places clash with a kind -/
def adj (S : List (Str × Str)) (a b : Str) : Bool := decide (b ∈ Sx.nearM S a)
theorem bitsK_bit {K : List Str} {S : List (Str × Str)} (h : Bk K S) (k : Str) {i : Nat} (hi : i < K.length) : (bitsK K S k).testBit i = adj S k K[i] := by
  have nd : (nearI K S k).Nodup := by
    unfold nearI
    refine List.pairwise_map.mpr ?_
    refine (List.Pairwise.imp_of_mem (R := fun a b => a ≠ b) (fun {a b} ha hb n e => n (idx_inj (h.mem k a ha) (h.mem k b hb) e)) (h.nd k))
  unfold bitsK
  rw [sum_bits _ nd]
  unfold adj nearI
  congr 1
  apply propext
  rw [List.mem_map]
  constructor
  · rintro ⟨o, ho, e⟩
    have mo := h.mem k o ho
    have : K[i] = o := by
      have := idx_get mo
      rw [← this]
      congr 1
      exact e.symm
    rw [this]; exact ho
  · intro ho
    exact ⟨K[i], ho, idx_of h.nodup hi⟩
theorem bitsK_lt {K : List Str} {S : List (Str × Str)} (h : Bk K S) (k : Str) : bitsK K S k < 2 ^ K.length := by
  have nd : (nearI K S k).Nodup := by
    unfold nearI
    refine List.pairwise_map.mpr ?_
    refine (List.Pairwise.imp_of_mem (R := fun a b => a ≠ b) (fun {a b} ha hb n e => n (idx_inj (h.mem k a ha) (h.mem k b hb) e)) (h.nd k))
  refine sum_lt _ _ nd fun a ha => ?_
  obtain ⟨o, ho, e⟩ := List.mem_map.mp ha
  rw [← e]
  exact idx_lt (h.mem k o ho)
end Vw

/-! Q4 -/
namespace Vw
open PySem PySem.Spec PyProof.Rows L2
section
variable (K : List Str) (S : List (Str × Str))
def KX (i : Nat) : Str := K[i]?.getD ""
def BX (i : Nat) : Nat := bitsK K S (KX K i)
def quadD (a b c d : Nat) : D := .tup [iD a, iD b, iD c, iD d]
def L3 (a b c : Nat) : List D := (places K.length ((BX K S c - (BX K S c &&& BX K S a)) - ((BX K S c - (BX K S c &&& BX K S a)) &&& BX K S b))).flatMap fun d => if a < d then [quadD a b c d] else []
def L2' (a b : Nat) : List D := (places K.length (BX K S b - (BX K S b &&& BX K S a))).flatMap (L3 K S a b)
def L1 (a : Nat) : List D := (places K.length (BX K S a)).flatMap (L2' K S a)
def L0 : List D := (List.range K.length).flatMap (L1 K S)
end
theorem flat_len {α β : Type} {f : α → List β} {m : Nat} : ∀ {xs : List α}, (∀ x ∈ xs, (f x).length ≤ m) → (xs.flatMap f).length ≤ xs.length * m
  | [], _ => by simp
  | x :: xs, h => by
    rw [List.flatMap_cons, List.length_append, List.length_cons, Nat.add_mul, Nat.one_mul]
    have := flat_len (xs := xs) fun y hy => h y (List.mem_cons_of_mem _ hy)
    have := h x List.mem_cons_self
    omega
section
variable {K : List Str} {S : List (Str × Str)}
theorem L3_len (a b c : Nat) : (L3 K S a b c).length ≤ K.length := by
  refine Nat.le_trans (flat_len (m := 1) fun d _ => ?_) (by rw [Nat.mul_one]; exact places_len _ _)
  split <;> simp
theorem L2_len (a b : Nat) : (L2' K S a b).length ≤ K.length * K.length := Nat.le_trans (flat_len fun c _ => L3_len a b c) (Nat.mul_le_mul_right _ (places_len _ _))
theorem L1_len (a : Nat) : (L1 K S a).length ≤ K.length * (K.length * K.length) := Nat.le_trans (flat_len fun c _ => L2_len a c) (Nat.mul_le_mul_right _ (places_len _ _))
theorem L0_len : (L0 K S).length ≤ K.length * (K.length * (K.length * K.length)) := Nat.le_trans (flat_len fun c _ => L1_len c) (Nat.mul_le_mul_right _ (by rw [List.length_range]; exact Nat.le_refl _))
theorem places_lt {f n i : Nat} (h : i ∈ places f n) : i < f := by
  unfold places at h
  exact List.mem_range.mp (List.mem_filter.mp h).1
theorem KX_is {i : Nat} (h : i < K.length) : KX K i = K[i] := by unfold KX; rw [List.getElem?_eq_getElem h]; rfl
theorem ix_C {i : Nat} (h : i < K.length) : opIx (.lst (K.map fun k => iD (bitsK K S k))) (iD i) = .ok (iD (BX K S i)) := by
  unfold BX iD
  rw [KX_is h]
  show (match atI (K.map fun k => iD (bitsK K S k)) ((i : Nat) : Int) with
    | some d => M.ok d
    | none => .bad) = _
  rw [atI_nat (by rw [List.getElem?_map, List.getElem?_eq_getElem h]; rfl)]
  rfl
theorem ones_walk {f n : Nat} (hf : f ≤ 1000) (hn : n < 2 ^ f) {as : En → M (List D)} {env : En} (h : as env = .ok [iD n]) : (fun env => (seqN as (arity 1 dones)) env >>= walkD) env = .ok ((places f n).map iD) := by
  show (seqN as (arity 1 dones) env >>= walkD) = _
  rw [seqN_ok h, show arity 1 dones [iD n] = dones [.int (n : Nat)] from rfl, ones_ok hf hn]
  rfl
theorem fours_found (h : Bk K S) (hk : K.length ≤ 10) : b_fours [.fr (.book K S), .un, .un, .un, .un, .un, .un, .un, .un] = ((fun env => (compV [8] (fun env => (rd 2) env >>= walkD) (setG 8) (fun _ => .ok true) (seqN (consD (compV [7] (fun env => (rd 8) env >>= walkD) (setG 7) (fun _ => .ok true) (seq2 (fun env => (rd 0) env >>= fun d => match d with
  | .book ks cs => dBkinds [.book ks cs]
  | _ => .bad) (pk 7) opIx)) (fun _ => .ok [])) (one tupD))) env >>= fun d => .ok (.ret d)) [.fr (.book K S), .fr (.lst (K.map fun k => iD (bitsK K S k))), .fr (.lst (L0 K S)), .un, .un, .un, .un, .un, .un] : M Fl) := by
  have hB : ∀ i, BX K S i < 2 ^ K.length := fun i => bitsK_lt h _
  have hB2 : ∀ i j, BX K S i - (BX K S i &&& j) < 2 ^ K.length := fun i j => Nat.lt_of_le_of_lt (Nat.sub_le _ _) (hB i)
  unfold b_fours
  rw [seq_next (e := [.fr (.book K S), .fr (.lst (K.map fun k => iD (bitsK K S k))), .un, .un, .un, .un, .un, .un, .un]) (set_ok ((seqN_ok (op := arity 1 dclash_bits) (xs := [.book K S]) rfl).trans (show arity 1 dclash_bits [.book K S] = _ from clash_ok h)))]
  refine (seq_next (e := [.fr (.book K S), .fr (.lst (K.map fun k => iD (bitsK K S k))), .fr (.lst (L0 K S)), .un, .un, .un, .un, .un, .un]) ?_).trans rfl
  have hlen : ([] : List D).length + ((List.range K.length).flatMap (L1 K S)).length ≤ 100000 := by
    have := L0_len (K := K) (S := S)
    have e : K.length * (K.length * (K.length * K.length)) ≤ 10 * (10 * (10 * 10)) := Nat.mul_le_mul hk (Nat.mul_le_mul hk (Nat.mul_le_mul hk hk))
    unfold L0 at this
    simp only [List.length_nil]
    omega
  refine set_ok (d := .lst (L0 K S)) ?_
  refine compN_ok (r := L0 K S) ?_
  refine runN_puts (p := iD) (xs := List.range K.length) (r := L1 K S) (N := 100000) rfl ?_ (fun a ha => ?_) [] hlen
  · show ((M.ok [D.int ((K.map fun k => iD (bitsK K S k)).length : Nat)]) >>= rng1) = _
    rw [ok_bind, List.length_map, rng1_ok (by omega)]
    rfl
  · have la : a < K.length := List.mem_range.mp ha
    refine ⟨[.fr (.book K S), .fr (.lst (K.map fun k => iD (bitsK K S k))), .un, .fr (iD a), .un, .un, .un, .un, .un], true, rfl, rfl, fun _ acc hl => ?_, fun z => by cases z⟩
    refine runN_puts (p := iD) (xs := places K.length (BX K S a)) (r := L2' K S a) (N := 100000) rfl (ones_walk (by omega) (hB a) (cons_ok ((seq2_ok rfl rfl).trans (ix_C la)) rfl)) (fun b hb => ?_) acc hl
    have lb := places_lt hb
    refine ⟨[.fr (.book K S), .fr (.lst (K.map fun k => iD (bitsK K S k))), .un, .fr (iD a), .fr (iD b), .un, .un, .un, .un], true, rfl, rfl, fun _ acc hl => ?_, fun z => by cases z⟩
    refine runN_puts (p := iD) (xs := places K.length (BX K S b - (BX K S b &&& BX K S a))) (r := L3 K S a b) (N := 100000) rfl (ones_walk (by omega) (hB2 _ _) (cons_ok ?_ rfl)) (fun c hc => ?_) acc hl
    · refine (seq2_ok (x := iD (BX K S b)) (y := .int (Builtin.bitNot (BX K S a : Int))) ((seq2_ok rfl rfl).trans (ix_C lb)) ?_).trans ?_
      · exact (bind_ok ((seq2_ok rfl rfl).trans (ix_C la))).trans rfl
      · show M.ok (D.int (Builtin.bitAnd (BX K S b : Int) (Builtin.bitNot (BX K S a : Int)))) = _
        rw [band_not]; rfl
    · have lc := places_lt hc
      refine ⟨[.fr (.book K S), .fr (.lst (K.map fun k => iD (bitsK K S k))), .un, .fr (iD a), .fr (iD b), .fr (iD c), .un, .un, .un], true, rfl, rfl, fun _ acc hl => ?_, fun z => by cases z⟩
      refine runN_puts (p := iD) (xs := places K.length ((BX K S c - (BX K S c &&& BX K S a)) - ((BX K S c - (BX K S c &&& BX K S a)) &&& BX K S b))) (r := fun d => if a < d then [quadD a b c d] else []) (N := 100000) rfl (ones_walk (by omega) (Nat.lt_of_le_of_lt (Nat.sub_le _ _) (hB2 _ _)) (cons_ok ?_ rfl)) (fun d hd => ?_) acc hl
      · refine (seq2_ok (x := iD (BX K S c - (BX K S c &&& BX K S a))) (y := .int (Builtin.bitNot (BX K S b : Int))) ((seq2_ok (x := iD (BX K S c)) (y := .int (Builtin.bitNot (BX K S a : Int))) ((seq2_ok rfl rfl).trans (ix_C lc)) ?_).trans ?_) ?_).trans ?_
        · exact (bind_ok ((seq2_ok rfl rfl).trans (ix_C la))).trans rfl
        · show M.ok (D.int (Builtin.bitAnd (BX K S c : Int) (Builtin.bitNot (BX K S a : Int)))) = _
          rw [band_not]; rfl
        · exact (bind_ok ((seq2_ok rfl rfl).trans (ix_C lb))).trans rfl
        · show M.ok (D.int (Builtin.bitAnd ((BX K S c - (BX K S c &&& BX K S a) : Nat) : Int) (Builtin.bitNot (BX K S b : Int)))) = _
          rw [band_not]; rfl
      · refine ⟨[.fr (.book K S), .fr (.lst (K.map fun k => iD (bitsK K S k))), .un, .fr (iD a), .fr (iD b), .fr (iD c), .fr (iD d), .un, .un], decide (a < d), rfl, ?_, fun hd acc hl => ?_, fun hd => ?_⟩
        · show M.ok (decide ((a : Int) < (d : Int))) = _
          congr 1
          apply decide_eq_decide.mpr
          omega
        · have hd := of_decide_eq_true hd
          rw [if_pos hd] at hl ⊢
          exact runN_end rfl acc (by simpa using hl)
        · rw [if_neg (of_decide_eq_false hd)]
end
end Vw

/-! Q5 -/
namespace Vw
open PySem PySem.Spec PyProof.Rows L2
theorem flat_congr {α β : Type} {f g : α → List β} : ∀ {l : List α}, (∀ x ∈ l, f x = g x) → l.flatMap f = l.flatMap g
  | [], _ => rfl
  | x :: l, h => by rw [List.flatMap_cons, List.flatMap_cons, h x List.mem_cons_self, flat_congr fun y hy => h y (List.mem_cons_of_mem _ hy)]
theorem filter_flat {α β : Type} {p : α → Bool} {f : α → List β} : ∀ l : List α, (l.filter p).flatMap f = l.flatMap fun x => if p x = true then f x else []
  | [] => rfl
  | x :: l => by
    rw [List.filter_cons, List.flatMap_cons]
    by_cases h : p x = true
    · rw [if_pos h, if_pos h, List.flatMap_cons, filter_flat l]
    · rw [if_neg h, if_neg h, filter_flat l, List.nil_append]
section
variable {K : List Str} {S : List (Str × Str)}
theorem K_range : K = (List.range K.length).map (KX K) := by
  apply List.ext_getElem
  · simp
  · intro i h1 h2
    rw [List.getElem_map, List.getElem_range, KX_is h1]
theorem flat_range {β : Type} {f : Nat → List β} {g : Str → List β} (h : ∀ i, i < K.length → f i = g (KX K i)) : (List.range K.length).flatMap f = K.flatMap g := by
  conv => rhs; rw [K_range (K := K)]
  rw [List.flatMap_map]
  exact flat_congr fun i hi => h i (List.mem_range.mp hi)
theorem flat_places {β : Type} {B : Nat} {q : Str → Bool} {f : Nat → List β} {g : Str → List β} (hb : ∀ i, i < K.length → B.testBit i = q (KX K i)) (h : ∀ i, i < K.length → f i = g (KX K i)) : (places K.length B).flatMap f = K.flatMap fun k => if q k = true then g k else [] := by
  unfold places
  rw [filter_flat]
  refine flat_range fun i hi => ?_
  rw [hb i hi, h i hi]
theorem up_lt (h : Up K) {i j : Nat} (hi : i < K.length) (hj : j < K.length) : decide (i < j) = Sx.ltS (KX K i) (KX K j) := by
  rw [KX_is hi, KX_is hj]
  have h := List.pairwise_iff_getElem.mp h
  rcases Nat.lt_trichotomy i j with c | c | c
  · rw [decide_eq_true c, h i j hi hj c]
  · subst c
    rw [Sx.ltS_irr, decide_eq_false (Nat.lt_irrefl _)]
  · have := h j i hj hi c
    rw [Sx.ltS_asym this, decide_eq_false (by omega)]
theorem BX_bit (h : Bk K S) {a i : Nat} (hi : i < K.length) : (BX K S a).testBit i = adj S (KX K a) (KX K i) := by
  unfold BX
  rw [bitsK_bit h _ hi, KX_is hi]
def KD (i : Int) : D := .str (KX K i.toNat)
def toK (K : List Str) : D → D
  | .tup [.int a, .int b, .int c, .int d] => .tup [.str (KX K a.toNat), .str (KX K b.toNat), .str (KX K c.toNat), .str (KX K d.toNat)]
  | _ => .non
theorem toK_quad (a b c d : Nat) : toK K (quadD a b c d) = tupS [KX K a, KX K b, KX K c, KX K d] := rfl
/-- all fours of kinds, in their order -/
def quadF (K : List Str) (P : Str → Str → Str → Str → Bool) : List (List Str) := K.flatMap fun a => K.flatMap fun b => K.flatMap fun c => K.flatMap fun d => if P a b c d = true then [[a, b, c, d]] else []
def P1 (S : List (Str × Str)) (a b c d : Str) : Bool := adj S a b && (adj S b c && !adj S a c) && ((adj S c d && !adj S a d && !adj S b d) && Sx.ltS a d)
theorem ite_flat {β : Type} {c : Bool} {f : Str → List β} : (if c = true then K.flatMap f else []) = K.flatMap fun k => if c = true then f k else [] := by
  cases c with
  | true => simp
  | false =>
    rw [if_neg (by decide)]
    symm
    rw [List.flatMap_eq_nil_iff]
    intro k _
    rfl
theorem found_is (h : Bk K S) : (L0 K S).map (toK K) = (quadF K (P1 S)).map tupS := by
  unfold L0 quadF
  rw [List.map_flatMap, List.map_flatMap]
  refine flat_range fun a ha => ?_
  unfold L1
  rw [List.map_flatMap, List.map_flatMap]
  rw [flat_places (q := fun b => adj S (KX K a) b) (g := fun b => K.flatMap fun c => if (adj S b c && !adj S (KX K a) c) = true then K.flatMap (fun d => if (adj S c d && !adj S (KX K a) d && !adj S b d) = true then (if Sx.ltS (KX K a) d = true then [tupS [KX K a, b, c, d]] else []) else []) else []) (fun i hi => BX_bit h hi) fun b hb => ?_]
  · refine flat_congr fun b _ => ?_
    rw [List.map_flatMap, ite_flat]
    refine flat_congr fun c _ => ?_
    rw [List.map_flatMap, ite_flat, ite_flat]
    refine flat_congr fun d _ => ?_
    unfold P1
    cases adj S (KX K a) b <;> cases (adj S b c && !adj S (KX K a) c) <;> cases (adj S c d && !adj S (KX K a) d && !adj S b d) <;> cases Sx.ltS (KX K a) d <;> rfl
  · unfold L2'
    rw [List.map_flatMap]
    refine flat_places (q := fun c => (adj S (KX K b) c && !adj S (KX K a) c)) (fun i hi => by rw [sub_and_bit, BX_bit h hi, BX_bit h hi]) fun c hc => ?_
    unfold L3
    rw [List.map_flatMap]
    refine flat_places (q := fun d => (adj S (KX K c) d && !adj S (KX K a) d && !adj S (KX K b) d)) (fun i hi => by rw [sub_and_bit, sub_and_bit, BX_bit h hi, BX_bit h hi, BX_bit h hi]) fun d hd => ?_
    have e := up_lt h.up ha hd
    by_cases lt : a < d
    · rw [if_pos lt, if_pos (by rw [← e]; exact decide_eq_true lt)]; rfl
    · rw [if_neg lt, if_neg (by rw [← e]; simpa using lt)]; rfl
theorem L0_mem {q : D} (hq : q ∈ L0 K S) : ∃ a b c d, q = quadD a b c d ∧ a < K.length ∧ b < K.length ∧ c < K.length ∧ d < K.length := by
  obtain ⟨a, ha, hq⟩ := List.mem_flatMap.mp hq
  obtain ⟨b, hb, hq⟩ := List.mem_flatMap.mp hq
  obtain ⟨c, hc, hq⟩ := List.mem_flatMap.mp hq
  obtain ⟨d, hd, hq⟩ := List.mem_flatMap.mp hq
  split at hq
  · rw [List.mem_singleton] at hq
    exact ⟨a, b, c, d, hq, List.mem_range.mp ha, places_lt hb, places_lt hc, places_lt hd⟩
  · cases hq
theorem kix {i : Nat} (hi : i < K.length) : opIx (.tup (K.map D.str)) (iD i) = .ok (.str (KX K i)) := by
  rw [KX_is hi]
  unfold iD
  show (match atI (K.map D.str) ((i : Nat) : Int) with
    | some d => M.ok d
    | none => .bad) = _
  rw [atI_nat (by rw [List.getElem?_map, List.getElem?_eq_getElem hi]; rfl)]
theorem fours_ok (h : Bk K S) (hk : K.length ≤ 10) : d_fours [.book K S] = .ok (.lst ((quadF K (P1 S)).map tupS)) := by
  show runB (b_fours [.fr (.book K S), .un, .un, .un, .un, .un, .un, .un, .un]) = _
  rw [fours_found h hk]
  refine ret_is ?_
  have hlen : (L0 K S).length ≤ lim := by
    have := L0_len (K := K) (S := S)
    have e : K.length * (K.length * (K.length * K.length)) ≤ 10 * (10 * (10 * 10)) := Nat.mul_le_mul hk (Nat.mul_le_mul hk (Nat.mul_le_mul hk hk))
    unfold lim
    omega
  rw [← found_is h]
  refine comp_each (ds := L0 K S) (gd := toK K) rfl hlen fun q hq => ?_
  obtain ⟨a, b, c, d, rfl, ha, hb, hc, hd⟩ := L0_mem hq
  refine turn_ok (e := [.fr (.book K S), .fr (.lst (K.map fun k => iD (bitsK K S k))), .fr (.lst (L0 K S)), .un, .un, .un, .un, .un, .fr (quadD a b c d)]) rfl rfl ?_
  refine (seqN_ok (xs := [.lst [.str (KX K a), .str (KX K b), .str (KX K c), .str (KX K d)]]) (cons_ok ?_ rfl)).trans rfl
  refine comp_map (xs := [a, b, c, d]) (p := iD) (q := fun i => .str (KX K i)) rfl (by unfold lim; simp) fun i hi => ?_
  have hi : i < K.length := by
    simp only [List.mem_cons, List.not_mem_nil, or_false] at hi
    rcases hi with rfl | rfl | rfl | rfl <;> assumption
  exact turn_ok (e := [.fr (.book K S), .fr (.lst (K.map fun k => iD (bitsK K S k))), .fr (.lst (L0 K S)), .un, .un, .un, .un, .fr (iD i), .fr (quadD a b c d)]) rfl rfl ((seq2_ok (x := .tup (K.map D.str)) rfl rfl).trans (kix hi))
end
end Vw

/-! Q6 -/
namespace Vw
open PySem PySem.Spec PyProof.Rows L2
theorem pl_get {O : List Str} {k : Str} {v : D} (h : k ∈ O) : opGet (plD O) (.str k) v = .ok (iD (idx O k)) := by
  have := getK_pl O 0 k h
  rw [← List.range_eq_range', Nat.zero_add] at this
  show M.ok ((getK (O.map Sum.inr) ((List.range O.length).map iD) (.inr k)).getD v) = _
  rw [this]
  rfl
def badQ (O : List Str) : List Str → Bool
  | [a, b, c, d] => decide (idx O a < idx O b) && decide (idx O d < idx O c)
  | _ => false
theorem lt_iD (i j : Nat) : opLt (iD i) (iD j) = .ok (.bl (decide (i < j))) := by
  show M.ok (D.bl (decide ((i : Int) < (j : Int)))) = _
  congr 2
  apply decide_eq_decide.mpr
  omega
theorem is_bad_ok {O : List Str} {a b c d : Str} (ha : a ∈ O) (hb : b ∈ O) (hc : c ∈ O) (hd : d ∈ O) : d_is_bad [tupS [a, b, c, d], plD O] = .ok (.bl (badQ O [a, b, c, d])) := by
  show runB (b_is_bad [.fr (tupS [a, b, c, d]), .fr (plD O), .un, .un, .un, .un, .un]) = _
  unfold b_is_bad
  rw [seq_next (e := [.fr (tupS [a, b, c, d]), .fr (plD O), .fr (iD (idx O a)), .fr (iD (idx O b)), .fr (iD (idx O c)), .fr (iD (idx O d)), .un])]
  · refine ret_is ?_
    show (opLt (iD (idx O a)) (iD (idx O b)) >>= _) = _
    rw [lt_iD, ok_bind]
    show (if decide (idx O a < idx O b) = true then opLt (iD (idx O d)) (iD (idx O c)) else M.ok (D.bl false)) = _
    rw [lt_iD]
    show _ = M.ok (D.bl (decide (idx O a < idx O b) && decide (idx O d < idx O c)))
    cases decide (idx O a < idx O b) with
    | true => rw [if_pos rfl, Bool.true_and]
    | false => rw [if_neg (by decide), Bool.false_and]
  · have e := comp_map (xs := [a, b, c, d]) (p := D.str) (q := fun k => iD (idx O k)) (vs := [6]) (di := (fun env => (rd 0) env >>= walkD)) (g := setG 6) (dt := (fun _ => .ok true)) (de := (fun env => (pk 1) env >>= fun d => isDic d >>= fun _ => (rd 6) env >>= fun k => (seqN (consD (pk 1) (fun _ => .ok [])) (one lenD)) env >>= fun v => opGet d k v))
      (env := [.fr (tupS [a, b, c, d]), .fr (plD O), .un, .un, .un, .un, .un]) rfl (by unfold lim; simp) fun k hk => by
        have hk : k ∈ O := by
          simp only [List.mem_cons, List.not_mem_nil, or_false] at hk
          rcases hk with rfl | rfl | rfl | rfl <;> assumption
        refine turn_ok (e := [.fr (tupS [a, b, c, d]), .fr (plD O), .un, .un, .un, .un, .fr (.str k)]) rfl rfl ?_
        show opGet (plD O) (.str k) _ = _
        exact pl_get hk
    refine (bind_ok e).trans rfl
def resD : Option (List Str) → D
  | none => .non
  | some q => tupS q
/-- a four of kinds -/
def Quad (O : List Str) (q : List Str) : Prop := ∃ a b c d, q = [a, b, c, d] ∧ a ∈ O ∧ b ∈ O ∧ c ∈ O ∧ d ∈ O
theorem bad_loop {O : List Str} {x y : D} {s3 s4 : Sl} : ∀ {qs : List (List Str)} (s5 : Sl), (∀ q ∈ qs, Quad O q) → (∃ q, qs.find? (badQ O) = some q ∧ loopM (fun d e => setG 5 d e >>= bbad_four_L1) (qs.map tupS) [.fr x, .fr y, .fr (plD O), s3, s4, s5] = .ok (.ret (tupS q))) ∨
    (qs.find? (badQ O) = none ∧ ∃ s, loopM (fun d e => setG 5 d e >>= bbad_four_L1) (qs.map tupS) [.fr x, .fr y, .fr (plD O), s3, s4, s5] = .ok (.next [.fr x, .fr y, .fr (plD O), s3, s4, s]))
  | [], s5, _ => .inr ⟨rfl, s5, rfl⟩
  | q :: qs, s5, h => by
    obtain ⟨a, b, c, d, rfl, ha, hb, hc, hd⟩ := h q List.mem_cons_self
    have t : (asB (seqN (consD (rd 5) (consD (rd 2) (fun _ => .ok []))) (arity 2 d_is_bad))) [.fr x, .fr y, .fr (plD O), s3, s4, .fr (tupS [a, b, c, d])] = .ok (badQ O [a, b, c, d]) := by
      refine asB_ok ((seqN_ok (op := arity 2 d_is_bad) (xs := [tupS [a, b, c, d], plD O]) rfl).trans ?_)
      rw [ar2]
      exact is_bad_ok ha hb hc hd
    have st : (fun d e => setG 5 d e >>= bbad_four_L1) (tupS [a, b, c, d]) [.fr x, .fr y, .fr (plD O), s3, s4, s5] = if badQ O [a, b, c, d] = true then .ok (.ret (tupS [a, b, c, d])) else .ok (.next [.fr x, .fr y, .fr (plD O), s3, s4, .fr (tupS [a, b, c, d])]) := by
      show (setG 5 (tupS [a, b, c, d]) [.fr x, .fr y, .fr (plD O), s3, s4, s5] >>= bbad_four_L1) = _
      rw [show setG 5 (tupS [a, b, c, d]) [.fr x, .fr y, .fr (plD O), s3, s4, s5] = .ok [.fr x, .fr y, .fr (plD O), s3, s4, .fr (tupS [a, b, c, d])] from rfl, ok_bind]
      unfold bbad_four_L1
      rw [if_ok t]
      rfl
    rw [List.find?_cons]
    cases e : badQ O [a, b, c, d] with
    | true =>
      rw [e, if_pos rfl] at st
      exact .inl ⟨_, rfl, loop_ret (f := fun d e => setG 5 d e >>= bbad_four_L1) (d := tupS [a, b, c, d]) (env := [.fr x, .fr y, .fr (plD O), s3, s4, s5]) (ds := qs.map tupS) (r := tupS [a, b, c, d]) st⟩
    | false =>
      rw [e, if_neg (by decide)] at st
      rcases bad_loop (.fr (tupS [a, b, c, d])) (fun z hz => h z (List.mem_cons_of_mem _ hz)) with ⟨q, e1, e2⟩ | ⟨e1, s, e2⟩
      · exact .inl ⟨q, e1, (loop_next (f := fun d e => setG 5 d e >>= bbad_four_L1) (d := tupS [a, b, c, d]) (env := [.fr x, .fr y, .fr (plD O), s3, s4, s5]) (ds := qs.map tupS) (e := [.fr x, .fr y, .fr (plD O), s3, s4, .fr (tupS [a, b, c, d])]) st).trans e2⟩
      · exact .inr ⟨e1, s, (loop_next (f := fun d e => setG 5 d e >>= bbad_four_L1) (d := tupS [a, b, c, d]) (env := [.fr x, .fr y, .fr (plD O), s3, s4, s5]) (ds := qs.map tupS) (e := [.fr x, .fr y, .fr (plD O), s3, s4, .fr (tupS [a, b, c, d])]) st).trans e2⟩
theorem quadF_quad {K : List Str} {P : Str → Str → Str → Str → Bool} {q : List Str} (h : q ∈ quadF K P) : Quad K q := by
  obtain ⟨a, ha, h⟩ := List.mem_flatMap.mp h
  obtain ⟨b, hb, h⟩ := List.mem_flatMap.mp h
  obtain ⟨c, hc, h⟩ := List.mem_flatMap.mp h
  obtain ⟨d, hd, h⟩ := List.mem_flatMap.mp h
  split at h
  · rw [List.mem_singleton] at h
    exact ⟨a, b, c, d, h, ha, hb, hc, hd⟩
  · cases h
theorem seqO_seqB (l : Bool) (xs : List D) : seqO (seqB l xs) = .ok xs := by cases l <;> rfl
theorem bad_ok {K O : List Str} {S : List (Str × Str)} (h : Bk K S) (hk : K.length ≤ 10) (pm : O.Perm K) (l : Bool) : dbad_four [.book K S, seqB l (O.map D.str)] = .ok (resD ((quadF K (P1 S)).find? (badQ O))) := by
  have nd : O.Nodup := pm.nodup_iff.mpr h.nodup
  have lo : O.length ≤ 10 := by rw [pm.length_eq]; exact hk
  show runB (bbad_four [.fr (.book K S), .fr (seqB l (O.map D.str)), .un, .un, .un, .un]) = _
  unfold bbad_four
  rw [seq_next (e := [.fr (.book K S), .fr (seqB l (O.map D.str)), .fr (plD O), .un, .un, .un])]
  · have w : ((fun env => (seqN (consD (rd 0) (fun _ => .ok [])) (arity 1 d_fours)) env >>= walkD) [.fr (.book K S), .fr (seqB l (O.map D.str)), .fr (plD O), .un, .un, .un] : M (List D)) = .ok ((quadF K (P1 S)).map tupS) := by
      show (seqN (consD (rd 0) (fun _ => .ok [])) (arity 1 d_fours) _ >>= walkD) = _
      rw [seqN_ok (op := arity 1 d_fours) (xs := [.book K S]) rfl, ar1, fours_ok h hk]
      rfl
    have qs : ∀ q ∈ quadF K (P1 S), Quad O q := fun q hq => by
      obtain ⟨a, b, c, d, e, ha, hb, hc, hd⟩ := quadF_quad hq
      exact ⟨a, b, c, d, e, pm.mem_iff.mpr ha, pm.mem_iff.mpr hb, pm.mem_iff.mpr hc, pm.mem_iff.mpr hd⟩
    rcases bad_loop (x := .book K S) (y := seqB l (O.map D.str)) (s3 := .un) (s4 := .un) .un qs with ⟨q, e1, e2⟩ | ⟨e1, s, e2⟩
    · rw [e1]
      refine (congrArg runB (seq_ret (d := tupS q) ?_)).trans rfl
      refine (for_ok (ds := (quadF K (P1 S)).map tupS) ?_).trans e2
      exact w
    · rw [e1]
      refine (congrArg runB (seq_next (e := [.fr (.book K S), .fr (seqB l (O.map D.str)), .fr (plD O), .un, .un, s]) ?_)).trans rfl
      refine (for_ok (ds := (quadF K (P1 S)).map tupS) ?_).trans e2
      exact w
  · refine set_ok (placeD nd (by omega) ?_ fun i k => rfl)
    show (seqO (seqB l (O.map D.str)) >>= _) = _
    rw [seqO_seqB]
    rfl
end Vw

/-! Q7 -/
namespace Vw
open PySem PySem.Spec PyProof.Rows L2
abbrev OkS (k : Str) : Prop := PyData.strOk k = true
def prP (p : Str × Str) : PyData := .tuple [.str p.1, .str p.2]
theorem toP_pr (p : Str × Str) : toP (prD p) = some (prP p) := by
  unfold prD prP
  simp only [toP, toPs, Option.map_some]
theorem toPs_map {α : Type} (f : α → D) (g : α → PyData) (h : ∀ x, toP (f x) = some (g x)) : ∀ l : List α, toPs (l.map f) = some (l.map g)
  | [] => by simp [toPs]
  | x :: l => by rw [List.map_cons, toPs, h x, toPs_map f g h l]; rfl
theorem nice_pr {n : Nat} {p : Str × Str} (h1 : OkS p.1) (h2 : OkS p.2) : Nice (n + 1) (prD p) := .tup (by unfold lim; simp) fun d hd => by
  simp only [List.mem_cons, List.not_mem_nil, or_false] at hd
  rcases hd with rfl | rfl
  · exact .str h1
  · exact .str h2
theorem eqv_pr (p q : Str × Str) : PyData.eqv (prP p) (prP q) = decide (p = q) := by
  obtain ⟨a, b⟩ := p
  obtain ⟨c, d⟩ := q
  unfold prP
  have e : PyData.eqv (.tuple [.str a, .str b]) (.tuple [.str c, .str d]) = ((a == c) && (b == d)) := by
    simp [PyData.eqv, PyData.eqvAll]
  rw [e, Bool.eq_iff_iff]
  simp
theorem in_pr {p : Str × Str} {T : List (Str × Str)} (hl : T.length ≤ lim) (hp : OkS p.1 ∧ OkS p.2) (hT : ∀ q ∈ T, OkS q.1 ∧ OkS q.2) : opIn (prD p) (.tup (T.map prD)) = .ok (.bl (decide (p ∈ T))) := by
  obtain ⟨a, a1, a2, _⟩ := nice_shp (nice_pr (n := 0) hp.1 hp.2) (by decide)
  obtain ⟨b, b1, b2, _⟩ := nice_shp (n := 2) (d := .tup (T.map prD)) (.tup (by rw [List.length_map]; exact hl) fun d hd => by
    obtain ⟨q, hq, rfl⟩ := List.mem_map.mp hd
    exact nice_pr (hT q hq).1 (hT q hq).2) (by decide)
  rw [toP_pr] at a2
  cases a2
  rw [toP, toPs_map prD prP toP_pr] at b2
  cases b2
  unfold opIn inD
  show ((match shp (prD p), shp (.tup (T.map prD)) with
    | some p, some (.list qs) => M.ok (qs.any fun z => PyData.eqv z p)
    | some p, some (.tuple qs) => M.ok (qs.any fun z => PyData.eqv z p)
    | _, _ => .bad) >>= fun c => M.ok (D.bl c)) = _
  rw [a1, b1]
  show M.ok (D.bl ((T.map prP).any fun z => PyData.eqv z (prP p))) = _
  congr 2
  rw [List.any_map, Bool.eq_iff_iff, List.any_eq_true]
  simp only [Function.comp, eqv_pr, decide_eq_true_eq]
  constructor
  · rintro ⟨x, hx, rfl⟩; exact hx
  · intro h; exact ⟨p, h, rfl⟩
structure TOk (K : List Str) (T : List (Str × Str)) : Prop where
  ok : ∀ k ∈ K, OkS k
  few : T.length ≤ 1000
  mem : ∀ p ∈ T, p.1 ∈ K ∧ p.2 ∈ K
def foe (T : List (Str × Str)) (a b : Str) : Bool := decide (Sx.nrm (a, b) ∈ T)
theorem sort_two (a b : Str) : sortAll (.tup [.str a, .str b]) = .ok (.lst [.str (Sx.nrm (a, b)).1, .str (Sx.nrm (a, b)).2]) := by
  show M.ok (D.lst ((sortS [a, b]).map D.str)) = _
  have : sortS [a, b] = [(Sx.nrm (a, b)).1, (Sx.nrm (a, b)).2] := by
    show insS a [b] = [Sx.mnS a b, Sx.mxS a b]
    unfold insS Sx.mnS Sx.mxS
    rcases Sx.ltS_tri b a with c | c | c
    · rw [if_pos c, if_pos c, if_neg (by rw [Sx.ltS_asym c]; decide)]; rfl
    · subst c
      rw [Sx.ltS_irr]; rfl
    · rw [if_neg (by rw [Sx.ltS_asym c]; decide), if_neg (by rw [Sx.ltS_asym c]; decide), if_pos c]
  rw [this]; rfl
theorem nrm_mem {K : List Str} {a b : Str} (ha : a ∈ K) (hb : b ∈ K) : (Sx.nrm (a, b)).1 ∈ K ∧ (Sx.nrm (a, b)).2 ∈ K := by
  show Sx.mnS a b ∈ K ∧ Sx.mxS a b ∈ K
  unfold Sx.mnS Sx.mxS
  constructor <;> split <;> assumption
theorem foe_ok {K : List Str} {T : List (Str × Str)} (h : TOk K T) {a b : Str} (ha : a ∈ K) (hb : b ∈ K) : d_law_foe [.tup (T.map prD), .str a, .str b] = .ok (.bl (foe T a b)) := by
  show runB (b_law_foe [.fr (.tup (T.map prD)), .fr (.str a), .fr (.str b)]) = _
  unfold b_law_foe
  refine ret_is ?_
  refine (seq2_ok (x := prD (Sx.nrm (a, b))) (y := .tup (T.map prD)) ?_ rfl).trans ?_
  · refine (seqN_ok (xs := [.lst [.str (Sx.nrm (a, b)).1, .str (Sx.nrm (a, b)).2]]) (cons_ok ?_ rfl)).trans rfl
    exact (seqN_ok (xs := [.tup [.str a, .str b]]) rfl).trans (sort_two a b)
  · have m := nrm_mem ha hb
    refine in_pr (by have := h.few; unfold lim; omega) ⟨h.ok _ m.1, h.ok _ m.2⟩ fun q hq => ⟨h.ok _ (h.mem q hq).1, h.ok _ (h.mem q hq).2⟩
theorem ne_str {a b : Str} (ha : OkS a) (hb : OkS b) : opNe (.str a) (.str b) = .ok (.bl (!decide (a = b))) := by
  unfold opNe
  rw [shp_s ha, shp_s hb]
  show M.ok (D.bl (!PyData.eqv (.str a) (.str b))) = _
  rw [eqS]
  congr 3
theorem andV_b {a b : En → M D} {env : En} {x y : Bool} (h : a env = .ok (.bl x)) (h2 : b env = .ok (.bl y)) : andV a b env = .ok (.bl (x && y)) := by
  show (a env >>= _) = _
  rw [h, ok_bind]
  cases x with
  | true => show (if true = true then b env else .ok (.bl false)) = _; rw [if_pos rfl, h2, Bool.true_and]
  | false => rfl
theorem notV_b {a : En → M D} {env : En} {x : Bool} (h : a env = .ok (.bl x)) : notV a env = .ok (.bl (!x)) := by
  show (a env >>= _) = _
  rw [h]; rfl
theorem andB_b {a b : En → M Bool} {env : En} {x y : Bool} (h : a env = .ok x) (h2 : b env = .ok y) : andB a b env = .ok (x && y) := by
  cases x with
  | true => rw [andB_t h h2, Bool.true_and]
  | false => rw [andB_f h, Bool.false_and]
theorem lt_str (a b : Str) : opLt (.str a) (.str b) = .ok (.bl (Sx.ltS a b)) := rfl
theorem call3 {x y z : En → M D} {env : En} {a b c r : D} {f : List D → M D} (hx : x env = .ok a) (hy : y env = .ok b) (hz : z env = .ok c) (h : f [a, b, c] = .ok r) : (seqN (consD x (consD y (consD z (fun _ => .ok [])))) (arity 3 f)) env = .ok r := by
  rw [seqN_ok (op := arity 3 f) (xs := [a, b, c]) (cons_ok hx (cons_ok hy (cons_ok hz rfl))), ar3, h]
theorem call2 {x y : En → M D} {env : En} {a b r : D} {f : List D → M D} (hx : x env = .ok a) (hy : y env = .ok b) (h : f [a, b] = .ok r) : (seqN (consD x (consD y (fun _ => .ok []))) (arity 2 f)) env = .ok r := by
  rw [seqN_ok (op := arity 2 f) (xs := [a, b]) (cons_ok hx (cons_ok hy rfl)), ar2, h]
theorem call1 {x : En → M D} {env : En} {a r : D} {f : List D → M D} (hx : x env = .ok a) (h : f [a] = .ok r) : (seqN (consD x (fun _ => .ok [])) (arity 1 f)) env = .ok r := by
  rw [seqN_ok (op := arity 1 f) (xs := [a]) (cons_ok hx rfl), ar1, h]
def endsB (T : List (Str × Str)) (a b c d : Str) : Bool := !decide (d = b) && (foe T c d && (!foe T a d && !foe T b d))
theorem ends_ok {K : List Str} {T : List (Str × Str)} (h : TOk K T) {a b c d : Str} (ha : a ∈ K) (hb : b ∈ K) (hc : c ∈ K) (hd : d ∈ K) : d_law_ends_four [.tup (T.map prD), .str a, .str b, .str c, .str d] = .ok (.bl (endsB T a b c d)) := by
  show runB (b_law_ends_four [.fr (.tup (T.map prD)), .fr (.str a), .fr (.str b), .fr (.str c), .fr (.str d)]) = _
  unfold b_law_ends_four
  refine ret_is ?_
  refine andV_b ((seq2_ok (x := .str d) (y := .str b) rfl rfl).trans (ne_str (h.ok d hd) (h.ok b hb))) ?_
  refine andV_b (call3 rfl rfl rfl (foe_ok h hc hd)) ?_
  exact andV_b (notV_b (call3 rfl rfl rfl (foe_ok h ha hd))) (notV_b (call3 rfl rfl rfl (foe_ok h hb hd)))
/-! ### loops that add to a list -/
theorem loop_fold {β σ : Type} {f : D → En → M Fl} {p : β → D} {r : β → List D} {mk : List D → σ → En} {N : Nat} : ∀ {xs : List β}, (∀ x ∈ xs, ∀ acc s, acc.length + (r x).length ≤ N → ∃ s', f (p x) (mk acc s) = .ok (.next (mk (acc ++ r x) s'))) →
    ∀ acc s, acc.length + (xs.flatMap r).length ≤ N → ∃ s', loopM f (xs.map p) (mk acc s) = .ok (.next (mk (acc ++ xs.flatMap r) s'))
  | [], _, acc, s, _ => ⟨s, by rw [List.flatMap_nil, List.append_nil]; rfl⟩
  | x :: xs, h, acc, s, hl => by
    have hl' : acc.length + ((r x).length + (xs.flatMap r).length) ≤ N := by
      rw [List.flatMap_cons, List.length_append] at hl; exact hl
    obtain ⟨s1, e1⟩ := h x List.mem_cons_self acc s (by omega)
    obtain ⟨s2, e2⟩ := loop_fold (xs := xs) (fun y hy => h y (List.mem_cons_of_mem _ hy)) (acc ++ r x) s1 (by rw [List.length_append]; omega)
    refine ⟨s2, ?_⟩
    rw [List.map_cons, loop_next e1, e2, List.flatMap_cons, List.append_assoc]
def rowC (K : List Str) (T : List (Str × Str)) (a b c : Str) : List D := if (!decide (c = a) && (foe T b c && !foe T a c)) = true then (K.filter fun d => Sx.ltS a d && endsB T a b c d).map fun d => tupS [a, b, c, d] else []
def rowB (K : List Str) (T : List (Str × Str)) (a b : Str) : List D := (if (!decide (b = a) && foe T a b) = true then K else []).flatMap (rowC K T a b)
def rowA (K : List Str) (T : List (Str × Str)) (a : Str) : List D := K.flatMap (rowB K T a)
section
variable {K : List Str} {T : List (Str × Str)}
theorem rowC_len (a b c : Str) : (rowC K T a b c).length ≤ K.length := by
  unfold rowC
  split
  · rw [List.length_map]; exact List.length_filter_le _ _
  · simp
theorem rowB_len (a b : Str) : (rowB K T a b).length ≤ K.length * K.length := by
  refine Nat.le_trans (flat_len fun c _ => rowC_len a b c) (Nat.mul_le_mul_right _ ?_)
  split <;> simp
theorem rowA_len (a : Str) : (rowA K T a).length ≤ K.length * (K.length * K.length) := flat_len fun b _ => rowB_len a b
theorem rows_len : (K.flatMap (rowA K T)).length ≤ K.length * (K.length * (K.length * K.length)) := flat_len fun a _ => rowA_len a
abbrev eR (K : List Str) (T : List (Str × Str)) (acc : List D) (a b c d : Sl) : En := [.fr (.tup (K.map D.str)), .fr (.tup (T.map prD)), .fr (.lst acc), a, b, c, d]
theorem rows_c (h : TOk K T) (hk : K.length ≤ 1000) {a b c : Str} (ha : a ∈ K) (hb : b ∈ K) (hc : c ∈ K) (acc : List D) (s : Sl) (hl : acc.length + (rowC K T a b c).length ≤ lim) :
    b_law_rows_of_four_L1 (eR K T acc (.fr (.str a)) (.fr (.str b)) (.fr (.str c)) s) = .ok (.next (eR K T (acc ++ rowC K T a b c) (.fr (.str a)) (.fr (.str b)) (.fr (.str c)) s)) := by
  unfold b_law_rows_of_four_L1
  have t : (andB (asB (seq2 (pk 5) (pk 3) opNe)) (andB (asB (seqN (consD (rd 1) (consD (rd 4) (consD (rd 5) (fun _ => .ok [])))) (arity 3 d_law_foe))) (notB (asB (seqN (consD (rd 1) (consD (rd 3) (consD (rd 5) (fun _ => .ok [])))) (arity 3 d_law_foe)))))) (eR K T acc (.fr (.str a)) (.fr (.str b)) (.fr (.str c)) s) = .ok (!decide (c = a) && (foe T b c && !foe T a c)) := by
    refine andB_b (asB_ok ((seq2_ok (x := .str c) (y := .str a) rfl rfl).trans (ne_str (h.ok c hc) (h.ok a ha)))) ?_
    exact andB_b (asB_ok (call3 rfl rfl rfl (foe_ok h hb hc))) (notB_ok (asB_ok (call3 rfl rfl rfl (foe_ok h ha hc))))
  rw [if_ok t]
  unfold rowC at hl ⊢
  split
  · rename_i q
    rw [if_pos q] at hl
    refine set_ok (d := .lst (acc ++ (K.filter fun d => Sx.ltS a d && endsB T a b c d).map fun d => tupS [a, b, c, d])) ?_
    refine (seq2_ok (x := .lst acc) (y := .lst ((K.filter fun d => Sx.ltS a d && endsB T a b c d).map fun d => tupS [a, b, c, d])) rfl ?_).trans ?_
    · refine comp_if (xs := K) (p := D.str) (c := fun d => Sx.ltS a d && endsB T a b c d) (q := fun d => tupS [a, b, c, d]) rfl (by unfold lim; omega) fun d hd => ?_
      refine turn_if (e := eR K T acc (.fr (.str a)) (.fr (.str b)) (.fr (.str c)) (.fr (.str d))) rfl ?_ fun _ => rfl
      refine andB_b (asB_ok ((seq2_ok (x := .str a) (y := .str d) rfl rfl).trans (lt_str a d))) (asB_ok ?_)
      rw [seqN_ok (op := arity 5 d_law_ends_four) (xs := [.tup (T.map prD), .str a, .str b, .str c, .str d]) (cons_ok rfl (cons_ok rfl (cons_ok rfl (cons_ok rfl (cons_ok rfl rfl))))), ar5, ends_ok h ha hb hc hd]
    · show (if _ ≤ lim then M.ok (D.lst _) else .bad) = _
      rw [if_pos hl]
  · rw [List.append_nil]
end
end Vw

/-! Q8 -/
namespace Vw
open PySem PySem.Spec PyProof.Rows L2
section
variable {K : List Str} {T : List (Str × Str)}
theorem ifV_b {dc : En → M Bool} {da db : En → M D} {env : En} {c : Bool} {x y : D} (h : dc env = .ok c) (h1 : da env = .ok x) (h2 : db env = .ok y) : ifV dc da db env = .ok (if c = true then x else y) := by
  show (dc env >>= fun c => if c = true then da env else db env) = _
  rw [h, ok_bind]
  cases c with
  | true => rw [if_pos rfl, if_pos rfl, h1]
  | false => rw [if_neg (by decide), if_neg (by decide), h2]
theorem rows_b (h : TOk K T) (hk : K.length ≤ 1000) {a b : Str} (ha : a ∈ K) (hb : b ∈ K) (acc : List D) (s : Sl × Sl) (hl : acc.length + (rowB K T a b).length ≤ lim) :
    ∃ s' : Sl × Sl, b_law_rows_of_four_L2 (eR K T acc (.fr (.str a)) (.fr (.str b)) s.1 s.2) = .ok (.next (eR K T (acc ++ rowB K T a b) (.fr (.str a)) (.fr (.str b)) s'.1 s'.2)) := by
  have t : (andB (asB (seq2 (pk 4) (pk 3) opNe)) (asB (seqN (consD (rd 1) (consD (rd 3) (consD (rd 4) (fun _ => .ok [])))) (arity 3 d_law_foe)))) (eR K T acc (.fr (.str a)) (.fr (.str b)) s.1 s.2) = .ok (!decide (b = a) && foe T a b) :=
    andB_b (asB_ok ((seq2_ok (x := .str b) (y := .str a) rfl rfl).trans (ne_str (h.ok b hb) (h.ok a ha)))) (asB_ok (call3 rfl rfl rfl (foe_ok h ha hb)))
  obtain ⟨s', e⟩ := loop_fold (f := fun d e => setG 5 d e >>= b_law_rows_of_four_L1) (p := D.str) (r := rowC K T a b) (mk := fun acc (s : Sl × Sl) => eR K T acc (.fr (.str a)) (.fr (.str b)) s.1 s.2) (N := lim) (xs := if (!decide (b = a) && foe T a b) = true then K else [])
    (fun c hc acc s hl => ⟨(.fr (.str c), s.2), by
      have hc : c ∈ K := by
        split at hc
        · exact hc
        · cases hc
      show (setG 5 (.str c) (eR K T acc (.fr (.str a)) (.fr (.str b)) s.1 s.2) >>= b_law_rows_of_four_L1) = _
      rw [show setG 5 (.str c) (eR K T acc (.fr (.str a)) (.fr (.str b)) s.1 s.2) = .ok (eR K T acc (.fr (.str a)) (.fr (.str b)) (.fr (.str c)) s.2) from rfl, ok_bind]
      exact rows_c h hk ha hb hc acc s.2 hl⟩) acc s hl
  refine ⟨s', ?_⟩
  unfold b_law_rows_of_four_L2
  refine (for_ok (ds := (if (!decide (b = a) && foe T a b) = true then K else []).map D.str) ?_).trans e
  refine (bind_ok (ifV_b (x := .tup (K.map D.str)) (y := .lst []) t rfl rfl)).trans ?_
  split <;> rfl
theorem rows_a (h : TOk K T) (hk : K.length ≤ 1000) {a : Str} (ha : a ∈ K) (acc : List D) (s : Sl × Sl × Sl) (hl : acc.length + (rowA K T a).length ≤ lim) :
    ∃ s' : Sl × Sl × Sl, b_law_rows_of_four_L3 (eR K T acc (.fr (.str a)) s.1 s.2.1 s.2.2) = .ok (.next (eR K T (acc ++ rowA K T a) (.fr (.str a)) s'.1 s'.2.1 s'.2.2)) := by
  obtain ⟨s', e⟩ := loop_fold (f := fun d e => setG 4 d e >>= b_law_rows_of_four_L2) (p := D.str) (r := rowB K T a) (mk := fun acc (s : Sl × Sl × Sl) => eR K T acc (.fr (.str a)) s.1 s.2.1 s.2.2) (N := lim) (xs := K)
    (fun b hb acc s hl => by
      obtain ⟨s', e⟩ := rows_b h hk ha hb acc (s.2.1, s.2.2) hl
      refine ⟨(.fr (.str b), s'.1, s'.2), ?_⟩
      show (setG 4 (.str b) (eR K T acc (.fr (.str a)) s.1 s.2.1 s.2.2) >>= b_law_rows_of_four_L2) = _
      rw [show setG 4 (.str b) (eR K T acc (.fr (.str a)) s.1 s.2.1 s.2.2) = .ok (eR K T acc (.fr (.str a)) (.fr (.str b)) s.2.1 s.2.2) from rfl, ok_bind]
      exact e) acc s hl
  refine ⟨s', ?_⟩
  unfold b_law_rows_of_four_L3
  exact (for_ok (ds := K.map D.str) rfl).trans e
theorem sort_sorted {l : List (List Str)} (h : OrdL l) (ne : ∀ q ∈ l, q ≠ []) : sortAll (.lst (l.map tupS)) = .ok (.lst (l.map tupS)) := by
  have e : allT (l.map tupS) = some l := by
    clear h
    induction l with
    | nil => rfl
    | cons q l ih =>
      show allT (.tup (q.map D.str) :: l.map tupS) = _
      unfold allT
      rw [all_strs q]
      show (if q = [] then none else (allT (l.map tupS)).map (q :: ·)) = _
      rw [if_neg (ne q List.mem_cons_self), ih fun z hz => ne z (List.mem_cons_of_mem _ hz)]
      rfl
  have e2 : sortTD (.lst (l.map tupS)) = .ok (.lst (l.map tupS)) := by
    show (match allT (l.map tupS) with
      | some xs => M.ok (D.lst ((sortL xs).map tupS))
      | none => .bad) = _
    rw [e]
    show M.ok (D.lst ((sortL l).map tupS)) = _
    rw [ordL_one (sortL_perm l) (sortL_ord l) h]
  unfold sortAll
  cases l with
  | nil => rfl
  | cons q l => exact e2
theorem rows_ok (h : TOk K T) (hk : K.length ≤ 10) {r : D} (hr : sortAll (.lst (K.flatMap (rowA K T))) = .ok r) : d_law_rows_of_four [.tup (K.map D.str), .tup (T.map prD)] = .ok r := by
  have hlen : ([] : List D).length + (K.flatMap (rowA K T)).length ≤ lim := by
    have := rows_len (K := K) (T := T)
    have e : K.length * (K.length * (K.length * K.length)) ≤ 10 * (10 * (10 * 10)) := Nat.mul_le_mul hk (Nat.mul_le_mul hk (Nat.mul_le_mul hk hk))
    unfold lim
    simp only [List.length_nil]
    omega
  obtain ⟨s', e⟩ := loop_fold (f := fun d e => setG 3 d e >>= b_law_rows_of_four_L3) (p := D.str) (r := rowA K T) (mk := fun acc (s : Sl × Sl × Sl × Sl) => eR K T acc s.1 s.2.1 s.2.2.1 s.2.2.2) (N := lim) (xs := K)
    (fun a ha acc s hl => by
      obtain ⟨s', e⟩ := rows_a h (by omega) ha acc (s.2.1, s.2.2.1, s.2.2.2) hl
      refine ⟨(.fr (.str a), s'.1, s'.2.1, s'.2.2), ?_⟩
      show (setG 3 (.str a) (eR K T acc s.1 s.2.1 s.2.2.1 s.2.2.2) >>= b_law_rows_of_four_L3) = _
      rw [show setG 3 (.str a) (eR K T acc s.1 s.2.1 s.2.2.1 s.2.2.2) = .ok (eR K T acc (.fr (.str a)) s.2.1 s.2.2.1 s.2.2.2) from rfl, ok_bind]
      exact e) [] (.un, .un, .un, .un) hlen
  show runB (b_law_rows_of_four [.fr (.tup (K.map D.str)), .fr (.tup (T.map prD)), .un, .un, .un, .un, .un]) = _
  unfold b_law_rows_of_four
  rw [seq_next (e := eR K T [] .un .un .un .un) rfl, seq_next ((for_ok (ds := K.map D.str) rfl).trans e)]
  refine ret_is ?_
  rw [seqN_ok (op := one sortAll) (xs := [.lst ([] ++ K.flatMap (rowA K T))]) rfl, List.nil_append]
  exact hr
/-! ### both ways tell the same fours -/
def P2 (T : List (Str × Str)) (a b c d : Str) : Bool := (!decide (b = a) && foe T a b) && ((!decide (c = a) && (foe T b c && !foe T a c)) && (Sx.ltS a d && endsB T a b c d))
theorem filter_map_flat {α β : Type} {p : α → Bool} {f : α → β} : ∀ l : List α, (l.filter p).map f = l.flatMap fun x => if p x = true then [f x] else []
  | [] => rfl
  | x :: l => by
    rw [List.filter_cons, List.flatMap_cons]
    by_cases h : p x = true
    · rw [if_pos h, if_pos h, List.map_cons, filter_map_flat l]; rfl
    · rw [if_neg h, if_neg h, filter_map_flat l, List.nil_append]
theorem ite_list {β : Type} {c : Bool} {f : Str → List β} : (if c = true then K else []).flatMap f = K.flatMap fun k => if c = true then f k else [] := by
  cases c with
  | true => simp
  | false =>
    rw [if_neg (by decide), List.flatMap_nil]
    symm
    rw [List.flatMap_eq_nil_iff]
    intro k _
    rfl
theorem rows_quad : K.flatMap (rowA K T) = (quadF K (P2 T)).map tupS := by
  unfold quadF
  rw [List.map_flatMap]
  refine flat_congr fun a _ => ?_
  unfold rowA
  rw [List.map_flatMap]
  refine flat_congr fun b _ => ?_
  unfold rowB
  rw [List.map_flatMap, ite_list]
  refine flat_congr fun c _ => ?_
  unfold rowC
  rw [List.map_flatMap, filter_map_flat, ite_flat, ite_flat]
  refine flat_congr fun d _ => ?_
  unfold P2
  cases (!decide (b = a) && foe T a b) <;> cases (!decide (c = a) && (foe T b c && !foe T a c)) <;> cases (Sx.ltS a d && endsB T a b c d) <;> rfl
theorem quad_up (h : Up K) (P : Str → Str → Str → Str → Bool) : OrdL (quadF K P) := by
  have key : (quadF K P).Pairwise fun x y => Sx.ltL x y = true := by
    unfold quadF
    have lt0 : ∀ {a b : Str} {l m : List Str}, Sx.ltS a b = true → Sx.ltL (a :: l) (b :: m) = true := fun {a b l m} q => by
      have n : a ≠ b := fun e => by rw [e, Sx.ltS_irr] at q; cases q
      show (if a = b then Sx.ltL l m else Sx.ltS a b) = true
      rw [if_neg n, q]
    have eq0 : ∀ {a : Str} {l m : List Str}, Sx.ltL l m = true → Sx.ltL (a :: l) (a :: m) = true := fun {a l m} q => by
      show (if a = a then Sx.ltL l m else Sx.ltS a a) = true
      rw [if_pos rfl, q]
    rw [List.pairwise_flatMap]
    refine ⟨fun a _ => ?_, h.imp fun {a a'} q x hx y hy => ?_⟩
    · rw [List.pairwise_flatMap]
      refine ⟨fun b _ => ?_, h.imp fun {b b'} q x hx y hy => ?_⟩
      · rw [List.pairwise_flatMap]
        refine ⟨fun c _ => ?_, h.imp fun {c c'} q x hx y hy => ?_⟩
        · rw [List.pairwise_flatMap]
          refine ⟨fun d _ => ?_, h.imp fun {d d'} q x hx y hy => ?_⟩
          · split <;> simp
          · split at hx
            · split at hy
              · rw [List.mem_singleton] at hx hy
                subst hx hy
                exact eq0 (eq0 (eq0 (lt0 q)))
              · cases hy
            · cases hx
        · obtain ⟨d, _, hx⟩ := List.mem_flatMap.mp hx
          obtain ⟨d', _, hy⟩ := List.mem_flatMap.mp hy
          split at hx
          · split at hy
            · rw [List.mem_singleton] at hx hy
              subst hx hy
              exact eq0 (eq0 (lt0 q))
            · cases hy
          · cases hx
      · obtain ⟨c, _, hx⟩ := List.mem_flatMap.mp hx
        obtain ⟨c', _, hy⟩ := List.mem_flatMap.mp hy
        obtain ⟨d, _, hx⟩ := List.mem_flatMap.mp hx
        obtain ⟨d', _, hy⟩ := List.mem_flatMap.mp hy
        split at hx
        · split at hy
          · rw [List.mem_singleton] at hx hy
            subst hx hy
            exact eq0 (lt0 q)
          · cases hy
        · cases hx
    · obtain ⟨b, _, hx⟩ := List.mem_flatMap.mp hx
      obtain ⟨b', _, hy⟩ := List.mem_flatMap.mp hy
      obtain ⟨c, _, hx⟩ := List.mem_flatMap.mp hx
      obtain ⟨c', _, hy⟩ := List.mem_flatMap.mp hy
      obtain ⟨d, _, hx⟩ := List.mem_flatMap.mp hx
      obtain ⟨d', _, hy⟩ := List.mem_flatMap.mp hy
      split at hx
      · split at hy
        · rw [List.mem_singleton] at hx hy
          subst hx hy
          exact lt0 q
        · cases hy
      · cases hx
  exact key.imp fun q => Sx.ltL_asym q
theorem rows_is (h : TOk K T) (u : Up K) (hk : K.length ≤ 10) : d_law_rows_of_four [.tup (K.map D.str), .tup (T.map prD)] = .ok (.lst ((quadF K (P2 T)).map tupS)) := by
  refine rows_ok h hk ?_
  rw [rows_quad]
  exact sort_sorted (quad_up u _) fun q hq => by
    obtain ⟨a, b, c, d, e, _⟩ := quadF_quad hq
    rw [e]; simp
end
end Vw

/-! Q9 -/
namespace Vw
open PySem PySem.Spec PyProof.Rows L2
section
variable {K : List Str} {T : List (Str × Str)}
/-- what is drawn: rising kinds, rising pairs of them -/
structure Dr (K : List Str) (T : List (Str × Str)) : Prop extends TOk K T where
  up : Up K
  low : ∀ p ∈ T, Sx.ltS p.2 p.1 = false
def bkS (T : List (Str × Str)) : List (Str × Str) := Sx.srt Sx.ltP (T.map Sx.nrm)
theorem bkS_mem (h : Dr K T) {p : Str × Str} : p ∈ bkS T ↔ p ∈ T := by
  unfold bkS
  rw [Sx.mem_srt Sx.totP, List.mem_map]
  constructor
  · rintro ⟨q, hq, rfl⟩
    rw [Sx.nrm_self (h.low q hq)]; exact hq
  · intro hp
    exact ⟨p, hp, Sx.nrm_self (h.low p hp)⟩
theorem adj_foe (h : Dr K T) (a b : Str) : adj (bkS T) a b = foe T a b := by
  unfold adj foe
  congr 1
  apply propext
  rw [Sx.mem_near, bkS_mem h, bkS_mem h]
  constructor
  · rintro (q | q)
    · rw [Sx.nrm_self (c := (a, b)) (h.low _ q)]; exact q
    · have lo := h.low _ q
      have lo : Sx.ltS a b = false := lo
      have e : Sx.nrm (a, b) = (b, a) := by
        show (Sx.mnS a b, Sx.mxS a b) = _
        unfold Sx.mnS Sx.mxS
        rw [if_neg (c := Sx.ltS a b = true) (by rw [lo]; exact Bool.false_ne_true)]
        cases w : Sx.ltS b a with
        | true => rw [if_pos rfl]
        | false =>
          have : a = b := Sx.totS.eq lo w
          rw [if_neg Bool.false_ne_true, this]
      rw [e]; exact q
  · intro q
    by_cases w : Sx.ltS b a = true
    · right
      have e : Sx.nrm (a, b) = (b, a) := by
        show (Sx.mnS a b, Sx.mxS a b) = _
        unfold Sx.mnS Sx.mxS
        rw [if_pos w, if_neg (by rw [Sx.ltS_asym w]; exact Bool.false_ne_true)]
      rw [e] at q; exact q
    · left
      have w : Sx.ltS b a = false := by simpa using w
      rw [Sx.nrm_self (c := (a, b)) w] at q; exact q
theorem P_eq (h : Dr K T) (a b c d : Str) : P1 (bkS T) a b c d = P2 T a b c d := by
  unfold P1 P2 endsB
  simp only [adj_foe h]
  by_cases e1 : b = a
  · subst e1
    cases foe T b c <;> simp
  · by_cases e2 : c = a
    · subst e2
      cases foe T c d <;> simp
    · by_cases e3 : d = b
      · subst e3
        cases foe T a d <;> simp
      · simp only [e1, e2, e3, decide_false, Bool.not_false, Bool.true_and]
        cases foe T a b <;> cases foe T b c <;> cases foe T a c <;> cases foe T c d <;> cases foe T a d <;> cases foe T b d <;> cases Sx.ltS a d <;> rfl
theorem quad_eq (h : Dr K T) : quadF K (P1 (bkS T)) = quadF K (P2 T) := by
  unfold quadF
  exact flat_congr fun a _ => flat_congr fun b _ => flat_congr fun c _ => flat_congr fun d _ => by rw [P_eq h]
theorem bk_ok (h : Dr K T) (hk : K.length ≤ 40) : Bk K (bkS T) := by
  refine ⟨h.up, hk, fun k => ?_, fun k o ho => ?_⟩
  · have nd : (bkS T).Nodup := Sx.up_nodup Sx.totP (Sx.up_srt Sx.totP _)
    unfold Sx.nearM
    refine List.pairwise_filterMap.mpr ?_
    refine List.Pairwise.imp_of_mem (fun {c c'} hc hc' n x hx y hy e => ?_) nd
    subst e
    have l1 := h.low _ ((bkS_mem h).mp hc)
    have l2 := h.low _ ((bkS_mem h).mp hc')
    obtain ⟨c1, c2⟩ := c
    obtain ⟨d1, d2⟩ := c'
    dsimp only at hx hy l1 l2
    split at hx
    · split at hy
      · cases hx; cases hy
        rename_i e1 e2
        exact n (by rw [e1, e2])
      · split at hy
        · cases hx; cases hy
          subst_vars
          first
            | exact absurd (Sx.totS.eq l1 l2) (by assumption)
            | exact absurd (Sx.totS.eq l2 l1) (by assumption)
            | exact absurd (Sx.totS.eq l1 l2).symm (by assumption)
            | exact absurd (Sx.totS.eq l2 l1).symm (by assumption)
        · cases hy
    · split at hx
      · split at hy
        · cases hx; cases hy
          subst_vars
          first
            | exact absurd (Sx.totS.eq l1 l2) (by assumption)
            | exact absurd (Sx.totS.eq l2 l1) (by assumption)
            | exact absurd (Sx.totS.eq l1 l2).symm (by assumption)
            | exact absurd (Sx.totS.eq l2 l1).symm (by assumption)
        · split at hy
          · cases hx; cases hy
            exact n (by simp_all)
          · cases hy
      · cases hx
  · rcases Sx.mem_near.mp ho with q | q
    · exact (h.mem _ ((bkS_mem h).mp q)).2
    · exact (h.mem _ ((bkS_mem h).mp q)).1
theorem strs_all : ∀ l : List Str, strsOf (l.map D.str) = some l
  | [] => rfl
  | x :: l => by
    show (strsOf (l.map D.str)).map (x :: ·) = _
    rw [strs_all l]; rfl
theorem prs_all : ∀ l : List (Str × Str), prsOf (l.map prD) = some l
  | [] => rfl
  | p :: l => by
    rw [List.map_cons]
    unfold prsOf
    rw [show prOf (prD p) = some p from rfl, prs_all l]
theorem host_ok (h : Dr K T) (hk : K.length ≤ 40) : d_law_host [.tup (K.map D.str), .tup (T.map prD)] = .ok (.book K (bkS T)) := by
  show runB (b_law_host [.fr (.tup (K.map D.str)), .fr (.tup (T.map prD))]) = _
  unfold b_law_host
  refine ret_is ?_
  rw [seqN_ok (op := mkBkP) (xs := [.tup (K.map D.str), .tup (T.map prD)]) rfl]
  have nd : K.Nodup := h.up.imp fun {a b} q e => by rw [e, Sx.ltS_irr] at q; cases q
  show (match strsOf (K.map D.str), prsOf (T.map prD) with
    | some ks, some ps => mkB ks ps
    | _, _ => .bad) = _
  rw [strs_all, prs_all]
  show mkB K T = _
  unfold mkB
  rw [if_pos ⟨nd, hk, h.mem⟩]
  show M.ok (D.book (Sx.srt Sx.ltS K) (bkS T)) = _
  rw [Sx.srt_self Sx.totS h.up]
end
/-! ### the law's own choice -/
theorem ix_str {O : List Str} {k : Str} (h : k ∈ O) : opTIndex (.ntup (O.map D.str)) (.str k) = .ok (iD (idx O k)) := by
  show (match allS (O.map D.str) with
    | some ss => if k ∈ ss then M.ok (D.int (ss.idxOf k : Nat)) else .bad
    | none => .bad) = _
  rw [all_strs]
  show (if k ∈ O then M.ok (D.int (O.idxOf k : Nat)) else .bad) = _
  rw [if_pos h]
  rfl
abbrev fDue : D → En → M Fl := fun d e => seqG 4 (consG (setG 2) (consG (setG 3) (consG (setG 4) (consG (setG 5) nilG)))) d e >>= b_law_due_L1
theorem due_loop {O : List Str} {x : D} : ∀ {qs : List (List Str)} (s2 s3 s4 s5 : Sl), (∀ q ∈ qs, Quad O q) → (∃ q, qs.find? (badQ O) = some q ∧ loopM fDue (qs.map tupS) [.fr x, .fr (.ntup (O.map D.str)), s2, s3, s4, s5] = .ok (.ret (tupS q))) ∨
    (qs.find? (badQ O) = none ∧ ∃ e, loopM fDue (qs.map tupS) [.fr x, .fr (.ntup (O.map D.str)), s2, s3, s4, s5] = .ok (.next e))
  | [], s2, s3, s4, s5, _ => .inr ⟨rfl, _, rfl⟩
  | q :: qs, s2, s3, s4, s5, h => by
    obtain ⟨a, b, c, d, rfl, ha, hb, hc, hd⟩ := h q List.mem_cons_self
    have t : (andB (asB (seq2 (seq2 (pk 1) (rd 2) opTIndex) (seq2 (pk 1) (rd 3) opTIndex) opLt)) (asB (seq2 (seq2 (pk 1) (rd 5) opTIndex) (seq2 (pk 1) (rd 4) opTIndex) opLt))) [.fr x, .fr (.ntup (O.map D.str)), .fr (.str a), .fr (.str b), .fr (.str c), .fr (.str d)] = .ok (badQ O [a, b, c, d]) := by
      refine andB_b (asB_ok ((seq2_ok (x := iD (idx O a)) (y := iD (idx O b)) ((seq2_ok rfl rfl).trans (ix_str ha)) ((seq2_ok rfl rfl).trans (ix_str hb))).trans (lt_iD _ _))) ?_
      exact asB_ok ((seq2_ok (x := iD (idx O d)) (y := iD (idx O c)) ((seq2_ok rfl rfl).trans (ix_str hd)) ((seq2_ok rfl rfl).trans (ix_str hc))).trans (lt_iD _ _))
    have st : fDue (tupS [a, b, c, d]) [.fr x, .fr (.ntup (O.map D.str)), s2, s3, s4, s5] = if badQ O [a, b, c, d] = true then .ok (.ret (tupS [a, b, c, d])) else .ok (.next [.fr x, .fr (.ntup (O.map D.str)), .fr (.str a), .fr (.str b), .fr (.str c), .fr (.str d)]) := by
      show (seqG 4 (consG (setG 2) (consG (setG 3) (consG (setG 4) (consG (setG 5) nilG)))) (tupS [a, b, c, d]) [.fr x, .fr (.ntup (O.map D.str)), s2, s3, s4, s5] >>= b_law_due_L1) = _
      rw [show seqG 4 (consG (setG 2) (consG (setG 3) (consG (setG 4) (consG (setG 5) nilG)))) (tupS [a, b, c, d]) [.fr x, .fr (.ntup (O.map D.str)), s2, s3, s4, s5] = .ok [.fr x, .fr (.ntup (O.map D.str)), .fr (.str a), .fr (.str b), .fr (.str c), .fr (.str d)] from rfl, ok_bind]
      unfold b_law_due_L1
      rw [if_ok t]
      rfl
    rw [List.find?_cons]
    cases e : badQ O [a, b, c, d] with
    | true =>
      rw [e, if_pos rfl] at st
      exact .inl ⟨_, rfl, loop_ret (f := fDue) (d := tupS [a, b, c, d]) (ds := qs.map tupS) (r := tupS [a, b, c, d]) st⟩
    | false =>
      rw [e, if_neg (by decide)] at st
      rcases due_loop (x := x) (.fr (.str a)) (.fr (.str b)) (.fr (.str c)) (.fr (.str d)) (fun z hz => h z (List.mem_cons_of_mem _ hz)) with ⟨q, e1, e2⟩ | ⟨e1, s, e2⟩
      · exact .inl ⟨q, e1, (loop_next (f := fDue) (d := tupS [a, b, c, d]) (ds := qs.map tupS) st).trans e2⟩
      · exact .inr ⟨e1, s, (loop_next (f := fDue) (d := tupS [a, b, c, d]) (ds := qs.map tupS) st).trans e2⟩
theorem due_ok {O : List Str} {qs : List (List Str)} (h : ∀ q ∈ qs, Quad O q) : d_law_due [.lst (qs.map tupS), .ntup (O.map D.str)] = .ok (resD (qs.find? (badQ O))) := by
  show runB (b_law_due [.fr (.lst (qs.map tupS)), .fr (.ntup (O.map D.str)), .un, .un, .un, .un]) = _
  unfold b_law_due
  rcases due_loop (x := .lst (qs.map tupS)) .un .un .un .un h with ⟨q, e1, e2⟩ | ⟨e1, s, e2⟩
  · rw [e1]
    refine (congrArg runB (seq_ret (d := tupS q) ?_)).trans rfl
    exact (for_ok (ds := qs.map tupS) rfl).trans e2
  · rw [e1]
    refine (congrArg runB (seq_next (e := s) ?_)).trans rfl
    exact (for_ok (ds := qs.map tupS) rfl).trans e2
end Vw

/-! Q10 -/
namespace Vw
open PySem PySem.Spec PyProof.Rows L2
/-! ### _law_same of a thing and itself -/
theorem same_tail {m : Nat} {xs : List D} {di : En → M (List D)} {x y : D} (h0 : di [.fr x, .fr y, .un, .un] = .ok (zipD xs xs)) (hl : xs.length ≤ lim) (ih : ∀ d ∈ xs, d_law_same m [d, d] = .ok (.bl true)) : compV [2, 3] di (seqG 2 (consG (setG 2) (consG (setG 3) nilG))) (fun _ => .ok true) (seqN (consD (rd 2) (consD (rd 3) (fun _ => .ok []))) (arity 2 (d_law_same m))) [.fr x, .fr y, .un, .un] = .ok (.lst (List.replicate xs.length (.bl true))) := by
  have e := comp_map (β := D) (xs := xs) (p := fun d => .tup [d, d]) (q := fun _ => .bl true) (vs := [2, 3]) (di := di) (g := seqG 2 (consG (setG 2) (consG (setG 3) nilG))) (dt := fun _ => .ok true) (de := seqN (consD (rd 2) (consD (rd 3) (fun _ => .ok []))) (arity 2 (d_law_same m))) (env := [.fr x, .fr y, .un, .un])
    (by
      rw [h0]
      unfold zipD
      have ez : ∀ xs : List D, xs.zip xs = xs.map fun d => (d, d) := fun xs => by
        induction xs with
        | nil => rfl
        | cons a xs ih => rw [List.zip_cons_cons, ih]; rfl
      rw [ez, List.map_map]
      rfl) hl fun d hd => turn_ok (e := [.fr x, .fr y, .fr d, .fr d]) rfl rfl ((seqN_ok (xs := [d, d]) (cons_ok rfl (cons_ok rfl rfl))).trans (ih d hd))
  rw [e]
  congr 2
  exact List.map_const' ..
theorem same_true {n : Nat} {d : D} (h : Nice n d) : ∀ m, n < m → d_law_same m [d, d] = .ok (.bl true) := by
  induction h with
  | non =>
    intro m hm
    obtain ⟨m, rfl⟩ : ∃ k, m = k + 1 := ⟨m - 1, by omega⟩
    rfl
  | bl b =>
    intro m hm
    obtain ⟨m, rfl⟩ : ∃ k, m = k + 1 := ⟨m - 1, by omega⟩
    cases b <;> rfl
  | int i =>
    intro m hm
    obtain ⟨m, rfl⟩ : ∃ k, m = k + 1 := ⟨m - 1, by omega⟩
    show runB ((opEq (.int i) (.int i)) >>= fun d => .ok (.ret d)) = _
    rw [len_eq]
    simp
    rfl
  | @str n x ok =>
    intro m hm
    obtain ⟨m, rfl⟩ : ∃ k, m = k + 1 := ⟨m - 1, by omega⟩
    show runB (b_law_same (d_law_same m) [.fr (.str x), .fr (.str x), .un, .un]) = _
    unfold b_law_same
    rw [seq_next (if_no rfl)]
    refine (congrArg runB (seq_ret (d := .bl true) ((if_yes rfl).trans (ret_ok (and_ok ?_ rfl))))).trans rfl
    show opEq (.str x) (.str x) = _
    rw [opEq_s ok ok, decide_eq_true rfl]
  | @lst n xs hl _ ih =>
    intro m hm
    obtain ⟨m, rfl⟩ : ∃ k, m = k + 1 := ⟨m - 1, by omega⟩
    show runB (b_law_same (d_law_same m) [.fr (.lst xs), .fr (.lst xs), .un, .un]) = _
    unfold b_law_same
    refine (congrArg runB (seq_ret (d := .bl true) ((if_yes rfl).trans ((seq_next (if_no rfl)).trans (ret_ok (and_ok ?_ ((seqN_ok (cons_ok (same_tail rfl hl fun d hd => ih d hd m (by omega)) rfl)).trans all_true))))))).trans rfl
    show opEq (.int xs.length) (.int xs.length) = _
    rw [len_eq, decide_eq_true rfl]
  | @tup n xs hl _ ih =>
    intro m hm
    obtain ⟨m, rfl⟩ : ∃ k, m = k + 1 := ⟨m - 1, by omega⟩
    show runB (b_law_same (d_law_same m) [.fr (.tup xs), .fr (.tup xs), .un, .un]) = _
    unfold b_law_same
    refine (congrArg runB (seq_ret (d := .bl true) ((if_yes rfl).trans ((seq_next (if_no rfl)).trans (ret_ok (and_ok ?_ ((seqN_ok (cons_ok (same_tail rfl hl fun d hd => ih d hd m (by omega)) rfl)).trans all_true))))))).trans rfl
    show opEq (.int xs.length) (.int xs.length) = _
    rw [len_eq, decide_eq_true rfl]


/-! ### draws -/
theorem opt_us {β : Type} {f : D → M (Option D)} {p q : β → D} : ∀ {xs : List β}, (∀ x ∈ xs, Us 1 (f (p x)) fun o => o = none ∨ o = some (q x)) → Us xs.length (optM f (xs.map p)) fun r => ∃ ys : List β, r = ys.map q ∧ ys.Sublist xs
  | [], _ => Us.ok ⟨[], rfl, List.Sublist.slnil⟩
  | x :: xs, h => by
    have t := opt_us (xs := xs) fun y hy => h y (List.mem_cons_of_mem _ hy)
    refine (Us.bind (h x List.mem_cons_self) fun o ho => Us.then t fun r ⟨ys, e, sb⟩ => ?_).more (by rw [List.length_cons]; omega) fun _ h => h
    subst e
    rcases ho with rfl | rfl
    · exact ⟨_, rfl, ys, rfl, sb.cons x⟩
    · exact ⟨_, rfl, x :: ys, rfl, sb.cons_cons x⟩
theorem comp_us {β : Type} {vs : List Nat} {di : En → M (List D)} {g : D → En → M En} {dt : En → M Bool} {de : En → M D} {env : En} {xs : List β} {p q : β → D} (h0 : di env = .ok (xs.map p)) (hl : xs.length ≤ lim)
    (h : ∀ x ∈ xs, Us 1 (turnV vs g dt de env (p x)) fun o => o = none ∨ o = some (q x)) : Us xs.length (compV vs di g dt de env) fun d => ∃ ys : List β, d = .lst (ys.map q) ∧ ys.Sublist xs := by
  show Us xs.length (di env >>= fun ds => guardL ds >>= fun _ => optM (turnV vs g dt de env) ds >>= fun r => M.ok (D.lst r)) _
  rw [h0, ok_bind, guard_ok (by rw [List.length_map]; exact hl), ok_bind]
  exact Us.then (opt_us h) fun r ⟨ys, e, sb⟩ => ⟨_, rfl, ys, by rw [e], sb⟩
theorem take_us {low : Nat} {a b : En → M D} {env : En} (h0 : 0 < low) (h1 : low < 1000000) (ha : a env = .ok .urn) (hb : b env = .ok (.int (low : Nat))) : Us 1 ((seqN (consD a (consD b (fun _ => .ok []))) (arity 2 dTake)) env) fun d => ∃ i : Nat, i < low ∧ d = iD i := by
  rw [seqN_ok (op := arity 2 dTake) (xs := [.urn, .int (low : Nat)]) (cons_ok ha (cons_ok hb rfl)), ar2]
  exact Us.dTake h0 h1
def JPick (l : Bool) (xs : List D) (m i : Nat) (env : En) : Prop := ∃ left found t, env = [.fr .urn, .fr (seqB l xs), .fr (iD m), .ow (.lst left), .ow (.lst found), t] ∧ (found ++ left).Perm xs ∧ found.length = i
theorem pick_us {l : Bool} {xs : List D} {m : Nat} (hm : m ≤ xs.length) (hl : xs.length ≤ 1000) : Us m (d_law_pick [.urn, seqB l xs, iD m]) fun d => ∃ ys zs, d = .lst ys ∧ (ys ++ zs).Perm xs ∧ ys.length = m := by
  show Us m (runB (b_law_pick [.fr .urn, .fr (seqB l xs), .fr (iD m), .un, .un, .un])) _
  unfold b_law_pick
  refine Us.then (Q := fun fl => ∃ ys zs, fl = .ret (.lst ys) ∧ (ys ++ zs).Perm xs ∧ ys.length = m) ?_ fun fl ⟨ys, zs, e, h⟩ => ⟨.lst ys, by subst e; rfl, ys, zs, rfl, h⟩
  refine (Us.eq ?_ (seq_next (e := [.fr .urn, .fr (seqB l xs), .fr (iD m), .ow (.lst xs), .ow (.lst []), .un]) (by cases l <;> rfl)))
  have lp := loop_us (k := 1) (f := fun d e => setG 5 d e >>= b_law_pick_L1) (J := JPick l xs m) (ds := (List.range m).map fun i => D.int (i : Nat)) (env := [.fr .urn, .fr (seqB l xs), .fr (iD m), .ow (.lst xs), .ow (.lst []), .un]) (i := 0) ⟨xs, [], .un, rfl, by simp, rfl⟩ fun j d env hj ⟨left, found, t, e, pm, ln⟩ => by
    subst e
    have jl : j < m := by
      have := (List.getElem?_eq_some_iff.mp hj).1
      simpa using this
    have le := pm.length_eq
    rw [List.length_append] at le
    have l0 : 0 < left.length := by omega
    have lf : found.length ≤ 1000 := by omega
    refine (Us.then (Q := fun d => ∃ i : Nat, i < left.length ∧ d = iD i) (take_us (low := left.length) l0 (by omega) rfl rfl) fun q ⟨i, hi, e⟩ => ?_ : Us 1 (b_law_pick_L1 [.fr .urn, .fr (seqB l xs), .fr (iD m), .ow (.lst left), .ow (.lst found), .fr d]) _)
    subst e
    have ex : left[i]? = some left[i] := List.getElem?_eq_getElem hi
    refine ⟨.next [.fr .urn, .fr (seqB l xs), .fr (iD m), .ow (.lst (left.eraseIdx i)), .ow (.lst (found ++ [left[i]])), .fr d], ?_, _, rfl, left.eraseIdx i, found ++ [left[i]], .fr d, rfl, ?_, ?_⟩
    · show (if (0 : Int) ≤ (i : Nat) ∧ 4 ≠ 3 ∧ found.length < lim ∧ left.length ≤ lim then match left[i]? with
        | some d' => M.ok (Fl.next (List.set (List.set [.fr .urn, .fr (seqB l xs), .fr (iD m), .ow (.lst left), .ow (.lst found), .fr d] 3 (.ow (.lst (left.eraseIdx i)))) 4 (.ow (.lst (found ++ [d'])))))
        | none => .bad else .bad) = _
      rw [if_pos ⟨by omega, by decide, by unfold lim; omega, by unfold lim; omega⟩, ex]
      rfl
    · rw [List.append_assoc]
      exact ((perm_erase left i hi).append_left found).trans pm
    · rw [List.length_append, ln]
      simp
  rw [List.length_map, List.length_range, Nat.one_mul, Nat.zero_add] at lp
  refine (Us.seq (k := 0) (J := JPick l xs m m) (lp.eq (for_ok (ds := (List.range m).map fun i => D.int (i : Nat)) ?_)) fun e ⟨left, found, t, he, pm, ln⟩ => ?_)
  · exact (bind_ok (a := [iD m]) rfl).trans (rng1_ok (n := m) (by omega))
  · subst he
    exact Us.is (a := .ret (.lst found)) rfl ⟨found, left, rfl, pm, ln⟩
def poolM : List Str := ["a", "b", "c", "d", "ab", "aa", "mail", "z", "zzzzzzzz", "ba", "x", "port"]
theorem pool_nd : poolM.Nodup := by decide +kernel
theorem pool_ok : ∀ x ∈ poolM, PyData.strOk x = true := by decide +kernel
theorem ord_up {l : List Str} (h : OrdS l) (nd : l.Nodup) : Up l := by
  refine (h.and nd).imp fun {a b} ⟨q, n⟩ => ?_
  rcases Sx.ltS_tri a b with c | c | c
  · exact c
  · exact absurd c n
  · rw [q] at c; cases c
theorem split_strs {ys zs : List D} {ks : List Str} (h : (ys ++ zs).Perm (ks.map D.str)) : ∃ us vs : List Str, ys = us.map D.str ∧ (us ++ vs).Perm ks := by
  obtain ⟨ws, e, p⟩ := perm_strs h
  have e1 : ys = (ws.take ys.length).map D.str := by
    rw [List.map_take, ← e, List.take_left']
    rfl
  refine ⟨ws.take ys.length, ws.drop ys.length, e1, ?_⟩
  rw [List.take_append_drop]
  exact p
theorem tags_us {m : Nat} (hm : m ≤ 12) : Us m (d_law_tags [.urn, iD m]) fun d => ∃ K : List Str, d = .tup (K.map D.str) ∧ Up K ∧ K.length = m ∧ ∀ k ∈ K, k ∈ poolM := by
  show Us m (runB (b_law_tags [.fr .urn, .fr (iD m), .un])) _
  unfold b_law_tags
  refine Us.eq ?_ (congrArg runB (seq_next (e := [.fr .urn, .fr (iD m), .fr (.lst (poolM.map D.str))]) rfl))
  have pk := pick_us (l := true) (xs := poolM.map D.str) (m := m) (by rw [List.length_map]; exact hm) (by rw [List.length_map]; decide)
  refine Us.then (Q := fun fl => ∃ K : List Str, fl = .ret (.tup (K.map D.str)) ∧ Up K ∧ K.length = m ∧ ∀ k ∈ K, k ∈ poolM) ?_ fun fl ⟨K, e, h⟩ => ⟨_, by subst e; rfl, K, rfl, h⟩
  refine Us.then (Q := fun d => ∃ K : List Str, d = .tup (K.map D.str) ∧ Up K ∧ K.length = m ∧ ∀ k ∈ K, k ∈ poolM) ?_ fun d ⟨K, e, h⟩ => ⟨_, rfl, K, by rw [e], h⟩
  refine Us.then (Q := fun ds => ∃ K : List Str, ds = [.lst (K.map D.str)] ∧ Up K ∧ K.length = m ∧ ∀ k ∈ K, k ∈ poolM) ?_ fun ds ⟨K, e, h⟩ => ⟨.tup (K.map D.str), by rw [e]; rfl, K, rfl, h⟩
  refine Us.then (Q := fun d => ∃ K : List Str, d = .lst (K.map D.str) ∧ Up K ∧ K.length = m ∧ ∀ k ∈ K, k ∈ poolM) ?_ fun d ⟨K, e, h⟩ => ⟨_, rfl, K, by rw [e], h⟩
  refine Us.then (Q := fun ds => ∃ us vs : List Str, ds = [.lst (us.map D.str)] ∧ (us ++ vs).Perm poolM ∧ us.length = m) ?_ fun ds ⟨us, vs, e, p, ln⟩ => ?_
  · refine Us.then (Q := fun d => ∃ us vs : List Str, d = .lst (us.map D.str) ∧ (us ++ vs).Perm poolM ∧ us.length = m) ?_ fun d ⟨us, vs, e, h⟩ => ⟨_, rfl, us, vs, by rw [e], h⟩
    refine Us.eq ?_ ((seqN_ok (op := arity 3 d_law_pick) (xs := [.urn, seqB true (poolM.map D.str), iD m]) rfl).trans (ar3 _ _ _ _))
    refine pk.more (Nat.le_refl _) fun d ⟨ys, zs, e, p, ln⟩ => ?_
    obtain ⟨us, vs, e1, p1⟩ := split_strs p
    subst e1
    exact ⟨us, vs, e, p1, by rw [List.length_map] at ln; exact ln⟩
  · subst e
    have nd : us.Nodup := (List.nodup_append.mp (p.nodup_iff.mpr pool_nd)).1
    have sp := sortS_perm us
    refine ⟨.lst ((sortS us).map D.str), ?_, sortS us, rfl, ord_up (sortS_ord us) (sp.nodup_iff.mpr nd), by rw [sp.length_eq, ln], fun k hk => p.mem_iff.mp (List.mem_append_left _ (sp.mem_iff.mp hk))⟩
    have e1 : sortD (.lst (us.map D.str)) = .ok (.lst ((sortS us).map D.str)) := by
      show (match allS (us.map D.str) with
        | some xs => M.ok (D.lst ((sortS xs).map D.str))
        | none => .bad) = _
      rw [all_strs]
    show sortAll (.lst (us.map D.str)) = _
    unfold sortAll
    rw [e1]
theorem mixed_us {K : List Str} (hk : K.length ≤ 1000) : Us K.length (d_law_mixed [.urn, .tup (K.map D.str)]) fun d => ∃ O : List Str, d = .ntup (O.map D.str) ∧ O.Perm K := by
  show Us K.length (runB (b_law_mixed [.fr .urn, .fr (.tup (K.map D.str))])) _
  unfold b_law_mixed
  have pk := pick_us (l := false) (xs := K.map D.str) (m := K.length) (by rw [List.length_map]; exact Nat.le_refl _) (by rw [List.length_map]; exact hk)
  refine Us.then (Q := fun fl => ∃ O : List Str, fl = .ret (.ntup (O.map D.str)) ∧ O.Perm K) ?_ fun fl ⟨K, e, h⟩ => ⟨_, by subst e; rfl, K, rfl, h⟩
  refine Us.then (Q := fun d => ∃ O : List Str, d = .ntup (O.map D.str) ∧ O.Perm K) ?_ fun d ⟨O, e, h⟩ => ⟨_, rfl, O, by rw [e], h⟩
  refine Us.then (Q := fun ds => ∃ O : List Str, ds = [.lst (O.map D.str)] ∧ O.Perm K) ?_ fun ds ⟨O, e, h⟩ => ⟨.ntup (O.map D.str), by rw [e]; rfl, O, rfl, h⟩
  refine Us.then (Q := fun d => ∃ O : List Str, d = .lst (O.map D.str) ∧ O.Perm K) ?_ fun d ⟨O, e, h⟩ => ⟨_, rfl, O, by rw [e], h⟩
  refine Us.eq ?_ ((seqN_ok (op := arity 3 d_law_pick) (xs := [.urn, seqB false (K.map D.str), iD K.length]) ?_).trans (ar3 _ _ _ _))
  · refine pk.more (Nat.le_refl _) fun d ⟨ys, zs, e, p, ln⟩ => ?_
    obtain ⟨us, vs, e1, p1⟩ := split_strs p
    subst e1
    rw [List.length_map] at ln
    have := p1.length_eq
    rw [List.length_append] at this
    have v0 : vs = [] := List.eq_nil_of_length_eq_zero (by omega)
    subst v0
    rw [List.append_nil] at p1
    exact ⟨us, e, p1⟩
  · refine cons_ok rfl (cons_ok rfl (cons_ok ?_ rfl))
    show M.ok (D.int ((K.map D.str).length : Nat)) = _
    rw [List.length_map]; rfl
end Vw

/-! Q11 -/
namespace Vw
open PySem PySem.Spec PyProof.Rows L2
theorem par_ok {is : List Nat} {ds : En → M (List Sl)} {env : En} {ss : List Sl} (h : ds env = .ok ss) (hl : ss.length = is.length) : parS is ds env = .ok (.next (setAll is ss env)) := by
  show (ds env >>= fun ss => if ss.length = is.length then M.ok (Fl.next (setAll is ss env)) else .bad) = _
  rw [h, ok_bind, if_pos hl]
theorem mxV_ok {de : En → M D} {ds : En → M (List Sl)} {env : En} {x : D} {xs : List Sl} (h : de env = .ok x) (h2 : ds env = .ok xs) : mxV de ds env = .ok (.fr x :: xs) := by
  show (de env >>= fun x => ds env >>= fun xs => M.ok (.fr x :: xs)) = _
  rw [h, ok_bind, h2]; rfl
def TPair (K : List Str) (p : Str × Str) : Prop := p.1 ∈ K ∧ p.2 ∈ K ∧ Sx.ltS p.1 p.2 = true
def JTie (K : List Str) (th j : Nat) (env : En) : Prop := ∃ (T : List (Str × Str)) (s4 s5 s6 : Sl), env = [.fr .urn, .fr (.tup (K.map D.str)), .fr (iD th), .fr (.lst (T.map prD)), s4, s5, s6] ∧ T.length ≤ 10 * j ∧ ∀ p ∈ T, TPair K p
theorem ties_us {K : List Str} (u : Up K) (hk : K.length ≤ 10) (th : Nat) : Us 100 (d_law_ties [.urn, .tup (K.map D.str), iD th]) fun d => ∃ T : List (Str × Str), d = .tup (T.map prD) ∧ T.length ≤ 100 ∧ ∀ p ∈ T, TPair K p := by
  show Us 100 (runB (b_law_ties [.fr .urn, .fr (.tup (K.map D.str)), .fr (iD th), .un, .un, .un, .un])) _
  unfold b_law_ties
  refine Us.eq ?_ (congrArg runB (seq_next (e := [.fr .urn, .fr (.tup (K.map D.str)), .fr (iD th), .fr (.lst []), .un, .un, .un]) rfl))
  refine Us.then (Q := fun fl => ∃ T : List (Str × Str), fl = .ret (.tup (T.map prD)) ∧ T.length ≤ 100 ∧ ∀ p ∈ T, TPair K p) ?_ fun fl ⟨T, e, h⟩ => ⟨_, by subst e; rfl, T, rfl, h⟩
  have lp := loop_us (k := 10) (f := fun d e => seqG 2 (consG (setG 4) (consG (setG 5) nilG)) d e >>= b_law_ties_L1) (J := JTie K th) (ds := enumD (K.map D.str)) (env := [.fr .urn, .fr (.tup (K.map D.str)), .fr (iD th), .fr (.lst []), .un, .un, .un]) (i := 0) ⟨[], _, _, _, rfl, by simp, fun p m => by cases m⟩ fun j d env hj ⟨T, s4, s5, s6, e, ln, tp⟩ => by
    subst e
    obtain ⟨c, hc, rfl⟩ := enum_at hj
    rw [List.getElem?_map] at hc
    obtain ⟨k, hk1, rfl⟩ := Option.map_eq_some_iff.mp hc
    obtain ⟨jl, ek⟩ := List.getElem?_eq_some_iff.mp hk1
    have cp : Us 10 (compV [6] (fun env => (slV (pk 1) (fun env => (seq2 (pk 4) (fun _ => .ok (.int 1)) opAdd) env >>= fun d => isI d >>= fun i => .ok (some i)) (fun _ => .ok none) opSl) env >>= walkD) (setG 6) (asB (seq2 (seqN (consD (rd 0) (consD (fun _ => .ok (.int 4)) (fun _ => .ok []))) (arity 2 dTake)) (pk 2) opLt)) (fun env => (consD (rd 5) (consD (rd 6) (fun _ => .ok []))) env >>= fun xs => guardL xs >>= fun _ => .ok (.tup xs))
        [.fr .urn, .fr (.tup (K.map D.str)), .fr (iD th), .fr (.lst (T.map prD)), .fr (.int (j : Nat)), .fr (.str k), s6]) fun d => ∃ ys : List Str, d = .lst (ys.map fun o => prD (k, o)) ∧ ys.Sublist (K.drop (j + 1)) := by
      refine (comp_us (xs := K.drop (j + 1)) (p := D.str) (q := fun o => prD (k, o)) ?_ (by rw [List.length_drop]; unfold lim; omega) fun o ho => ?_).more (by rw [List.length_drop]; omega) fun d h => h
      · show (opSl (.tup (K.map D.str)) (some ((j : Int) + 1)) none >>= walkD) = _
        rw [show opSl (.tup (K.map D.str)) (some ((j : Int) + 1)) none = .ok (.tup (cutD (K.map D.str) (some ((j + 1 : Nat) : Int)) none)) from rfl, cut_drop, ok_bind, List.map_drop]
        rfl
      · show Us 1 (setG 6 (.str o) _ >>= _) _
        rw [show setG 6 (.str o) (wipeE [.fr .urn, .fr (.tup (K.map D.str)), .fr (iD th), .fr (.lst (T.map prD)), .fr (.int (j : Nat)), .fr (.str k), s6] [6]) = .ok [.fr .urn, .fr (.tup (K.map D.str)), .fr (iD th), .fr (.lst (T.map prD)), .fr (.int (j : Nat)), .fr (.str k), .fr (.str o)] from rfl, ok_bind]
        refine Us.then (Q := fun _ => True) ?_ fun b _ => ?_
        · refine Us.then (Q := fun d => ∃ c : Bool, d = .bl c) ?_ fun d ⟨c, e⟩ => ⟨c, by rw [e]; rfl, trivial⟩
          refine Us.then (Q := fun d => ∃ i : Nat, i < 4 ∧ d = iD i) (take_us (low := 4) (by decide) (by decide) rfl rfl) fun d ⟨i, hi, e⟩ => ⟨.bl (decide (i < th)), ?_, _, rfl⟩
          subst e
          exact lt_iD i th
        · cases b with
          | true => exact ⟨some (prD (k, o)), rfl, .inr rfl⟩
          | false => exact ⟨none, rfl, .inl rfl⟩
    have L : Us 10 (b_law_ties_L1 [.fr .urn, .fr (.tup (K.map D.str)), .fr (iD th), .fr (.lst (T.map prD)), .fr (.int (j : Nat)), .fr (.str k), s6]) fun fl => ∃ e, fl = .next e ∧ JTie K th (0 + j + 1) e := by
      unfold b_law_ties_L1
      refine (Us.set (Q := fun d => ∃ ys : List Str, d = .lst ((T ++ ys.map fun o => (k, o)).map prD) ∧ ys.Sublist (K.drop (j + 1))) ?_).more (Nat.le_refl _) fun fl ⟨e, h1, d, ⟨ys, h2, sb⟩, h3⟩ => ?_
      · show Us 10 (M.ok (D.lst (T.map prD)) >>= fun x => _ >>= fun y => opAdd x y) _
        rw [ok_bind]
        refine Us.then cp fun d ⟨ys, e, sb⟩ => ⟨.lst ((T ++ ys.map fun o => (k, o)).map prD), ?_, ys, rfl, sb⟩
        subst e
        have ly := sb.length_le
        rw [List.length_drop] at ly
        show (if (T.map prD).length + (ys.map fun o => prD (k, o)).length ≤ lim then M.ok (D.lst (T.map prD ++ ys.map fun o => prD (k, o))) else .bad) = _
        rw [if_pos (by rw [List.length_map, List.length_map]; unfold lim; omega), List.map_append, List.map_map]
        rfl
      · subst h2
        have ly := sb.length_le
        rw [List.length_drop] at ly
        refine ⟨e, h1, T ++ ys.map fun o => (k, o), _, _, _, h3, by rw [List.length_append, List.length_map]; omega, fun p hp => ?_⟩
        rcases List.mem_append.mp hp with q | q
        · exact tp p q
        · obtain ⟨o, ho, rfl⟩ := List.mem_map.mp q
          have ho := sb.subset ho
          refine ⟨by rw [← ek]; exact List.getElem_mem jl, List.mem_of_mem_drop ho, ?_⟩
          obtain ⟨i, hi, eo⟩ := List.getElem_of_mem ho
          rw [List.getElem_drop] at eo
          have := List.pairwise_iff_getElem.mp u j (j + 1 + i) jl (by rw [List.length_drop] at hi; omega) (by omega)
          rw [ek, eo] at this
          exact this
    exact L
  have le : (enumD (K.map D.str)).length = K.length := by unfold enumD; simp
  rw [le, Nat.zero_add] at lp
  refine (Us.seq (k := 0) (J := JTie K th K.length) ((lp.eq (for_ok (ds := enumD (K.map D.str)) rfl)).more (by omega) fun _ h => h) fun e ⟨T, s4, s5, s6, he, ln, tp⟩ => ?_)
  subst he
  exact Us.is (a := .ret (.tup (T.map prD))) rfl ⟨T, rfl, by omega, tp⟩
theorem drawn_us {m : Nat} (hm : m ≤ 10) : Us 200 (d_law_drawn [.urn, iD m]) fun d => ∃ (K : List Str) (T : List (Str × Str)), d = .tup [.tup (K.map D.str), .tup (T.map prD)] ∧ Up K ∧ K.length = m ∧ (∀ k ∈ K, k ∈ poolM) ∧ T.length ≤ 100 ∧ ∀ p ∈ T, TPair K p := by
  show Us 200 (runB (b_law_drawn [.fr .urn, .fr (iD m), .un])) _
  unfold b_law_drawn
  refine Us.then (Q := fun fl => ∃ (K : List Str) (T : List (Str × Str)), fl = .ret (.tup [.tup (K.map D.str), .tup (T.map prD)]) ∧ Up K ∧ K.length = m ∧ (∀ k ∈ K, k ∈ poolM) ∧ T.length ≤ 100 ∧ ∀ p ∈ T, TPair K p) ?_ fun fl ⟨K, T, e, h⟩ => ⟨_, by subst e; rfl, K, T, rfl, h⟩
  refine (Us.seq (n := m) (k := 101) (J := fun e => ∃ K : List Str, e = [.fr .urn, .fr (iD m), .fr (.tup (K.map D.str))] ∧ Up K ∧ K.length = m ∧ ∀ k ∈ K, k ∈ poolM) ?_ fun e ⟨K, he, u, lk, pl⟩ => ?_).more (by omega) fun _ h => h
  · refine (Us.set ((tags_us (m := m) (by omega)).eq ((seqN_ok (op := arity 2 d_law_tags) (xs := [.urn, iD m]) rfl).trans (ar2 _ _ _)))).more (Nat.le_refl _) fun fl ⟨e, h1, d, ⟨K, h2, h⟩, h3⟩ => ⟨e, h1, K, by rw [h3, h2]; rfl, h⟩
  · subst he
    refine Us.then (Q := fun d => ∃ T : List (Str × Str), d = .tup [.tup (K.map D.str), .tup (T.map prD)] ∧ T.length ≤ 100 ∧ ∀ p ∈ T, TPair K p) ?_ fun d ⟨T, e, h⟩ => ⟨_, rfl, K, T, by rw [e], u, lk, pl, h⟩
    refine Us.then (Q := fun ds => ∃ T : List (Str × Str), ds = [.tup (K.map D.str), .tup (T.map prD)] ∧ T.length ≤ 100 ∧ ∀ p ∈ T, TPair K p) ?_ fun ds ⟨T, e, h⟩ => ⟨_, by rw [e]; rfl, T, rfl, h⟩
    refine Us.bind0 (a := .tup (K.map D.str)) rfl ?_
    refine Us.then (Q := fun ds => ∃ T : List (Str × Str), ds = [.tup (T.map prD)] ∧ T.length ≤ 100 ∧ ∀ p ∈ T, TPair K p) ?_ fun ds ⟨T, e, h⟩ => ⟨_, by rw [e], T, rfl, h⟩
    refine Us.then (Q := fun d => ∃ T : List (Str × Str), d = .tup (T.map prD) ∧ T.length ≤ 100 ∧ ∀ p ∈ T, TPair K p) ?_ fun ds ⟨T, e, h⟩ => ⟨_, rfl, T, by rw [e], h⟩
    refine (Us.bind (n := 1) (k := 100) (Q := fun xs => ∃ th : Nat, xs = [.urn, .tup (K.map D.str), iD th]) ?_ fun xs ⟨th, e⟩ => ?_ : Us 101 (_ >>= _) _)
    · refine Us.bind0 (a := .urn) rfl ?_
      refine Us.then (Q := fun xs => ∃ th : Nat, xs = [.tup (K.map D.str), iD th]) ?_ fun xs ⟨th, e⟩ => ⟨_, by rw [e], th, rfl⟩
      refine Us.bind0 (a := .tup (K.map D.str)) rfl ?_
      refine Us.then (Q := fun xs => ∃ th : Nat, xs = [iD th]) ?_ fun xs ⟨th, e⟩ => ⟨_, by rw [e], th, rfl⟩
      refine Us.then (Q := fun x => ∃ th : Nat, x = iD th) ?_ fun xs ⟨th, e⟩ => ⟨_, rfl, th, by rw [e]⟩
      refine Us.bind0 (a := .int 1) rfl ?_
      refine Us.then (Q := fun d => ∃ i : Nat, i < 3 ∧ d = iD i) (take_us (low := 3) (by decide) (by decide) rfl rfl) fun d ⟨i, hi, e⟩ => ⟨iD (1 + i), ?_, _, rfl⟩
      subst e
      show M.ok (D.int ((1 : Int) + (i : Nat))) = M.ok (D.int ((1 + i : Nat) : Int))
      rw [Int.natCast_add]
      rfl
    · subst e
      exact (ties_us u (by omega) th).eq (ar3 _ _ _ _)
end Vw

/-! Q12 -/
namespace Vw
open PySem PySem.Spec PyProof.Rows L2
theorem wk_tup {e : En → M D} {env : En} {xs : List D} (h : e env = .ok (.ntup xs)) : (fun env => e env >>= fun d => M.ok (wkD d)) env = .ok (.tup xs) := by
  show (e env >>= fun d => M.ok (wkD d)) = _
  rw [h]; rfl
theorem nice_res {K : List Str} (ok : ∀ k ∈ K, OkS k) {o : Option (List Str)} (h : ∀ q, o = some q → Quad K q) : Nice 1 (resD o) := by
  cases o with
  | none => exact .non
  | some q =>
    obtain ⟨a, b, c, d, rfl, ha, hb, hc, hd⟩ := h q rfl
    refine .tup (by unfold lim; simp) fun x hx => ?_
    obtain ⟨k, hk, rfl⟩ := List.mem_map.mp hx
    refine .str (ok k ?_)
    simp only [List.mem_cons, List.not_mem_nil, or_false] at hk
    rcases hk with rfl | rfl | rfl | rfl <;> assumption
section
variable {K : List Str} {T : List (Str × Str)}
def JCase (K : List Str) (T : List (Str × Str)) (i : Nat) (env : En) : Prop := ∃ s5 s6 s7 : Sl, env = [.fr .urn, .fr (.tup (K.map D.str)), .fr (.tup (T.map prD)), .fr (.book K (bkS T)), .fr (.lst ((quadF K (P2 T)).map tupS)), s5, s6, s7]
theorem case_turn (h : Dr K T) (hk : K.length ≤ 10) (s5 s6 s7 : Sl) : Us 10 (b_law_case_right_L1 [.fr .urn, .fr (.tup (K.map D.str)), .fr (.tup (T.map prD)), .fr (.book K (bkS T)), .fr (.lst ((quadF K (P2 T)).map tupS)), s5, s6, s7]) fun fl => ∃ e, fl = .next e ∧ JCase K T 0 e := by
  unfold b_law_case_right_L1
  refine (Us.seq (n := K.length) (k := 0) (J := fun e => ∃ O : List Str, e = [.fr .urn, .fr (.tup (K.map D.str)), .fr (.tup (T.map prD)), .fr (.book K (bkS T)), .fr (.lst ((quadF K (P2 T)).map tupS)), s5, .fr (.ntup (O.map D.str)), s7] ∧ O.Perm K) ?_ fun e ⟨O, he, pm⟩ => ?_).more (by omega) fun _ h => h
  · refine (Us.set ((mixed_us (K := K) (by omega)).eq ((seqN_ok (op := arity 2 d_law_mixed) (xs := [.urn, .tup (K.map D.str)]) rfl).trans (ar2 _ _ _)))).more (Nat.le_refl _) fun fl ⟨e, h1, d, ⟨O, h2, pm⟩, h3⟩ => ⟨e, h1, O, by rw [h3, h2]; rfl, pm⟩
  · subst he
    have qs : ∀ q ∈ quadF K (P2 T), Quad O q := fun q hq => by
      obtain ⟨a, b, c, d, e, ha, hb, hc, hd⟩ := quadF_quad hq
      exact ⟨a, b, c, d, e, pm.mem_iff.mpr ha, pm.mem_iff.mpr hb, pm.mem_iff.mpr hc, pm.mem_iff.mpr hd⟩
    have bk := bk_ok h (by omega)
    have g1 := bad_ok bk hk pm false
    have g2 := bad_ok bk hk pm true
    rw [quad_eq h] at g1 g2
    generalize hr : resD ((quadF K (P2 T)).find? (badQ O)) = r at g1 g2
    have nr : Nice 1 r := by
      rw [← hr]
      refine nice_res h.ok fun q hq => quadF_quad (List.mem_of_find?_eq_some hq)
    have e7 : (setS 7 (seqN (consD (rd 4) (consD (rd 6) (fun _ => .ok []))) (arity 2 d_law_due))) [.fr .urn, .fr (.tup (K.map D.str)), .fr (.tup (T.map prD)), .fr (.book K (bkS T)), .fr (.lst ((quadF K (P2 T)).map tupS)), s5, .fr (.ntup (O.map D.str)), s7]
        = .ok (.next [.fr .urn, .fr (.tup (K.map D.str)), .fr (.tup (T.map prD)), .fr (.book K (bkS T)), .fr (.lst ((quadF K (P2 T)).map tupS)), s5, .fr (.ntup (O.map D.str)), .fr r]) := by
      refine set_ok (d := r) (call2 rfl rfl ?_)
      rw [due_ok qs, hr]
    refine Us.eq ?_ (seq_next e7)
    refine Us.is (a := .next [.fr .urn, .fr (.tup (K.map D.str)), .fr (.tup (T.map prD)), .fr (.book K (bkS T)), .fr (.lst ((quadF K (P2 T)).map tupS)), s5, .fr (.ntup (O.map D.str)), .fr r]) (if_no (notB_ok (c := true) (asB_ok ?_))) ⟨_, rfl, _, _, _, rfl⟩
    have same : d_law_same 8 [.lst [r, r], .lst [r, r]] = .ok (.bl true) := same_true (n := 2) (.lst (by unfold lim; simp) fun d hd => by
      simp only [List.mem_cons, List.not_mem_nil, or_false, or_self] at hd
      rw [hd]; exact nr) 8 (by decide)
    refine call2 (a := .lst [r, r]) (b := .lst [r, r]) ?_ (lst_ok (xs := [r, r]) rfl (by unfold lim; simp)) same
    refine lst_ok (xs := [r, r]) (cons_ok ?_ (cons_ok ?_ rfl)) (by unfold lim; simp)
    · exact call2 (a := .book K (bkS T)) (b := .tup (O.map D.str)) rfl rfl g1
    · refine (seqN_ok (xs := [.lst (O.map D.str), .book K (bkS T)]) (cons_ok ((seqN_ok (xs := [.tup (O.map D.str)]) rfl).trans rfl) (cons_ok rfl rfl))).trans ?_
      show arity 2 dbad_four [.book K (bkS T), .lst (O.map D.str)] = _
      rw [ar2]
      exact g2
theorem case_us (h : Dr K T) (hk : K.length ≤ 10) : Us 50 (d_law_case_right [.urn, .tup (K.map D.str), .tup (T.map prD)]) fun d => d = .bl true := by
  show Us 50 (runB (b_law_case_right [.fr .urn, .fr (.tup (K.map D.str)), .fr (.tup (T.map prD)), .un, .un, .un, .un, .un])) _
  unfold b_law_case_right
  have e1 : (parS [3, 4] (mxV (seqN (consD (rd 1) (consD (rd 2) (fun _ => .ok []))) (arity 2 d_law_host)) (mxV (seqN (consD (rd 1) (consD (rd 2) (fun _ => .ok []))) (arity 2 d_law_rows_of_four)) (fun _ => .ok [])))) [.fr .urn, .fr (.tup (K.map D.str)), .fr (.tup (T.map prD)), .un, .un, .un, .un, .un]
      = .ok (.next [.fr .urn, .fr (.tup (K.map D.str)), .fr (.tup (T.map prD)), .fr (.book K (bkS T)), .fr (.lst ((quadF K (P2 T)).map tupS)), .un, .un, .un]) :=
    par_ok (ss := [.fr (.book K (bkS T)), .fr (.lst ((quadF K (P2 T)).map tupS))]) (mxV_ok (call2 rfl rfl (host_ok h (by omega))) (mxV_ok (call2 rfl rfl (rows_is h.toTOk h.up hk)) rfl)) rfl
  refine Us.eq ?_ (congrArg runB (seq_next e1))
  refine Us.then (Q := fun fl => fl = .ret (.bl true)) ?_ fun fl e => ⟨.bl true, by subst e; rfl, rfl⟩
  have lp := loop_us (k := 10) (f := fun d e => setG 5 d e >>= b_law_case_right_L1) (J := JCase K T) (ds := (List.range 5).map fun i => D.int (i : Nat)) (env := [.fr .urn, .fr (.tup (K.map D.str)), .fr (.tup (T.map prD)), .fr (.book K (bkS T)), .fr (.lst ((quadF K (P2 T)).map tupS)), .un, .un, .un]) (i := 0) ⟨_, _, _, rfl⟩ fun j d env hj ⟨s5, s6, s7, e⟩ => by
    subst e
    show Us 10 (setG 5 d [.fr .urn, .fr (.tup (K.map D.str)), .fr (.tup (T.map prD)), .fr (.book K (bkS T)), .fr (.lst ((quadF K (P2 T)).map tupS)), s5, s6, s7] >>= b_law_case_right_L1) _
    rw [show setG 5 d [.fr .urn, .fr (.tup (K.map D.str)), .fr (.tup (T.map prD)), .fr (.book K (bkS T)), .fr (.lst ((quadF K (P2 T)).map tupS)), s5, s6, s7] = .ok [.fr .urn, .fr (.tup (K.map D.str)), .fr (.tup (T.map prD)), .fr (.book K (bkS T)), .fr (.lst ((quadF K (P2 T)).map tupS)), .fr d, s6, s7] from rfl, ok_bind]
    exact case_turn h hk _ _ _
  rw [List.length_map, List.length_range, Nat.zero_add] at lp
  refine Us.seq (n := 50) (k := 0) (J := JCase K T 5) (lp.eq (for_ok (ds := (List.range 5).map fun i => D.int (i : Nat)) ?_)) fun e h => Us.is (a := .ret (.bl true)) rfl rfl
  exact (bind_ok (a := [iD 5]) rfl).trans (rng1_ok (n := 5) (by decide))
end
theorem last_ix {K : List Str} (h : 0 < K.length) : ∃ k, k ∈ K ∧ opIx (.tup (K.map D.str)) (.int (-1)) = .ok (.str k) := by
  have hl : K.length - 1 < K.length := by omega
  refine ⟨K[K.length - 1], List.getElem_mem hl, ?_⟩
  show (match atI (K.map D.str) (-1) with
    | some d => M.ok d
    | none => .bad) = _
  have : atI (K.map D.str) (-1) = some (.str K[K.length - 1]) := by
    unfold atI ixN
    rw [List.length_map, if_neg (by omega), if_pos (by omega)]
    show (K.map D.str)[(-1 + (K.length : Int)).toNat]? = _
    rw [show (-1 + (K.length : Int)).toNat = K.length - 1 by omega, List.getElem?_map, List.getElem?_eq_getElem hl]
    rfl
  rw [this]
def JRight (i : Nat) (env : En) : Prop := ∃ s1 s2 s3 : Sl, env = [.fr .urn, s1, s2, s3]
theorem right_turn (s1 s2 s3 : Sl) : Us 300 (b_law_right_L1 [.fr .urn, s1, s2, s3]) fun fl => ∃ e, fl = .next e ∧ JRight 0 e := by
  unfold b_law_right_L1
  refine (Us.seq (n := 201) (k := 51) (J := fun e => ∃ (K : List Str) (T : List (Str × Str)), e = [.fr .urn, s1, .fr (.tup (K.map D.str)), .fr (.tup (T.map prD))] ∧ Dr K T ∧ 0 < K.length ∧ K.length ≤ 10 ∧ T.length ≤ 100) ?_ fun e ⟨K, T, he, h, l0, lk, lt⟩ => ?_).more (by omega) fun _ h => h
  · refine Us.then (Q := fun d => ∃ (K : List Str) (T : List (Str × Str)), d = .tup [.tup (K.map D.str), .tup (T.map prD)] ∧ Dr K T ∧ 0 < K.length ∧ K.length ≤ 10 ∧ T.length ≤ 100) ?_ fun d ⟨K, T, e, h⟩ => ⟨.next [.fr .urn, s1, .fr (.tup (K.map D.str)), .fr (.tup (T.map prD))], by subst e; rfl, _, rfl, K, T, rfl, h⟩
    refine (Us.bind (n := 1) (k := 200) (Q := fun xs => ∃ m : Nat, 3 ≤ m ∧ m < 8 ∧ xs = [.urn, iD m]) ?_ fun xs ⟨m, h1, h2, e⟩ => ?_ : Us 201 (_ >>= _) _)
    · refine Us.bind0 (a := .urn) rfl ?_
      refine Us.then (Q := fun xs => ∃ m : Nat, 3 ≤ m ∧ m < 8 ∧ xs = [iD m]) ?_ fun xs ⟨m, h1, h2, e⟩ => ⟨_, by rw [e], m, h1, h2, rfl⟩
      refine Us.then (Q := fun x => ∃ m : Nat, 3 ≤ m ∧ m < 8 ∧ x = iD m) ?_ fun xs ⟨m, h1, h2, e⟩ => ⟨_, rfl, m, h1, h2, by rw [e]⟩
      refine Us.bind0 (a := .int 3) rfl ?_
      refine Us.then (Q := fun d => ∃ i : Nat, i < 5 ∧ d = iD i) (take_us (low := 5) (by decide) (by decide) rfl rfl) fun d ⟨i, hi, e⟩ => ⟨iD (3 + i), ?_, 3 + i, by omega, by omega, rfl⟩
      subst e
      show M.ok (D.int ((3 : Int) + (i : Nat))) = M.ok (D.int ((3 + i : Nat) : Int))
      rw [Int.natCast_add]
      rfl
    · subst e
      refine ((drawn_us (m := m) (by omega)).eq (ar2 _ _ _)).more (Nat.le_refl _) fun d ⟨K, T, e, u, lk, pl, lt, tp⟩ => ⟨K, T, e, ⟨⟨fun k hk => pool_ok k (pl k hk), by omega, fun p hp => ⟨(tp p hp).1, (tp p hp).2.1⟩⟩, u, fun p hp => Sx.ltS_asym (tp p hp).2.2⟩, by omega, by omega, lt⟩
  · subst he
    refine (Us.seq (n := 1) (k := 50) (J := fun e => ∃ T : List (Str × Str), e = [.fr .urn, s1, .fr (.tup (K.map D.str)), .fr (.tup (T.map prD))] ∧ Dr K T) ?_ fun e ⟨T, he, h⟩ => ?_ : Us 51 _ _)
    · refine (Us.bind (n := 1) (k := 0) (Q := fun _ : Bool => True) ?_ fun c _ => ?_ : Us 1 (_ >>= _) _)
      · refine Us.then (Q := fun d => ∃ c : Bool, d = .bl c) ?_ fun d ⟨c, e⟩ => ⟨c, by rw [e]; rfl, trivial⟩
        refine Us.then (Q := fun d => ∃ i : Nat, i < 2 ∧ d = iD i) (take_us (low := 2) (by decide) (by decide) rfl rfl) fun d ⟨i, hi, e⟩ => ⟨.bl (decide ((i : Int) = 0)), ?_, _, rfl⟩
        subst e
        exact len_eq (i : Int) 0
      · cases c with
        | false => exact Us.is (a := .next [.fr .urn, s1, .fr (.tup (K.map D.str)), .fr (.tup (T.map prD))]) rfl ⟨_, rfl, T, rfl, h⟩
        | true =>
          obtain ⟨k, hk, ek⟩ := last_ix l0
          have el : (seq2 (pk 2) (fun env => (fun _ => .ok (.int 1)) env >>= fun d => isI d >>= fun i => .ok (.int (-i))) opIx) [.fr .urn, s1, .fr (.tup (K.map D.str)), .fr (.tup (T.map prD))] = .ok (.str k) := (seq2_ok (x := .tup (K.map D.str)) (y := .int (-1)) rfl rfl).trans ek
          refine Us.is (a := .next [.fr .urn, s1, .fr (.tup (K.map D.str)), .fr (.tup ((T ++ [(k, k)]).map prD))]) ?_ ⟨_, rfl, T ++ [(k, k)], rfl, ⟨⟨h.ok, by rw [List.length_append]; have := lt; simp; omega, fun p hp => ?_⟩, h.up, fun p hp => ?_⟩⟩
          · refine set_ok (d := .tup ((T ++ [(k, k)]).map prD)) ((seq2_ok (x := .tup (T.map prD)) (y := .tup [prD (k, k)]) rfl (tup_ok (xs := [prD (k, k)]) (cons_ok (tup_ok (xs := [.str k, .str k]) (cons_ok el (cons_ok el rfl)) (by unfold lim; simp)) rfl) (by unfold lim; simp))).trans ?_)
            show (if (T.map prD).length + 1 ≤ lim then M.ok (D.tup (T.map prD ++ [prD (k, k)])) else .bad) = _
            rw [if_pos (by rw [List.length_map]; unfold lim; omega), List.map_append]
            rfl
          · rcases List.mem_append.mp hp with q | q
            · exact h.mem p q
            · rw [List.mem_singleton] at q
              subst q
              exact ⟨hk, hk⟩
          · rcases List.mem_append.mp hp with q | q
            · exact h.low p q
            · rw [List.mem_singleton] at q
              subst q
              exact Sx.ltS_irr k
    · subst he
      refine Us.then (Q := fun c : Bool => c = false) ?_ fun c e => ⟨.next [.fr .urn, s1, .fr (.tup (K.map D.str)), .fr (.tup (T.map prD))], by subst e; rfl, _, rfl, _, _, _, rfl⟩
      refine Us.then (Q := fun c : Bool => c = true) ?_ fun c e => ⟨false, by subst e; rfl, rfl⟩
      refine Us.then (Q := fun d => d = .bl true) ((case_us h lk).eq ((seqN_ok (op := arity 3 d_law_case_right) (xs := [.urn, .tup (K.map D.str), .tup (T.map prD)]) rfl).trans (ar3 _ _ _ _))) fun d e => ⟨true, by subst e; rfl, rfl⟩
theorem right_us : Us 2400 (d_law_right [.urn]) fun d => d = .bl true := by
  show Us 2400 (runB (b_law_right [.fr .urn, .un, .un, .un])) _
  unfold b_law_right
  refine Us.then (Q := fun fl => fl = .ret (.bl true)) ?_ fun fl e => ⟨.bl true, by subst e; rfl, rfl⟩
  have lp := loop_us (k := 300) (f := fun d e => setG 1 d e >>= b_law_right_L1) (J := JRight) (ds := (List.range 8).map fun i => D.int (i : Nat)) (env := [.fr .urn, .un, .un, .un]) (i := 0) ⟨_, _, _, rfl⟩ fun j d env hj ⟨s1, s2, s3, e⟩ => by
    subst e
    show Us 300 (setG 1 d [.fr .urn, s1, s2, s3] >>= b_law_right_L1) _
    rw [show setG 1 d [.fr .urn, s1, s2, s3] = .ok [.fr .urn, .fr d, s2, s3] from rfl, ok_bind]
    exact right_turn _ _ _
  rw [List.length_map, List.length_range, Nat.zero_add] at lp
  refine Us.seq (n := 2400) (k := 0) (J := JRight 8) (lp.eq (for_ok (ds := (List.range 8).map fun i => D.int (i : Nat)) ?_)) fun e h => Us.is (a := .ret (.bl true)) rfl rfl
  exact (bind_ok (a := [iD 8]) rfl).trans (rng1_ok (n := 8) (by decide))
end Vw

/-! H71 -/
namespace Vw
open PySem PySem.Spec PyProof.Rows L2
def isT1 : M D → Bool
  | .ok (.bl true) => true
  | _ => false
set_option maxRecDepth 1000000 in
theorem hand_true : isT1 (d_law_by_hand_right []) = true := by decide +kernel
end Vw

/-! LbLaw -/
namespace Sx
open PySem PySem.Spec PyProof.Rows L2
/-- all but what stands at u stays -/
def SameU (u : Addr) (H H' : Hp) : Prop := ∀ b o, H b = some o → b ≠ u → H' b = some o
def spRight : Sp := fun vs H Q _ => ∃ (u : Addr), vs = [.ref u] ∧ Urn H u 0 ∧ ∀ H', SameU u H H' → Q (.bl true) H'
def spHand : Sp := fun vs H Q _ => vs = [] ∧ ∀ H', Same H H' → Q (.bl true) H'
theorem bl_of {K : PySem.W.Frag} {C : Nat → Addr} {U : Option Addr} {G : Hp} {v : V} {b : Bool} (r : Vw.Rep K C U G v (.bl b)) : v = .bl b := by
  cases r; rfl
section
variable {P : Program} {w : World} {K : PySem.W.Frag} {mg : Str → Option Value} {base : Heap} {C : Nat → Addr} {k : Nat} {f : Addr} {fd : FuncData} {ps : List Str}
theorem right_v (F : FnOk P w K mg base CX0 k f fd ps (Vw.spV K C 1 Vw.d_law_right)) : FnOk P w K mg base CX0 k f fd ps spRight := F.imp fun vs H Q E ⟨u, e, U, q⟩ => by
  subst e
  obtain ⟨a, b, c, h, b1, b2, c1, c2⟩ := U.ex
  refine ⟨some u, Vw.E0p, 2 ^ 40, [.urn], Vw.sub_none, fun x e => ?_, fun _ _ => rfl, .cons (.urn rfl) .nil, rfl, ?_⟩
  · cases e
    exact ⟨a, b, c, h, b1, b2, c1, by omega⟩
  · refine Vw.wp_mono (Vw.right_us.run (2 ^ 40) (by decide)) fun b' d ⟨_, e⟩ v G' H' x _ r => ?_
    subst e
    rw [bl_of r]
    exact q H' fun y o h n => x.keep y o h fun z => n (Option.some.inj z).symm
theorem hand_v (F : FnOk P w K mg base CX0 k f fd ps (Vw.spV K C 0 Vw.d_law_by_hand_right)) : FnOk P w K mg base CX0 k f fd ps spHand := F.imp fun vs H Q E ⟨e, q⟩ => by
  subst e
  have e : Vw.d_law_by_hand_right [] = .ok (.bl true) := by
    have h := Vw.hand_true
    unfold Vw.isT1 at h
    split at h
    · assumption
    · cases h
  refine ⟨none, Vw.E0p, 0, [], Vw.sub_none, fun x e => (by cases e), fun _ e => (by cases e), .nil, rfl, ?_⟩
  rw [e]
  intro v G' H' x _ r
  rw [bl_of r]
  exact q H' fun y o h => x.keep y o h fun z => by cases z
end
/-! ### calls by names -/
theorem kbp_one {K : PySem.W.Frag} {fd : FuncData} {y : Str} (h2 : ∀ v : Value, bindArgs fd ⟨[], [(y, v)]⟩ = pure [(y, v)]) : KBinds K fd [y] [y] (Vw.permL ([y] : List Str).length [0]) (Vw.permL ([y] : List Str).length [0]) where
  to := fun s us ws _ hl => match us, ws, hl with
    | [], [w], _ => .of_eq (h2 w)
    | [], [], hl => by simp [Vw.permL] at hl
    | [], w :: w2 :: ws, hl => by simp [Vw.permL] at hl
    | u :: us, ws, hl => by simp [Vw.permL] at hl
  rel := fun r rz => Vw.perm_rel _ _ r rz
theorem kbp_swap {K : PySem.W.Frag} {fd : FuncData} {y z : Str} (h2 : ∀ u v : Value, bindArgs fd ⟨[], [(z, v), (y, u)]⟩ = pure [(y, u), (z, v)]) : KBinds K fd [y, z] [z, y] (Vw.permL ([z, y] : List Str).length [1, 0]) (Vw.permL ([z, y] : List Str).length [1, 0]) where
  to := fun s us ws _ hl => match us, ws, hl with
    | [], [v, u], _ => .of_eq (h2 u v)
    | [], [], hl => by simp [Vw.permL] at hl
    | [], [w], hl => by simp [Vw.permL] at hl
    | [], w :: w2 :: w3 :: ws, hl => by simp [Vw.permL] at hl
    | u :: us, ws, hl => by simp [Vw.permL] at hl
  rel := fun r rz => Vw.perm_rel _ _ r rz
/-! ### law -/
section
variable {P : Program} {w : World} {K : PySem.W.Frag} {mg : Str → Option Value} {base : Heap}
abbrev sLaw : Stmt := top 34
abbrev nLaw : List Str := ["_law_script", "_law_cells_here", "_law_k"]
theorem scLaw : FnScope nLaw ["_law_script"] (defScope sLaw) := ⟨rfl, rfl, rfl, by decide +kernel, rfl, by decide +kernel, by decide +kernel⟩
def spLaw (K : PySem.W.Frag) : Sp := fun vs H Q _ => ∃ (a : Addr) (ns : List Int), vs = [.ref a] ∧ SqL K H a (ns.map V.int) ∧ ns.length ≤ 63 ∧ ∀ H', Q (.bl true) H'
theorem ok_law {f : Addr} {fd : FuncData} {dvs : List V} (F : FunD K "law" "law" (defArgs sLaw) (defBody sLaw) (defScope sLaw) dvs [] f fd) (B : Blt mg) (GC : FnG P w K mg base "_law_cells" 1 ["_law_script", "_law_top"] (spCells K)) (GH : FnG P w K mg base "_law_by_hand_right" 9 [] spHand)
    (GR : FnG P w K mg base "_law_right" 10 ["_law_urn"] spRight) (GX : FnG P w K mg base "_law_box" 1 ["_law_script", "_law_k"] (spBox K)) : FnOk P w K mg base CX0 11 f fd ["_law_script"] (spLaw K) := by
  refine F.ok scLaw (fun vs H Q E h => ?_) (fun cdv A outer s H vs Q E hr h => ?_)
  · obtain ⟨a, ns, rfl, _⟩ := h
    rfl
  · obtain ⟨a, ns, rfl, hx, l63, q⟩ := h
    have hr1 : Room 1 (A.deeper (envOfC "law" (defScope sLaw) s.heap.objs.size f cdv)) := hr.mono (by decide)
    refine ⟨_, (pss_cons (ps_if (pt_not (pt_val (pe_g0 GH (hr.mono (by decide))))) (pss_one (ps_ret pe_bl)) pss_nil)
      (pss_cons (ps_set (i := 1) scLaw.nd rfl (Or.inr rfl) (pe_g GC hr1 (pa_cons (pv 0) (pa_cons pe_int pa_nil))))
      (pss_one (ps_ret (pe_callB (cr_all rfl) (by rfl) B.all bt_all (pa_cons (pe_lc (own := [("_law_k", 2)]) (g := gName 2) (tt := tYes) rfl scLaw.nd (pi_range1 (by rfl) B.range (pa_cons (pe_callB call_len_seq (by rfl) B.len PySem.boot_len (pa_cons (pv 1) pa_nil)) pa_nil)) (blkOk_by (N := nLaw) (sc := defScope sLaw) (by decide +kernel)) (fun _ _ _ _ _ => pg_name (i := 2) scLaw.nd rfl (Or.inl rfl)) (fun _ _ _ _ _ => pts_nil)
        (fun _ _ _ _ _ => pe_g GR (hr.mono (by decide)) (pa_cons (pe_g GX hr1 (pa_cons (pv 1) (pa_cons (pv 2) pa_nil))) pa_nil))) pa_nil)))))).nox, ?_⟩
    refine ⟨rfl, fun H0 s0 => ⟨_, rfl, iteF ?_⟩⟩
    refine ⟨_, rfl, a, ns, rfl, same_sqL s0 hx, l63, fun l ms H2 s2' hl2 m3 => ?_⟩
    refine ⟨_, rfl, l, _, rfl, .inl (SqL.of hl2), ms.length, by rw [List.length_map], by omega, by omega, ?_⟩
    refine lc_walkR (n := ms.length) (vs := [2]) (σ := [some (.ref a), some (.ref l), none]) (fun D i H' => Same H2 H' ∧ H' D = some (.lst (List.replicate i (.bl true))))
      (fun D hD => ⟨Sx.Same.new hD, upd_same⟩) ?_ ?_
    · rintro D i x H' ⟨hi, rfl⟩ hD ⟨s, hd⟩
      refine ⟨rfl, ?_⟩
      unfold tYes
      dsimp only
      rw [if_pos rfl]
      refine ⟨_, rfl, _, rfl, l, i, ms, by rw [Int.zero_add]; rfl, SqL.of (s _ _ hl2), hi, m3, fun u H3 s3 hu U => ?_⟩
      refine ⟨u, rfl, U, fun H4 S4 => ?_⟩
      have Du : D ≠ u := fun e => by
        rw [e, hu] at hd
        cases hd
      have hd3 := s3 _ _ hd
      have s24 : Same H2 H4 := fun b o e => S4 _ _ (s3 _ _ (s _ _ e)) fun z => by
        have e2 := s _ _ e
        rw [z, hu] at e2
        cases e2
      refine ⟨_, S4 _ _ hd3 Du, by rw [List.length_replicate, sizeLine_eq]; omega, Sx.Same.mut s24 hD, ?_⟩
      rw [upd_same, ← List.replicate_succ']
    · rintro D H' hD ⟨s, hd⟩
      refine ⟨D, List.replicate ms.length true, rfl, SqL.of (by rw [hd, List.map_replicate]), ?_⟩
      have ea : (List.replicate ms.length true).all id = true := by
        rw [List.all_eq_true]
        intro z hz
        rw [(List.mem_replicate.mp hz).2]
        rfl
      rw [ea]
      exact q _
end
end Sx

/-! Asm -/
namespace Sx
open PySem PySem.Spec PyProof.Rows L2
theorem funD_of {K : PySem.W.Frag} {x qual : Str} {st : Stmt} {f : Addr} {fd : FuncData} (F : Fun K x qual st f fd) : FunD K x qual (defArgs st) (defBody st) (defScope st) [] [] f fd := by
  obtain ⟨oc, od, kV, doc, pm, an, cdv, ct, osl, e, lk, hc⟩ := F.ex
  exact ⟨⟨oc, od, .none, kV, doc, pm, an, cdv, ct, osl, e, lk, hc, .inl ⟨rfl, rfl⟩, .inl rfl⟩, F.kp⟩
theorem all_mk {l : PySem.W.OpenLaw} {w : World} {K : PySem.W.Frag} {h : Heap} {mg : Str → Option Value} {fa C : Addr} (X : K.In h) (G : h.Ns mainGlobals mg) (hfa : mg "law" = some (.ref fa))
    {f1 : Addr} {od1 an1 : Option Addr} {sl1 : Array (Option Value)} {oc1 kV1 dc1 pm1 cd1 ct1 : Value} {f2 : Addr} {od2 an2 : Option Addr} {sl2 : Array (Option Value)} {oc2 kV2 dc2 pm2 cd2 ct2 : Value} {f3 : Addr} {od3 an3 : Option Addr} {sl3 : Array (Option Value)} {oc3 kV3 dc3 pm3 cd3 ct3 : Value} {f4 : Addr} {od4 an4 : Option Addr} {sl4 : Array (Option Value)} {oc4 kV4 dc4 pm4 cd4 ct4 : Value} {f5 : Addr} {od5 an5 : Option Addr} {sl5 : Array (Option Value)} {oc5 kV5 dc5 pm5 cd5 ct5 : Value} {f6 : Addr} {od6 an6 : Option Addr} {sl6 : Array (Option Value)} {oc6 kV6 dc6 pm6 cd6 ct6 : Value} {f7 : Addr} {od7 an7 : Option Addr} {sl7 : Array (Option Value)} {oc7 kV7 dc7 pm7 cd7 ct7 : Value} {f8 : Addr} {od8 an8 : Option Addr} {sl8 : Array (Option Value)} {oc8 kV8 dc8 pm8 cd8 ct8 : Value} {f9 : Addr} {od9 an9 : Option Addr} {sl9 : Array (Option Value)} {oc9 kV9 dc9 pm9 cd9 ct9 : Value} {f10 : Addr} {od10 an10 : Option Addr} {sl10 : Array (Option Value)} {oc10 kV10 dc10 pm10 cd10 ct10 : Value} {f11 : Addr} {od11 an11 : Option Addr} {sl11 : Array (Option Value)} {oc11 kV11 dc11 pm11 cd11 ct11 : Value} {f12 : Addr} {od12 an12 : Option Addr} {sl12 : Array (Option Value)} {oc12 kV12 dc12 pm12 cd12 ct12 : Value} {f13 : Addr} {od13 an13 : Option Addr} {sl13 : Array (Option Value)} {oc13 kV13 dc13 pm13 cd13 ct13 : Value} {f14 : Addr} {od14 an14 : Option Addr} {sl14 : Array (Option Value)} {oc14 kV14 dc14 pm14 cd14 ct14 : Value} {f15 : Addr} {od15 an15 : Option Addr} {sl15 : Array (Option Value)} {oc15 kV15 dc15 pm15 cd15 ct15 : Value} {f16 : Addr} {od16 an16 : Option Addr} {sl16 : Array (Option Value)} {oc16 kV16 dc16 pm16 cd16 ct16 : Value} {f17 : Addr} {od17 an17 : Option Addr} {sl17 : Array (Option Value)} {oc17 kV17 dc17 pm17 cd17 ct17 : Value} {f18 : Addr} {od18 an18 : Option Addr} {sl18 : Array (Option Value)} {oc18 kV18 dc18 pm18 cd18 ct18 : Value} {f19 : Addr} {od19 an19 : Option Addr} {sl19 : Array (Option Value)} {oc19 kV19 dc19 pm19 cd19 ct19 : Value} {f20 : Addr} {od20 an20 : Option Addr} {sl20 : Array (Option Value)} {oc20 kV20 dc20 pm20 cd20 ct20 : Value} {f21 : Addr} {od21 an21 : Option Addr} {sl21 : Array (Option Value)} {oc21 kV21 dc21 pm21 cd21 ct21 : Value} {f22 : Addr} {od22 an22 : Option Addr} {sl22 : Array (Option Value)} {oc22 kV22 dc22 pm22 cd22 ct22 : Value} {f23 : Addr} {od23 an23 : Option Addr} {sl23 : Array (Option Value)} {oc23 kV23 dc23 pm23 cd23 ct23 : Value} {f24 : Addr} {od24 an24 : Option Addr} {sl24 : Array (Option Value)} {oc24 kV24 dc24 pm24 cd24 ct24 : Value} {f25 : Addr} {od25 an25 : Option Addr} {sl25 : Array (Option Value)} {oc25 kV25 dc25 pm25 cd25 ct25 : Value} {f26 : Addr} {od26 an26 : Option Addr} {sl26 : Array (Option Value)} {oc26 kV26 dc26 pm26 cd26 ct26 : Value} {f27 : Addr} {od27 an27 : Option Addr} {sl27 : Array (Option Value)} {oc27 kV27 dc27 pm27 cd27 ct27 : Value} {p28 : Addr} {r28 : List Value} {f28 : Addr} {od28 an28 : Option Addr} {sl28 : Array (Option Value)} {oc28 kV28 dc28 pm28 cd28 ct28 : Value} {p29 : Addr} {r29 : List Value} {f29 : Addr} {od29 an29 : Option Addr} {sl29 : Array (Option Value)} {oc29 kV29 dc29 pm29 cd29 ct29 : Value} {p30 : Addr} {r30 : List Value} {f30 : Addr} {od30 an30 : Option Addr} {sl30 : Array (Option Value)} {oc30 kV30 dc30 pm30 cd30 ct30 : Value} {f31 T eT : Addr} {od31 an31 : Option Addr} {sl31 : Array (Option Value)} {oc31 kV31 dc31 pm31 cd31 ct31 : Value} {oT : Obj} {nT : Nat} {oE : Obj} {nE : Nat}
    (aC : PySem.W.nsIn K mainGlobals "Book" = some (some (.ref C)))
    (a1 : PySem.W.nsIn K mainGlobals "is_kind" = some (some (.ref f1)))
    (l1 : K.lookup f1 = some ⟨oc1, od1, .func (PySem.W.fnOf "is_kind" "is_kind" (defArgs sIsKind) (defBody sIsKind) (defScope sIsKind) .none kV1 dc1 pm1 an1 cd1 ct1), sl1⟩)
    (c1 : PySem.W.codeIn K cd1 "is_kind" = true)
    (k1 : PySem.W.keepIn K (.ref f1) = true)
    (a2 : PySem.W.nsIn K mainGlobals "_law_box" = some (some (.ref f2)))
    (l2 : K.lookup f2 = some ⟨oc2, od2, .func (PySem.W.fnOf "_law_box" "_law_box" (defArgs sBox) (defBody sBox) (defScope sBox) .none kV2 dc2 pm2 an2 cd2 ct2), sl2⟩)
    (c2 : PySem.W.codeIn K cd2 "_law_box" = true)
    (k2 : PySem.W.keepIn K (.ref f2) = true)
    (a3 : PySem.W.nsIn K mainGlobals "_law_take" = some (some (.ref f3)))
    (l3 : K.lookup f3 = some ⟨oc3, od3, .func (PySem.W.fnOf "_law_take" "_law_take" (defArgs sTake) (defBody sTake) (defScope sTake) .none kV3 dc3 pm3 an3 cd3 ct3), sl3⟩)
    (c3 : PySem.W.codeIn K cd3 "_law_take" = true)
    (k3 : PySem.W.keepIn K (.ref f3) = true)
    (a4 : PySem.W.nsIn K mainGlobals "_law_cells" = some (some (.ref f4)))
    (l4 : K.lookup f4 = some ⟨oc4, od4, .func (PySem.W.fnOf "_law_cells" "_law_cells" (defArgs sCells) (defBody sCells) (defScope sCells) .none kV4 dc4 pm4 an4 cd4 ct4), sl4⟩)
    (c4 : PySem.W.codeIn K cd4 "_law_cells" = true)
    (k4 : PySem.W.keepIn K (.ref f4) = true)
    (a5 : PySem.W.nsIn K mainGlobals "law" = some (some (.ref f5)))
    (l5 : K.lookup f5 = some ⟨oc5, od5, .func (PySem.W.fnOf "law" "law" (defArgs sLaw) (defBody sLaw) (defScope sLaw) .none kV5 dc5 pm5 an5 cd5 ct5), sl5⟩)
    (c5 : PySem.W.codeIn K cd5 "law" = true)
    (k5 : PySem.W.keepIn K (.ref f5) = true)
    (a6 : PySem.W.nsIn K mainGlobals "ones" = some (some (.ref f6)))
    (l6 : K.lookup f6 = some ⟨oc6, od6, .func (PySem.W.fnOf "ones" "ones" (defArgs Vw.sones) (defBody Vw.sones) (defScope Vw.sones) .none kV6 dc6 pm6 an6 cd6 ct6), sl6⟩)
    (c6 : PySem.W.codeIn K cd6 "ones" = true)
    (k6 : PySem.W.keepIn K (.ref f6) = true)
    (a7 : PySem.W.nsIn K mainGlobals "clash_bits" = some (some (.ref f7)))
    (l7 : K.lookup f7 = some ⟨oc7, od7, .func (PySem.W.fnOf "clash_bits" "clash_bits" (defArgs Vw.sclash_bits) (defBody Vw.sclash_bits) (defScope Vw.sclash_bits) .none kV7 dc7 pm7 an7 cd7 ct7), sl7⟩)
    (c7 : PySem.W.codeIn K cd7 "clash_bits" = true)
    (k7 : PySem.W.keepIn K (.ref f7) = true)
    (a8 : PySem.W.nsIn K mainGlobals "_is_bad" = some (some (.ref f8)))
    (l8 : K.lookup f8 = some ⟨oc8, od8, .func (PySem.W.fnOf "_is_bad" "_is_bad" (defArgs Vw.s_is_bad) (defBody Vw.s_is_bad) (defScope Vw.s_is_bad) .none kV8 dc8 pm8 an8 cd8 ct8), sl8⟩)
    (c8 : PySem.W.codeIn K cd8 "_is_bad" = true)
    (k8 : PySem.W.keepIn K (.ref f8) = true)
    (a9 : PySem.W.nsIn K mainGlobals "_fours" = some (some (.ref f9)))
    (l9 : K.lookup f9 = some ⟨oc9, od9, .func (PySem.W.fnOf "_fours" "_fours" (defArgs Vw.s_fours) (defBody Vw.s_fours) (defScope Vw.s_fours) .none kV9 dc9 pm9 an9 cd9 ct9), sl9⟩)
    (c9 : PySem.W.codeIn K cd9 "_fours" = true)
    (k9 : PySem.W.keepIn K (.ref f9) = true)
    (a10 : PySem.W.nsIn K mainGlobals "bad_four" = some (some (.ref f10)))
    (l10 : K.lookup f10 = some ⟨oc10, od10, .func (PySem.W.fnOf "bad_four" "bad_four" (defArgs Vw.sbad_four) (defBody Vw.sbad_four) (defScope Vw.sbad_four) .none kV10 dc10 pm10 an10 cd10 ct10), sl10⟩)
    (c10 : PySem.W.codeIn K cd10 "bad_four" = true)
    (k10 : PySem.W.keepIn K (.ref f10) = true)
    (a11 : PySem.W.nsIn K mainGlobals "_law_same" = some (some (.ref f11)))
    (l11 : K.lookup f11 = some ⟨oc11, od11, .func (PySem.W.fnOf "_law_same" "_law_same" (defArgs Vw.s_law_same) (defBody Vw.s_law_same) (defScope Vw.s_law_same) .none kV11 dc11 pm11 an11 cd11 ct11), sl11⟩)
    (c11 : PySem.W.codeIn K cd11 "_law_same" = true)
    (k11 : PySem.W.keepIn K (.ref f11) = true)
    (a12 : PySem.W.nsIn K mainGlobals "_law_pick" = some (some (.ref f12)))
    (l12 : K.lookup f12 = some ⟨oc12, od12, .func (PySem.W.fnOf "_law_pick" "_law_pick" (defArgs Vw.s_law_pick) (defBody Vw.s_law_pick) (defScope Vw.s_law_pick) .none kV12 dc12 pm12 an12 cd12 ct12), sl12⟩)
    (c12 : PySem.W.codeIn K cd12 "_law_pick" = true)
    (k12 : PySem.W.keepIn K (.ref f12) = true)
    (a13 : PySem.W.nsIn K mainGlobals "_law_tags" = some (some (.ref f13)))
    (l13 : K.lookup f13 = some ⟨oc13, od13, .func (PySem.W.fnOf "_law_tags" "_law_tags" (defArgs Vw.s_law_tags) (defBody Vw.s_law_tags) (defScope Vw.s_law_tags) .none kV13 dc13 pm13 an13 cd13 ct13), sl13⟩)
    (c13 : PySem.W.codeIn K cd13 "_law_tags" = true)
    (k13 : PySem.W.keepIn K (.ref f13) = true)
    (a14 : PySem.W.nsIn K mainGlobals "_law_ties" = some (some (.ref f14)))
    (l14 : K.lookup f14 = some ⟨oc14, od14, .func (PySem.W.fnOf "_law_ties" "_law_ties" (defArgs Vw.s_law_ties) (defBody Vw.s_law_ties) (defScope Vw.s_law_ties) .none kV14 dc14 pm14 an14 cd14 ct14), sl14⟩)
    (c14 : PySem.W.codeIn K cd14 "_law_ties" = true)
    (k14 : PySem.W.keepIn K (.ref f14) = true)
    (a15 : PySem.W.nsIn K mainGlobals "_law_foe" = some (some (.ref f15)))
    (l15 : K.lookup f15 = some ⟨oc15, od15, .func (PySem.W.fnOf "_law_foe" "_law_foe" (defArgs Vw.s_law_foe) (defBody Vw.s_law_foe) (defScope Vw.s_law_foe) .none kV15 dc15 pm15 an15 cd15 ct15), sl15⟩)
    (c15 : PySem.W.codeIn K cd15 "_law_foe" = true)
    (k15 : PySem.W.keepIn K (.ref f15) = true)
    (a16 : PySem.W.nsIn K mainGlobals "_law_host" = some (some (.ref f16)))
    (l16 : K.lookup f16 = some ⟨oc16, od16, .func (PySem.W.fnOf "_law_host" "_law_host" (defArgs Vw.s_law_host) (defBody Vw.s_law_host) (defScope Vw.s_law_host) .none kV16 dc16 pm16 an16 cd16 ct16), sl16⟩)
    (c16 : PySem.W.codeIn K cd16 "_law_host" = true)
    (k16 : PySem.W.keepIn K (.ref f16) = true)
    (a17 : PySem.W.nsIn K mainGlobals "_law_drawn" = some (some (.ref f17)))
    (l17 : K.lookup f17 = some ⟨oc17, od17, .func (PySem.W.fnOf "_law_drawn" "_law_drawn" (defArgs Vw.s_law_drawn) (defBody Vw.s_law_drawn) (defScope Vw.s_law_drawn) .none kV17 dc17 pm17 an17 cd17 ct17), sl17⟩)
    (c17 : PySem.W.codeIn K cd17 "_law_drawn" = true)
    (k17 : PySem.W.keepIn K (.ref f17) = true)
    (a18 : PySem.W.nsIn K mainGlobals "_law_ends_four" = some (some (.ref f18)))
    (l18 : K.lookup f18 = some ⟨oc18, od18, .func (PySem.W.fnOf "_law_ends_four" "_law_ends_four" (defArgs Vw.s_law_ends_four) (defBody Vw.s_law_ends_four) (defScope Vw.s_law_ends_four) .none kV18 dc18 pm18 an18 cd18 ct18), sl18⟩)
    (c18 : PySem.W.codeIn K cd18 "_law_ends_four" = true)
    (k18 : PySem.W.keepIn K (.ref f18) = true)
    (a19 : PySem.W.nsIn K mainGlobals "_law_rows_of_four" = some (some (.ref f19)))
    (l19 : K.lookup f19 = some ⟨oc19, od19, .func (PySem.W.fnOf "_law_rows_of_four" "_law_rows_of_four" (defArgs Vw.s_law_rows_of_four) (defBody Vw.s_law_rows_of_four) (defScope Vw.s_law_rows_of_four) .none kV19 dc19 pm19 an19 cd19 ct19), sl19⟩)
    (c19 : PySem.W.codeIn K cd19 "_law_rows_of_four" = true)
    (k19 : PySem.W.keepIn K (.ref f19) = true)
    (a20 : PySem.W.nsIn K mainGlobals "_law_mixed" = some (some (.ref f20)))
    (l20 : K.lookup f20 = some ⟨oc20, od20, .func (PySem.W.fnOf "_law_mixed" "_law_mixed" (defArgs Vw.s_law_mixed) (defBody Vw.s_law_mixed) (defScope Vw.s_law_mixed) .none kV20 dc20 pm20 an20 cd20 ct20), sl20⟩)
    (c20 : PySem.W.codeIn K cd20 "_law_mixed" = true)
    (k20 : PySem.W.keepIn K (.ref f20) = true)
    (a21 : PySem.W.nsIn K mainGlobals "_law_due" = some (some (.ref f21)))
    (l21 : K.lookup f21 = some ⟨oc21, od21, .func (PySem.W.fnOf "_law_due" "_law_due" (defArgs Vw.s_law_due) (defBody Vw.s_law_due) (defScope Vw.s_law_due) .none kV21 dc21 pm21 an21 cd21 ct21), sl21⟩)
    (c21 : PySem.W.codeIn K cd21 "_law_due" = true)
    (k21 : PySem.W.keepIn K (.ref f21) = true)
    (a22 : PySem.W.nsIn K mainGlobals "_law_case_right" = some (some (.ref f22)))
    (l22 : K.lookup f22 = some ⟨oc22, od22, .func (PySem.W.fnOf "_law_case_right" "_law_case_right" (defArgs Vw.s_law_case_right) (defBody Vw.s_law_case_right) (defScope Vw.s_law_case_right) .none kV22 dc22 pm22 an22 cd22 ct22), sl22⟩)
    (c22 : PySem.W.codeIn K cd22 "_law_case_right" = true)
    (k22 : PySem.W.keepIn K (.ref f22) = true)
    (a23 : PySem.W.nsIn K mainGlobals "_law_by_hand_right" = some (some (.ref f23)))
    (l23 : K.lookup f23 = some ⟨oc23, od23, .func (PySem.W.fnOf "_law_by_hand_right" "_law_by_hand_right" (defArgs Vw.s_law_by_hand_right) (defBody Vw.s_law_by_hand_right) (defScope Vw.s_law_by_hand_right) .none kV23 dc23 pm23 an23 cd23 ct23), sl23⟩)
    (c23 : PySem.W.codeIn K cd23 "_law_by_hand_right" = true)
    (k23 : PySem.W.keepIn K (.ref f23) = true)
    (a24 : PySem.W.nsIn K mainGlobals "_law_right" = some (some (.ref f24)))
    (l24 : K.lookup f24 = some ⟨oc24, od24, .func (PySem.W.fnOf "_law_right" "_law_right" (defArgs Vw.s_law_right) (defBody Vw.s_law_right) (defScope Vw.s_law_right) .none kV24 dc24 pm24 an24 cd24 ct24), sl24⟩)
    (c24 : PySem.W.codeIn K cd24 "_law_right" = true)
    (k24 : PySem.W.keepIn K (.ref f24) = true)
    (a25 : PySem.W.findIn K (.ref C) "_ask_for" = some (some (.ref f25)))
    (i25 : PySem.W.isFn K (.ref f25) = true)
    (l25 : K.lookup f25 = some ⟨oc25, od25, .func (PySem.W.fnOf "_ask_for" "Book._ask_for" (defArgs Vw.sBask) (defBody Vw.sBask) (defScope Vw.sBask) .none kV25 dc25 pm25 an25 cd25 ct25), sl25⟩)
    (c25 : PySem.W.codeIn K cd25 "Book._ask_for" = true)
    (k25 : PySem.W.keepIn K (.ref f25) = true)
    (a26 : PySem.W.findIn K (.ref C) "clashing" = some (some (.ref f26)))
    (i26 : PySem.W.isFn K (.ref f26) = true)
    (l26 : K.lookup f26 = some ⟨oc26, od26, .func (PySem.W.fnOf "clashing" "Book.clashing" (defArgs Vw.sBclashing) (defBody Vw.sBclashing) (defScope Vw.sBclashing) .none kV26 dc26 pm26 an26 cd26 ct26), sl26⟩)
    (c26 : PySem.W.codeIn K cd26 "Book.clashing" = true)
    (k26 : PySem.W.keepIn K (.ref f26) = true)
    (a27 : PySem.W.findIn K (.ref C) "turned" = some (some (.ref f27)))
    (i27 : PySem.W.isFn K (.ref f27) = true)
    (l27 : K.lookup f27 = some ⟨oc27, od27, .func (PySem.W.fnOf "turned" "Book.turned" (defArgs Vw.sBturned) (defBody Vw.sBturned) (defScope Vw.sBturned) .none kV27 dc27 pm27 an27 cd27 ct27), sl27⟩)
    (c27 : PySem.W.codeIn K cd27 "Book.turned" = true)
    (k27 : PySem.W.keepIn K (.ref f27) = true)
    (a28 : PySem.W.findIn K (.ref C) "text" = some (some (.ref p28)))
    (g28 : PySem.W.specialIn K (.ref p28) "__get__" = some (some (.builtin "property.__get__")))
    (t28 : PySem.W.takesIn K (.ref p28) = some true)
    (q28 : PySem.W.recIn K p28 "property" = some (.ref f28 :: r28))
    (l28 : K.lookup f28 = some ⟨oc28, od28, .func (PySem.W.fnOf "text" "Book.text" (defArgs sText) (defBody sText) (defScope sText) .none kV28 dc28 pm28 an28 cd28 ct28), sl28⟩)
    (c28 : PySem.W.codeIn K cd28 "Book.text" = true)
    (k28 : PySem.W.keepIn K (.ref f28) = true)
    (a29 : PySem.W.findIn K (.ref C) "kinds" = some (some (.ref p29)))
    (g29 : PySem.W.specialIn K (.ref p29) "__get__" = some (some (.builtin "property.__get__")))
    (t29 : PySem.W.takesIn K (.ref p29) = some true)
    (q29 : PySem.W.recIn K p29 "property" = some (.ref f29 :: r29))
    (l29 : K.lookup f29 = some ⟨oc29, od29, .func (PySem.W.fnOf "kinds" "Book.kinds" (defArgs Vw.sBkinds) (defBody Vw.sBkinds) (defScope Vw.sBkinds) .none kV29 dc29 pm29 an29 cd29 ct29), sl29⟩)
    (c29 : PySem.W.codeIn K cd29 "Book.kinds" = true)
    (k29 : PySem.W.keepIn K (.ref f29) = true)
    (rd : PySem.W.readsIn K C (.type "type") = true)
    (ga : PySem.W.specialIn K (.ref C) "__getattribute__" = some (some (.builtin "type.__getattribute__")))
    (a30 : PySem.W.findCls K (.ref C) (.type "type") "of" = some (.get (.builtin "staticmethod.__get__") (.ref p30) .none (.ref C)))
    (q30 : PySem.W.recIn K p30 "staticmethod" = some (.ref f30 :: r30))
    (l30 : K.lookup f30 = some ⟨oc30, od30, .func (PySem.W.fnOf "of" "Book.of" (defArgs sOf) (defBody sOf) (defScope sOf) .none kV30 dc30 pm30 an30 cd30 ct30), sl30⟩)
    (c30 : PySem.W.codeIn K cd30 "Book.of" = true)
    (k30 : PySem.W.keepIn K (.ref f30) = true)
    (a31 : PySem.W.findIn K (.ref C) "__init__" = some (some (.ref f31)))
    (i31 : PySem.W.isFn K (.ref f31) = true)
    (l31 : K.lookup f31 = some ⟨oc31, od31, .func (PySem.W.fnOf "__init__" "Book.__init__" (defArgs sInit) (defBody sInit) (defScope sInit) (.ref T) kV31 dc31 pm31 an31 cd31 ct31), sl31⟩)
    (c31 : PySem.W.codeIn K cd31 "Book.__init__" = true)
    (k31 : PySem.W.keepIn K (.ref f31) = true)
    (lT : K.lookup T = some oT)
    (dT : oT.data = .seq ([Value.ref eT] : List Value).toArray nT)
    (lE : K.lookup eT = some oE)
    (cE : oE.cls = .type "tuple")
    (dE : oE.data = .seq ([] : List Value).toArray nE)
    (pg : PySem.W.plainGet K C Str.empty = true)
    (hd : PySem.W.hasDictIn K C = true)
    (po : PySem.W.plainOver K C = true)
    (sa : PySem.W.findIn K (.ref C) "__setattr__" = some (some (.builtin "object.__setattr__")))
    (mk : PySem.W.makesIn K C = true)
    (kc : PySem.W.keepIn K (.ref C) = true)
    (nK : PySem.W.findIn K (.ref C) "_kinds" = some none)
    (nC : PySem.W.findIn K (.ref C) "_clashes" = some none)
    (nN : PySem.W.findIn K (.ref C) "_near" = some none)
    (z_sorted : PySem.W.nsIn K mainGlobals "sorted" = some none)
    (z_tuple : PySem.W.nsIn K mainGlobals "tuple" = some none)
    (z_min : PySem.W.nsIn K mainGlobals "min" = some none)
    (z_max : PySem.W.nsIn K mainGlobals "max" = some none)
    (z_len : PySem.W.nsIn K mainGlobals "len" = some none)
    (z_all : PySem.W.nsIn K mainGlobals "all" = some none)
    (z_isinstance : PySem.W.nsIn K mainGlobals "isinstance" = some none)
    (z_abs : PySem.W.nsIn K mainGlobals "abs" = some none)
    (z_list : PySem.W.nsIn K mainGlobals "list" = some none)
    (z_int : PySem.W.nsIn K mainGlobals "int" = some none)
    (z_range : PySem.W.nsIn K mainGlobals "range" = some none)
    (z_set : PySem.W.nsIn K mainGlobals "set" = some none)
    (z_zip : PySem.W.nsIn K mainGlobals "zip" = some none)
    (z_enumerate : PySem.W.nsIn K mainGlobals "enumerate" = some none)
    (z_dict : PySem.W.nsIn K mainGlobals "dict" = some none)
    (z_str : PySem.W.nsIn K mainGlobals "str" = some none)
    (z_bool : PySem.W.nsIn K mainGlobals "bool" = some none)
    (z_sum : PySem.W.nsIn K mainGlobals "sum" = some none)
    : ∃ fd : FuncData, (∀ (s : Shared) (v : Value), BindsTo s fd ⟨[v], []⟩ [("_law_script", v)]) ∧ ∀ base : Heap, K.In base → base.Ns mainGlobals mg → FnOk l.prog w K mg base CX0 11 fa fd ["_law_script"] (spLaw K) := by
  have e := hfa.symm.trans (PySem.W.mg_of X G a5)
  cases e
  have B : Blt mg := ⟨PySem.W.mg_none_of X G z_sorted, PySem.W.mg_none_of X G z_tuple, PySem.W.mg_none_of X G z_min, PySem.W.mg_none_of X G z_max, PySem.W.mg_none_of X G z_len, PySem.W.mg_none_of X G z_all, PySem.W.mg_none_of X G z_isinstance, PySem.W.mg_none_of X G z_abs, PySem.W.mg_none_of X G z_list, PySem.W.mg_none_of X G z_int, PySem.W.mg_none_of X G z_range, PySem.W.mg_none_of X G z_set, PySem.W.mg_none_of X G z_zip, PySem.W.mg_none_of X G z_enumerate, PySem.W.mg_none_of X G z_dict, PySem.W.mg_none_of X G z_str, PySem.W.mg_none_of X G z_bool⟩
  have cl : Cls K C := ⟨pg, hd, po, sa⟩
  have T0 : TBook K mg C := ⟨cl, nK, nC, nN, B.sorted, B.tuple, B.min, B.max⟩
  have TT : TB K mg C := { B with cl := cl, nK := nK, nC := nC, nN := nN }
  have mC : mg "Book" = some (.ref C) := PySem.W.mg_of X G aC
  let CC : Nat → Addr := fun _ => C
  have F1 := fun_mk (st := sIsKind) l1 c1 k1
  have b1 : Binds K _ ["thing"] [] := F1.binds (ps := ["thing"]) fun _ _ _ _ _ _ us hl => match us, hl with | [_], _ => rfl
  have m1 : mg "is_kind" = some (.ref f1) := PySem.W.mg_of X G a1
  have F2 := fun_mk (st := sBox) l2 c2 k2
  have b2 : Binds K _ ["_law_script", "_law_k"] [] := F2.binds (ps := ["_law_script", "_law_k"]) fun _ _ _ _ _ _ us hl => match us, hl with | [_, _], _ => rfl
  have m2 : mg "_law_box" = some (.ref f2) := PySem.W.mg_of X G a2
  have F3 := fun_mk (st := sTake) l3 c3 k3
  have b3 : Binds K _ ["_law_urn", "_law_low_so"] [] := F3.binds (ps := ["_law_urn", "_law_low_so"]) fun _ _ _ _ _ _ us hl => match us, hl with | [_, _], _ => rfl
  have m3 : mg "_law_take" = some (.ref f3) := PySem.W.mg_of X G a3
  have F4 := fun_mk (st := sCells) l4 c4 k4
  have b4 : Binds K _ ["_law_script", "_law_top"] [] := F4.binds (ps := ["_law_script", "_law_top"]) fun _ _ _ _ _ _ us hl => match us, hl with | [_, _], _ => rfl
  have m4 : mg "_law_cells" = some (.ref f4) := PySem.W.mg_of X G a4
  have F5 := fun_mk (st := sLaw) l5 c5 k5
  have F6 := fun_mk (st := Vw.sones) l6 c6 k6
  have b6 : Binds K _ ["bits"] [] := F6.binds (ps := ["bits"]) fun _ _ _ _ _ _ us hl => match us, hl with | [_], _ => rfl
  have m6 : mg "ones" = some (.ref f6) := PySem.W.mg_of X G a6
  have F7 := fun_mk (st := Vw.sclash_bits) l7 c7 k7
  have b7 : Binds K _ ["book"] [] := F7.binds (ps := ["book"]) fun _ _ _ _ _ _ us hl => match us, hl with | [_], _ => rfl
  have m7 : mg "clash_bits" = some (.ref f7) := PySem.W.mg_of X G a7
  have F8 := fun_mk (st := Vw.s_is_bad) l8 c8 k8
  have b8 : Binds K _ ["four", "place"] [] := F8.binds (ps := ["four", "place"]) fun _ _ _ _ _ _ us hl => match us, hl with | [_, _], _ => rfl
  have m8 : mg "_is_bad" = some (.ref f8) := PySem.W.mg_of X G a8
  have F9 := fun_mk (st := Vw.s_fours) l9 c9 k9
  have b9 : Binds K _ ["book"] [] := F9.binds (ps := ["book"]) fun _ _ _ _ _ _ us hl => match us, hl with | [_], _ => rfl
  have m9 : mg "_fours" = some (.ref f9) := PySem.W.mg_of X G a9
  have F10 := fun_mk (st := Vw.sbad_four) l10 c10 k10
  have b10 : Binds K _ ["book", "order"] [] := F10.binds (ps := ["book", "order"]) fun _ _ _ _ _ _ us hl => match us, hl with | [_, _], _ => rfl
  have m10 : mg "bad_four" = some (.ref f10) := PySem.W.mg_of X G a10
  have F11 := fun_mk (st := Vw.s_law_same) l11 c11 k11
  have b11 : Binds K _ ["_law_got", "_law_goal"] [] := F11.binds (ps := ["_law_got", "_law_goal"]) fun _ _ _ _ _ _ us hl => match us, hl with | [_, _], _ => rfl
  have m11 : mg "_law_same" = some (.ref f11) := PySem.W.mg_of X G a11
  have F12 := fun_mk (st := Vw.s_law_pick) l12 c12 k12
  have b12 : Binds K _ ["_law_urn", "_law_goods_so", "_law_many_so"] [] := F12.binds (ps := ["_law_urn", "_law_goods_so", "_law_many_so"]) fun _ _ _ _ _ _ us hl => match us, hl with | [_, _, _], _ => rfl
  have m12 : mg "_law_pick" = some (.ref f12) := PySem.W.mg_of X G a12
  have F13 := fun_mk (st := Vw.s_law_tags) l13 c13 k13
  have b13 : Binds K _ ["_law_urn", "_law_many_so"] [] := F13.binds (ps := ["_law_urn", "_law_many_so"]) fun _ _ _ _ _ _ us hl => match us, hl with | [_, _], _ => rfl
  have m13 : mg "_law_tags" = some (.ref f13) := PySem.W.mg_of X G a13
  have F14 := fun_mk (st := Vw.s_law_ties) l14 c14 k14
  have b14 : Binds K _ ["_law_urn", "_law_tags_here", "_law_thick_so"] [] := F14.binds (ps := ["_law_urn", "_law_tags_here", "_law_thick_so"]) fun _ _ _ _ _ _ us hl => match us, hl with | [_, _, _], _ => rfl
  have m14 : mg "_law_ties" = some (.ref f14) := PySem.W.mg_of X G a14
  have F15 := fun_mk (st := Vw.s_law_foe) l15 c15 k15
  have b15 : Binds K _ ["_law_ties_here", "_law_one", "_law_own"] [] := F15.binds (ps := ["_law_ties_here", "_law_one", "_law_own"]) fun _ _ _ _ _ _ us hl => match us, hl with | [_, _, _], _ => rfl
  have m15 : mg "_law_foe" = some (.ref f15) := PySem.W.mg_of X G a15
  have F16 := fun_mk (st := Vw.s_law_host) l16 c16 k16
  have b16 : Binds K _ ["_law_tags_here", "_law_ties_here"] [] := F16.binds (ps := ["_law_tags_here", "_law_ties_here"]) fun _ _ _ _ _ _ us hl => match us, hl with | [_, _], _ => rfl
  have m16 : mg "_law_host" = some (.ref f16) := PySem.W.mg_of X G a16
  have F17 := fun_mk (st := Vw.s_law_drawn) l17 c17 k17
  have b17 : Binds K _ ["_law_urn", "_law_many_so"] [] := F17.binds (ps := ["_law_urn", "_law_many_so"]) fun _ _ _ _ _ _ us hl => match us, hl with | [_, _], _ => rfl
  have m17 : mg "_law_drawn" = some (.ref f17) := PySem.W.mg_of X G a17
  have F18 := fun_mk (st := Vw.s_law_ends_four) l18 c18 k18
  have b18 : Binds K _ ["_law_ties_here", "_law_a", "_law_b", "_law_c", "_law_d"] [] := F18.binds (ps := ["_law_ties_here", "_law_a", "_law_b", "_law_c", "_law_d"]) fun _ _ _ _ _ _ us hl => match us, hl with | [_, _, _, _, _], _ => rfl
  have m18 : mg "_law_ends_four" = some (.ref f18) := PySem.W.mg_of X G a18
  have F19 := fun_mk (st := Vw.s_law_rows_of_four) l19 c19 k19
  have b19 : Binds K _ ["_law_tags_here", "_law_ties_here"] [] := F19.binds (ps := ["_law_tags_here", "_law_ties_here"]) fun _ _ _ _ _ _ us hl => match us, hl with | [_, _], _ => rfl
  have m19 : mg "_law_rows_of_four" = some (.ref f19) := PySem.W.mg_of X G a19
  have F20 := fun_mk (st := Vw.s_law_mixed) l20 c20 k20
  have b20 : Binds K _ ["_law_urn", "_law_tags_here"] [] := F20.binds (ps := ["_law_urn", "_law_tags_here"]) fun _ _ _ _ _ _ us hl => match us, hl with | [_, _], _ => rfl
  have m20 : mg "_law_mixed" = some (.ref f20) := PySem.W.mg_of X G a20
  have F21 := fun_mk (st := Vw.s_law_due) l21 c21 k21
  have b21 : Binds K _ ["_law_fours_so", "_law_order_so"] [] := F21.binds (ps := ["_law_fours_so", "_law_order_so"]) fun _ _ _ _ _ _ us hl => match us, hl with | [_, _], _ => rfl
  have m21 : mg "_law_due" = some (.ref f21) := PySem.W.mg_of X G a21
  have F22 := fun_mk (st := Vw.s_law_case_right) l22 c22 k22
  have b22 : Binds K _ ["_law_urn", "_law_tags_here", "_law_ties_here"] [] := F22.binds (ps := ["_law_urn", "_law_tags_here", "_law_ties_here"]) fun _ _ _ _ _ _ us hl => match us, hl with | [_, _, _], _ => rfl
  have m22 : mg "_law_case_right" = some (.ref f22) := PySem.W.mg_of X G a22
  have F23 := fun_mk (st := Vw.s_law_by_hand_right) l23 c23 k23
  have b23 : Binds K _ [] [] := F23.binds (ps := []) fun _ _ _ _ _ _ us hl => match us, hl with | [], _ => rfl
  have m23 : mg "_law_by_hand_right" = some (.ref f23) := PySem.W.mg_of X G a23
  have F24 := fun_mk (st := Vw.s_law_right) l24 c24 k24
  have b24 : Binds K _ ["_law_urn"] [] := F24.binds (ps := ["_law_urn"]) fun _ _ _ _ _ _ us hl => match us, hl with | [_], _ => rfl
  have m24 : mg "_law_right" = some (.ref f24) := PySem.W.mg_of X G a24
  have F25 := fun_mk (st := Vw.sBask) l25 c25 k25
  have b25 : Binds K _ ["self", "kinds"] [] := F25.binds (ps := ["self", "kinds"]) fun _ _ _ _ _ _ us hl => match us, hl with | [_, _], _ => rfl
  have F26 := fun_mk (st := Vw.sBclashing) l26 c26 k26
  have b26 : Binds K _ ["self", "kind"] [] := F26.binds (ps := ["self", "kind"]) fun _ _ _ _ _ _ us hl => match us, hl with | [_, _], _ => rfl
  have F27 := fun_mk (st := Vw.sBturned) l27 c27 k27
  have b27 : Binds K _ ["self"] [] := F27.binds (ps := ["self"]) fun _ _ _ _ _ _ us hl => match us, hl with | [_], _ => rfl
  have F28 := fun_mk (st := sText) l28 c28 k28
  have b28 : Binds K _ ["self"] [] := F28.binds (ps := ["self"]) fun _ _ _ _ _ _ us hl => match us, hl with | [_], _ => rfl
  have F29 := fun_mk (st := Vw.sBkinds) l29 c29 k29
  have b29 : Binds K _ ["self"] [] := F29.binds (ps := ["self"]) fun _ _ _ _ _ _ us hl => match us, hl with | [_], _ => rfl
  have F30 := fun_mk (st := sOf) l30 c30 k30
  have b30 : Binds K _ ["text"] [] := F30.binds (ps := ["text"]) fun _ _ _ _ _ _ us hl => match us, hl with | [_], _ => rfl
  have FD : FunD K "__init__" "Book.__init__" (defArgs sInit) (defBody sInit) (defScope sInit) [V.ref eT] [] f31 _ := ⟨⟨oc31, od31, .ref T, kV31, dc31, pm31, an31, cd31, ct31, sl31, rfl, l31, c31, .inr ⟨by simp, T, oT, [.ref eT], nT, rfl, lT, dT, .cons rfl .nil⟩, .inl rfl⟩, k31⟩
  have hE : ∀ H, SqT K H eT [] := fun H => .inr ⟨oE, ([] : List Value).toArray, nE, lE, cE, dE, Nat.zero_le _, .nil⟩
  obtain ⟨ds1, rds1, bI1⟩ := FD.binds1 (ps := ["self", "kinds", "clashes"]) 2 0 (by simp) rfl fun T kV doc pm an cdv ct us its hu hi => match us, its, hu, hi with
    | [_, _], [_], _, _ => ⟨_, rfl, rfl⟩
  obtain ⟨ds, rds, bI⟩ := FD.binds1 (ps := ["self", "kinds", "clashes"]) 3 1 (by simp) rfl fun T kV doc pm an cdv ct us its hu hi => match us, its, hu, hi with
    | [_, _, _], [_], _, _ => ⟨_, rfl, rfl⟩
  cases rds
  refine ⟨PySem.W.fnOf "law" "law" (defArgs sLaw) (defBody sLaw) (defScope sLaw) .none kV5 dc5 pm5 an5 cd5 ct5, fun s v => .of_eq rfl, fun base _ _ => ?_⟩
  have GB : InitG l.prog w K mg base C := ⟨f31, _, mC, ⟨mk, a31, i31, kc⟩, ok_init FD T0, bI⟩
  have GMk1 : Vw.MkD l.prog w K mg base "Book" (CC 0) 1 ["self", "kinds", "clashes"] (Vw.spR (spInit K (CC 0))) [.ref eT] := ⟨f31, _, ds1, mC, ⟨mk, a31, i31, kc⟩, Vw.framed (ok_init FD T0), bI1, rds1⟩
  have GMk2 : Vw.MkD l.prog w K mg base "Book" (CC 0) 1 ["self", "kinds", "clashes"] (Vw.spR (spInit K (CC 0))) [] := ⟨f31, _, [], mC, ⟨mk, a31, i31, kc⟩, Vw.framed (ok_init FD T0), bI, .nil⟩
  have GTx : PrG l.prog w K mg base C "text" 1 (spText K C) := ⟨p28, f28, _, ⟨a28, g28, t28, r28, q28⟩, ok_text (funD_of F28) TT, b28⟩
  have GIs : FnG l.prog w K mg base "is_kind" 1 ["thing"] spIsKind := ⟨f1, _, m1, k1, ok_isKind (funD_of F1) B, b1⟩
  have GOf : SmG l.prog w K mg base (CC 0) "of" 3 ["text"] (Vw.spV K CC 1 (Vw.one Vw.ofBk)) := ⟨.type "type", p30, f30, _, r30, ⟨rd, ga⟩, a30, q30, k30, Vw.of_v (ok_of (funD_of F30) TT GB GIs GTx), b30⟩
  have GBkinds : PrG l.prog w K mg base C "kinds" 1 (Vw.spV K CC 1 Vw.dBkinds) := ⟨p29, f29, _, ⟨a29, g29, t29, r29, q29⟩, Vw.okBkinds (C := CC) (funD_of F29) TT, b29⟩
  have GBask : MtG l.prog w K mg base C "_ask_for" 1 ["self", "kinds"] (Vw.spV K CC 2 Vw.dBask) := ⟨f25, _, ⟨a25, i25, k25⟩, Vw.okBask (C := CC) (funD_of F25) TT, b25⟩
  have GBclashing : MtG l.prog w K mg base C "clashing" 2 ["self", "kind"] (Vw.spV K CC 2 Vw.dBclashing) := ⟨f26, _, ⟨a26, i26, k26⟩, Vw.okBclashing (C := CC) (funD_of F26) TT GBask, b26⟩
  have GBturned : MtG l.prog w K mg base C "turned" 3 ["self"] (Vw.spV K CC 1 Vw.dBturned) := ⟨f27, _, ⟨a27, i27, k27⟩, Vw.okBturned (C := CC) (funD_of F27) TT GMk2, b27⟩
  have Bsum : mg "sum" = none := PySem.W.mg_none_of X G z_sum
  have G_law_take : FnG l.prog w K mg base "_law_take" 1 ["_law_urn", "_law_low_so"] (Vw.spV K CC 2 Vw.dTake) := ⟨f3, _, m3, k3, Vw.take_v (ok_take (funD_of F3) B), b3⟩
  have GBx : FnG l.prog w K mg base "_law_box" 1 ["_law_script", "_law_k"] (spBox K) := ⟨f2, _, m2, k2, ok_box (funD_of F2) B, b2⟩
  have GCe : FnG l.prog w K mg base "_law_cells" 1 ["_law_script", "_law_top"] (spCells K) := ⟨f4, _, m4, k4, ok_cells (funD_of F4) B, b4⟩
  have Gones : FnG l.prog w K mg base "ones" 1 ["bits"] (Vw.spV K CC 1 Vw.dones) := ⟨f6, _, m6, k6, Vw.okones (C := CC) (funD_of F6) B , b6⟩
  have Gclash_bits : FnG l.prog w K mg base "clash_bits" 3 ["book"] (Vw.spV K CC 1 Vw.dclash_bits) := ⟨f7, _, m7, k7, Vw.okclash_bits (C := CC) (funD_of F7) B GBclashing cl GBkinds cl Bsum, b7⟩
  have G_is_bad : FnG l.prog w K mg base "_is_bad" 1 ["four", "place"] (Vw.spV K CC 2 Vw.d_is_bad) := ⟨f8, _, m8, k8, Vw.ok_is_bad (C := CC) (funD_of F8) B , b8⟩
  have G_fours : FnG l.prog w K mg base "_fours" 4 ["book"] (Vw.spV K CC 1 Vw.d_fours) := ⟨f9, _, m9, k9, Vw.ok_fours (C := CC) (funD_of F9) B Gclash_bits Gones GBkinds cl, b9⟩
  have Gbad_four : FnG l.prog w K mg base "bad_four" 5 ["book", "order"] (Vw.spV K CC 2 Vw.dbad_four) := ⟨f10, _, m10, k10, Vw.okbad_four (C := CC) (funD_of F10) B G_fours G_is_bad, b10⟩
  have G_law_same : FnG l.prog w K mg base "_law_same" 8 ["_law_got", "_law_goal"] (Vw.spV K CC 2 (Vw.d_law_same 8)) := Vw.fn_recF (k := 0) (B := fun self => Vw.bodyD 4 (Vw.b_law_same self)) (d := Vw.d_law_same) rfl (fun _ => rfl) m11 k11 b11 rfl (fun _ _ G => Vw.ok_law_same (C := CC) (funD_of F11) B  G) 8
  have G_law_pick : FnG l.prog w K mg base "_law_pick" 2 ["_law_urn", "_law_goods_so", "_law_many_so"] (Vw.spV K CC 3 Vw.d_law_pick) := ⟨f12, _, m12, k12, Vw.ok_law_pick (C := CC) (funD_of F12) B G_law_take, b12⟩
  have G_law_tags : FnG l.prog w K mg base "_law_tags" 3 ["_law_urn", "_law_many_so"] (Vw.spV K CC 2 Vw.d_law_tags) := ⟨f13, _, m13, k13, Vw.ok_law_tags (C := CC) (funD_of F13) B G_law_pick, b13⟩
  have G_law_ties : FnG l.prog w K mg base "_law_ties" 2 ["_law_urn", "_law_tags_here", "_law_thick_so"] (Vw.spV K CC 3 Vw.d_law_ties) := ⟨f14, _, m14, k14, Vw.ok_law_ties (C := CC) (funD_of F14) B G_law_take, b14⟩
  have G_law_foe : FnG l.prog w K mg base "_law_foe" 1 ["_law_ties_here", "_law_one", "_law_own"] (Vw.spV K CC 3 Vw.d_law_foe) := ⟨f15, _, m15, k15, Vw.ok_law_foe (C := CC) (funD_of F15) B , b15⟩
  have G_law_host : FnG l.prog w K mg base "_law_host" 3 ["_law_tags_here", "_law_ties_here"] (Vw.spV K CC 2 Vw.d_law_host) := ⟨f16, _, m16, k16, Vw.ok_law_host (C := CC) (funD_of F16) B GMk2, b16⟩
  have G_law_drawn : FnG l.prog w K mg base "_law_drawn" 4 ["_law_urn", "_law_many_so"] (Vw.spV K CC 2 Vw.d_law_drawn) := ⟨f17, _, m17, k17, Vw.ok_law_drawn (C := CC) (funD_of F17) B G_law_tags G_law_ties G_law_take, b17⟩
  have G_law_ends_four : FnG l.prog w K mg base "_law_ends_four" 2 ["_law_ties_here", "_law_a", "_law_b", "_law_c", "_law_d"] (Vw.spV K CC 5 Vw.d_law_ends_four) := ⟨f18, _, m18, k18, Vw.ok_law_ends_four (C := CC) (funD_of F18) B G_law_foe, b18⟩
  have G_law_rows_of_four : FnG l.prog w K mg base "_law_rows_of_four" 3 ["_law_tags_here", "_law_ties_here"] (Vw.spV K CC 2 Vw.d_law_rows_of_four) := ⟨f19, _, m19, k19, Vw.ok_law_rows_of_four (C := CC) (funD_of F19) B G_law_foe G_law_ends_four, b19⟩
  have G_law_mixed : FnG l.prog w K mg base "_law_mixed" 3 ["_law_urn", "_law_tags_here"] (Vw.spV K CC 2 Vw.d_law_mixed) := ⟨f20, _, m20, k20, Vw.ok_law_mixed (C := CC) (funD_of F20) B G_law_pick, b20⟩
  have G_law_due : FnG l.prog w K mg base "_law_due" 1 ["_law_fours_so", "_law_order_so"] (Vw.spV K CC 2 Vw.d_law_due) := ⟨f21, _, m21, k21, Vw.ok_law_due (C := CC) (funD_of F21) B , b21⟩
  have Kbad_four1_0 : Vw.KwN l.prog w K mg base "bad_four" 5 ["book", "order"] ["order", "book"] [1, 0] (Vw.spV K CC 2 Vw.dbad_four) := ⟨f10, _, m10, k10, Vw.okbad_four (C := CC) (funD_of F10) B G_fours G_is_bad, kbp_swap (fun _ _ => rfl)⟩
  have G_law_case_right : FnG l.prog w K mg base "_law_case_right" 9 ["_law_urn", "_law_tags_here", "_law_ties_here"] (Vw.spV K CC 3 Vw.d_law_case_right) := ⟨f22, _, m22, k22, Vw.ok_law_case_right (C := CC) (funD_of F22) B G_law_host G_law_rows_of_four G_law_mixed G_law_due G_law_same Gbad_four Kbad_four1_0, b22⟩
  have G_law_by_hand_right : FnG l.prog w K mg base "_law_by_hand_right" 9 [] spHand := ⟨f23, _, m23, k23, hand_v (Vw.ok_law_by_hand_right (C := CC) (funD_of F23) B Gbad_four G_law_same GMk1 hE GMk2 GOf mC GBturned cl), b23⟩
  have G_law_right : FnG l.prog w K mg base "_law_right" 10 ["_law_urn"] spRight := ⟨f24, _, m24, k24, right_v (Vw.ok_law_right (C := CC) (funD_of F24) B G_law_drawn G_law_take G_law_case_right), b24⟩
  exact ok_law (funD_of F5) B GCe G_law_by_hand_right G_law_right GBx
theorem walk {l : PySem.W.OpenLaw} {q : Program} {loose : List Str} {XP : (Str → Option Value) → Heap → Prop} {YP : World → Heap → Prop} {d : DefRec} {K : Params → PySem.W.Frag} (hn : l.most = some 63) (hdf : d.params.defaults = [])
    (hY : ∀ (w : World) (h : Heap), YP w h → (K w.params).In h)
    (F : ∀ (w : World) (mg : Str → Option Value) (fa : Addr) (h : Heap), (K w.params).In h → h.Ns mainGlobals mg → mg d.name = some (.ref fa) →
      ∃ fd : FuncData, (∀ (s : Shared) (u : Value), BindsTo s fd ⟨[u], []⟩ [("_law_script", u)]) ∧ ∀ base : Heap, (K w.params).In base → base.Ns mainGlobals mg → FnOk l.prog w (K w.params) mg base CX0 11 fa fd ["_law_script"] (spLaw (K w.params))) :
    PySem.W.WalkO q loose XP YP l.row.toRowW d [] (fun f vs => PySem.call f vs) :=
  L2.walk_of (n := 63) (k := 11) (x := "_law_script") (CX := fun _ => CX0) (sp := fun w => spLaw (K w.params)) hn (by decide) hdf ⟨rfl, by decide, by decide⟩ hY F (fun _ _ a ns hl _ hS => ⟨a, ns, rfl, hS, hl, fun _ => rfl⟩) fun _ _ _ _ _ z => z
end Sx

/-! End -/
set_option Elab.async false
set_option maxRecDepth 100000

open PySem PySem.W PyProof.Rows in
set_option maxRecDepth 100000 in
set_option maxHeartbeats 0 in
theorem PySem.Challenge.cw_onehostmore_k71_fours_against_an_order_holds : PySem.Challenge.rw_onehostmore_k71_fours_against_an_order.Holds := by
  w_on; o_law; k_head; (case hw => w_witness2)
  k_fill
  refine Sx.walk (l := PySem.Challenge.rw_onehostmore_k71_fours_against_an_order) rfl rfl (fun w h Y => PySem.W.kIn_of Y) ?F
  case F =>
    intro w mg fa h KX G hmg
    refine' Sx.all_mk KX G hmg ?aC ?a1 ?l1 ?c1 ?k1 ?a2 ?l2 ?c2 ?k2 ?a3 ?l3 ?c3 ?k3 ?a4 ?l4 ?c4 ?k4 ?a5 ?l5 ?c5 ?k5 ?a6 ?l6 ?c6 ?k6 ?a7 ?l7 ?c7 ?k7 ?a8 ?l8 ?c8 ?k8 ?a9 ?l9 ?c9 ?k9 ?a10 ?l10 ?c10 ?k10 ?a11 ?l11 ?c11 ?k11 ?a12 ?l12 ?c12 ?k12 ?a13 ?l13 ?c13 ?k13 ?a14 ?l14 ?c14 ?k14 ?a15 ?l15 ?c15 ?k15 ?a16 ?l16 ?c16 ?k16 ?a17 ?l17 ?c17 ?k17 ?a18 ?l18 ?c18 ?k18 ?a19 ?l19 ?c19 ?k19 ?a20 ?l20 ?c20 ?k20 ?a21 ?l21 ?c21 ?k21 ?a22 ?l22 ?c22 ?k22 ?a23 ?l23 ?c23 ?k23 ?a24 ?l24 ?c24 ?k24 ?a25 ?i25 ?l25 ?c25 ?k25 ?a26 ?i26 ?l26 ?c26 ?k26 ?a27 ?i27 ?l27 ?c27 ?k27 ?a28 ?g28 ?t28 ?q28 ?l28 ?c28 ?k28 ?a29 ?g29 ?t29 ?q29 ?l29 ?c29 ?k29 ?rd ?ga ?a30 ?q30 ?l30 ?c30 ?k30 ?a31 ?i31 ?l31 ?c31 ?k31 ?lT ?dT ?lE ?cE ?dE ?pg ?hd ?po ?sa ?mk ?kc ?nK ?nC ?nN ?z_sorted ?z_tuple ?z_min ?z_max ?z_len ?z_all ?z_isinstance ?z_abs ?z_list ?z_int ?z_range ?z_set ?z_zip ?z_enumerate ?z_dict ?z_str ?z_bool ?z_sum
    (case aC => k_is)
    (case a1 => k_is)
    (case l1 => k_is)
    (case c1 => k_is)
    (case k1 => k_is)
    (case a2 => k_is)
    (case l2 => k_is)
    (case c2 => k_is)
    (case k2 => k_is)
    (case a3 => k_is)
    (case l3 => k_is)
    (case c3 => k_is)
    (case k3 => k_is)
    (case a4 => k_is)
    (case l4 => k_is)
    (case c4 => k_is)
    (case k4 => k_is)
    (case a5 => k_is)
    (case l5 => k_is)
    (case c5 => k_is)
    (case k5 => k_is)
    (case a6 => k_is)
    (case l6 => k_is)
    (case c6 => k_is)
    (case k6 => k_is)
    (case a7 => k_is)
    (case l7 => k_is)
    (case c7 => k_is)
    (case k7 => k_is)
    (case a8 => k_is)
    (case l8 => k_is)
    (case c8 => k_is)
    (case k8 => k_is)
    (case a9 => k_is)
    (case l9 => k_is)
    (case c9 => k_is)
    (case k9 => k_is)
    (case a10 => k_is)
    (case l10 => k_is)
    (case c10 => k_is)
    (case k10 => k_is)
    (case a11 => k_is)
    (case l11 => k_is)
    (case c11 => k_is)
    (case k11 => k_is)
    (case a12 => k_is)
    (case l12 => k_is)
    (case c12 => k_is)
    (case k12 => k_is)
    (case a13 => k_is)
    (case l13 => k_is)
    (case c13 => k_is)
    (case k13 => k_is)
    (case a14 => k_is)
    (case l14 => k_is)
    (case c14 => k_is)
    (case k14 => k_is)
    (case a15 => k_is)
    (case l15 => k_is)
    (case c15 => k_is)
    (case k15 => k_is)
    (case a16 => k_is)
    (case l16 => k_is)
    (case c16 => k_is)
    (case k16 => k_is)
    (case a17 => k_is)
    (case l17 => k_is)
    (case c17 => k_is)
    (case k17 => k_is)
    (case a18 => k_is)
    (case l18 => k_is)
    (case c18 => k_is)
    (case k18 => k_is)
    (case a19 => k_is)
    (case l19 => k_is)
    (case c19 => k_is)
    (case k19 => k_is)
    (case a20 => k_is)
    (case l20 => k_is)
    (case c20 => k_is)
    (case k20 => k_is)
    (case a21 => k_is)
    (case l21 => k_is)
    (case c21 => k_is)
    (case k21 => k_is)
    (case a22 => k_is)
    (case l22 => k_is)
    (case c22 => k_is)
    (case k22 => k_is)
    (case a23 => k_is)
    (case l23 => k_is)
    (case c23 => k_is)
    (case k23 => k_is)
    (case a24 => k_is)
    (case l24 => k_is)
    (case c24 => k_is)
    (case k24 => k_is)
    (case a25 => k_is)
    (case i25 => k_is)
    (case l25 => k_is)
    (case c25 => k_is)
    (case k25 => k_is)
    (case a26 => k_is)
    (case i26 => k_is)
    (case l26 => k_is)
    (case c26 => k_is)
    (case k26 => k_is)
    (case a27 => k_is)
    (case i27 => k_is)
    (case l27 => k_is)
    (case c27 => k_is)
    (case k27 => k_is)
    (case a28 => k_is)
    (case g28 => k_is)
    (case t28 => k_is)
    (case q28 => k_is)
    (case l28 => k_is)
    (case c28 => k_is)
    (case k28 => k_is)
    (case a29 => k_is)
    (case g29 => k_is)
    (case t29 => k_is)
    (case q29 => k_is)
    (case l29 => k_is)
    (case c29 => k_is)
    (case k29 => k_is)
    (case rd => k_is)
    (case ga => k_is)
    (case a30 => k_is)
    (case q30 => k_is)
    (case l30 => k_is)
    (case c30 => k_is)
    (case k30 => k_is)
    (case a31 => k_is)
    (case i31 => k_is)
    (case l31 => k_is)
    (case c31 => k_is)
    (case k31 => k_is)
    (case lT => k_is)
    (case dT => rfl)
    (case lE => k_is)
    (case cE => rfl)
    (case dE => rfl)
    (case pg => k_is)
    (case hd => k_is)
    (case po => k_is)
    (case sa => k_is)
    (case mk => k_is)
    (case kc => k_is)
    (case nK => k_is)
    (case nC => k_is)
    (case nN => k_is)
    (case z_sorted => k_is)
    (case z_tuple => k_is)
    (case z_min => k_is)
    (case z_max => k_is)
    (case z_len => k_is)
    (case z_all => k_is)
    (case z_isinstance => k_is)
    (case z_abs => k_is)
    (case z_list => k_is)
    (case z_int => k_is)
    (case z_range => k_is)
    (case z_set => k_is)
    (case z_zip => k_is)
    (case z_enumerate => k_is)
    (case z_dict => k_is)
    (case z_str => k_is)
    (case z_bool => k_is)
    (case z_sum => k_is)

