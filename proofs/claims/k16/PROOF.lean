import PyProof.Rows.All
import HandS.TupSets
import KE.KeyNested
import PyProof.SetRoads
import HandS.Set
import HandS.Strs
import Wide.All
import OpenK.AllK
import Wide.FinOn
import HandS.ForMost
import HandS.Exc
import HandS.TryOnly
import HandS.ExcOwn
import HandS.WordsExc
import HandS.Gcd
import HandS.Wide
import HandS.WideBits
import HandS.CallSlots
import HandS.DictTup
import KE.KDictKeyed
import HandS.IsInst
import HandS.TupAny
import HandS.Deep
import HandS.EndBits
import KE.KxIndex
import HandS.More
import KE.IntBitsLaws
import PyProof.NoPylong
import KE.SortKeyHeap
import HandS.SortKw
import HandS.FStr
import HandS.StrMore
import PyProof.FitsInt
import HandS.ExcIs
import KE.GoesMore
import KE.GoesEnum
import HandS.Conv
import HandS.RevRange
import HandS.Zip
import HandS.SetFor
import HandS.SetBool
import KE.DataCmp
import HandS.DictComp
import KE.KDictWalk
import KE.KDictSum
import PyProof.AutoSeq1
import HandS.Style
import HandS.ExcInit
import HandS.ExcField
import OpenK.KCls
import KE.KExcIs
import KE.KMatchCls
import KE.KExcInit
import KE.KExcLine
import PySem.Challenge.RW_rightchance_k16_faults_of_questions
set_option Elab.async false
set_option autoImplicit false
set_option linter.all false
set_option maxRecDepth 100000
set_option maxHeartbeats 4000000
/-! Tables of sets up to 512 places: searching, putting in, laying anew. -/
namespace Mir
open PySem PySem.Spec PyProof.Rows L2

/-! ### the way meets all places -/
def MaskG (m : Nat) : Prop := m = 7 ∨ m = 31 ∨ m = 127 ∨ m = 511
/-- the places met in n turns from x on, as bits -/
def sweep (m : Nat) : Nat → Nat → Nat → Nat
  | 0, _, acc => acc
  | n + 1, x, acc => sweep m n ((x * 5 + 1) % (m + 1)) (acc ||| 2 ^ x)
theorem lcg_next (m x : Nat) : ∀ k, lcgI m ((x * 5 + 1) % (m + 1)) k = lcgI m x (k + 1)
  | 0 => rfl
  | k + 1 => congrArg (fun z => (z * 5 + 1) % (m + 1)) (lcg_next m x k)
theorem sweep_bit (m j : Nat) : ∀ n x acc, (sweep m n x acc).testBit j = true → acc.testBit j = true ∨ ∃ b, b < n ∧ lcgI m x b = j
  | 0, _, _, h => .inl h
  | n + 1, x, acc, h => by
    rcases sweep_bit m j n _ _ h with h | ⟨b, hb, e⟩
    · rw [Nat.testBit_or, Bool.or_eq_true] at h
      rcases h with h | h
      · exact .inl h
      · rw [Nat.testBit_two_pow] at h
        exact .inr ⟨0, Nat.succ_pos _, of_decide_eq_true h⟩
    · exact .inr ⟨b + 1, by omega, by rw [← lcg_next]; exact e⟩
theorem lcg_add (m i a : Nat) : ∀ k, lcgI m (lcgI m i a) k = lcgI m i (a + k)
  | 0 => rfl
  | k + 1 => congrArg (fun z => (z * 5 + 1) % (m + 1)) (lcg_add m i a k)
theorem sweep_all {m : Nat} (hm : MaskG m) : sweep m (m + 1) 0 0 = 2 ^ (m + 1) - 1 ∧ lcgI m 0 (m + 1) = 0 := by
  rcases hm with e | e | e | e <;> subst e <;> exact ⟨by decide +kernel, by decide +kernel⟩
theorem lcg_zero {m j : Nat} (hm : MaskG m) (hj : j ≤ m) : ∃ b, b ≤ m ∧ lcgI m 0 b = j := by
  have h : (sweep m (m + 1) 0 0).testBit j = true := by
    rw [(sweep_all hm).1, Nat.testBit_two_pow_sub_one]; exact decide_eq_true (Nat.lt_succ_of_le hj)
  rcases sweep_bit m j _ _ _ h with h | ⟨b, hb, e⟩
  · simp at h
  · exact ⟨b, Nat.le_of_lt_succ hb, e⟩
theorem lcg_any {m i j : Nat} (hm : MaskG m) (hi : i ≤ m) (hj : j ≤ m) : ∃ k, k ≤ m ∧ lcgI m i k = j := by
  obtain ⟨a, ha, rfl⟩ := lcg_zero hm hi
  obtain ⟨b, hb, rfl⟩ := lcg_zero hm hj
  by_cases c : a ≤ b
  · exact ⟨b - a, by omega, by rw [lcg_add, show a + (b - a) = b by omega]⟩
  · refine ⟨b + (m + 1) - a, by omega, ?_⟩
    rw [lcg_add, show a + (b + (m + 1) - a) = (m + 1) + b by omega, ← lcg_add, (sweep_all hm).2]
theorem meets_run {m j : Nat} (hm : MaskG m) (h : Int) (hj : j ≤ m) : ∃ n, n ≤ m + 12 ∧ runI m (SetTable.bits h) n = j := by
  obtain ⟨k, hk, e⟩ := lcg_any hm (runI_le m (SetTable.bits h) 12) hj
  exact ⟨12 + k, by omega, (runI_tail (bits_lt h) k).trans e⟩
theorem meets_way {m j : Nat} (hm : MaskG m) (h : Int) (hj : j ≤ m) : ∃ k, k < 10 * SetTable.turns m ∧ way m h k = j := by
  obtain ⟨n, hn, e⟩ := meets_run hm h hj
  obtain ⟨k, hk, e2⟩ := run_nth m (SetTable.bits h) n
  exact ⟨k, by unfold SetTable.turns; omega, by unfold way; rw [e2]; exact e⟩
theorem way_in (m : Nat) (h : Int) (k : Nat) : way m h k ≤ m := by
  have a : SetTable.bits h % (m + 1) ≤ m := Nat.le_of_lt_succ (Nat.mod_lt _ (Nat.succ_pos _))
  have b := runEnd_bd a
  have c := nth_in (m := m) k (runAt m (SetTable.bits h % (m + 1)) (SetTable.bits h)) (by unfold runAt; dsimp only; omega)
  unfold way; omega

/-! ### a table in which what lies is found by its hash -/
structure TabG (t : SetTable) (hs : List Int) : Prop where
  up : Ris t.place.toList
  cl : t.dummies = #[]
  len : t.place.size = hs.length
  mask : MaskG t.mask
  low : ∀ x ∈ t.place.toList, x ≤ t.mask
  met : ∀ (i : Nat) (h : Int) (j : Nat), hs[i]? = some h → t.place.toList[i]? = some j → ∃ k, way t.mask h k = j ∧ ∀ k', k' < k → way t.mask h k' ∈ t.place.toList
section
variable {t : SetTable} {hs : List Int}
theorem TabG.free (T : TabG t hs) (hl : hs.length ≤ t.mask) (h : Int) : ∃ K, K < 10 * SetTable.turns t.mask ∧ way t.mask h K ∉ t.place.toList ∧ ∀ k, k < K → way t.mask h k ∈ t.place.toList := by
  have hlen : t.place.toList.length < t.mask + 1 := by have := T.len; rw [Array.length_toList]; omega
  obtain ⟨j, hj, hn⟩ := st_missing _ _ hlen
  obtain ⟨k, hk, e⟩ := meets_way T.mask h (Nat.le_of_lt_succ hj)
  subst e
  obtain ⟨K, h1, h2, h3⟩ := st_least (p := fun k => way t.mask h k ∉ t.place.toList) k hn
  exact ⟨K, Nat.lt_of_le_of_lt h1 hk, h2, fun c hc => Classical.byContradiction (h3 c hc)⟩
theorem TabG.ahead (T : TabG t hs) {h : Int} {K i j : Nat} (hK : way t.mask h K ∉ t.place.toList) (hi : hs[i]? = some h) (hj : t.place.toList[i]? = some j) : ∃ k, k < K ∧ way t.mask h k = j := by
  obtain ⟨k, e, hb⟩ := T.met i h j hi hj
  refine ⟨k, Nat.lt_of_not_le fun c => ?_, e⟩
  rcases Nat.eq_or_lt_of_le c with c | c
  · rw [c] at hK; exact hK (e ▸ List.mem_of_getElem? hj)
  · exact hK (hb K c)
/-- one more, at its free place -/
theorem TabG.more (T : TabG t hs) {h : Int} {K : Nat} (hK : way t.mask h K ∉ t.place.toList) (hb : ∀ k, k < K → way t.mask h k ∈ t.place.toList) {j p : Nat} (ej : j = way t.mask h K) (ep : p = SetTable.below t.place j) :
    p ≤ hs.length ∧ TabG (t.put j).1 (hs.take p ++ h :: hs.drop p) ∧ (t.put j).1.fill = hs.length + 1 := by
  have hjm : j ≤ t.mask := ej ▸ way_in _ _ _
  have hsz : t.place.toList.length = hs.length := by rw [Array.length_toList]; exact T.len
  obtain ⟨c1, _, _⟩ := below_cut T.up j
  rw [← ep] at c1
  have hph : p ≤ hs.length := by rw [← T.len]; exact c1
  have hpl : p ≤ t.place.toList.length := by omega
  have hn : j ∉ t.place.toList := ej ▸ hK
  have hnp : t.place[SetTable.below t.place j]? ≠ some j := fun e => hn (List.mem_of_getElem? (by rw [Array.getElem?_toList]; exact e))
  have hpp := put_place t j
  rw [← ep] at hpp
  have hsize : (t.put j).1.place.size = hs.length + 1 := by rw [← Array.length_toList, hpp, len_ins _ hpl, hsz]
  have up : ∀ {x : Nat}, x ∈ t.place.toList → x ∈ (t.put j).1.place.toList := fun hx => by rw [hpp]; exact mem_ins.2 (.inr hx)
  refine ⟨hph, ⟨ris_insert T.up hnp, put_dm T.cl j, by rw [len_ins _ hph]; exact hsize, T.mask, fun x hx => ?_, fun i h' j' h1 h2 => ?_⟩, ?_⟩
  · rw [hpp] at hx
    exact (mem_ins.1 hx).elim (fun z => z ▸ hjm) (T.low x)
  · rw [tins_get hs hph] at h1
    rw [hpp, tins_get _ hpl] at h2
    have old : ∀ i0, hs[i0]? = some h' → t.place.toList[i0]? = some j' → ∃ k, way t.mask h' k = j' ∧ ∀ k', k' < k → way t.mask h' k' ∈ (t.put j).1.place.toList := fun i0 g1 g2 => by
      obtain ⟨k, e, z⟩ := T.met i0 h' j' g1 g2
      exact ⟨k, e, fun k' hk' => up (z k' hk')⟩
    show ∃ k, way t.mask h' k = j' ∧ ∀ k', k' < k → way t.mask h' k' ∈ (t.put j).1.place.toList
    by_cases c : i < p
    · rw [if_pos c] at h1 h2; exact old i h1 h2
    · rw [if_neg c] at h1 h2
      by_cases d : i = p
      · rw [if_pos d] at h1 h2
        cases h1; cases h2
        exact ⟨K, ej.symm, fun k' hk' => up (hb k' hk')⟩
      · rw [if_neg d] at h1 h2; exact old (i - 1) h1 h2
  · show (t.put j).1.place.size + (t.put j).1.dummies.size = _
    rw [hsize, put_dm T.cl j]; rfl
end

/-! ### laid anew -/
theorem free_at {m : Nat} (hm : MaskG m) (owner : Array (Option Nat)) (h : Int) {j : Nat} (hj : j ≤ m) (hf : oAt owner j = none) :
    ∃ K, SetTable.layClean.free m owner (SetTable.turns m) (SetTable.bits h % (m + 1)) (SetTable.bits h) = some (way m h K) ∧ oAt owner (way m h K) = none ∧ ∀ k, k < K → oAt owner (way m h k) ≠ none := by
  obtain ⟨n, hn, e⟩ := meets_run hm h hj
  have hw : way m h (off m (SetTable.bits h % (m + 1)) (SetTable.bits h) n) = j := by unfold way; rw [nth_off, itL_run]; exact e
  obtain ⟨K, k1, k2, k3⟩ := st_least (p := fun k => oAt owner (way m h k) = none) (off m (SetTable.bits h % (m + 1)) (SetTable.bits h) n) (by rw [hw]; exact hf)
  refine ⟨K, free_spec m owner _ n _ _ K (by unfold SetTable.turns; omega) k1 (fun k hk => ?_) ?_, k2, k3⟩
  · cases z : oAt owner (way m h k) with
    | none => exact absurd z (k3 k hk)
    | some _ => rfl
  · unfold way at k2; rw [k2]; rfl
theorem own_step {m : Nat} (hm : MaskG m) {done : List Int} {owner : Array (Option Nat)} (W : Own m done owner) (hl : done.length ≤ m) (h : Int) :
    ∃ j, SetTable.layClean.free m owner (SetTable.turns m) (SetTable.bits h % (m + 1)) (SetTable.bits h) = some j ∧ Own m (done ++ [h]) (owner.setIfInBounds j (some done.length)) := by
  obtain ⟨ps, hps, hin⟩ := W.ps
  obtain ⟨j0, h0, n0⟩ := st_missing ps (m + 1) (by omega)
  have free0 : oAt owner j0 = none := Classical.byContradiction fun z => n0 (hin j0 (Nat.le_of_lt_succ h0) z)
  obtain ⟨K, e1, e2, e3⟩ := free_at hm owner h (Nat.le_of_lt_succ h0) free0
  have hjm := way_in m h K
  generalize hj : way m h K = j at e1 e2 hjm
  have hself := oAt_set_self (some done.length) (show j < owner.size by have := W.sz; omega)
  have keep : ∀ {i : Nat}, oAt owner i ≠ none → oAt (owner.setIfInBounds j (some done.length)) i ≠ none := fun {i} hi => by
    by_cases c : i = j
    · rw [c, hself]; exact fun z => nomatch z
    · rw [oAt_set_ne _ c]; exact hi
  refine ⟨j, e1, by rw [Array.size_setIfInBounds]; exact W.sz, fun i k hi e => ?_, fun k hk => ?_, ⟨j :: ps, by simp [hps], fun i hi e => ?_⟩⟩
  · by_cases c : i = j
    · rw [c, hself] at e
      cases e
      exact ⟨h, K, by simp, hj.trans c.symm, fun k' hk' => keep (e3 k' hk')⟩
    · rw [oAt_set_ne _ c] at e
      obtain ⟨h', K', a1, a2, a3⟩ := W.at_ i k hi e
      exact ⟨h', K', by rw [List.getElem?_append_left (List.getElem?_eq_some_iff.mp a1).1]; exact a1, a2, fun k' hk' => keep (a3 k' hk')⟩
  · rw [List.length_append, List.length_singleton] at hk
    by_cases c : k = done.length
    · rw [c]; exact ⟨j, hjm, hself⟩
    · obtain ⟨i, hi, e⟩ := W.all k (by omega)
      exact ⟨i, hi, by rw [oAt_set_ne _ (fun z => by rw [z, e2] at e; cases e)]; exact e⟩
  · by_cases c : i = j
    · rw [c]; exact List.mem_cons_self
    · rw [oAt_set_ne _ c] at e; exact List.mem_cons_of_mem _ (hin i hi e)
theorem own_all {m : Nat} (hm : MaskG m) : ∀ (rest done : List Int) (owner : Array (Option Nat)), Own m done owner → done.length + rest.length ≤ m →
    ∃ o2, rest.foldl (stepF m) (some (owner, done.length)) = some (o2, (done ++ rest).length) ∧ Own m (done ++ rest) o2
  | [], done, owner, W, _ => by rw [List.append_nil]; exact ⟨owner, rfl, W⟩
  | h :: rest, done, owner, W, hl => by
    obtain ⟨j, e, W2⟩ := own_step hm W (by rw [List.length_cons] at hl; omega) h
    have z := own_all hm rest (done ++ [h]) _ W2 (by simp at hl ⊢; omega)
    rw [List.append_assoc, List.singleton_append] at z
    rw [List.foldl_cons, stepF_some e]
    rw [show (done ++ [h]).length = done.length + 1 by simp] at z
    exact z
theorem anew {m : Nat} (hm : MaskG m) {hs : Array Int} (hn : hs.size ≤ m) : ∃ owner, SetTable.layClean m hs = some owner ∧ Own m hs.toList owner := by
  obtain ⟨owner, f, W⟩ := own_all hm hs.toList [] _ (Own.init m) (by simp; exact hn)
  rw [List.nil_append] at W f
  refine ⟨owner, ?_, W⟩
  rw [layClean_eq]
  have f2 : hs.toList.foldl (stepF m) (some (Array.replicate (m + 1) none, 0)) = _ := f
  rw [f2]; rfl
end Mir

set_option Elab.async false
set_option autoImplicit false
set_option linter.all false
set_option maxRecDepth 100000
set_option maxHeartbeats 4000000
/-! Sets of nested tuples in the model: add, search, set(xs), in. -/
namespace Mir
open PySem PySem.Spec PyProof.Rows L2

abbrev IsN (h : Heap) (k : NestedKey) (b : Addr) : Prop := NestedIs h k (.ref b) ∧ k.depth ≤ 8
abbrev rowN (w : World) (p : Addr × NestedKey) : Int × Value := (p.2.hash w, Value.ref p.1)
section
variable {P : Program} {w : World} {A : Around} {E : Value → Shared → Prop} {s : Shared}
theorem IsN.tup {h : Heap} {k : NestedKey} {b : Addr} (x : IsN h k b) : ∃ o vs n ks, h.get? b = some o ∧ o.cls = .type "tuple" ∧ o.data = .seq vs n ∧ k = .tup ks ∧ NestedAll h ks vs.toList := by
  obtain ⟨x, _⟩ := x
  cases x with
  | tup h1 h2 h3 h4 => exact ⟨_, _, _, _, h1, h2, h3, rfl, h4⟩
theorem IsN.kind (P : Program) (w : World) {h : Heap} {k : NestedKey} {b : Addr} (x : IsN h k b) : (nestedKind P w).is h k b := x
theorem IsN.keep {h h' : Heap} {k : NestedKey} {b : Addr} (x : IsN h k b) (hk : ∀ c o, h.get? c = some o → h'.get? c = some o) : IsN h' k b := ⟨NestedIs.at (fun a o vs n e _ => hk a o e) _ _ x.1, x.2⟩
theorem IsN.but {h h' : Heap} {k : NestedKey} {a b : Addr} {o : Obj} {es : Array (Int × Value)} {ep : Nat} {t : SetTable} (x : IsN h k b) (ho : h.get? a = some o) (hd : o.data = .set es ep t) (sb : Heap.SameBut a h h') : IsN h' k b :=
  ⟨NestedIs.at (fun c oc vs n e ec => (sb.2 c fun z => by subst z; rw [ho] at e; cases e; rw [hd] at ec; cases ec).trans e) _ _ x.1, x.2⟩
end

/-! ### the set -/
/-- the set at a has just these entries -/
structure SetNk (w : World) (h : Heap) (a : Addr) (L : List (Addr × NestedKey)) (o : Obj) (es : Array (Int × Value)) (ep : Nat) (t : SetTable) : Prop where
  ob : h.get? a = some o ∧ o.ExactSet ∧ o.data = .set es ep t
  rows : es.toList = L.map (rowN w)
  tab : TabG t (L.map fun p => p.2.hash w)
  nd : (L.map (·.2)).Nodup
  led : w.params.followText "set-order" = true ∨ t.led = true
  room : L.length * 5 < t.mask * 3
  few : L.length < 300
section
variable {P : Program} {w : World} {A : Around} {E : Value → Shared → Prop} {s : Shared} {a : Addr} {L : List (Addr × NestedKey)} {o : Obj} {es : Array (Int × Value)} {ep : Nat} {t : SetTable} {h : Heap}
theorem SetNk.size (R : SetNk w h a L o es ep t) : es.size = L.length := by
  have h := congrArg List.length R.rows
  rwa [Array.length_toList, List.length_map] at h
theorem SetNk.fits (R : SetNk w h a L o es ep t) : t.fits es.size = true := by
  have h1 := R.tab.len; have h2 := R.size; have h3 := R.room
  rw [List.length_map] at h1
  unfold SetTable.fits SetTable.fill
  rw [R.tab.cl, Bool.and_eq_true, beq_iff_eq, decide_eq_true_eq]
  show t.place.size = es.size ∧ t.place.size + 0 ≤ t.mask
  omega
end
end Mir

set_option Elab.async false
set_option autoImplicit false
set_option linter.all false
set_option maxRecDepth 100000
set_option maxHeartbeats 4000000
/-! Sets of nested tuples in the model: add, set(xs), in. -/
namespace Mir
open PySem PySem.Spec PyProof.Rows L2

section
variable {P : Program} {w : World} {A : Around} {E : Value → Shared → Prop} {s : Shared} {a : Addr} {L : List (Addr × NestedKey)} {o : Obj} {es : Array (Int × Value)} {ep : Nat} {t : SetTable} {h : Heap}
end

/-! ### set(xs) -/
/-- the set at a has these members -/
def SetN (w : World) (h : Heap) (a : Addr) (M : List (Addr × NestedKey)) : Prop := ∃ L o es ep t, SetNk w h a L o es ep t ∧ L.Perm M
section
variable {P : Program} {w : World} {h h' : Heap} {a : Addr} {M : List (Addr × NestedKey)}
theorem SetN.at (R : SetN w h a M) (k : ∀ o, h.get? a = some o → h'.get? a = some o) : SetN w h' a M := by
  obtain ⟨L, o, es, ep, t, ⟨⟨h1, h2⟩, r2, r3, r4, r5, r6, r7⟩, p⟩ := R
  exact ⟨L, o, es, ep, t, ⟨⟨k o h1, h2⟩, r2, r3, r4, r5, r6, r7⟩, p⟩
theorem SetN.ob (R : SetN w h a M) : ∃ o, h.get? a = some o := by
  obtain ⟨L, o, es, ep, t, ⟨⟨h1, h2⟩, _⟩, p⟩ := R
  exact ⟨o, h1⟩
end
section
variable {P : Program} {w : World} {A : Around} {I S : Addr} {fp wr : List Addr} {G : Array GenState → Array GenState → Prop} {n : Nat} {Pv : Nat → Value → Prop} {St : Nat → Shared → Prop} {R : Result → Shared → Prop}
end
end Mir

set_option Elab.async false
set_option autoImplicit false
set_option linter.all false
set_option maxRecDepth 100000
set_option maxHeartbeats 4000000
/-! A set of ints at the heap: an empty set is one. -/
namespace Mir
open PySem PySem.Spec PyProof.Rows L2
def SetI (w : World) (h : Heap) (a : Addr) (ks : List Int) : Prop := ks.Nodup ∧ SetR w h a (fun j => decide (j ∈ ks)) ks.length
section
variable {w : World} {h h' : Heap} {a : Addr} {ks : List Int}
theorem SetI.at (R : SetI w h a ks) (k : ∀ o, h.get? a = some o → h'.get? a = some o) : SetI w h' a ks := ⟨R.1, R.2.at k⟩
end
end Mir

set_option Elab.async false
set_option linter.all false
set_option maxRecDepth 100000
set_option maxHeartbeats 4000000
/-! Mirrors: a def of the program as a function over plain data, and the rules by which a def keeps its mirror. -/
namespace Mir
open PySem PySem.Spec PyProof.Rows L2

/-! ### data -/
inductive D where
  | non | bl (b : Bool) | int (i : Int) | str (x : List Nat) | tup (xs : List D) | lst (xs : List D)
  /-- a dict: its keys and values by turns; a set: its members -/
  | dic (xs : List D) | set (xs : List D)
abbrev toS (l : List Nat) : Str := ⟨l.toArray⟩
structure Fg where
  k : PySem.W.Frag
  w : World
instance : Coe Fg PySem.W.Frag := ⟨Fg.k⟩
abbrev _root_.L2.Cx.KW (X : L2.Cx) : Fg := Fg.mk (L2.Cx.K X) (L2.Cx.w X)
/-- scalar keys -/
def scK : D → Option L2.Key
  | .int i => some (.inl i)
  | .str x => some (.inr (toS x))
  | _ => none
mutual
/-- tuples as keys -/
def nkD : D → Option NestedKey
  | .non => some .none
  | .int i => some (.num i)
  | .str x => some (.text (toS x))
  | .tup xs => (nkDs xs).map .tup
  | _ => none
def nkDs : List D → Option (List NestedKey)
  | [] => some []
  | d :: ds => match nkD d, nkDs ds with
    | some k, some ks => some (k :: ks)
    | _, _ => none
end
def nkT : D → Option NestedKey
  | .tup xs => (nkD (.tup xs)).bind fun k => if k.depth ≤ 8 then some k else none
  | _ => none
/-- keys and values by turns, the keys scalar -/
def prs : List D → List V → Option (List (L2.Key × V))
  | [], [] => some []
  | k :: _ :: ds, _ :: u :: vs => match scK k, prs ds vs with
    | some q, some r => some ((q, u) :: r)
    | _, _ => none
  | _, _ => none
/-- .. the keys tuples -/
def NM : List D → List V → List (NestedKey × Addr × Value) → Prop
  | [], [], [] => True
  | k :: _ :: ds, kv :: u :: vs, x :: xs => nkT k = some x.1 ∧ kv = .ref x.2.1 ∧ RelV u x.2.2 ∧ NM ds vs xs
  | _, _, _ => False
def entN (w : World) (x : NestedKey × Addr × Value) : DictEntry := { hash := x.1.hash w, key := .ref x.2.1, val := x.2.2 }
def DicN (w : World) (a : Addr) (ds : List D) (vs : List V) (h : Heap) : Prop :=
  ∃ o es ep xs, h.get? a = some o ∧ o.ExactDict ∧ o.data = .dict es ep ∧ es.toList = xs.map (entN w) ∧ NM ds vs xs ∧ (xs.map (·.1)).Nodup ∧ xs.length ≤ sizeLine ∧ (a == sysModules) = false
def dicO (w : World) (a : Addr) (ds : List D) (vs : List V) : HO := match prs ds vs with
  | some kvs => .dK kvs
  | none => .ext (DicN w a ds vs)
/-- a set's members -/
def NS : List D → List V → List (Addr × NestedKey) → Prop
  | [], [], [] => True
  | d :: ds, v :: vs, x :: xs => nkT d = some x.2 ∧ v = .ref x.1 ∧ NS ds vs xs
  | _, _, _ => False
/-- the set at a, its members nested tuples -/
def SetV (w : World) (a : Addr) (ds : List D) (vs : List V) (h : Heap) : Prop := (∃ M, NS ds vs M ∧ SetN w h a M) ∨ ∃ ks : List Int, ks ≠ [] ∧ ds = ks.map .int ∧ vs = ks.map .int ∧ SetI w h a ks
/-- what an owned thing holds: a list, a dict, a set -/
inductive Ck where
  | lst | dic | set
structure Ct where
  c : Ck
  ds : List D
def Ct.data (t : Ct) : D := match t.c with
  | .lst => .lst t.ds
  | .dic => .dic t.ds
  | .set => .set t.ds
def Ct.ho (t : Ct) (w : World) (a : Addr) (vs : List V) : HO := match t.c with
  | .lst => .lst vs
  | .dic => dicO w a t.ds vs
  | .set => .ext (SetV w a t.ds vs)
mutual
def At (K : Fg) (H : Hp) : D → V → Prop
  | .non, v => v = .non
  | .bl b, v => v = .bl b
  | .int i, v => v = .int i
  | .str x, v => v = .str (toS x)
  | .tup ds, v => ∃ a vs, v = .ref a ∧ SqT K H a vs ∧ AtL K H ds vs
  | .lst ds, v => ∃ a vs, v = .ref a ∧ H a = some (.lst vs) ∧ AtL K H ds vs
  | .dic ds, v => ∃ a vs, v = .ref a ∧ H a = some (dicO K.w a ds vs) ∧ AtL K H ds vs
  | .set ds, v => ∃ a vs, v = .ref a ∧ H a = some (.ext (SetV K.w a ds vs)) ∧ AtL K H ds vs
def AtL (K : Fg) (H : Hp) : List D → List V → Prop
  | [], vs => vs = []
  | d :: ds, vs => ∃ v r, vs = v :: r ∧ At K H d v ∧ AtL K H ds r
end
theorem Same.seqT {K : Fg} {H H' : Hp} {a : Addr} {xs : List V} (e : Same H H') (h : SqT K H a xs) : SqT K H' a xs := by
  rcases h with (h | ⟨o, h⟩) | h
  · exact .inl (.inl (e _ _ h))
  · exact .inl (.inr ⟨o, e _ _ h⟩)
  · exact .inr h
mutual
theorem At.mono {K : Fg} {H H' : Hp} (e : Same H H') : ∀ {d : D} {v : V}, At K H d v → At K H' d v
  | .non, _, h => h
  | .bl _, _, h => h
  | .int _, _, h => h
  | .str _, _, h => h
  | .tup _, _, ⟨a, vs, h1, h2, h3⟩ => ⟨a, vs, h1, Same.seqT e h2, AtL.mono e h3⟩
  | .lst _, _, ⟨a, vs, h1, h2, h3⟩ => ⟨a, vs, h1, e _ _ h2, AtL.mono e h3⟩
  | .dic _, _, ⟨a, vs, h1, h2, h3⟩ => ⟨a, vs, h1, e _ _ h2, AtL.mono e h3⟩
  | .set _, _, ⟨a, vs, h1, h2, h3⟩ => ⟨a, vs, h1, e _ _ h2, AtL.mono e h3⟩
theorem AtL.mono {K : Fg} {H H' : Hp} (e : Same H H') : ∀ {ds : List D} {vs : List V}, AtL K H ds vs → AtL K H' ds vs
  | [], _, h => h
  | _ :: _, _, ⟨v, r, h1, h2, h3⟩ => ⟨v, r, h1, At.mono e h2, AtL.mono e h3⟩
end
section
variable {K : Fg} {H : Hp}
theorem AtL.nil : AtL K H [] [] := rfl
theorem AtL.cons {d : D} {v : V} {ds : List D} {vs : List V} (h : At K H d v) (t : AtL K H ds vs) : AtL K H (d :: ds) (v :: vs) := ⟨v, vs, rfl, h, t⟩
theorem AtL.length : ∀ {ds : List D} {vs : List V}, AtL K H ds vs → ds.length = vs.length
  | [], _, h => by cases h; rfl
  | _ :: _, _, ⟨v, r, h1, h2, h3⟩ => by subst h1; simp [AtL.length h3]
theorem AtL.get : ∀ {ds : List D} {vs : List V} {i : Nat} {d : D}, AtL K H ds vs → ds[i]? = some d → ∃ v, vs[i]? = some v ∧ At K H d v
  | [], _, _, _, h, e => by simp at e
  | _ :: _, _, 0, _, ⟨v, r, h1, h2, h3⟩, e => by subst h1; simp at e; subst e; exact ⟨v, rfl, h2⟩
  | _ :: _, _, i + 1, _, ⟨v, r, h1, h2, h3⟩, e => by
    subst h1
    obtain ⟨u, e1, e2⟩ := AtL.get (i := i) h3 (by simpa using e)
    exact ⟨u, by simpa using e1, e2⟩
theorem AtL.append : ∀ {ds es : List D} {vs us : List V}, AtL K H ds vs → AtL K H es us → AtL K H (ds ++ es) (vs ++ us)
  | [], _, _, _, h, t => by cases h; exact t
  | _ :: _, _, _, _, ⟨v, r, h1, h2, h3⟩, t => by subst h1; exact ⟨v, _, rfl, h2, AtL.append h3 t⟩
theorem AtL.take : ∀ {ds : List D} {vs : List V} (n : Nat), AtL K H ds vs → AtL K H (ds.take n) (vs.take n)
  | _, _, 0, _ => by simp [AtL]
  | [], _, _ + 1, h => by cases h; exact rfl
  | _ :: _, _, n + 1, ⟨v, r, h1, h2, h3⟩ => by subst h1; exact ⟨v, _, rfl, h2, AtL.take n h3⟩
theorem AtL.drop : ∀ {ds : List D} {vs : List V} (n : Nat), AtL K H ds vs → AtL K H (ds.drop n) (vs.drop n)
  | _, _, 0, h => h
  | [], _, _ + 1, h => by cases h; exact rfl
  | _ :: _, _, n + 1, ⟨v, r, h1, h2, h3⟩ => by subst h1; exact AtL.drop n h3
theorem AtL.reverse : ∀ {ds : List D} {vs : List V}, AtL K H ds vs → AtL K H ds.reverse vs.reverse
  | [], _, h => by cases h; exact rfl
  | _ :: _, _, ⟨v, r, h1, h2, h3⟩ => by
    subst h1
    rw [List.reverse_cons, List.reverse_cons]
    exact AtL.append (AtL.reverse h3) (AtL.cons h2 AtL.nil)
theorem AtL.dropLast : ∀ {ds : List D} {vs : List V}, AtL K H ds vs → AtL K H ds.dropLast vs.dropLast
  | [], _, h => by cases h; exact rfl
  | [_], _, ⟨v, r, h1, h2, h3⟩ => by subst h1; cases h3; exact rfl
  | _ :: b :: t, _, ⟨v, r, h1, h2, h3⟩ => by
    obtain ⟨v2, r2, e2, h4, h5⟩ := id h3
    subst h1 e2
    exact ⟨v, _, rfl, h2, AtL.dropLast h3⟩
theorem AtL.set : ∀ {ds : List D} {vs : List V} (i : Nat) {d : D} {v : V}, AtL K H ds vs → At K H d v → AtL K H (ds.set i d) (vs.set i v)
  | [], _, _, _, _, h, _ => by cases h; exact rfl
  | _ :: _, _, 0, _, _, ⟨v, r, h1, h2, h3⟩, q => by subst h1; exact ⟨_, _, rfl, q, h3⟩
  | _ :: _, _, i + 1, _, _, ⟨v, r, h1, h2, h3⟩, q => by subst h1; exact ⟨v, _, rfl, h2, AtL.set i h3 q⟩
theorem AtL.ints (ns : List Int) : AtL K H (ns.map D.int) (ns.map V.int) := by
  induction ns with
  | nil => exact rfl
  | cons n r ih => exact ⟨_, _, rfl, rfl, ih⟩
end

theorem at_data {K : Fg} {H : Hp} {t : Ct} {v : V} : At K H t.data v ↔ ∃ a vs, v = .ref a ∧ H a = some (t.ho K.w a vs) ∧ AtL K H t.ds vs := by
  obtain ⟨c, ds⟩ := t
  cases c <;> exact Iff.rfl
/-! ### what is owned is hidden from the data -/
open Classical in
noncomputable def off (O : List Addr) (H : Hp) : Hp := fun b => if b ∈ O then none else H b
section
variable {O O' : List Addr} {H H' : Hp} {b : Addr} {o : HO}
theorem off_in (h : b ∈ O) : off O H b = none := by unfold off; rw [if_pos h]
theorem off_out (h : b ∉ O) : off O H b = H b := by unfold off; rw [if_neg h]
theorem off_some : off O H b = some o ↔ b ∉ O ∧ H b = some o := by
  by_cases h : b ∈ O
  · rw [off_in h]; exact Iff.intro (fun e => by cases e) (fun e => absurd h e.1)
  · rw [off_out h]; exact Iff.intro (fun e => ⟨h, e⟩) (fun e => e.2)
theorem off_le : Same (off O H) H := fun b o e => (off_some.mp e).2
theorem off_mono (k : ∀ b o, b ∉ O → H b = some o → H' b = some o) (s : ∀ b, b ∈ O' → b ∉ O → H b = none) : Same (off O H) (off O' H') := fun b o e => by
  obtain ⟨h1, h2⟩ := off_some.mp e
  refine off_some.mpr ⟨fun h => ?_, k b o h1 h2⟩
  rw [s b h h1] at h2; cases h2
end

/-! ### the slots of a def, as data -/
inductive Sl where
  | no | va (d : D) | owc (t : Ct) | bwc (t : Ct) | sc (ns : List Int)
abbrev Sl.ow (ds : List D) : Sl := .owc ⟨.lst, ds⟩
abbrev Sl.bw (ds : List D) : Sl := .bwc ⟨.lst, ds⟩
/-- owned, or owned and lent to a loop that walks it -/
def Sl.hd : Sl → Bool
  | .owc _ => true
  | .bwc _ => true
  | _ => false
/-- what an expression gives: data, a new list that nobody else has, or the list that stands at a slot -/
inductive RV where
  | va (d : D) | owc (t : Ct) | bo (i : Nat)
abbrev RV.ow (ds : List D) : RV := .owc ⟨.lst, ds⟩
inductive Rs (α : Type) where
  | ok (a : α) (Γ : List Sl) | ex (c : Nat) (pl : List D) (Γ : List Sl) | no
def Rs.bind {α β : Type} (x : Rs α) (f : α → List Sl → Rs β) : Rs β :=
  match x with
  | .ok a Γ => f a Γ
  | .ex c pl Γ => .ex c pl Γ
  | .no => .no
abbrev EM := List Sl → Rs RV
def SlAt (K : Fg) (O : List Addr) (H : Hp) : Sl → Option V → Prop
  | .no, _ => True
  | .va d, o => ∃ v, o = some v ∧ At K (off O H) d v
  | .owc t, o => ∃ a vs, o = some (.ref a) ∧ a ∈ O ∧ H a = some (t.ho K.w a vs) ∧ AtL K (off O H) t.ds vs
  | .bwc t, o => ∃ a vs, o = some (.ref a) ∧ a ∈ O ∧ H a = some (t.ho K.w a vs) ∧ AtL K (off O H) t.ds vs
  | .sc ns, o => ∃ a, o = some (.ref a) ∧ SqL K (off O H) a (ns.map V.int)
structure Rl (K : Fg) (O : List Addr) (Γ : List Sl) (σ : L2.St) (H : Hp) : Prop where
  len : Γ.length = σ.length
  sl : ∀ (i : Nat) (s : Sl), Γ[i]? = some s → ∃ o, σ[i]? = some o ∧ SlAt K O H s o
  ne : ∀ (i j : Nat) (a : Addr) ds t, i ≠ j → Γ[i]? = some (.owc ds) → Γ[j]? = some t → t.hd = true → σ[i]? = some (some (.ref a)) → σ[j]? = some (some (.ref a)) → False
  tr : ∀ a, a ∈ O → H a ≠ none
/-- an address that some owned slot holds -/
def Mu (Γ : List Sl) (σ : L2.St) (b : Addr) : Prop := ∃ (i : Nat) (ds : Ct), Γ[i]? = some (.owc ds) ∧ σ[i]? = some (some (.ref b))
structure Stp (Γ : List Sl) (σ : L2.St) (H : Hp) (O : List Addr) (Γ' : List Sl) (σ' : L2.St) (H' : Hp) (O' : List Addr) : Prop where
  keep : ∀ b o, ¬ Mu Γ σ b → H b = some o → H' b = some o
  mu : ∀ b, Mu Γ' σ' b → Mu Γ σ b ∨ H b = none
  stay : ∀ b, H b ≠ none → H' b ≠ none
  grow : ∀ b, b ∈ O' → b ∈ O ∨ H b = none
  lose : ∀ b, b ∈ O → b ∉ O' → Mu Γ σ b
/-- .. of an expression: no slot is stored, nothing more is owned -/
structure EStp (Γ : List Sl) (σ : L2.St) (H : Hp) (O : List Addr) (Γ' : List Sl) (H' : Hp) (O' : List Addr) : Prop extends Stp Γ σ H O Γ' σ H' O' where
  sub : ∀ b, b ∈ O' → b ∈ O
  pres : ∀ (i : Nat) ds, Γ[i]? = some (.owc ds) → (∃ es, Γ'[i]? = some (.owc es)) ∨ ∃ es : Ct, Γ'[i]? = some (.va es.data)
  oth : ∀ (i : Nat) s, Γ[i]? = some s → (∀ ds, s ≠ .owc ds) → Γ'[i]? = some s
  bwb : ∀ (i : Nat) (ds : Ct), Γ'[i]? = some (Sl.bwc ds) → Γ[i]? = some (Sl.bwc ds)

section
variable {K : Fg} {O O1 O2 O' : List Addr} {Γ Γ1 Γ2 Γ' : List Sl} {σ σ1 σ2 σ' : L2.St} {H H1 H2 H' : Hp}
theorem Rl.mem (R : Rl K O Γ σ H) {b : Addr} (m : Mu Γ σ b) : b ∈ O := by
  obtain ⟨i, ds, e1, e2⟩ := m
  obtain ⟨o, e3, a, vs, e4, h, _⟩ := R.sl i _ e1
  rw [e2] at e3; cases e3; cases e4; exact h
theorem Stp.refl : Stp Γ σ H O Γ σ H O := ⟨fun _ _ _ h => h, fun _ h => .inl h, fun _ h => h, fun _ h => .inl h, fun _ h n => absurd h n⟩
theorem EStp.refl : EStp Γ σ H O Γ H O := ⟨Stp.refl, fun _ h => h, fun i ds h => .inl ⟨ds, h⟩, fun i s h _ => h, fun i ds h => h⟩
theorem Stp.trans (R : Rl K O Γ σ H) (a : Stp Γ σ H O Γ1 σ1 H1 O1) (b : Stp Γ1 σ1 H1 O1 Γ2 σ2 H2 O2) : Stp Γ σ H O Γ2 σ2 H2 O2 where
  keep := fun c o n h => b.keep c o (fun m => (a.mu c m).elim n fun z => by rw [z] at h; cases h) (a.keep c o n h)
  mu := fun c m => (b.mu c m).elim (fun m => a.mu c m) fun z => by
    by_cases h : H c = none
    · exact .inr h
    · exact absurd z (a.stay c h)
  stay := fun c h => b.stay c (a.stay c h)
  grow := fun c m => (b.grow c m).elim (fun m => a.grow c m) fun z => by
    by_cases h : H c = none
    · exact .inr h
    · exact absurd z (a.stay c h)
  lose := fun c h n => by
    by_cases h1 : c ∈ O1
    · rcases a.mu c (b.lose c h1 n) with m | z
      · exact m
      · exact absurd z (R.tr c h)
    · exact a.lose c h h1
theorem EStp.trans (R : Rl K O Γ σ H) (a : EStp Γ σ H O Γ1 H1 O1) (b : EStp Γ1 σ H1 O1 Γ2 H2 O2) : EStp Γ σ H O Γ2 H2 O2 where
  toStp := a.toStp.trans R b.toStp
  sub := fun c h => a.sub c (b.sub c h)
  pres := fun i ds h => by
    rcases a.pres i ds h with ⟨es, e⟩ | ⟨es, e⟩
    · exact b.pres i es e
    · exact .inr ⟨es, b.oth i _ e fun _ z => nomatch z⟩
  oth := fun i s h n => b.oth i s (a.oth i s h n) n
  bwb := fun i ds h => a.bwb i ds (b.bwb i ds h)
/-- what is data ahead is data behind -/
theorem Stp.same (R : Rl K O Γ σ H) (a : Stp Γ σ H O Γ' σ' H' O') : Same (off O H) (off O' H') :=
  off_mono (fun b o n h => a.keep b o (fun m => n (R.mem m)) h) fun b h n => (a.grow b h).elim (fun z => absurd z n) id
/-- the heap grows -/
theorem Rl.same (R : Rl K O Γ σ H) (e : Same H H') : Rl K O Γ σ H' := by
  have eo : Same (off O H) (off O H') := off_mono (fun b o _ h => e b o h) fun b h n => absurd h n
  refine ⟨R.len, fun i s h => ?_, R.ne, fun a h z => ?_⟩
  · obtain ⟨o, h1, h2⟩ := R.sl i s h
    refine ⟨o, h1, ?_⟩
    cases s with
    | no => trivial
    | va d => obtain ⟨v, e1, q⟩ := h2; exact ⟨v, e1, q.mono eo⟩
    | owc ds => obtain ⟨a, vs, e1, m, q, t⟩ := h2; exact ⟨a, vs, e1, m, e _ _ q, t.mono eo⟩
    | bwc ds => obtain ⟨a, vs, e1, m, q, t⟩ := h2; exact ⟨a, vs, e1, m, e _ _ q, t.mono eo⟩
    | sc ns => obtain ⟨a, e1, q⟩ := h2; exact ⟨a, e1, eo.seq q⟩
  · cases q : H a with
    | none => exact R.tr a h q
    | some o => rw [e a o q] at z; cases z
theorem stays (e : Same H H') {b : Addr} (h : H b ≠ none) : H' b ≠ none := fun z => by
  cases q : H b with
  | none => exact h q
  | some o => rw [e b o q] at z; cases z
theorem Stp.of_same (e : Same H H') : Stp Γ σ H O Γ σ H' O :=
  ⟨fun b o _ h => e b o h, fun _ h => .inl h, fun b h => stays e h, fun _ h => .inl h, fun _ h n => absurd h n⟩
theorem EStp.of_same (e : Same H H') : EStp Γ σ H O Γ H' O := ⟨Stp.of_same e, fun _ h => h, fun i ds h => .inl ⟨ds, h⟩, fun i s h _ => h, fun i ds h => h⟩
theorem same_up {p : Addr} {o : HO} (h : H p = none) : Same H (upd H p o) := fun b x e => by
  rw [upd_ne (ne_of_none e h)]; exact e
/-- a new address is hidden, too -/
theorem Rl.hide (R : Rl K O Γ σ H) {a : Addr} (e : Same H H') (hn : H a = none) (h' : H' a ≠ none) : Rl K (a :: O) Γ σ H' := by
  have eo : Same (off O H) (off (a :: O) H') := off_mono (fun b o _ h => e b o h) fun b h n => by
    rcases List.mem_cons.mp h with z | z
    · rw [z]; exact hn
    · exact absurd z n
  refine ⟨R.len, fun i s h => ?_, R.ne, fun b h z => ?_⟩
  · obtain ⟨o, h1, h2⟩ := R.sl i s h
    refine ⟨o, h1, ?_⟩
    cases s with
    | no => trivial
    | va d => obtain ⟨v, e1, q⟩ := h2; exact ⟨v, e1, q.mono eo⟩
    | owc ds => obtain ⟨a', vs, e1, m, q, t⟩ := h2; exact ⟨a', vs, e1, List.mem_cons_of_mem _ m, e _ _ q, t.mono eo⟩
    | bwc ds => obtain ⟨a', vs, e1, m, q, t⟩ := h2; exact ⟨a', vs, e1, List.mem_cons_of_mem _ m, e _ _ q, t.mono eo⟩
    | sc ns => obtain ⟨a', e1, q⟩ := h2; exact ⟨a', e1, eo.seq q⟩
  · rcases List.mem_cons.mp h with q | q
    · rw [q] at z; exact h' z
    · exact (R.same e).tr b q z
/-- less is hidden -/
theorem off_less {a : Addr} : Same (off (a :: O) H) (off O H) := off_mono (fun b o _ h => h) fun b h n => absurd (List.mem_cons_of_mem _ h) n
end

/-! ### operands, results -/
def peek (Γ : List Sl) : RV → Option D
  | .va d => some d
  | .owc t => some t.data
  | .bo i => match Γ[i]? with
    | some (.owc t) => some t.data
    | some (.bwc t) => some t.data
    | some (.va d) => some d
    | some (.sc ns) => some (.lst (ns.map .int))
    | _ => none
/-- .. not the script -/
def peekT (Γ : List Sl) : RV → Option D
  | .va d => some d
  | .owc t => some t.data
  | .bo i => match Γ[i]? with
    | some (.owc t) => some t.data
    | some (.bwc t) => some t.data
    | some (.va d) => some d
    | _ => none
/-- .. an owned dict or set -/
def OpnO (K : Fg) (Hd H : Hp) (d : D) (v : V) : Prop := ∃ (t : Ct) (a : Addr) (vs : List V), t.c ≠ .lst ∧ d = t.data ∧ v = .ref a ∧ H a = some (t.ho K.w a vs) ∧ AtL K Hd t.ds vs
def Opn (K : Fg) (Hd H : Hp) (d : D) (v : V) : Prop := At K Hd d v ∨ (∃ ds a vs, d = .lst ds ∧ v = .ref a ∧ SqL K H a vs ∧ AtL K Hd ds vs) ∨ OpnO K Hd H d v
def OpnT (K : Fg) (Hd H : Hp) (d : D) (v : V) : Prop := At K Hd d v ∨ (∃ ds a vs, d = .lst ds ∧ v = .ref a ∧ H a = some (.lst vs) ∧ AtL K Hd ds vs) ∨ OpnO K Hd H d v
theorem opn_ct {K : Fg} {Hd H : Hp} {t : Ct} {a : Addr} {vs : List V} (h : H a = some (t.ho K.w a vs)) (q : AtL K Hd t.ds vs) : OpnT K Hd H t.data (.ref a) := by
  obtain ⟨c, ds⟩ := t
  cases c with
  | lst => exact .inr (.inl ⟨ds, a, vs, rfl, rfl, h, q⟩)
  | dic => exact .inr (.inr ⟨⟨.dic, ds⟩, a, vs, (fun z => nomatch z), rfl, rfl, h, q⟩)
  | set => exact .inr (.inr ⟨⟨.set, ds⟩, a, vs, (fun z => nomatch z), rfl, rfl, h, q⟩)
def RvAt (K : Fg) (O : List Addr) (σ : L2.St) (Γ : List Sl) (H H0 : Hp) : RV → V → Prop
  | .va d, v => At K (off O H) d v
  | .owc t, v => ∃ a vs, v = .ref a ∧ a ∉ O ∧ H0 a = none ∧ H a = some (t.ho K.w a vs) ∧ AtL K (off (a :: O) H) t.ds vs ∧ Rl K (a :: O) Γ σ H
  | .bo i, v => σ[i]? = some (some v) ∧ ((∃ ds, Γ[i]? = some (.owc ds)) ∨ (∃ ns, Γ[i]? = some (.sc ns)) ∨ ∃ ds, Γ[i]? = some (.bwc ds))
section
variable {K : Fg} {O O1 O2 O' : List Addr} {Γ Γ1 Γ2 Γ' : List Sl} {σ σ1 σ2 σ' : L2.St} {H H0 H1 H2 H' Hd Hd' : Hp} {v : V} {d : D} {r : RV}
theorem OpnT.opn (h : OpnT K Hd H d v) : Opn K Hd H d v := h.imp id fun h => h.imp (fun ⟨ds, a, vs, e1, e2, q, t⟩ => ⟨ds, a, vs, e1, e2, SqL.of q, t⟩) id
theorem RvAt.opn (R1 : Rl K O1 Γ1 σ H1) (h : RvAt K O1 σ Γ1 H1 H0 r v) (S : EStp Γ1 σ H1 O1 Γ2 H2 O2) (R2 : Rl K O2 Γ2 σ H2) (p : peek Γ2 r = some d) : Opn K (off O2 H2) H2 d v := by
  cases r with
  | va d' => cases p; exact .inl (At.mono (S.toStp.same R1) h)
  | owc ds =>
    cases p
    obtain ⟨a, vs, e1, n, _, q, t, _⟩ := h
    refine .inl (at_data.mpr ⟨a, vs, e1, ?_, (t.mono off_less).mono (S.toStp.same R1)⟩)
    exact S.toStp.same R1 a _ (off_some.mpr ⟨n, q⟩)
  | bo i =>
    obtain ⟨e1, _⟩ := h
    simp only [peek] at p
    cases e : Γ2[i]? with
    | none => rw [e] at p; cases p
    | some s =>
      rw [e] at p
      obtain ⟨o, e2, q⟩ := R2.sl i s e
      rw [e1] at e2; cases e2
      cases s with
      | no => cases p
      | va d' => cases p; obtain ⟨v', e3, q⟩ := q; cases e3; exact .inl q
      | owc ds => cases p; obtain ⟨a, vs, e3, m, q, t⟩ := q; cases e3; exact (opn_ct q t).opn
      | bwc ds => cases p; obtain ⟨a, vs, e3, m, q, t⟩ := q; cases e3; exact (opn_ct q t).opn
      | sc ns => cases p; obtain ⟨a, e3, q⟩ := q; cases e3; exact .inr (.inl ⟨_, a, _, rfl, rfl, (off_le (O := O2)).seq q, AtL.ints ns⟩)
theorem RvAt.opnT (R1 : Rl K O1 Γ1 σ H1) (h : RvAt K O1 σ Γ1 H1 H0 r v) (S : EStp Γ1 σ H1 O1 Γ2 H2 O2) (R2 : Rl K O2 Γ2 σ H2) (p : peekT Γ2 r = some d) : OpnT K (off O2 H2) H2 d v := by
  cases r with
  | va d' => cases p; exact .inl (At.mono (S.toStp.same R1) h)
  | owc ds =>
    cases p
    obtain ⟨a, vs, e1, n, _, q, t, _⟩ := h
    refine .inl (at_data.mpr ⟨a, vs, e1, ?_, (t.mono off_less).mono (S.toStp.same R1)⟩)
    exact S.toStp.same R1 a _ (off_some.mpr ⟨n, q⟩)
  | bo i =>
    obtain ⟨e1, _⟩ := h
    simp only [peekT] at p
    cases e : Γ2[i]? with
    | none => rw [e] at p; cases p
    | some s =>
      rw [e] at p
      obtain ⟨o, e2, q⟩ := R2.sl i s e
      rw [e1] at e2; cases e2
      cases s with
      | no => cases p
      | va d' => cases p; obtain ⟨v', e3, q⟩ := q; cases e3; exact .inl q
      | owc ds => cases p; obtain ⟨a, vs, e3, m, q, t⟩ := q; cases e3; exact opn_ct q t
      | bwc ds => cases p; obtain ⟨a, vs, e3, m, q, t⟩ := q; cases e3; exact opn_ct q t
      | sc ns => cases p
end

/-! ### what is wanted behind -/
def Post {α : Type} (K : Fg) (XR : Nat → List D → Hp → Value → Option Addr → Prop) (W : WX) (σ : L2.St) (Γ : List Sl) (H : Hp) (O : List Addr) (R : α → List Sl → Hp → List Addr → Prop) : Rs α → Prop
  | .ok a Γ' => ∀ H' O', Rl K O' Γ' σ H' → EStp Γ σ H O Γ' H' O' → R a Γ' H' O'
  | .ex c pl Γ' => ∀ cls d H' O', XR c pl H' cls d → Rl K O' Γ' σ H' → EStp Γ σ H O Γ' H' O' → W cls d σ H'
  | .no => False
/-- how an exception of number c with the data pl lies in the heap -/
abbrev XRel := Nat → List D → Hp → Value → Option Addr → Prop
section
variable {α β : Type} {K : Fg} {XR : XRel} {W : WX} {σ : L2.St} {Γ Γ1 : List Sl} {H H1 : Hp} {O O1 : List Addr} {R R' : α → List Sl → Hp → List Addr → Prop}
theorem Post.imp {x : Rs α} (h : Post K XR W σ Γ H O R x) (k : ∀ a Γ' H' O', Rl K O' Γ' σ H' → EStp Γ σ H O Γ' H' O' → R a Γ' H' O' → R' a Γ' H' O') : Post K XR W σ Γ H O R' x := by
  cases x with
  | ok a Γ' => exact fun H' O' r s => k a Γ' H' O' r s (h H' O' r s)
  | ex c pl Γ' => exact h
  | no => exact h
theorem Post.after {x : Rs α} (R0 : Rl K O Γ σ H) (S : EStp Γ σ H O Γ1 H1 O1) (h : Post K XR W σ Γ H O R x) : Post K XR W σ Γ1 H1 O1 R x := by
  cases x with
  | ok a Γ' => exact fun H' O' r s => h H' O' r (S.trans R0 s)
  | ex c pl Γ' => exact fun cls d H' O' xr r s => h cls d H' O' xr r (S.trans R0 s)
  | no => exact h
theorem Post.bind {x : Rs α} {f : α → List Sl → Rs β} {R : β → List Sl → Hp → List Addr → Prop} (R0 : Rl K O Γ σ H) (h : Post K XR W σ Γ H O R (x.bind f)) :
    Post K XR W σ Γ H O (fun a Γ1 H1 O1 => Post K XR W σ Γ1 H1 O1 R (f a Γ1)) x := by
  cases x with
  | ok a Γ' => exact fun H' O' r s => Post.after R0 s h
  | ex c pl Γ' => exact h
  | no => exact h
end
/-- the reading of an expression that keeps its mirror -/
def tE (K : Fg) (XR : XRel) (W : WX) (m : EM) : TE := fun σ H Q => ∃ O Γ, Rl K O Γ σ H ∧ Post K XR W σ Γ H O (fun r Γ' H' O' => ∀ v, RvAt K O' σ Γ' H' H r v → Q v H') (m Γ)
def tT (K : Fg) (XR : XRel) (W : WX) (m : List Sl → Rs Bool) : TT := fun σ H Q => ∃ O Γ, Rl K O Γ σ H ∧ Post K XR W σ Γ H O (fun b Γ' H' O' => Q b H') (m Γ)
/-- arguments, displays: the results from the left -/
def RvAll (K : Fg) (O : List Addr) (σ : L2.St) (Γ : List Sl) (H : Hp) : List RV → List V → Prop
  | [], vs => vs = []
  | r :: rs, vs => ∃ v t, vs = v :: t ∧ (∃ Γ1 H1 O1 H0, Rl K O1 Γ1 σ H1 ∧ RvAt K O1 σ Γ1 H1 H0 r v ∧ EStp Γ1 σ H1 O1 Γ H O) ∧ RvAll K O σ Γ H rs t
abbrev AM := List Sl → Rs (List RV)
def tA (K : Fg) (XR : XRel) (W : WX) (m : AM) : TA := fun σ H Q => ∃ O Γ, Rl K O Γ σ H ∧ Post K XR W σ Γ H O (fun rs Γ' H' O' => ∀ vs, RvAll K O' σ Γ' H' rs vs → Q vs H') (m Γ)
def ME (X : Cx) (XR : XRel) (W : WX) (e : Expr) (m : EM) : Prop := PE X e (tE X.KW XR W m)
def MT (X : Cx) (XR : XRel) (W : WX) (e : Expr) (m : List Sl → Rs Bool) : Prop := PT X e (tT X.KW XR W m)
def MA (X : Cx) (XR : XRel) (W : WX) (es : List Expr) (m : AM) : Prop := PA X es (tA X.KW XR W m)
theorem _root_.L2.PE.imp {X : Cx} {e : Expr} {t t' : TE} (h : PE X e t) (k : ∀ σ H Q, t' σ H Q → t σ H Q) : PE X e t' := ⟨fun pins s σ H Q I q => h.run pins s σ H Q I (k σ H Q q)⟩
theorem _root_.L2.PT.imp {X : Cx} {e : Expr} {t t' : TT} (h : PT X e t) (k : ∀ σ H Q, t' σ H Q → t σ H Q) : PT X e t' := ⟨fun pins s σ H Q I q => h.run pins s σ H Q I (k σ H Q q)⟩
theorem _root_.L2.PA.imp {X : Cx} {e : List Expr} {t t' : TA} (h : PA X e t) (k : ∀ σ H Q, t' σ H Q → t σ H Q) : PA X e t' := ⟨fun pos pins s σ H Q I q => h.run pos pins s σ H Q I (k σ H Q q)⟩
theorem _root_.L2.PS.imp {X : Cx} {e : Stmt} {t t' : TS} (h : PS X e t) (k : ∀ D σ H, t' D σ H → t D σ H) : PS X e t' := ⟨fun pins s σ H D I q => h.run pins s σ H D I (k D σ H q)⟩
theorem _root_.L2.PSs.imp {X : Cx} {e : List Stmt} {t t' : TS} (h : PSs X e t) (k : ∀ D σ H, t' D σ H → t D σ H) : PSs X e t' := ⟨fun pins s σ H D I q => h.run pins s σ H D I (k D σ H q)⟩

/-! ### results of operations by values -/
inductive FR where
  | va (d : D) | owc (t : Ct) | no
abbrev FR.ow (ds : List D) : FR := .owc ⟨.lst, ds⟩
def FR.res (Γ : List Sl) : FR → Rs RV
  | .va d => .ok (.va d) Γ
  | .owc ds => .ok (.owc ds) Γ
  | .no => .no
def FPost (K : Fg) (Hd H : Hp) (Q : VK) : FR → Prop
  | .va d => ∀ v H' Hd', Same H H' → Same Hd Hd' → Same Hd' H' → (∀ b, Hd' b ≠ none → Hd b ≠ none ∨ H b = none) → At K Hd' d v → Q v H'
  | .owc ds => ∀ a vs H' Hd', Same H H' → Same Hd Hd' → Same Hd' H' → (∀ b, Hd' b ≠ none → Hd b ≠ none ∨ H b = none) → H a = none → H' a = some (ds.ho K.w a vs) → Hd' a = none → AtL K Hd' ds.ds vs → Q (.ref a) H'
  | .no => False
section
variable {K : Fg} {XR : XRel} {W : WX} {O : List Addr} {Γ : List Sl} {σ : L2.St} {H H0 Hd : Hp} {Q : VK} {fr : FR}
theorem FPost.of (R0 : Rl K O Γ σ H) (h0 : ∀ b, H b = none → H0 b = none) (h : Post K XR W σ Γ H O (fun r Γ' H' O' => ∀ v, RvAt K O' σ Γ' H' H0 r v → Q v H') (fr.res Γ)) : FPost K (off O H) H Q fr := by
  have ho : ∀ {H' Hd' : Hp}, Same Hd' H' → (∀ b, Hd' b ≠ none → off O H b ≠ none ∨ H b = none) → Same Hd' (off O H') := fun {H' Hd'} s3 s4 b o e => by
    refine off_some.mpr ⟨fun hb => ?_, s3 b o e⟩
    rcases s4 b (by rw [e]; exact fun z => nomatch z) with z | z
    · exact z (off_in hb)
    · exact R0.tr b hb z
  cases fr with
  | va d =>
    intro v H' Hd' s1 s2 s3 s4 q
    exact h H' O (R0.same s1) (EStp.of_same s1) v (At.mono (ho s3 s4) q)
  | owc ds =>
    intro a vs H' Hd' s1 s2 s3 s4 n e nd q
    refine h H' O (R0.same s1) (EStp.of_same s1) (.ref a) ⟨a, vs, rfl, fun m => R0.tr a m n, h0 a n, e, ?_, R0.hide s1 n (by rw [e]; exact fun z => nomatch z)⟩
    refine q.mono fun b o e2 => ?_
    have z := ho s3 s4 b o e2
    obtain ⟨z1, z2⟩ := off_some.mp z
    refine off_some.mpr ⟨fun m => ?_, z2⟩
    rcases List.mem_cons.mp m with e3 | e3
    · rw [e3, nd] at e2; cases e2
    · exact z1 e3
  | no => exact h
/-- data as it is -/
theorem FPost.va {d : D} {v : V} (h : FPost K Hd H Q (.va d)) (s : Same Hd H) (q : At K Hd d v) : Q v H := h v H Hd (fun _ _ e => e) (fun _ _ e => e) s (fun b n => .inl n) q
theorem FPost.int {i : Int} (h : FPost K Hd H Q (.va (.int i))) (s : Same Hd H) : Q (.int i) H := h.va s rfl
theorem FPost.bl {i : Bool} (h : FPost K Hd H Q (.va (.bl i))) (s : Same Hd H) : Q (.bl i) H := h.va s rfl
theorem FPost.str {x : List Nat} (h : FPost K Hd H Q (.va (.str x))) (s : Same Hd H) : Q (.str (toS x)) H := h.va s rfl
theorem FPost.non (h : FPost K Hd H Q (.va .non)) (s : Same Hd H) : Q .non H := h.va s rfl
/-- a new list -/
theorem FPost.lst {ds : List D} {vs : List V} {p : Addr} (h : FPost K Hd H Q (.ow ds)) (s : Same Hd H) (n : H p = none) (q : AtL K Hd ds vs) : Q (.ref p) (upd H p (.lst vs)) := by
  have nd : Hd p = none := by
    cases e : Hd p with
    | none => rfl
    | some o => rw [s p o e] at n; cases n
  exact h p vs _ Hd (same_up n) (fun _ _ e => e) (fun b o e => by rw [upd_ne (ne_of_none (s b o e) n)]; exact s b o e) (fun b m => .inl m) n upd_same nd q
/-- a new tuple -/
theorem FPost.tup {ds : List D} {vs : List V} {p : Addr} (h : FPost K Hd H Q (.va (.tup ds))) (s : Same Hd H) (n : H p = none) (q : AtL K Hd ds vs) : Q (.ref p) (upd H p (.tup vs)) := by
  have nd : Hd p = none := by
    cases e : Hd p with
    | none => rfl
    | some o => rw [s p o e] at n; cases n
  refine h (.ref p) _ (upd Hd p (.tup vs)) (same_up n) (same_up nd) (fun b o e => ?_) (fun b m => ?_) ⟨p, vs, rfl, SqT.of upd_same, q.mono (same_up nd)⟩
  · by_cases hb : b = p
    · subst hb; rw [upd_same] at e ⊢; exact e
    · rw [upd_ne hb] at e ⊢; exact s b o e
  · by_cases hb : b = p
    · subst hb; exact .inr n
    · rw [upd_ne hb] at m; exact .inl m
end
end Mir

set_option Elab.async false
set_option linter.all false
set_option maxRecDepth 100000
set_option maxHeartbeats 4000000
namespace Mir
open PySem PySem.Spec PyProof.Rows L2

/-! ### the operations on data -/
mutual
def toP : D → PyData
  | .non => .none | .bl b => .bool b | .int i => .int i | .str x => .str (toS x)
  | .tup xs => .tuple (toPs xs) | .lst xs => .list (toPs xs) | .dic _ => .dict [] | .set _ => .dict []
def toPs : List D → List PyData
  | [] => []
  | d :: ds => toP d :: toPs ds
end
mutual
/-- depth at most n, signs in range -/
def gd : Nat → D → Bool
  | _, .str x => x.all fun c => decide (c < 0x110000)
  | n, .tup xs => match n with
    | 0 => false
    | n + 1 => gds n xs
  | n, .lst xs => match n with
    | 0 => false
    | n + 1 => gds n xs
  | _, .dic _ => false
  | _, .set _ => false
  | _, _ => true
def gds : Nat → List D → Bool
  | _, [] => true
  | n, d :: ds => gd n d && gds n ds
end
mutual
def eqD : D → D → Bool
  | .non, .non => true
  | .bl a, .bl b => a == b
  | .bl a, .int j => (if a then 1 else 0) == j
  | .int i, .bl b => i == (if b then 1 else 0)
  | .int i, .int j => i == j
  | .str x, .str y => x == y
  | .lst xs, .lst ys => eqDs xs ys
  | .tup xs, .tup ys => eqDs xs ys
  | _, _ => false
def eqDs : List D → List D → Bool
  | [], [] => true
  | x :: xs, y :: ys => eqD x y && eqDs xs ys
  | _, _ => false
end
theorem toS_inj {x y : List Nat} : toS x = toS y ↔ x = y := ⟨fun h => by injection h with h; simpa using h, fun h => by rw [h]⟩
theorem toS_beq (x y : List Nat) : (toS x == toS y) = (x == y) := by
  by_cases h : x = y
  · subst h; simp
  · have h2 : toS x ≠ toS y := fun z => h (toS_inj.mp z)
    rw [beq_eq_false_iff_ne.mpr h2, beq_eq_false_iff_ne.mpr h]
mutual
theorem eqv_toP : ∀ d e : D, PyData.eqv (toP d) (toP e) = eqD d e
  | .non, e => by cases e <;> simp [toP, PyData.eqv, eqD]
  | .bl a, e => by cases e <;> simp [toP, PyData.eqv, eqD]
  | .int a, e => by cases e <;> simp [toP, PyData.eqv, eqD]
  | .str a, e => by cases e <;> simp [toP, PyData.eqv, eqD, toS_beq]
  | .tup xs, e => by cases e <;> simp [toP, PyData.eqv, eqD, eqv_toPs]
  | .lst xs, e => by cases e <;> simp [toP, PyData.eqv, eqD, eqv_toPs]
  | .dic xs, e => by cases e <;> simp [toP, PyData.eqv, eqD]
  | .set xs, e => by cases e <;> simp [toP, PyData.eqv, eqD]
theorem eqv_toPs : ∀ ds es : List D, PyData.eqvAll (toPs ds) (toPs es) = eqDs ds es
  | [], es => by cases es <;> simp [toPs, PyData.eqvAll, eqDs]
  | d :: ds, [] => by simp [toPs, PyData.eqvAll, eqDs]
  | d :: ds, e :: es => by simp [toPs, PyData.eqvAll, eqDs, eqv_toP d e, eqv_toPs ds es]
end
mutual
theorem gd_lay : ∀ (n : Nat) (d : D), gd n d = true → (toP d).canLay0 = true ∧ (toP d).depth ≤ n
  | _, .non, _ => by simp [toP, PyData.canLay0, PyData.depth]
  | _, .bl _, _ => by simp [toP, PyData.canLay0, PyData.depth]
  | _, .int _, _ => by simp [toP, PyData.canLay0, PyData.depth]
  | _, .str x, h => by
    simp only [gd] at h
    simp only [toP, PyData.canLay0, PyData.depth, PyData.strOk]
    exact ⟨by simpa using h, Nat.zero_le _⟩
  | 0, .tup xs, h => by simp [gd] at h
  | n + 1, .tup xs, h => by
    simp only [gd] at h
    obtain ⟨a, b⟩ := gds_lay n xs h
    simp only [toP, PyData.canLay0, PyData.depth]
    exact ⟨a, by omega⟩
  | 0, .lst xs, h => by simp [gd] at h
  | n + 1, .lst xs, h => by
    simp only [gd] at h
    obtain ⟨a, b⟩ := gds_lay n xs h
    simp only [toP, PyData.canLay0, PyData.depth]
    exact ⟨a, by omega⟩
theorem gds_lay : ∀ (n : Nat) (ds : List D), gds n ds = true → PyData.canLayAll0 (toPs ds) = true ∧ PyData.depthAll (toPs ds) ≤ n
  | _, [], _ => by simp [toPs, PyData.canLayAll0, PyData.depthAll]
  | n, d :: ds, h => by
    simp only [gds, Bool.and_eq_true] at h
    obtain ⟨a, b⟩ := gd_lay n d h.1
    obtain ⟨a2, b2⟩ := gds_lay n ds h.2
    simp only [toPs, PyData.canLayAll0, PyData.depthAll, a, a2]
    exact ⟨rfl, by omega⟩
end
theorem gd_shaped {n : Nat} {d : D} (h : gd n d = true) (hn : n ≤ 64) : SeqAt.shaped (toP d) = true := by
  obtain ⟨a, b⟩ := gd_lay n d h
  unfold SeqAt.shaped
  rw [a, Bool.true_and]
  exact decide_eq_true (by omega)
mutual
theorem At.dp {K : Fg} {H : Hp} : ∀ {n : Nat} {d : D} {v : V}, gd n d = true → At K H d v → Dp K H v (toP d)
  | _, .non, _, _, h => by cases h; exact .non
  | _, .bl _, _, _, h => by cases h; exact .bl _
  | _, .int _, _, _, h => by cases h; exact .int _
  | _, .str _, _, _, h => by cases h; exact .str _
  | 0, .tup _, _, g, _ => by simp [gd] at g
  | 0, .lst _, _, g, _ => by simp [gd] at g
  | n + 1, .tup _, _, g, ⟨a, vs, h1, h2, h3⟩ => by subst h1; exact .tup h2 (AtL.dp (by simpa [gd] using g) h3)
  | n + 1, .lst _, _, g, ⟨a, vs, h1, h2, h3⟩ => by subst h1; exact .lst (SqL.of h2) (AtL.dp (by simpa [gd] using g) h3)
  | n, .dic _, _, g, _ => by simp [gd] at g
  | n, .set _, _, g, _ => by simp [gd] at g
theorem AtL.dp {K : Fg} {H : Hp} : ∀ {n : Nat} {ds : List D} {vs : List V}, gds n ds = true → AtL K H ds vs → DpAll K H vs (toPs ds)
  | _, [], _, _, h => by cases h; exact .nil
  | n, d :: ds, _, g, ⟨v, r, h1, h2, h3⟩ => by
    subst h1
    have g : (gd n d && gds n ds) = true := by simpa [gds] using g
    rw [Bool.and_eq_true] at g
    exact .cons (At.dp g.1 h2) (AtL.dp g.2 h3)
end
section
variable {K : Fg} {Hd H : Hp} {d : D} {v : V}
theorem OpnO.no {d : D} (n : ∀ t : Ct, t.c ≠ .lst → d ≠ t.data) (h : OpnO K Hd H d v) : False := by
  obtain ⟨t, a, vs, h1, h2, _⟩ := h
  exact n t h1 h2
theorem ct_ne {t : Ct} (h : t.c ≠ .lst) : (∃ xs, t.data = .dic xs) ∨ ∃ xs, t.data = .set xs := by
  obtain ⟨c, ds⟩ := t
  cases c with
  | lst => exact absurd rfl h
  | dic => exact .inl ⟨ds, rfl⟩
  | set => exact .inr ⟨ds, rfl⟩
theorem OpnO.cases (h : OpnO K Hd H d v) : (∃ xs, d = .dic xs) ∨ ∃ xs, d = .set xs := by
  obtain ⟨t, a, vs, h1, h2, _⟩ := h
  rw [h2]; exact ct_ne h1
theorem Opn.at' (n1 : ∀ xs, d ≠ .lst xs) (n2 : ∀ xs, d ≠ .dic xs) (n3 : ∀ xs, d ≠ .set xs) (h : Opn K Hd H d v) : At K Hd d v := by
  rcases h with h | ⟨ds, _, _, e, _⟩ | h
  · exact h
  · exact absurd e (n1 ds)
  · rcases h.cases with ⟨xs, e⟩ | ⟨xs, e⟩
    · exact absurd e (n2 xs)
    · exact absurd e (n3 xs)
theorem Opn.int {i : Int} (h : Opn K Hd H (.int i) v) : v = .int i := h.at' (fun _ z => by cases z) (fun _ z => by cases z) (fun _ z => by cases z)
theorem Opn.bl {i : Bool} (h : Opn K Hd H (.bl i) v) : v = .bl i := h.at' (fun _ z => by cases z) (fun _ z => by cases z) (fun _ z => by cases z)
theorem Opn.str {x : List Nat} (h : Opn K Hd H (.str x) v) : v = .str (toS x) := h.at' (fun _ z => by cases z) (fun _ z => by cases z) (fun _ z => by cases z)
theorem Opn.non (h : Opn K Hd H .non v) : v = .non := h.at' (fun _ z => by cases z) (fun _ z => by cases z) (fun _ z => by cases z)
theorem Opn.tup {ds : List D} (h : Opn K Hd H (.tup ds) v) : ∃ a vs, v = .ref a ∧ SqT K Hd a vs ∧ AtL K Hd ds vs := h.at' (fun _ z => by cases z) (fun _ z => by cases z) (fun _ z => by cases z)
theorem Opn.lst {ds : List D} (s : Same Hd H) (h : Opn K Hd H (.lst ds) v) : ∃ a vs, v = .ref a ∧ SqL K H a vs ∧ AtL K Hd ds vs := by
  rcases h with ⟨a, vs, h1, h2, h3⟩ | ⟨ds', a, vs, e, h1, h2, h3⟩ | h
  · exact ⟨a, vs, h1, SqL.of (s _ _ h2), h3⟩
  · cases e; exact ⟨a, vs, h1, h2, h3⟩
  · rcases h.cases with ⟨xs, e⟩ | ⟨xs, e⟩ <;> cases e
theorem OpnT.lst {ds : List D} (s : Same Hd H) (h : OpnT K Hd H (.lst ds) v) : ∃ a vs, v = .ref a ∧ H a = some (.lst vs) ∧ AtL K Hd ds vs := by
  rcases h with ⟨a, vs, h1, h2, h3⟩ | ⟨ds', a, vs, e, h1, h2, h3⟩ | h
  · exact ⟨a, vs, h1, s _ _ h2, h3⟩
  · cases e; exact ⟨a, vs, h1, h2, h3⟩
  · rcases h.cases with ⟨xs, e⟩ | ⟨xs, e⟩ <;> cases e
theorem OpnT.tup {ds : List D} (h : OpnT K Hd H (.tup ds) v) : At K Hd (.tup ds) v := h.opn.at' (fun _ z => by cases z) (fun _ z => by cases z) (fun _ z => by cases z)
/-- a dict, a set -/
theorem Opn.dic {ds : List D} (s : Same Hd H) (h : Opn K Hd H (.dic ds) v) : ∃ a vs, v = .ref a ∧ H a = some (dicO K.w a ds vs) ∧ AtL K Hd ds vs := by
  rcases h with ⟨a, vs, h1, h2, h3⟩ | ⟨ds', a, vs, e, h1, h2, h3⟩ | ⟨⟨c, es⟩, a, vs, n, e, h1, h2, h3⟩
  · exact ⟨a, vs, h1, s _ _ h2, h3⟩
  · cases e
  · cases c with
    | dic => cases e; exact ⟨a, vs, h1, h2, h3⟩
    | _ => cases e
theorem Opn.set {ds : List D} (s : Same Hd H) (h : Opn K Hd H (.set ds) v) : ∃ a vs, v = .ref a ∧ H a = some (.ext (SetV K.w a ds vs)) ∧ AtL K Hd ds vs := by
  rcases h with ⟨a, vs, h1, h2, h3⟩ | ⟨ds', a, vs, e, h1, h2, h3⟩ | ⟨⟨c, es⟩, a, vs, n, e, h1, h2, h3⟩
  · exact ⟨a, vs, h1, s _ _ h2, h3⟩
  · cases e
  · cases c with
    | set => cases e; exact ⟨a, vs, h1, h2, h3⟩
    | _ => cases e
theorem Opn.dp {n : Nat} (g : gd n d = true) (s : Same Hd H) (h : Opn K Hd H d v) : Dp K H v (toP d) := by
  rcases h with h | ⟨ds, a, vs, e, e2, h2, h3⟩ | h
  · exact (h.mono s).dp g
  · subst e e2
    cases n with
    | zero => simp [gd] at g
    | succ n => exact .lst h2 ((h3.mono s).dp (by simpa [gd] using g))
  · rcases h.cases with ⟨xs, rfl⟩ | ⟨xs, rfl⟩ <;> simp [gd] at g
end
/-- an operation by values keeps its mirror -/
def rOf (K : Fg) (f : D → D → FR) : R2 := fun x y H Q => ∃ Hd d e, Same Hd H ∧ Opn K Hd H d x ∧ Opn K Hd H e y ∧ FPost K Hd H Q (f d e)
def rOfT (K : Fg) (f : D → D → FR) : R2 := fun x y H Q => ∃ Hd d e, Same Hd H ∧ OpnT K Hd H d x ∧ OpnT K Hd H e y ∧ FPost K Hd H Q (f d e)
abbrev big : Nat := 16777216
theorem big_eq : sizeLine = big := sizeLine_eq
def fAdd : D → D → FR
  | .int i, .int j => .va (.int (i + j))
  | .str x, .str y => if x.length + y.length ≤ big then .va (.str (x ++ y)) else .no
  | .lst x, .lst y => if x.length + y.length ≤ big then .ow (x ++ y) else .no
  | .tup x, .tup y => if x.length + y.length ≤ big then .va (.tup (x ++ y)) else .no
  | _, _ => .no
def fSub : D → D → FR
  | .int i, .int j => .va (.int (i - j))
  | _, _ => .no
def fMul : D → D → FR
  | .int i, .int j => if (Builtin.Int.intBits i + Builtin.Int.intBits j ≤ 134217728) then .va (.int (i * j)) else .no
  | _, _ => .no
def fDiv : D → D → FR
  | .int i, .int j => if 0 < j ∧ Builtin.divisionGoesByPylong i j = false then .va (.int (i / j)) else .no
  | _, _ => .no
def fMod : D → D → FR
  | .int i, .int j => if 0 < j then .va (.int (i % j)) else .no
  | _, _ => .no
def fPow : D → D → FR
  | .int i, .int j => if 0 ≤ j ∧ j ≤ 1000000 ∧ i.natAbs < 2 ^ 64 then .va (.int (i ^ j.toNat)) else .no
  | _, _ => .no
section
variable {X : Cx} {f : D → D → FR}
theorem od_mk {fv : Value → Value → Sem Value} (h : ∀ pins s σ H x y v u Q Hd d e, Inv X pins σ H s → RelV x v → RelV y u → Same Hd H → Opn X.KW Hd H d x → Opn X.KW Hd H e y → FPost X.KW Hd H Q (f d e) →
    wpAny (model X.prog X.w) X.A (fv v u) (EP X pins σ Q) X.xe s) : OpR X fv (rOf X.KW f) := fun pins s σ H x y v u Q I rx ry ⟨Hd, d, e, s1, a, b, q⟩ => h pins s σ H x y v u Q Hd d e I rx ry s1 a b q
theorem odT_mk {fv : Value → Value → Sem Value} (h : ∀ pins s σ H x y v u Q Hd d e, Inv X pins σ H s → RelV x v → RelV y u → Same Hd H → OpnT X.KW Hd H d x → OpnT X.KW Hd H e y → FPost X.KW Hd H Q (f d e) →
    wpAny (model X.prog X.w) X.A (fv v u) (EP X pins σ Q) X.xe s) : OpR X fv (rOfT X.KW f) := fun pins s σ H x y v u Q I rx ry ⟨Hd, d, e, s1, a, b, q⟩ => h pins s σ H x y v u Q Hd d e I rx ry s1 a b q
theorem toS_len (x : List Nat) : (toS x).length = x.length := by simp [Str.length]
theorem toS_app (x y : List Nat) : toS x ++ toS y = toS (x ++ y) := congrArg Str.mk (show x.toArray ++ y.toArray = (x ++ y).toArray by simp)
theorem od_add : OpR X (binaryOp .Add) (rOfT X.KW fAdd) := odT_mk fun pins s σ H x y v u Q Hd d e I rx ry s1 a b q => by
  cases d with
  | int i =>
    cases e with
    | int j => exact op_add pins s σ H _ _ v u Q I rx ry ⟨i, j, a.opn.int, b.opn.int, q.int s1⟩
    | _ => exact q.elim
  | str i =>
    cases e with
    | str j =>
      simp only [fAdd] at q
      split at q
      · rename_i hz
        exact op_add_str pins s σ H _ _ v u Q I rx ry ⟨_, _, a.opn.str, b.opn.str, by rw [toS_len, toS_len, big_eq]; exact hz, by rw [toS_app]; exact q.str s1⟩
      · exact q.elim
    | _ => exact q.elim
  | lst i =>
    cases e with
    | lst j =>
      simp only [fAdd] at q
      split at q
      · rename_i hz
        obtain ⟨p, vs, e1, h1, t1⟩ := a.lst s1
        obtain ⟨p2, vs2, e2, h2, t2⟩ := b.lst s1
        exact op_cat pins s σ H _ _ v u Q I rx ry ⟨_, _, _, _, e1, e2, h1, h2, by rw [← t1.length, ← t2.length, big_eq]; exact hz, fun p hp => q.lst s1 hp (t1.append t2)⟩
      · exact q.elim
    | _ => exact q.elim
  | tup i =>
    cases e with
    | tup j =>
      simp only [fAdd] at q
      split at q
      · rename_i hz
        obtain ⟨p, vs, e1, h1, t1⟩ := a.tup
        obtain ⟨p2, vs2, e2, h2, t2⟩ := b.tup
        refine op_catA pins s σ H _ _ v u Q I rx ry ⟨_, _, _, _, e1, e2, Same.seqT s1 h1, Same.seqT s1 h2, by rw [← t1.length, ← t2.length, big_eq]; exact hz, fun z => ?_, fun _ z => ?_, fun _ _ p hp => q.tup s1 hp (t1.append t2)⟩
        · have z2 : i = [] := List.length_eq_zero_iff.mp (by rw [t1.length, z]; rfl)
          subst z2
          exact q.va s1 ⟨p2, vs2, rfl, h2, t2⟩
        · have z2 : j = [] := List.length_eq_zero_iff.mp (by rw [t2.length, z]; rfl)
          subst z2
          rw [List.append_nil] at q
          exact q.va s1 ⟨p, vs, rfl, h1, t1⟩
      · exact q.elim
    | _ => exact q.elim
  | _ => cases e <;> exact q.elim
theorem od_sub : OpR X (binaryOp .Sub) (rOf X.KW fSub) := od_mk fun pins s σ H x y v u Q Hd d e I rx ry s1 a b q => by
  cases d with
  | int i =>
    cases e with
    | int j => exact op_sub pins s σ H _ _ v u Q I rx ry ⟨i, j, a.int, b.int, q.int s1⟩
    | _ => exact q.elim
  | _ => cases e <;> exact q.elim
theorem od_mul : OpR X (binaryOp .Mult) (rOf X.KW fMul) := od_mk fun pins s σ H x y v u Q Hd d e I rx ry s1 a b q => by
  cases d with
  | int i =>
    cases e with
    | int j =>
      simp only [fMul] at q
      split at q
      · rename_i hz
        exact op_mulX pins s σ H _ _ v u Q I rx ry ⟨i, j, a.int, b.int, by unfold CMulX; omega, q.int s1⟩
      · exact q.elim
    | _ => exact q.elim
  | _ => cases e <;> exact q.elim
theorem op_fdivQ : OpR X (binaryOp .FloorDiv) (rI (fun i j => 0 < j ∧ Builtin.divisionGoesByPylong i j = false) fun i j => .int (i / j)) := opI fun i j _ _ _ _ _ hc q => by
  have h1 : (0 : Int) < j := hc.1
  exact floordiv_int (by omega) (by rw [Int.fdiv_eq_ediv_of_nonneg i (by omega)]; exact q) (.inl hc.2)
theorem od_div : OpR X (binaryOp .FloorDiv) (rOf X.KW fDiv) := od_mk fun pins s σ H x y v u Q Hd d e I rx ry s1 a b q => by
  cases d with
  | int i =>
    cases e with
    | int j =>
      simp only [fDiv] at q
      split at q
      · rename_i hz
        exact op_fdivQ pins s σ H _ _ v u Q I rx ry ⟨i, j, a.int, b.int, hz, q.int s1⟩
      · exact q.elim
    | _ => exact q.elim
  | _ => cases e <;> exact q.elim
theorem od_mod : OpR X (binaryOp .Mod) (rOf X.KW fMod) := od_mk fun pins s σ H x y v u Q Hd d e I rx ry s1 a b q => by
  cases d with
  | int i =>
    cases e with
    | int j =>
      simp only [fMod] at q
      split at q
      · rename_i hz
        exact op_mod pins s σ H _ _ v u Q I rx ry ⟨i, j, a.int, b.int, hz, q.int s1⟩
      · exact q.elim
    | _ => exact q.elim
  | _ => cases e <;> exact q.elim
theorem od_pow : OpR X (binaryOp .Pow) (rOf X.KW fPow) := od_mk fun pins s σ H x y v u Q Hd d e I rx ry s1 a b q => by
  cases d with
  | int i =>
    cases e with
    | int j =>
      simp only [fPow] at q
      split at q
      · rename_i hz
        exact op_pow pins s σ H _ _ v u Q I rx ry ⟨i, j, a.int, b.int, hz, q.int s1⟩
      · exact q.elim
    | _ => exact q.elim
  | _ => cases e <;> exact q.elim
end

/-! ### comparisons -/
def scalD : D → D → Bool
  | .non, .non | .non, .bl _ | .non, .int _ | .non, .str _ | .bl _, .non | .bl _, .bl _ | .bl _, .str _ | .int _, .non | .int _, .int _ | .int _, .str _
  | .str _, .non | .str _, .bl _ | .str _, .int _ | .str _, .str _ => true
  | _, _ => false
def okE (d e : D) : Bool := scalD d e || (gd 60 d && gd 60 e)
def fEq (d e : D) : FR := if okE d e then .va (.bl (eqD d e)) else .no
def fNe (d e : D) : FR := if okE d e then .va (.bl (!eqD d e)) else .no
def fLt : D → D → FR
  | .int i, .int j => .va (.bl (decide (i < j)))
  | .str x, .str y => .va (.bl (decide (x < y)))
  | _, _ => .no
def fLe : D → D → FR
  | .int i, .int j => .va (.bl (decide (i ≤ j)))
  | .str x, .str y => .va (.bl (!decide (y < x)))
  | _, _ => .no
def fGt : D → D → FR
  | .int i, .int j => .va (.bl (decide (j < i)))
  | .str x, .str y => .va (.bl (decide (y < x)))
  | _, _ => .no
def fGe : D → D → FR
  | .int i, .int j => .va (.bl (decide (j ≤ i)))
  | .str x, .str y => .va (.bl (!decide (x < y)))
  | _, _ => .no
def isN : D → Bool
  | .non => true
  | _ => false
def fIs : D → D → FR
  | d, .non => .va (.bl (isN d))
  | _, _ => .no
def fIsNot : D → D → FR
  | d, .non => .va (.bl (!isN d))
  | _, _ => .no
/-- x in xs: one sign in a text; anything in a list -/
def fIn : D → D → FR
  | .str x, .str z => match x with
    | [c] => .va (.bl (decide (c ∈ z)))
    | _ => .no
  | d, .lst ds => if gd 60 d && gds 60 ds then .va (.bl (ds.any fun z => eqD z d)) else .no
  | _, _ => .no
def fNotIn : D → D → FR
  | .str x, .str z => match x with
    | [c] => .va (.bl (!decide (c ∈ z)))
    | _ => .no
  | d, .lst ds => if gd 60 d && gds 60 ds then .va (.bl (!ds.any fun z => eqD z d)) else .no
  | _, _ => .no
theorem any_toPs (d : D) : ∀ ds : List D, (toPs ds).any (fun z => PyData.eqv z (toP d)) = ds.any fun z => eqD z d
  | [] => by simp [toPs]
  | e :: es => by simp [toPs, any_toPs d es, eqv_toP]
section
variable {X : Cx}
theorem od_eq {k : Nat} (hr : Room k X.A) : OpR X (compareOp .Eq) (rOf X.KW fEq) := od_mk fun pins s σ H x y v u Q Hd d e I rx ry s1 a b q => by
  unfold fEq at q
  split at q
  · rename_i hz
    unfold okE at hz
    rw [Bool.or_eq_true] at hz
    rcases hz with hz | hz
    · refine op_eq pins s σ H _ _ v u Q I rx ry ?_
      cases d <;> cases e <;> first
        | exact absurd hz Bool.false_ne_true
        | (first
            | (obtain rfl := a.non) | (obtain rfl := a.bl) | (obtain rfl := a.int) | (obtain rfl := a.str)
           first
            | (obtain rfl := b.non) | (obtain rfl := b.bl) | (obtain rfl := b.int) | (obtain rfl := b.str)
           refine ⟨rfl, ?_⟩
           have z := q.bl s1
           simpa [eqD, toS_inj, Bool.beq_eq_decide_eq] using z)
    · rw [Bool.and_eq_true] at hz
      have z := q.bl s1
      rw [← eqv_toP] at z
      exact op_eqD hr.units pins s σ H _ _ v u Q I rx ry ⟨_, _, a.dp hz.1 s1, b.dp hz.2 s1, gd_shaped hz.1 (by decide), gd_shaped hz.2 (by decide), z⟩
  · exact q.elim
theorem od_ne {k : Nat} (hr : Room k X.A) : OpR X (compareOp .NotEq) (rOf X.KW fNe) := od_mk fun pins s σ H x y v u Q Hd d e I rx ry s1 a b q => by
  unfold fNe at q
  split at q
  · rename_i hz
    unfold okE at hz
    rw [Bool.or_eq_true] at hz
    rcases hz with hz | hz
    · refine op_ne pins s σ H _ _ v u Q I rx ry ?_
      cases d <;> cases e <;> first
        | exact absurd hz Bool.false_ne_true
        | (first
            | (obtain rfl := a.non) | (obtain rfl := a.bl) | (obtain rfl := a.int) | (obtain rfl := a.str)
           first
            | (obtain rfl := b.non) | (obtain rfl := b.bl) | (obtain rfl := b.int) | (obtain rfl := b.str)
           refine ⟨rfl, ?_⟩
           have z := q.bl s1
           simpa [eqD, toS_inj, Bool.beq_eq_decide_eq] using z)
    · rw [Bool.and_eq_true] at hz
      have z := q.bl s1
      rw [← eqv_toP] at z
      exact op_neD hr.units pins s σ H _ _ v u Q I rx ry ⟨_, _, a.dp hz.1 s1, b.dp hz.2 s1, gd_shaped hz.1 (by decide), gd_shaped hz.2 (by decide), z⟩
  · exact q.elim
theorem od_lt : OpR X (compareOp .Lt) (rOf X.KW fLt) := od_mk fun pins s σ H x y v u Q Hd d e I rx ry s1 a b q => by
  cases d <;> cases e <;> first
    | exact q.elim
    | exact op_lt pins s σ H _ _ v u Q I rx ry ⟨_, _, a.int, b.int, q.bl s1⟩
    | exact op_lt_str pins s σ H _ _ v u Q I rx ry ⟨_, _, a.str, b.str, by simpa using q.bl s1⟩
theorem od_le : OpR X (compareOp .LtE) (rOf X.KW fLe) := od_mk fun pins s σ H x y v u Q Hd d e I rx ry s1 a b q => by
  cases d <;> cases e <;> first
    | exact q.elim
    | exact op_le pins s σ H _ _ v u Q I rx ry ⟨_, _, a.int, b.int, q.bl s1⟩
    | exact op_le_str pins s σ H _ _ v u Q I rx ry ⟨_, _, a.str, b.str, by simpa using q.bl s1⟩
theorem od_gt : OpR X (compareOp .Gt) (rOf X.KW fGt) := od_mk fun pins s σ H x y v u Q Hd d e I rx ry s1 a b q => by
  cases d <;> cases e <;> first
    | exact q.elim
    | exact op_gt pins s σ H _ _ v u Q I rx ry ⟨_, _, a.int, b.int, q.bl s1⟩
    | exact op_gt_str pins s σ H _ _ v u Q I rx ry ⟨_, _, a.str, b.str, by simpa using q.bl s1⟩
theorem od_ge : OpR X (compareOp .GtE) (rOf X.KW fGe) := od_mk fun pins s σ H x y v u Q Hd d e I rx ry s1 a b q => by
  cases d <;> cases e <;> first
    | exact q.elim
    | exact op_ge pins s σ H _ _ v u Q I rx ry ⟨_, _, a.int, b.int, q.bl s1⟩
    | exact op_ge_str pins s σ H _ _ v u Q I rx ry ⟨_, _, a.str, b.str, by simpa using q.bl s1⟩
theorem Opn.isN {K : Fg} {Hd H : Hp} {d : D} {v : V} (h : Opn K Hd H d v) : decide (v = .non) = isN d := by
  rcases h with h | ⟨_, _, _, rfl, rfl, _⟩ | h
  · cases d with
    | non => cases h; rfl
    | bl _ => cases h; rfl
    | int _ => cases h; rfl
    | str _ => cases h; rfl
    | tup _ => obtain ⟨_, _, rfl, _⟩ := h; rfl
    | lst _ => obtain ⟨_, _, rfl, _⟩ := h; rfl
    | dic _ => obtain ⟨_, _, rfl, _⟩ := h; rfl
    | set _ => obtain ⟨_, _, rfl, _⟩ := h; rfl
  · rfl
  · have e := h.cases
    obtain ⟨t, a, vs, h1, h2, rfl, _⟩ := h
    rcases e with ⟨xs, rfl⟩ | ⟨xs, rfl⟩ <;> rfl
theorem od_is : OpR X (compareOp .Is) (rOf X.KW fIs) := od_mk fun pins s σ H x y v u Q Hd d e I rx ry s1 a b q => by
  cases e with
  | non =>
    have q' : FPost X.KW Hd H Q (.va (.bl (isN d))) := by cases d <;> exact q
    exact op_isN pins s σ H _ _ v u Q I rx ry ⟨b.non, by rw [a.isN]; exact q'.bl s1⟩
  | _ => cases d <;> exact q.elim
theorem od_in {k : Nat} (hr : Room k X.A) : OpR X (compareOp .In) (rOf X.KW fIn) := od_mk fun pins s σ H x y v u Q Hd d e I rx ry s1 a b q => by
  have hu : X.A.units + 65 < cLine := by have := hr.un; omega
  cases e with
  | str z =>
    cases d with
    | str w =>
      match w, a, q with
      | [c], a, q => exact op_in_sign pins s σ H _ _ v u Q I rx ry ⟨c, _, a.str, b.str, by simpa using q.bl s1⟩
      | [], _, q => exact q.elim
      | _ :: _ :: _, _, q => exact q.elim
    | _ => exact q.elim
  | lst ds =>
    have q' : FPost X.KW Hd H Q (if gd 60 d && gds 60 ds then .va (.bl (ds.any fun z => eqD z d)) else .no) := by cases d <;> exact q
    split at q'
    · rename_i hz
      rw [Bool.and_eq_true] at hz
      have z := q'.bl s1
      rw [← any_toPs] at z
      have g : gd 61 (.lst ds) = true := hz.2
      exact op_inD hu pins s σ H _ _ v u Q I rx ry ⟨toP d, toPs ds, a.dp hz.1 s1, b.dp (d := .lst ds) g s1, gd_shaped hz.1 (by decide), gd_shaped (d := .lst ds) g (by decide), z⟩
    · exact q'.elim
  | _ => cases d <;> exact q.elim
theorem od_notin {k : Nat} (hr : Room k X.A) : OpR X (compareOp .NotIn) (rOf X.KW fNotIn) := od_mk fun pins s σ H x y v u Q Hd d e I rx ry s1 a b q => by
  have hu : X.A.units + 65 < cLine := by have := hr.un; omega
  cases e with
  | str z =>
    cases d with
    | str w =>
      match w, a, q with
      | [c], a, q => exact op_notIn_sign pins s σ H _ _ v u Q I rx ry ⟨c, _, a.str, b.str, by simpa using q.bl s1⟩
      | [], _, q => exact q.elim
      | _ :: _ :: _, _, q => exact q.elim
    | _ => exact q.elim
  | lst ds =>
    have q' : FPost X.KW Hd H Q (if gd 60 d && gds 60 ds then .va (.bl (!ds.any fun z => eqD z d)) else .no) := by cases d <;> exact q
    split at q'
    · rename_i hz
      rw [Bool.and_eq_true] at hz
      have z := q'.bl s1
      rw [← any_toPs] at z
      have g : gd 61 (.lst ds) = true := hz.2
      exact op_notInD hu pins s σ H _ _ v u Q I rx ry ⟨toP d, toPs ds, a.dp hz.1 s1, b.dp (d := .lst ds) g s1, gd_shaped hz.1 (by decide), gd_shaped (d := .lst ds) g (by decide), z⟩
    · exact q'.elim
  | _ => cases d <;> exact q.elim
end
end Mir

set_option Elab.async false
set_option linter.all false
set_option maxRecDepth 100000
set_option maxHeartbeats 4000000
namespace Mir
open PySem PySem.Spec PyProof.Rows L2

section
variable {X : Cx} {XR : XRel} {W : WX} {a b c : Expr} {ma mb mc : EM} {pos : Pos}
/-! ### names, constants -/
def mVar (i : Nat) : EM := fun Γ => match Γ[i]? with
  | some (.va d) => .ok (.va d) Γ
  | some (.owc _) => .ok (.bo i) Γ
  | some (.bwc _) => .ok (.bo i) Γ
  | some (.sc _) => .ok (.bo i) Γ
  | _ => .no
def mC (d : D) : EM := fun Γ => .ok (.va d) Γ
theorem me_var {i : Nat} {x : Str} (h : PE X (.Name x pos) (tVar i)) : ME X XR W (.Name x pos) (mVar i) := h.imp fun σ H Q ⟨O, Γ, R, P⟩ => by
  unfold mVar at P
  cases e : Γ[i]? with
  | none => rw [e] at P; exact P.elim
  | some s =>
    rw [e] at P
    obtain ⟨o, e2, q⟩ := R.sl i s e
    cases s with
    | no => exact P.elim
    | va d => obtain ⟨v, e3, q⟩ := q; subst e3; exact ⟨v, e2, P H O R EStp.refl v q⟩
    | owc ds =>
      obtain ⟨a, vs, e3, _⟩ := q
      subst e3
      exact ⟨.ref a, e2, P H O R EStp.refl (.ref a) ⟨e2, .inl ⟨ds, e⟩⟩⟩
    | sc ns =>
      obtain ⟨a, e3, _⟩ := q
      subst e3
      exact ⟨.ref a, e2, P H O R EStp.refl (.ref a) ⟨e2, .inr (.inl ⟨ns, e⟩)⟩⟩
    | bwc ds =>
      obtain ⟨a, vs, e3, _⟩ := q
      subst e3
      exact ⟨.ref a, e2, P H O R EStp.refl (.ref a) ⟨e2, .inr (.inr ⟨ds, e⟩)⟩⟩
theorem me_const {v : V} {d : D} {e : Expr} (h : PE X e (tC v)) (k : ∀ H, At X.KW H d v) : ME X XR W e (mC d) := h.imp fun σ H Q ⟨O, Γ, R, P⟩ => P H O R EStp.refl v (k _)
theorem me_int {i : Int} {j} : ME X XR W (.Constant (.int i) j pos) (mC (.int i)) := me_const pe_int fun _ => rfl
theorem me_bl {i : Bool} {j} : ME X XR W (.Constant (.bool i) j pos) (mC (.bl i)) := me_const pe_bl fun _ => rfl
theorem me_non {j} : ME X XR W (.Constant .none j pos) (mC .non) := me_const pe_non fun _ => rfl
theorem me_str {x : Str} {j} (l : List Nat) (h : x = toS l := by decide +kernel) : ME X XR W (.Constant (.str x) j pos) (mC (.str l)) := me_const pe_str fun _ => by rw [h]; exact rfl

/-! ### operations -/
def op2 (f : D → D → FR) (Γ : List Sl) (ra rb : RV) : Rs RV := match peek Γ ra, peek Γ rb with
  | some d, some e => (f d e).res Γ
  | _, _ => .no
def op2T (f : D → D → FR) (Γ : List Sl) (ra rb : RV) : Rs RV := match peekT Γ ra, peekT Γ rb with
  | some d, some e => (f d e).res Γ
  | _, _ => .no
def mBin (f : D → D → FR) (ma mb : EM) : EM := fun Γ => (ma Γ).bind fun ra Γ1 => (mb Γ1).bind fun rb Γ2 => op2 f Γ2 ra rb
def mBinT (f : D → D → FR) (ma mb : EM) : EM := fun Γ => (ma Γ).bind fun ra Γ1 => (mb Γ1).bind fun rb Γ2 => op2T f Γ2 ra rb
theorem none_back {Γ Γ' : List Sl} {σ σ' : L2.St} {H H' : Hp} {O O' : List Addr} (S : Stp Γ σ H O Γ' σ' H' O') : ∀ b, H' b = none → H b = none := fun b h => by
  cases e : H b with
  | none => rfl
  | some o => exact absurd h (S.stay b (by rw [e]; exact fun z => nomatch z))
theorem RvAt.older {K : Fg} {O : List Addr} {σ : L2.St} {Γ : List Sl} {H H0 H1 : Hp} {r : RV} {v : V} (k : ∀ b, H1 b = none → H0 b = none) (h : RvAt K O σ Γ H H1 r v) : RvAt K O σ Γ H H0 r v := by
  cases r with
  | va d => exact h
  | owc ds => obtain ⟨a, vs, e, n, z, q⟩ := h; exact ⟨a, vs, e, n, k a z, q⟩
  | bo i => exact h
theorem bin_tE {K : Fg} {f : D → D → FR} {σ : L2.St} {H : Hp} {Q : VK} (h : tE K XR W (mBin f ma mb) σ H Q) : tOp (rOf K f) (tE K XR W ma) (tE K XR W mb) σ H Q := by
  obtain ⟨O, Γ, R, P⟩ := h
  refine ⟨O, Γ, R, (P.bind R).imp fun ra Γ1 H1 O1 R1 S1 P1 v hv => ⟨O1, Γ1, R1, (P1.bind R1).imp fun rb Γ2 H2 O2 R2 S2 P2 u hu => ?_⟩⟩
  unfold op2 at P2
  cases e1 : peek Γ2 ra with
  | none => rw [e1] at P2; exact P2.elim
  | some d =>
    cases e2 : peek Γ2 rb with
    | none => rw [e1, e2] at P2; exact P2.elim
    | some e =>
      rw [e1, e2] at P2
      exact ⟨off O2 H2, d, e, off_le, hv.opn R1 S2 R2 e1, hu.opn R2 EStp.refl R2 e2, FPost.of R2 (fun b z => none_back S1.toStp b (none_back S2.toStp b z)) P2⟩
theorem binT_tE {K : Fg} {f : D → D → FR} {σ : L2.St} {H : Hp} {Q : VK} (h : tE K XR W (mBinT f ma mb) σ H Q) : tOp (rOfT K f) (tE K XR W ma) (tE K XR W mb) σ H Q := by
  obtain ⟨O, Γ, R, P⟩ := h
  refine ⟨O, Γ, R, (P.bind R).imp fun ra Γ1 H1 O1 R1 S1 P1 v hv => ⟨O1, Γ1, R1, (P1.bind R1).imp fun rb Γ2 H2 O2 R2 S2 P2 u hu => ?_⟩⟩
  unfold op2T at P2
  cases e1 : peekT Γ2 ra with
  | none => rw [e1] at P2; exact P2.elim
  | some d =>
    cases e2 : peekT Γ2 rb with
    | none => rw [e1, e2] at P2; exact P2.elim
    | some e =>
      rw [e1, e2] at P2
      exact ⟨off O2 H2, d, e, off_le, hv.opnT R1 S2 R2 e1, hu.opnT R2 EStp.refl R2 e2, FPost.of R2 (fun b z => none_back S1.toStp b (none_back S2.toStp b z)) P2⟩
theorem me_bin {op : Operator} {f : D → D → FR} (ho : OpR X (binaryOp op) (rOf X.KW f)) (ha : ME X XR W a ma) (hb : ME X XR W b mb) : ME X XR W (.BinOp a op b pos) (mBin f ma mb) :=
  (pe_op ho ha hb).imp fun σ H Q h => bin_tE h
theorem me_binT {op : Operator} {f : D → D → FR} (ho : OpR X (binaryOp op) (rOfT X.KW f)) (ha : ME X XR W a ma) (hb : ME X XR W b mb) : ME X XR W (.BinOp a op b pos) (mBinT f ma mb) :=
  (pe_op ho ha hb).imp fun σ H Q h => binT_tE h
theorem me_cmp {op : CmpOp} {f : D → D → FR} (ho : OpR X (compareOp op) (rOf X.KW f)) (ha : ME X XR W a ma) (hb : ME X XR W b mb) (hm : behindInMarks op b = false) : ME X XR W (.Compare a [op] [b] pos) (mBin f ma mb) :=
  (pe_cmpR ho ha hb hm).imp fun σ H Q h => bin_tE h
/-- an expression as a test -/
def mTE (m : EM) : List Sl → Rs Bool := fun Γ => (m Γ).bind fun r Γ1 => match r with
  | .va (.bl b) => .ok b Γ1
  | _ => .no
theorem test_tE {K : Fg} {m : EM} {σ : L2.St} {H : Hp} {Q : Bool → Hp → Prop} (h : tT K XR W (mTE m) σ H Q) : tE K XR W m σ H fun x H' => ∃ k, x = .bl k ∧ Q k H' := by
  obtain ⟨O, Γ, R, P⟩ := h
  refine ⟨O, Γ, R, (P.bind R).imp fun r Γ1 H1 O1 R1 S1 P1 v hv => ?_⟩
  cases r with
  | va d =>
    cases d with
    | bl k => exact ⟨k, hv, P1 H1 O1 R1 EStp.refl⟩
    | _ => exact P1.elim
  | _ => exact P1.elim
theorem mt_cmp {op : CmpOp} {f : D → D → FR} (ho : OpR X (compareOp op) (rOf X.KW f)) (ha : ME X XR W a ma) (hb : ME X XR W b mb) (hm : behindInMarks op b = false) : MT X XR W (.Compare a [op] [b] pos) (mTE (mBin f ma mb)) :=
  (pt_cmpR ho ha hb hm).imp fun σ H Q h => bin_tE (test_tE h)
theorem mt_val {e : Expr} {m : EM} (h : ME X XR W e m) (he : ∀ whole, isTrue e X.env whole = (do let v ← whole; standAt e.pos; holding [v] (truthy v)) := by intro _; rfl) : MT X XR W e (mTE m) :=
  (pt_val h he).imp fun σ H Q h => test_tE h
/-- a chain of two comparisons -/
def mChain (f g : D → D → FR) (ma mb mc : EM) : EM := fun Γ => (ma Γ).bind fun ra Γ1 => (mb Γ1).bind fun rb Γ2 => (op2 f Γ2 ra rb).bind fun z Γ3 => match z with
  | .va (.bl true) => (mc Γ3).bind fun rc Γ4 => op2 g Γ4 rb rc
  | .va (.bl false) => .ok (.va (.bl false)) Γ3
  | _ => .no
theorem chain_tE {K : Fg} {f g : D → D → FR} {σ : L2.St} {H : Hp} {Q : VK} (h : tE K XR W (mChain f g ma mb mc) σ H Q) : tChain (rOf K f) (rOf K g) (tE K XR W ma) (tE K XR W mb) (tE K XR W mc) σ H Q := by
  obtain ⟨O, Γ, R, P⟩ := h
  refine ⟨O, Γ, R, (P.bind R).imp fun ra Γ1 H1 O1 R1 S1 P1 v hv => ⟨O1, Γ1, R1, (P1.bind R1).imp fun rb Γ2 H2 O2 R2 S2 P2 u hu => ?_⟩⟩
  have P3 := P2.bind R2
  unfold op2 at P3
  cases e1 : peek Γ2 ra with
  | none => rw [e1] at P3; exact P3.elim
  | some d =>
    cases e2 : peek Γ2 rb with
    | none => rw [e1, e2] at P3; exact P3.elim
    | some e =>
      rw [e1, e2] at P3
      refine ⟨off O2 H2, d, e, off_le, hv.opn R1 S2 R2 e1, hu.opn R2 EStp.refl R2 e2, FPost.of (XR := XR) (W := W) (Γ := Γ2) (σ := σ) (H0 := H2) R2 (fun b z => z) (P3.imp fun z Γ3 H3 O3 R3 S3 P4 zv hz => ?_)⟩
      cases z with
      | va z =>
        cases z with
        | bl k =>
          cases k with
          | true =>
            refine ⟨true, hz, iteT ⟨O3, Γ3, R3, (P4.bind R3).imp fun rc Γ4 H4 O4 R4 S4 P5 w hw => ?_⟩⟩
            unfold op2 at P5
            cases e3 : peek Γ4 rb with
            | none => rw [e3] at P5; exact P5.elim
            | some d3 =>
              cases e4 : peek Γ4 rc with
              | none => rw [e3, e4] at P5; exact P5.elim
              | some e5 =>
                rw [e3, e4] at P5
                exact ⟨off O4 H4, d3, e5, off_le, hu.opn R2 (S3.trans R2 S4) R4 e3, hw.opn R4 EStp.refl R4 e4, FPost.of R4 (fun b z => none_back S1.toStp b (none_back S2.toStp b (none_back S3.toStp b (none_back S4.toStp b z)))) P5⟩
          | false => exact ⟨false, hz, iteF (P4 H3 O3 R3 EStp.refl (.bl false) rfl)⟩
        | _ => exact P4.elim
      | _ => exact P4.elim
theorem me_chain {op op' : CmpOp} {f g : D → D → FR} (ho : OpR X (compareOp op) (rOf X.KW f)) (ho' : OpR X (compareOp op') (rOf X.KW g)) (ha : ME X XR W a ma) (hb : ME X XR W b mb) (hc : ME X XR W c mc)
    (hm : lastMarks [op, op'] [b, c] = false := by with_unfolding_all rfl) : ME X XR W (.Compare a [op, op'] [b, c] pos) (mChain f g ma mb mc) := (pe_chain ho ho' ha hb hc hm).imp fun σ H Q h => chain_tE h
/-- -a of an int, not a of a bool -/
def mNeg (ma : EM) : EM := fun Γ => (ma Γ).bind fun r Γ1 => match r with
  | .va (.int i) => .ok (.va (.int (-i))) Γ1
  | _ => .no
def mNotV (ma : EM) : EM := fun Γ => (ma Γ).bind fun r Γ1 => match r with
  | .va (.bl k) => .ok (.va (.bl (!k))) Γ1
  | _ => .no
/-! ### and, or, not, if .. else -/
variable {ta tb : List Sl → Rs Bool} {rest : List Expr}
def tNotM (t : List Sl → Rs Bool) : List Sl → Rs Bool := fun Γ => (t Γ).bind fun c Γ1 => .ok (!c) Γ1
def tAndM (t u : List Sl → Rs Bool) : List Sl → Rs Bool := fun Γ => (t Γ).bind fun c Γ1 => if c = true then u Γ1 else .ok false Γ1
def tOrM (t u : List Sl → Rs Bool) : List Sl → Rs Bool := fun Γ => (t Γ).bind fun c Γ1 => if c = true then .ok true Γ1 else u Γ1
def MW (X : Cx) (XR : XRel) (W : WX) (e : Expr) (m : List Sl → Rs Bool) : Prop := PW X e (tT X.KW XR W m)
theorem _root_.L2.PW.imp {X : Cx} {e : Expr} {t t' : TT} (h : PW X e t) (k : ∀ σ H Q, t' σ H Q → t σ H Q) : PW X e t' := ⟨fun wh pins s σ H Q I q => h.run wh pins s σ H Q I (k σ H Q q)⟩
theorem MW.mt {e : Expr} {m : List Sl → Rs Bool} (h : MW X XR W e m) : MT X XR W e m := PW.pt h
theorem mt_not (ha : MT X XR W a ta) : MT X XR W (.UnaryOp .Not a pos) (tNotM ta) := (pt_not ha).imp fun σ H Q ⟨O, Γ, R, P⟩ =>
  ⟨O, Γ, R, (P.bind R).imp fun k Γ1 H1 O1 R1 S1 P1 => P1 H1 O1 R1 EStp.refl⟩
theorem mw_and1 (ha : MT X XR W a ta) : MW X XR W (.BoolOp .And [a] pos) ta := pw_and1 ha
theorem mw_or1 (ha : MT X XR W a ta) : MW X XR W (.BoolOp .Or [a] pos) ta := pw_or1 ha
theorem mw_and (ha : MT X XR W a ta) (hb : MW X XR W (.BoolOp .And (b :: rest) pos) tb) : MW X XR W (.BoolOp .And (a :: b :: rest) pos) (tAndM ta tb) := (pw_and ha hb).imp fun σ H Q ⟨O, Γ, R, P⟩ => by
  refine ⟨O, Γ, R, (P.bind R).imp fun k Γ1 H1 O1 R1 S1 P1 => ?_⟩
  cases k with
  | true => exact iteT ⟨O1, Γ1, R1, P1⟩
  | false => exact iteF (P1 H1 O1 R1 EStp.refl)
theorem mw_or (ha : MT X XR W a ta) (hb : MW X XR W (.BoolOp .Or (b :: rest) pos) tb) : MW X XR W (.BoolOp .Or (a :: b :: rest) pos) (tOrM ta tb) := (pw_or ha hb).imp fun σ H Q ⟨O, Γ, R, P⟩ => by
  refine ⟨O, Γ, R, (P.bind R).imp fun k Γ1 H1 O1 R1 S1 P1 => ?_⟩
  cases k with
  | true => exact iteT (P1 H1 O1 R1 EStp.refl)
  | false => exact iteF ⟨O1, Γ1, R1, P1⟩
/-- .. as values -/
def mAndV (ma mb : EM) : EM := fun Γ => (ma Γ).bind fun r Γ1 => match r with
  | .va (.bl true) => mb Γ1
  | .va (.bl false) => .ok (.va (.bl false)) Γ1
  | _ => .no
def mOrV (ma mb : EM) : EM := fun Γ => (ma Γ).bind fun r Γ1 => match r with
  | .va (.bl true) => .ok (.va (.bl true)) Γ1
  | .va (.bl false) => mb Γ1
  | _ => .no
theorem Post.ofr {K : Fg} {σ : L2.St} {Γ Γ1 : List Sl} {H H1 : Hp} {O O1 : List Addr} {Q : VK} {x : Rs RV} (S1 : EStp Γ σ H O Γ1 H1 O1)
    (h : Post K XR W σ Γ1 H1 O1 (fun r Γ' H' O' => ∀ v, RvAt K O' σ Γ' H' H r v → Q v H') x) : Post K XR W σ Γ1 H1 O1 (fun r Γ' H' O' => ∀ v, RvAt K O' σ Γ' H' H1 r v → Q v H') x :=
  h.imp fun r Γ' H' O' R' S' q v hv => q v (hv.older (none_back S1.toStp))
theorem me_one {op} (h : ME X XR W a ma) : ME X XR W (.BoolOp op [a] pos) ma := pe_one h
theorem me_and (ha : ME X XR W a ma) (hb : ME X XR W (.BoolOp .And (b :: rest) pos) mb) : ME X XR W (.BoolOp .And (a :: b :: rest) pos) (mAndV ma mb) := (pe_and ha hb).imp fun σ H Q ⟨O, Γ, R, P⟩ => by
  refine ⟨O, Γ, R, (P.bind R).imp fun r Γ1 H1 O1 R1 S1 P1 v hv => ?_⟩
  cases r with
  | va d =>
    cases d with
    | bl k =>
      cases k with
      | true => exact ⟨true, hv, iteT ⟨O1, Γ1, R1, Post.ofr S1 P1⟩⟩
      | false => exact ⟨false, hv, iteF (P1 H1 O1 R1 EStp.refl _ rfl)⟩
    | _ => exact P1.elim
  | _ => exact P1.elim
theorem me_or (ha : ME X XR W a ma) (hb : ME X XR W (.BoolOp .Or (b :: rest) pos) mb) : ME X XR W (.BoolOp .Or (a :: b :: rest) pos) (mOrV ma mb) := (pe_or ha hb).imp fun σ H Q ⟨O, Γ, R, P⟩ => by
  refine ⟨O, Γ, R, (P.bind R).imp fun r Γ1 H1 O1 R1 S1 P1 v hv => ?_⟩
  cases r with
  | va d =>
    cases d with
    | bl k =>
      cases k with
      | false => exact ⟨false, hv, iteF ⟨O1, Γ1, R1, Post.ofr S1 P1⟩⟩
      | true => exact ⟨true, hv, iteT (P1 H1 O1 R1 EStp.refl _ rfl)⟩
    | _ => exact P1.elim
  | _ => exact P1.elim
def mIf (t : List Sl → Rs Bool) (ma mb : EM) : EM := fun Γ => (t Γ).bind fun c Γ1 => if c = true then ma Γ1 else mb Γ1
theorem me_if (hc : MT X XR W c ta) (ha : ME X XR W a ma) (hb : ME X XR W b mb) : ME X XR W (.IfExp c a b pos) (mIf ta ma mb) := (pe_ifExp hc ha hb).imp fun σ H Q ⟨O, Γ, R, P⟩ => by
  refine ⟨O, Γ, R, (P.bind R).imp fun k Γ1 H1 O1 R1 S1 P1 => ?_⟩
  cases k with
  | true => exact iteT ⟨O1, Γ1, R1, Post.ofr S1 P1⟩
  | false => exact iteF ⟨O1, Γ1, R1, Post.ofr S1 P1⟩
/-- the truth of any data -/
def truD : D → Option Bool
  | .non => some false
  | .bl b => some b
  | .int i => some (i != 0)
  | .str x => if x.length ≤ big then some (!x.isEmpty) else none
  | .tup xs => some (!xs.isEmpty)
  | .lst xs => some (!xs.isEmpty)
  | .dic _ => none
  | .set _ => none
def mTru (m : EM) : List Sl → Rs Bool := fun Γ => (m Γ).bind fun r Γ1 => match (peek Γ1 r).bind truD with
  | some b => .ok b Γ1
  | none => .no
/-! ### arguments -/
def mNil : AM := fun Γ => .ok [] Γ
def mCons (m : EM) (ms : AM) : AM := fun Γ => (m Γ).bind fun r Γ1 => (ms Γ1).bind fun rs Γ2 => .ok (r :: rs) Γ2
theorem ma_nil : MA X XR W [] mNil := pa_nil.imp fun σ H Q ⟨O, Γ, R, P⟩ => P H O R EStp.refl [] rfl
theorem ma_cons {es : List Expr} {ms : AM} (ha : ME X XR W a ma) (hr : MA X XR W es ms) (hs : starEach (a :: es) X.env = (false, eval a X.env) :: starEach es X.env := by rfl) : MA X XR W (a :: es) (mCons ma ms) := (pa_cons ha hr hs).imp fun σ H Q ⟨O, Γ, R, P⟩ =>
  ⟨O, Γ, R, (P.bind R).imp fun r Γ1 H1 O1 R1 S1 P1 v hv => ⟨O1, Γ1, R1, (P1.bind R1).imp fun rs Γ2 H2 O2 R2 S2 P2 vs hvs =>
    P2 H2 O2 R2 EStp.refl (v :: vs) ⟨v, vs, rfl, ⟨Γ1, H1, O1, H, R1, hv, S2⟩, hvs⟩⟩⟩
def peeks (Γ : List Sl) : List RV → Option (List D)
  | [] => some []
  | r :: rs => match peek Γ r, peeks Γ rs with
    | some d, some ds => some (d :: ds)
    | _, _ => none
inductive OpnAll (K : Fg) (Hd H : Hp) : List D → List V → Prop
  | nil : OpnAll K Hd H [] []
  | cons {d v ds vs} : Opn K Hd H d v → OpnAll K Hd H ds vs → OpnAll K Hd H (d :: ds) (v :: vs)
theorem RvAll.opn {K : Fg} {O : List Addr} {σ : L2.St} {Γ : List Sl} {H : Hp} (R : Rl K O Γ σ H) : ∀ {rs : List RV} {vs : List V} {ds : List D}, RvAll K O σ Γ H rs vs → peeks Γ rs = some ds → OpnAll K (off O H) H ds vs
  | [], _, _, h, e => by cases h; cases e; exact .nil
  | r :: rs, _, ds, ⟨v, t, e1, ⟨Γ1, H1, O1, H0, R1, hv, S⟩, ht⟩, e => by
    subst e1
    unfold peeks at e
    split at e
    · rename_i d ds' p1 p2
      cases e
      exact .cons (hv.opn R1 S R p1) (RvAll.opn R ht p2)
    · cases e
/-- a call of a built-in by values -/
def rCOf (K : Fg) (f : List D → FR) : List V → Hp → VK → Prop := fun xs H Q => ∃ Hd ds, Same Hd H ∧ OpnAll K Hd H ds xs ∧ FPost K Hd H Q (f ds)
def mFn (f : List D → FR) (ms : AM) : EM := fun Γ => (ms Γ).bind fun rs Γ1 => match peeks Γ1 rs with
  | some ds => (f ds).res Γ1
  | none => .no
theorem fn_tE {K : Fg} {f : List D → FR} {ms : AM} {σ : L2.St} {H : Hp} {Q : VK} (h : tE K XR W (mFn f ms) σ H Q) : tCB (rCOf K f) (tA K XR W ms) σ H Q := by
  obtain ⟨O, Γ, R, P⟩ := h
  refine ⟨O, Γ, R, (P.bind R).imp fun rs Γ1 H1 O1 R1 S1 P1 vs hvs => ?_⟩
  cases e : peeks Γ1 rs with
  | none => rw [e] at P1; exact P1.elim
  | some ds =>
    rw [e] at P1
    exact ⟨off O1 H1, ds, off_le, hvs.opn R1 e, FPost.of R1 (none_back S1.toStp) P1⟩
variable {x : Str} {p : Pos} {e : Expr} {es : List Expr} {ms : AM} {id T : String} {f : List D → FR}
theorem me_callB (hc : CallR X (.builtin id) (rCOf X.KW f)) (hg : Gl X x) (hm : X.mg x = none) (hv : bootBuiltins x = some (.builtin id)) (ha : MA X XR W (e :: es) ms) (hn : x ≠ "__name__" := by decide) (hdb : (x == ("__debug__" : Str)) = false := by decide)
    (he : starEach (e :: es) X.env = (false, eval e X.env) :: starEach es X.env := by rfl) (hpl : (backTo pos (starEach es X.env)).any (·.1) = false := by rfl) : ME X XR W (.Call (.Name x p) (e :: es) [] pos) (mFn f ms) :=
  (pe_callB hc hg hm hv ha hn hdb he hpl).imp fun σ H Q h => fn_tE h
theorem me_callTy (hc : CallR X (.type T) (rCOf X.KW f)) (hg : Gl X x) (hm : X.mg x = none) (hv : bootBuiltins x = some (.type T)) (ha : MA X XR W (e :: es) ms) (hn : x ≠ "__name__" := by decide) (hdb : (x == ("__debug__" : Str)) = false := by decide)
    (he : starEach (e :: es) X.env = (false, eval e X.env) :: starEach es X.env := by rfl) (hpl : (backTo pos (starEach es X.env)).any (·.1) = false := by rfl) : ME X XR W (.Call (.Name x p) (e :: es) [] pos) (mFn f ms) :=
  (pe_callTy hc hg hm hv ha hn hdb he hpl).imp fun σ H Q h => fn_tE h
end
end Mir

set_option Elab.async false
set_option linter.all false
set_option maxRecDepth 100000
set_option maxHeartbeats 4000000
namespace Mir
open PySem PySem.Spec PyProof.Rows L2

/-! ### an owned list is let go: from then on it is data -/
section
variable {K : Fg} {O : List Addr} {Γ : List Sl} {σ : L2.St} {H : Hp}
theorem get_set_ne {α : Type} {l : List α} {i j : Nat} {x : α} (h : i ≠ j) : (l.set i x)[j]? = l[j]? := List.getElem?_set_ne h
theorem get_set_eq {α : Type} {l : List α} {i : Nat} {x y : α} (h : l[i]? = some y) : (l.set i x)[i]? = some x := List.getElem?_set_self (List.getElem?_eq_some_iff.mp h).1
theorem Rl.freeze (R : Rl K O Γ σ H) {i : Nat} {ds : Ct} (h : Γ[i]? = some (.owc ds)) :
    ∃ O' a, σ[i]? = some (some (.ref a)) ∧ Rl K O' (Γ.set i (.va ds.data)) σ H ∧ EStp Γ σ H O (Γ.set i (.va ds.data)) H O' ∧ At K (off O' H) ds.data (.ref a) := by
  obtain ⟨o, e1, a, vs, e2, ma, ha, ta⟩ := R.sl i _ h
  subst e2
  have sub : ∀ b, b ∈ O.filter (fun b => decide (b ≠ a)) → b ∈ O := fun b hb => (List.mem_filter.mp hb).1
  have so : Same (off O H) (off (O.filter fun b => decide (b ≠ a)) H) := off_mono (fun b o n e => e) fun b h1 n => absurd (sub b h1) n
  have na : a ∉ O.filter fun b => decide (b ≠ a) := fun z => by simpa using (List.mem_filter.mp z).2
  have aT : At K (off (O.filter fun b => decide (b ≠ a)) H) ds.data (.ref a) := at_data.mpr ⟨a, vs, rfl, off_some.mpr ⟨na, ha⟩, ta.mono so⟩
  have mus : ∀ b, Mu (Γ.set i (.va ds.data)) σ b → Mu Γ σ b := fun b ⟨j, es, e3, e4⟩ => by
    by_cases hj : i = j
    · subst hj; rw [get_set_eq h] at e3; cases e3
    · rw [get_set_ne hj] at e3; exact ⟨j, es, e3, e4⟩
  refine ⟨_, a, e1, ⟨by rw [List.length_set]; exact R.len, fun j s e => ?_, fun j k b es t hjk e3 e4 et e5 e6 => ?_, fun b hb => R.tr b (sub b hb)⟩, ⟨⟨fun b o _ e => e, fun b m => .inl (mus b m), fun b e => e, fun b hb => .inl (sub b hb), fun b h1 h2 => ?_⟩, sub, fun j es e => ?_, fun j s e n => ?_, fun j es e => ?_⟩, aT⟩
  · by_cases hj : i = j
    · subst hj
      rw [get_set_eq h] at e; cases e
      exact ⟨_, e1, .ref a, rfl, aT⟩
    · rw [get_set_ne hj] at e
      obtain ⟨o, e3, q⟩ := R.sl j s e
      refine ⟨o, e3, ?_⟩
      cases s with
      | no => trivial
      | va d => obtain ⟨v, e4, q⟩ := q; exact ⟨v, e4, q.mono so⟩
      | owc es =>
        obtain ⟨b, us, e4, mb, hb, tb⟩ := q
        refine ⟨b, us, e4, List.mem_filter.mpr ⟨mb, decide_eq_true fun z => ?_⟩, hb, tb.mono so⟩
        subst z e4
        exact R.ne i j b ds _ hj h e rfl e1 e3
      | bwc es =>
        obtain ⟨b, us, e4, mb, hb, tb⟩ := q
        refine ⟨b, us, e4, List.mem_filter.mpr ⟨mb, decide_eq_true fun z => ?_⟩, hb, tb.mono so⟩
        subst z e4
        exact R.ne i j b ds _ hj h e rfl e1 e3
      | sc ns => obtain ⟨b, e4, q⟩ := q; exact ⟨b, e4, so.seq q⟩
  · by_cases hj : i = j
    · subst hj; rw [get_set_eq h] at e3; cases e3
    · by_cases hk : i = k
      · subst hk; rw [get_set_eq h] at e4; cases e4; cases et
      · rw [get_set_ne hj] at e3; rw [get_set_ne hk] at e4; exact R.ne j k b es t hjk e3 e4 et e5 e6
  · by_cases hb : b = a
    · subst hb; exact ⟨i, ds, h, e1⟩
    · exact absurd (List.mem_filter.mpr ⟨h1, decide_eq_true hb⟩) h2
  · by_cases hj : i = j
    · subst hj; exact .inr ⟨ds, get_set_eq h⟩
    · exact .inl ⟨es, by rw [get_set_ne hj]; exact e⟩
  · by_cases hj : i = j
    · subst hj; rw [h] at e; cases e; exact absurd rfl (n ds)
    · rw [get_set_ne hj]; exact e
  · by_cases hj : i = j
    · subst hj; rw [get_set_eq h] at e; cases e
    · rw [get_set_ne hj] at e; exact e
end
/-- a result as data, for good -/
def esc (Γ : List Sl) : RV → Option (D × List Sl)
  | .va d => some (d, Γ)
  | .owc ds => some (ds.data, Γ)
  | .bo i => match Γ[i]? with
    | some (.owc ds) => some (ds.data, Γ.set i (.va ds.data))
    | some (.va d) => some (d, Γ)
    | _ => none
def escs (Γ : List Sl) : List RV → Option (List D × List Sl)
  | [] => some ([], Γ)
  | r :: rs => match esc Γ r with
    | some (d, Γ1) => match escs Γ1 rs with
      | some (ds, Γ2) => some (d :: ds, Γ2)
      | none => none
    | none => none
section
variable {K : Fg} {O O1 : List Addr} {Γ Γ1 Γ2 : List Sl} {σ : L2.St} {H H0 H1 : Hp}
theorem RvAt.esc {r : RV} {v : V} {d : D} (R1 : Rl K O1 Γ1 σ H1) (h : RvAt K O1 σ Γ1 H1 H0 r v) (S : EStp Γ1 σ H1 O1 Γ H O) (R : Rl K O Γ σ H) (e : esc Γ r = some (d, Γ2)) :
    ∃ O2, Rl K O2 Γ2 σ H ∧ EStp Γ σ H O Γ2 H O2 ∧ At K (off O2 H) d v := by
  cases r with
  | va d' => cases e; exact ⟨O, R, EStp.refl, At.mono (S.toStp.same R1) h⟩
  | owc ds =>
    cases e
    obtain ⟨a, vs, e1, n, _, q, t, _⟩ := h
    refine ⟨O, R, EStp.refl, at_data.mpr ?_⟩
    exact ⟨a, vs, e1, S.toStp.same R1 a _ (off_some.mpr ⟨n, q⟩), (t.mono off_less).mono (S.toStp.same R1)⟩
  | bo i =>
    obtain ⟨e1, _⟩ := h
    simp only [Mir.esc] at e
    cases e2 : Γ[i]? with
    | none => rw [e2] at e; cases e
    | some s =>
      rw [e2] at e
      cases s with
      | no => cases e
      | va d' =>
        cases e
        obtain ⟨o, e3, v', e4, q⟩ := R.sl i _ e2
        rw [e1] at e3; cases e3; cases e4
        exact ⟨O, R, EStp.refl, q⟩
      | owc ds =>
        cases e
        obtain ⟨O', a, e3, R', S', q⟩ := R.freeze e2
        rw [e1] at e3; cases e3
        exact ⟨O', R', S', q⟩
      | sc ns => cases e
      | bwc ds => cases e
theorem RvAll.escs : ∀ {rs : List RV} {vs : List V} {ds : List D} {Γ1 Γ Γ2 : List Sl} {O1 O : List Addr}, Rl K O1 Γ1 σ H → RvAll K O1 σ Γ1 H rs vs → EStp Γ1 σ H O1 Γ H O → Rl K O Γ σ H → Mir.escs Γ rs = some (ds, Γ2) →
    ∃ O2, Rl K O2 Γ2 σ H ∧ EStp Γ σ H O Γ2 H O2 ∧ AtL K (off O2 H) ds vs
  | [], _, _, _, _, _, _, O, R1, h, S, R, e => by
    cases h
    cases e
    exact ⟨O, R, EStp.refl, rfl⟩
  | r :: rs, _, ds, Γ1, Γ, Γ2, O1, O, R1, ⟨v, t, e1, ⟨Γ0, H0', O0, H00, R0, hv, S0⟩, ht⟩, S, R, e => by
    subst e1
    unfold Mir.escs at e
    split at e
    · rename_i d Γ' h1
      split at e
      · rename_i ds' Γ'' h2
        cases e
        obtain ⟨O', R', S', q⟩ := hv.esc R0 (S0.trans R0 S) R h1
        obtain ⟨O'', R'', S'', q2⟩ := RvAll.escs R1 ht (S.trans R1 S') R' h2
        exact ⟨O'', R'', S'.trans R S'', v, t, rfl, q.mono (S''.toStp.same R'), q2⟩
      · cases e
    · cases e
end

section
variable {X : Cx} {XR : XRel} {W : WX} {pos : Pos} {es : List Expr} {ms : AM}
/-! ### displays -/
def mTup (ms : AM) : EM := fun Γ => (ms Γ).bind fun rs Γ1 => match escs Γ1 rs with
  | some (ds, Γ2) => if ds.length ≤ big then .ok (.va (.tup ds)) Γ2 else .no
  | none => .no
def mLst (ms : AM) : EM := fun Γ => (ms Γ).bind fun rs Γ1 => match escs Γ1 rs with
  | some (ds, Γ2) => if ds.length ≤ big then .ok (.ow ds) Γ2 else .no
  | none => .no
theorem me_tup {x1} (h : MA X XR W es ms) : ME X XR W (.Tuple es x1 pos) (mTup ms) := (pe_tup h).imp fun σ H Q ⟨O, Γ, R, P⟩ => by
  refine ⟨O, Γ, R, (P.bind R).imp fun rs Γ1 H1 O1 R1 S1 P1 vs hvs => ?_⟩
  cases e : escs Γ1 rs with
  | none => rw [e] at P1; exact P1.elim
  | some q =>
    obtain ⟨ds, Γ2⟩ := q
    rw [e] at P1
    obtain ⟨O2, R2, S2, t⟩ := RvAll.escs R1 hvs EStp.refl R1 e
    by_cases hz : ds.length ≤ big
    · simp only [hz, if_true] at P1
      refine ⟨by rw [← t.length, big_eq]; exact hz, fun q hq => ?_⟩
      have P2 : Post X.KW XR W σ Γ2 H1 O2 (fun r Γ' H' O' => ∀ v, RvAt X.KW O' σ Γ' H' H r v → Q v H') (FR.res Γ2 (.va (.tup ds))) := Post.after (x := FR.res Γ2 (.va (.tup ds))) R1 S2 P1
      exact (FPost.of R2 (none_back S1.toStp) P2).tup off_le hq t
    · simp only [hz, if_false] at P1
      exact P1.elim
theorem me_lst (h : MA X XR W es ms) : ME X XR W (.List es pos) (mLst ms) := (pe_lst h).imp fun σ H Q ⟨O, Γ, R, P⟩ => by
  refine ⟨O, Γ, R, (P.bind R).imp fun rs Γ1 H1 O1 R1 S1 P1 vs hvs => ?_⟩
  cases e : escs Γ1 rs with
  | none => rw [e] at P1; exact P1.elim
  | some q =>
    obtain ⟨ds, Γ2⟩ := q
    rw [e] at P1
    obtain ⟨O2, R2, S2, t⟩ := RvAll.escs R1 hvs EStp.refl R1 e
    by_cases hz : ds.length ≤ big
    · simp only [hz, if_true] at P1
      refine ⟨by rw [← t.length, big_eq]; exact hz, fun q hq => ?_⟩
      have P2 : Post X.KW XR W σ Γ2 H1 O2 (fun r Γ' H' O' => ∀ v, RvAt X.KW O' σ Γ' H' H r v → Q v H') (FR.res Γ2 (.ow ds)) := Post.after (x := FR.res Γ2 (.ow ds)) R1 S2 P1
      exact (FPost.of R2 (none_back S1.toStp) P2).lst off_le hq t
    · simp only [hz, if_false] at P1
      exact P1.elim

/-! ### subscripts -/
def fIx : D → D → FR
  | .lst ds, .int i => match atI ds i with
    | some d => .va d
    | none => .no
  | .tup ds, .int i => match atI ds i with
    | some d => .va d
    | none => .no
  | .str x, .int i => if x.length ≤ big then (match atI x i with
    | some c => .va (.str [c])
    | none => .no) else .no
  | _, _ => .no
theorem AtL.atI {K : Fg} {H : Hp} {ds : List D} {vs : List V} {i : Int} {d : D} (t : AtL K H ds vs) (e : atI ds i = some d) : ∃ v, L2.atI vs i = some v ∧ At K H d v := by
  unfold L2.atI at e ⊢
  obtain ⟨j, e1, e2⟩ := Option.bind_eq_some_iff.mp e
  obtain ⟨v, e3, q⟩ := t.get e2
  exact ⟨v, Option.bind_eq_some_iff.mpr ⟨j, by rw [← t.length]; exact e1, e3⟩, q⟩
theorem od_ix : IxR X (rOf X.KW fIx) := fun value slice pins s σ H x y v u Q I rx ry ⟨Hd, d, e, s1, a, b, q⟩ hs => by
  cases d with
  | lst ds =>
    cases e with
    | int i =>
      simp only [fIx] at q
      split at q
      · rename_i d' hd
        obtain ⟨p, vs, e1, h1, t⟩ := a.lst s1
        obtain ⟨w, e2, q2⟩ := t.atI hd
        exact ix_list value slice pins s σ H x y v u Q I rx ry ⟨p, vs, i, w, e1, b.int, h1, e2, q.va s1 q2⟩ hs
      · exact q.elim
    | _ => exact q.elim
  | tup ds =>
    cases e with
    | int i =>
      simp only [fIx] at q
      split at q
      · rename_i d' hd
        obtain ⟨p, vs, e1, h1, t⟩ := a.tup
        obtain ⟨w, e2, q2⟩ := t.atI hd
        exact ix_tup value slice pins s σ H x y v u Q I rx ry ⟨p, vs, i, w, e1, b.int, Same.seqT s1 h1, e2, q.va s1 q2⟩ hs
      · exact q.elim
    | _ => exact q.elim
  | str z =>
    cases e with
    | int i =>
      simp only [fIx] at q
      split at q
      · rename_i hz
        split at q
        · rename_i c hc
          exact ix_str value slice pins s σ H x y v u Q I rx ry ⟨toS z, i, c, a.str, b.int, by rw [toS_len, big_eq]; exact hz, by simpa using hc, q.va s1 rfl⟩ hs
        · exact q.elim
      · exact q.elim
    | _ => exact q.elim
  | _ => cases e <;> exact q.elim
variable {a b : Expr} {ma mb : EM}
theorem me_ix (ha : ME X XR W a ma) (hb : ME X XR W b mb) (hs : PlainIx b := by intro _ _; rfl) : ME X XR W (.Subscript a b pos) (mBin fIx ma mb) := (pe_ix od_ix ha hb hs).imp fun σ H Q h => bin_tE h

/-! ### slices -/
def MO (X : Cx) (XR : XRel) (W : WX) (e : Option Expr) (m : List Sl → Rs (Option Int)) : Prop := PO X e (fun σ H Q => ∃ O Γ, Rl X.KW O Γ σ H ∧ Post X.KW XR W σ Γ H O (fun o Γ' H' O' => Q o H') (m Γ))
theorem _root_.L2.PO.imp {X : Cx} {e : Option Expr} {t t' : TO} (h : PO X e t) (k : ∀ σ H Q, t' σ H Q → t σ H Q) : PO X e t' := ⟨fun pins s σ H Q I q => h.run pins s σ H Q I (k σ H Q q)⟩
def oNone : List Sl → Rs (Option Int) := fun Γ => .ok none Γ
def oSome (m : EM) : List Sl → Rs (Option Int) := fun Γ => (m Γ).bind fun r Γ1 => match r with
  | .va (.int i) => .ok (some i) Γ1
  | _ => .no
theorem mo_none : MO X XR W none oNone := po_none.imp fun σ H Q ⟨O, Γ, R, P⟩ => P H O R EStp.refl
theorem mo_some (ha : ME X XR W a ma) : MO X XR W (some a) (oSome ma) := (po_some ha).imp fun σ H Q ⟨O, Γ, R, P⟩ => by
  refine ⟨O, Γ, R, (P.bind R).imp fun r Γ1 H1 O1 R1 S1 P1 v hv => ?_⟩
  cases r with
  | va d =>
    cases d with
    | int i => exact ⟨i, hv, P1 H1 O1 R1 EStp.refl⟩
    | _ => exact P1.elim
  | _ => exact P1.elim
def cut {α : Type} (xs : List α) (lo hi : Option Int) : List α := (xs.drop (HT.sIx xs.length 0 lo)).take (HT.sIx xs.length xs.length hi - HT.sIx xs.length 0 lo)
def fSl : D → Option Int → Option Int → FR
  | .lst ds, lo, hi => .ow (cut ds lo hi)
  | .tup ds, lo, hi => .va (.tup (cut ds lo hi))
  | .str x, lo, hi => if x.length ≤ big then .va (.str (cut x lo hi)) else .no
  | _, _, _ => .no
def rSOf (K : Fg) : V → Option Int → Option Int → Hp → VK → Prop := fun x lo hi H Q => ∃ Hd d, Same Hd H ∧ Opn K Hd H d x ∧ FPost K Hd H Q (fSl d lo hi)
theorem AtL.cut {K : Fg} {H : Hp} {ds : List D} {vs : List V} (t : AtL K H ds vs) (lo hi : Option Int) : AtL K H (cut ds lo hi) (cutV vs lo hi) := by
  unfold Mir.cut cutV
  rw [t.length]
  exact (t.drop _).take _
theorem cut_all {α : Type} (xs : List α) (lo hi : Option Int) (h1 : HT.sIx xs.length 0 lo = 0) (h2 : HT.sIx xs.length xs.length hi = xs.length) : cut xs lo hi = xs := by
  unfold cut
  rw [h1, h2]
  simp
theorem od_sl : SlR X (rSOf X.KW) := fun pins s σ H x v vl vu lo hi sl Q I rx hs pl pu ⟨Hd, d, s1, a, q⟩ => by
  cases d with
  | lst ds =>
    obtain ⟨p, vs, e1, h1, t⟩ := a.lst s1
    exact sl_list pins s σ H x v vl vu lo hi sl Q I rx hs pl pu ⟨p, vs, e1, h1, fun q' hq => FPost.lst q s1 hq (t.cut lo hi)⟩
  | tup ds =>
    obtain ⟨p, vs, e1, h1, t⟩ := a.tup
    refine sl_tupA pins s σ H x v vl vu lo hi sl Q I rx hs pl pu ⟨p, vs, e1, Same.seqT s1 h1, fun z => ?_, fun _ q' hq => FPost.tup q s1 hq (t.cut lo hi)⟩
    have q2 : FPost X.KW Hd H Q (.va (.tup ds)) := by
      have e := cut_all ds lo hi (by rw [t.length]; exact z.1) (by rw [t.length]; exact z.2)
      have q3 : FPost X.KW Hd H Q (.va (.tup (Mir.cut ds lo hi))) := q
      rw [e] at q3
      exact q3
    exact q2.va s1 ⟨p, vs, rfl, h1, t⟩
  | str z =>
    simp only [fSl] at q
    split at q
    · rename_i hz
      refine sl_str pins s σ H x v vl vu lo hi sl Q I rx hs pl pu ⟨toS z, a.str, by rw [toS_len, big_eq]; exact hz, ?_⟩
      have e : cutS (toS z) lo hi = toS (Mir.cut z lo hi) := by
        unfold cutS Mir.cut
        rw [toS_len]
      rw [e]
      exact q.str s1
    · exact q.elim
  | _ => exact q.elim
def mSl (ma : EM) (ml mh : List Sl → Rs (Option Int)) : EM := fun Γ => (ma Γ).bind fun r Γ1 => (ml Γ1).bind fun l Γ2 => (mh Γ2).bind fun h Γ3 => match peek Γ3 r with
  | some d => (fSl d l h).res Γ3
  | none => .no
theorem me_sl {lo hi : Option Expr} {ml mh : List Sl → Rs (Option Int)} {p2 : Pos} (ha : ME X XR W a ma) (hl : MO X XR W lo ml) (hh : MO X XR W hi mh) : ME X XR W (.Subscript a (.Slice lo hi none p2) pos) (mSl ma ml mh) := (pe_slice od_sl ha hl hh).imp fun σ H Q ⟨O, Γ, R, P⟩ => by
  refine ⟨O, Γ, R, (P.bind R).imp fun r Γ1 H1 O1 R1 S1 P1 v hv => ⟨O1, Γ1, R1, (P1.bind R1).imp fun l Γ2 H2 O2 R2 S2 P2 => ⟨O2, Γ2, R2, (P2.bind R2).imp fun h Γ3 H3 O3 R3 S3 P3 => ?_⟩⟩⟩
  cases e : peek Γ3 r with
  | none => rw [e] at P3; exact P3.elim
  | some d =>
    rw [e] at P3
    exact ⟨off O3 H3, d, off_le, hv.opn R1 (S2.trans R1 S3) R3 e, FPost.of R3 (fun b z => none_back S1.toStp b (none_back S2.toStp b (none_back S3.toStp b z))) P3⟩

/-! ### built-in functions -/
def fLen : List D → FR
  | [.str x] => if x.length ≤ big then .va (.int x.length) else .no
  | [.lst xs] => .va (.int xs.length)
  | [.tup xs] => .va (.int xs.length)
  | _ => .no
def fInt : List D → FR
  | [.int i] => .va (.int i)
  | [.bl b] => .va (.int (if b then 1 else 0))
  | _ => .no
def fAbs : List D → FR
  | [.int i] => .va (.int (if i < 0 then -i else i))
  | _ => .no
def fTuple : List D → FR
  | [.lst xs] => .va (.tup xs)
  | [.tup xs] => .va (.tup xs)
  | _ => .no
def fList : List D → FR
  | [.lst xs] => .ow xs
  | [.tup xs] => .ow xs
  | _ => .no
def fGcd : List D → FR
  | [.int a, .int b] => .va (.int ((Nat.gcd a.natAbs b.natAbs : Nat) : Int))
  | _ => .no
def bools? : List D → Option (List Bool)
  | [] => some []
  | .bl i :: ds => (bools? ds).map (i :: ·)
  | _ :: _ => none
def fAll : List D → FR
  | [.lst xs] => match bools? xs with
    | some bs => .va (.bl (bs.all id))
    | _ => .no
  | _ => .no
theorem bools_at {K : Fg} {H : Hp} : ∀ {ds : List D} {vs : List V} {ns : List Bool}, AtL K H ds vs → bools? ds = some ns → vs = ns.map V.bl
  | [], _, _, h, e => by cases h; cases e; rfl
  | .bl i :: ds, _, _, ⟨v, r, e1, e2, e3⟩, e => by
    subst e1
    simp only [bools?] at e
    obtain ⟨ns, e4, e5⟩ := Option.map_eq_some_iff.mp e
    subst e5
    rw [bools_at e3 e4, show v = V.bl i from e2]
    rfl
  | .non :: _, _, _, _, e => by cases e
  | .int _ :: _, _, _, _, e => by cases e
  | .str _ :: _, _, _, _, e => by cases e
  | .tup _ :: _, _, _, _, e => by cases e
  | .lst _ :: _, _, _, _, e => by cases e
theorem OpnAll.one {K : Fg} {Hd H : Hp} {d : D} {vs : List V} (h : OpnAll K Hd H [d] vs) : ∃ v, vs = [v] ∧ Opn K Hd H d v := by
  cases h with
  | cons h t => cases t; exact ⟨_, rfl, h⟩
theorem OpnAll.two {K : Fg} {Hd H : Hp} {d e : D} {vs : List V} (h : OpnAll K Hd H [d, e] vs) : ∃ v u, vs = [v, u] ∧ Opn K Hd H d v ∧ Opn K Hd H e u := by
  cases h with
  | cons h t =>
    obtain ⟨u, rfl, q⟩ := t.one
    exact ⟨_, u, rfl, h, q⟩
theorem cd_len : CallR X (.builtin "len") (rCOf X.KW fLen) := fun pins s σ H xs us Q I r ⟨Hd, ds, s1, h, q⟩ => by
  match ds, h, q with
  | [.str x], h, q =>
    obtain ⟨v, rfl, o⟩ := h.one
    simp only [fLen] at q
    split at q
    · rename_i hz
      refine call_len pins s σ H _ us Q I r ⟨v, x.length, rfl, ?_, q.int s1⟩
      rw [o.str]
      exact ⟨by rw [toS_len, big_eq]; exact hz, (toS_len x).symm⟩
    · exact q.elim
  | [.lst x], h, q =>
    obtain ⟨v, rfl, o⟩ := h.one
    obtain ⟨a, vs, rfl, e, t⟩ := o.lst s1
    exact call_len pins s σ H _ us Q I r ⟨_, x.length, rfl, .inl ⟨vs, e, t.length⟩, FPost.int q s1⟩
  | [.tup x], h, q =>
    obtain ⟨v, rfl, o⟩ := h.one
    obtain ⟨a, vs, rfl, e, t⟩ := o.tup
    exact call_len pins s σ H _ us Q I r ⟨_, x.length, rfl, .inr ⟨vs, Same.seqT s1 e, t.length⟩, FPost.int q s1⟩
  | [], _, q => exact q.elim
  | [.non], _, q => exact q.elim
  | [.bl _], _, q => exact q.elim
  | [.int _], _, q => exact q.elim
  | _ :: _ :: _, _, q => exact (by simpa [fLen, FPost] using q : False).elim
theorem cd_int : CallR X (.type "int") (rCOf X.KW fInt) := fun pins s σ H xs us Q I r ⟨Hd, ds, s1, h, q⟩ => by
  match ds, h, q with
  | [.int i], h, q =>
    obtain ⟨v, rfl, o⟩ := h.one
    exact call_int1 pins s σ H _ us Q I r (.inl ⟨i, by rw [o.int], FPost.int q s1⟩)
  | [.bl i], h, q =>
    obtain ⟨v, rfl, o⟩ := h.one
    exact call_int1 pins s σ H _ us Q I r (.inr ⟨i, by rw [o.bl], FPost.int q s1⟩)
  | [], _, q => exact q.elim
  | [.non], _, q => exact q.elim
  | [.str _], _, q => exact q.elim
  | [.lst _], _, q => exact q.elim
  | [.tup _], _, q => exact q.elim
  | _ :: _ :: _, _, q => exact (by simpa [fInt, FPost] using q : False).elim
theorem cd_tuple : CallR X (.type "tuple") (rCOf X.KW fTuple) := fun pins s σ H xs us Q I r ⟨Hd, ds, s1, h, q⟩ => by
  match ds, h, q with
  | [.lst x], h, q =>
    obtain ⟨v, rfl, o⟩ := h.one
    obtain ⟨a, vs, rfl, e, t⟩ := o.lst s1
    exact call_tuple_of pins s σ H _ us Q I r ⟨a, vs, rfl, .inl ⟨e, fun l hl => FPost.tup q s1 hl t⟩⟩
  | [.tup x], h, q =>
    obtain ⟨v, rfl, o⟩ := h.one
    obtain ⟨a, vs, rfl, e, t⟩ := o.tup
    exact call_tuple_of pins s σ H _ us Q I r ⟨a, vs, rfl, .inr ⟨Same.seqT s1 e, FPost.va q s1 ⟨a, vs, rfl, e, t⟩⟩⟩
  | [], _, q => exact q.elim
  | [.bl _], _, q => exact q.elim
  | [.non], _, q => exact q.elim
  | [.str _], _, q => exact q.elim
  | [.int _], _, q => exact q.elim
  | _ :: _ :: _, _, q => exact (by simpa [fTuple, FPost] using q : False).elim
theorem cd_list : CallR X (.type "list") (rCOf X.KW fList) := fun pins s σ H xs us Q I r ⟨Hd, ds, s1, h, q⟩ => by
  match ds, h, q with
  | [.lst x], h, q =>
    obtain ⟨v, rfl, o⟩ := h.one
    obtain ⟨a, vs, rfl, e, t⟩ := o.lst s1
    exact call_list_of pins s σ H _ us Q I r ⟨a, vs, rfl, .inl e, fun l hl => FPost.lst q s1 hl t⟩
  | [.tup x], h, q =>
    obtain ⟨v, rfl, o⟩ := h.one
    obtain ⟨a, vs, rfl, e, t⟩ := o.tup
    exact call_list_of pins s σ H _ us Q I r ⟨a, vs, rfl, .inr (Same.seqT s1 e), fun l hl => FPost.lst q s1 hl t⟩
  | [], _, q => exact q.elim
  | [.bl _], _, q => exact q.elim
  | [.non], _, q => exact q.elim
  | [.str _], _, q => exact q.elim
  | [.int _], _, q => exact q.elim
  | _ :: _ :: _, _, q => exact (by simpa [fList, FPost] using q : False).elim
theorem cd_all (hc : X.calm = true) : CallR X (.builtin "all") (rCOf X.KW fAll) := fun pins s σ H xs us Q I r ⟨Hd, ds, s1, h, q⟩ => by
  unfold fAll at q
  split at q
  · split at q
    · rename_i ns en
      obtain ⟨v, rfl, o⟩ := h.one
      obtain ⟨a, vs, rfl, e, t⟩ := o.lst s1
      rw [bools_at t en] at e
      exact cr_all hc pins s σ H _ us Q I r ⟨a, ns, rfl, e, FPost.bl q s1⟩
    · exact q.elim
  · exact q.elim
/-- x.bit_length() -/
def mBits (ma : EM) : EM := fun Γ => (ma Γ).bind fun r Γ1 => match r with
  | .va (.int i) => .ok (.va (.int (Builtin.Int.intBits i : Nat))) Γ1
  | _ => .no
end
end Mir

set_option Elab.async false
set_option linter.all false
set_option maxRecDepth 100000
set_option maxHeartbeats 4000000
namespace Mir
open PySem PySem.Spec PyProof.Rows L2

/-! ### isinstance against built-in classes -/
def tyD : D → String
  | .non => "NoneType" | .bl _ => "bool" | .int _ => "int" | .str _ => "str" | .tup _ => "tuple" | .lst _ => "list" | _ => "list"
/-- no dict, no set -/
def isPl : D → Bool
  | .dic _ => false
  | .set _ => false
  | _ => true
def isiD (d : D) (T : String) : Bool := match d, T with
  | .bl _, "bool" => true | .bl _, "int" => true | .int _, "int" => true | .str _, "str" => true | .tup _, "tuple" => true | .lst _, "list" => true
  | .dic _, "list" => true | .set _, "list" => true
  | _, _ => false
def isiT (a b : String) : Bool := a == b || (a == "bool" && b == "int")
theorem isiT_all : ["NoneType", "bool", "int", "str", "tuple", "list"].all (fun a => ["int", "str", "bool", "tuple", "list"].all fun b => kitB a b == some (isiT a b)) = true := by decide +kernel
theorem kit_isi (d : D) (T : String) (h : T = "int" ∨ T = "str" ∨ T = "bool" ∨ T = "tuple" ∨ T = "list") : kitB (tyD d) T = some (isiD d T) := by
  have e : isiT (tyD d) T = isiD d T := by rcases h with rfl | rfl | rfl | rfl | rfl <;> cases d <;> rfl
  have m1 : tyD d ∈ ["NoneType", "bool", "int", "str", "tuple", "list"] := by cases d <;> simp [tyD]
  have m2 : T ∈ ["int", "str", "bool", "tuple", "list"] := by rcases h with rfl | rfl | rfl | rfl | rfl <;> simp
  have q := List.all_eq_true.mp (List.all_eq_true.mp isiT_all _ m1) _ m2
  rw [← e]
  exact eq_of_beq q
theorem Opn.tyx {K : Fg} {Hd H : Hp} {d : D} {v : V} (pl : isPl d = true) (s : Same Hd H) (h : Opn K Hd H d v) : TyX K H v (.type (tyD d)) := by
  have seqL : ∀ {a : Addr} {vs : List V}, SqL K H a vs → TyX K H (.ref a) (.type "list") := fun {a vs} q => by
    rcases q with (q | ⟨o, q⟩) | ⟨o, its, n, q, c, _⟩
    · exact .base (.lst q)
    · exact .base (.frz q)
    · exact .kList q c
  have seqT : ∀ {a : Addr} {vs : List V}, SqT K H a vs → TyX K H (.ref a) (.type "tuple") := fun {a vs} q => by
    rcases q with (q | ⟨o, q⟩) | ⟨o, its, n, q, c, _⟩
    · exact .base (.tup q)
    · exact .fTuple q
    · exact .kTuple q c
  cases d with
  | non => rw [h.non]; exact .base .non
  | bl b => rw [h.bl]; exact .base (.bl b)
  | int i => rw [h.int]; exact .base (.int i)
  | str x => rw [h.str]; exact .base (.str _)
  | tup ds => obtain ⟨a, vs, rfl, q, _⟩ := h.tup; exact seqT (Same.seqT s q)
  | lst ds => obtain ⟨a, vs, rfl, q, _⟩ := h.lst s; exact seqL q
  | dic ds => cases pl
  | set ds => cases pl
def mIsi (T : String) (ma : EM) : EM := fun Γ => (ma Γ).bind fun r Γ1 => match peek Γ1 r with
  | some d => if isPl d = true then .ok (.va (.bl (isiD d T))) Γ1 else .no
  | none => .no
def mIsi2 (T T' : String) (ma : EM) : EM := fun Γ => (ma Γ).bind fun r Γ1 => match peek Γ1 r with
  | some d => if isPl d = true then .ok (.va (.bl (isiD d T || isiD d T'))) Γ1 else .no
  | none => .no
section
variable {X : Cx} {XR : XRel} {W : WX} {a b b' : Expr} {ma : EM} {p pos p3 : Pos} {k1 : Nat} {T T' : String}
theorem me_isi (hT : T = "int" ∨ T = "str" ∨ T = "bool" ∨ T = "tuple" ∨ T = "list") (hg : Gl X "isinstance") (hm : X.mg "isinstance" = none) (ha : ME X XR W a ma) (hb : PE X b (tC (.ty T)))
    (he : starEach [a, b] X.env = (false, eval a X.env) :: starEach [b] X.env := by rfl) (he2 : starEach [b] X.env = (false, eval b X.env) :: starEach [] X.env := by rfl) (hpl : (backTo pos (starEach [b] X.env)).any (·.1) = false := by rfl) : ME X XR W (.Call (.Name "isinstance" p) [a, b] [] pos) (mIsi T ma) :=
  (pe_callB call_isi hg hm (by decide +kernel) (pa_cons ha (pa_cons hb pa_nil he2) he) (by decide) (by decide) he hpl).imp fun σ H Q ⟨O, Γ, R, P⟩ => by
    refine ⟨O, Γ, R, (P.bind R).imp fun r Γ1 H1 O1 R1 S1 P1 v hv => ?_⟩
    cases e : peek Γ1 r with
    | none => rw [e] at P1; exact P1.elim
    | some d =>
      rw [e] at P1
      by_cases hpl : isPl d = true
      case neg => simp only [hpl] at P1; exact P1.elim
      simp only [hpl, if_true] at P1
      exact ⟨v, .ty T, .type (tyD d), .type T, isiD d T, rfl, .ty T, (hv.opn R1 EStp.refl R1 e).tyx hpl off_le, kit_ty (kit_isi d T hT), P1 H1 O1 R1 EStp.refl _ rfl⟩
theorem me_isi2 (hT : T = "int" ∨ T = "str" ∨ T = "bool" ∨ T = "tuple" ∨ T = "list") (hT' : T' = "int" ∨ T' = "str" ∨ T' = "bool" ∨ T' = "tuple" ∨ T' = "list") (hg : Gl X "isinstance") (hm : X.mg "isinstance" = none) (ha : ME X XR W a ma) (hb : PE X b (tC (.ty T))) (hb' : PE X b' (tC (.ty T')))
    (he : starEach [a, .Tuple [b, b'] k1 p3] X.env = (false, eval a X.env) :: starEach [.Tuple [b, b'] k1 p3] X.env := by rfl) (he2 : starEach [.Tuple [b, b'] k1 p3] X.env = (false, eval (.Tuple [b, b'] k1 p3) X.env) :: starEach [] X.env := by rfl)
    (he3 : starEach [b, b'] X.env = (false, eval b X.env) :: starEach [b'] X.env := by rfl) (he4 : starEach [b'] X.env = (false, eval b' X.env) :: starEach [] X.env := by rfl)
    (hpl : (backTo pos (starEach [.Tuple [b, b'] k1 p3] X.env)).any (·.1) = false := by rfl) : ME X XR W (.Call (.Name "isinstance" p) [a, .Tuple [b, b'] k1 p3] [] pos) (mIsi2 T T' ma) :=
  (pe_callB call_isiT hg hm (by decide +kernel) (pa_cons ha (pa_cons (pe_tup (pa_cons hb (pa_cons hb' pa_nil he4) he3)) pa_nil he2) he) (by decide) (by decide) he hpl).imp fun σ H Q ⟨O, Γ, R, P⟩ => by
    refine ⟨O, Γ, R, (P.bind R).imp fun r Γ1 H1 O1 R1 S1 P1 v hv => ?_⟩
    cases e : peek Γ1 r with
    | none => rw [e] at P1; exact P1.elim
    | some d =>
      rw [e] at P1
      by_cases hpl : isPl d = true
      case neg => simp only [hpl] at P1; exact P1.elim
      simp only [hpl, if_true] at P1
      refine ⟨by show 2 ≤ sizeLine; decide, fun q hq => ?_⟩
      have sm : Same H1 (upd H1 q (.tup [.ty T, .ty T'])) := same_up hq
      refine ⟨v, q, [.ty T, .ty T'], .type (tyD d), [.type T, .type T'], isiD d T || isiD d T', rfl, upd_same, .cons (.ty T) (.cons (.ty T') .nil), ?_, ?_, P1 _ O1 (R1.same sm) (EStp.of_same sm) _ rfl⟩
      · have o := hv.opn R1 EStp.refl R1 e
        rcases o with o | ⟨ds, a, vs, e1, e2, q2, t⟩ | o
        · exact Opn.tyx hpl (Hd := upd H1 q (.tup [.ty T, .ty T'])) (fun _ _ z => z) (.inl ((o.mono off_le).mono sm))
        · exact Opn.tyx hpl (Hd := upd H1 q (.tup [.ty T, .ty T'])) (fun _ _ z => z) (.inr (.inl ⟨ds, a, vs, e1, e2, sm.seq q2, (t.mono off_le).mono sm⟩))
        · rcases o.cases with ⟨xs, rfl⟩ | ⟨xs, rfl⟩ <;> cases hpl
      · refine kitAny_cons (kit_ty (kit_isi d T hT)) (fun z => kitAny_cons (kit_ty (kit_isi d T' hT')) (fun z2 => ?_) fun z2 => ?_) fun z => ?_
        · rw [z, z2]; exact kitAny_nil
        · rw [z2, Bool.or_true]
        · rw [z, Bool.true_or]
end

/-! ### an owned list is rewritten -/
section
variable {K : Fg} {O : List Addr} {Γ : List Sl} {σ : L2.St} {H : Hp}
theorem Rl.writeC (R : Rl K O Γ σ H) {i : Nat} {ds es : Ct} {a : Addr} {us : List V} (h : Γ[i]? = some (.owc ds)) (e : σ[i]? = some (some (.ref a))) (t : AtL K (off O H) es.ds us) :
    Rl K O (Γ.set i (.owc es)) σ (upd H a (es.ho K.w a us)) ∧ EStp Γ σ H O (Γ.set i (.owc es)) (upd H a (es.ho K.w a us)) O := by
  obtain ⟨o, e1, a', vs, e2, ma, ha, ta⟩ := R.sl i _ h
  rw [e] at e1; cases e1; cases e2
  have so : Same (off O H) (off O (upd H a (es.ho K.w a us))) := off_mono (fun b o n e => by
    rw [upd_ne (show b ≠ a from fun z => n (z ▸ ma))]; exact e) fun b h n => absurd h n
  have st : ∀ b, H b ≠ none → upd H a (es.ho K.w a us) b ≠ none := fun b hb => by
    by_cases z : b = a
    · subst z; rw [upd_same]; exact fun z => nomatch z
    · rw [upd_ne z]; exact hb
  have mus : ∀ b, Mu (Γ.set i (.owc es)) σ b → Mu Γ σ b := fun b ⟨j, fs, e3, e4⟩ => by
    by_cases hj : i = j
    · subst hj; exact ⟨i, ds, h, e4⟩
    · rw [get_set_ne hj] at e3; exact ⟨j, fs, e3, e4⟩
  refine ⟨⟨by rw [List.length_set]; exact R.len, fun j s e3 => ?_, fun j k b fs t' hjk e3 e4 et e5 e6 => ?_, fun b hb => st b (R.tr b hb)⟩, ⟨⟨fun b o n e3 => ?_, fun b m => .inl (mus b m), st, fun b hb => .inl hb, fun b h1 h2 => absurd h1 h2⟩, fun b hb => hb, fun j fs e3 => ?_, fun j s e3 n => ?_, fun j fs e3 => ?_⟩⟩
  · by_cases hj : i = j
    · subst hj
      rw [get_set_eq h] at e3; cases e3
      exact ⟨_, e, a, us, rfl, ma, upd_same, t.mono so⟩
    · rw [get_set_ne hj] at e3
      obtain ⟨o, e4, q⟩ := R.sl j s e3
      refine ⟨o, e4, ?_⟩
      cases s with
      | no => trivial
      | va d => obtain ⟨v, e5, q⟩ := q; exact ⟨v, e5, q.mono so⟩
      | owc fs =>
        obtain ⟨b, ws, e5, mb, hb, tb⟩ := q
        refine ⟨b, ws, e5, mb, ?_, tb.mono so⟩
        rw [upd_ne (show b ≠ a from fun z => by subst z e5; exact R.ne i j b ds _ hj h e3 rfl e e4)]
        exact hb
      | bwc fs =>
        obtain ⟨b, ws, e5, mb, hb, tb⟩ := q
        refine ⟨b, ws, e5, mb, ?_, tb.mono so⟩
        rw [upd_ne (show b ≠ a from fun z => by subst z e5; exact R.ne i j b ds _ hj h e3 rfl e e4)]
        exact hb
      | sc ns => obtain ⟨b, e5, q⟩ := q; exact ⟨b, e5, so.seq q⟩
  · have own : ∀ (m : Nat) (xs : Ct), (Γ.set i (.owc es))[m]? = some (Sl.owc xs) → ∃ ys, Γ[m]? = some (Sl.owc ys) := fun m xs z => by
      by_cases hm : i = m
      · subst hm; exact ⟨ds, h⟩
      · rw [get_set_ne hm] at z; exact ⟨xs, z⟩
    obtain ⟨_, g1⟩ := own j fs e3
    by_cases hk : i = k
    · subst hk; exact R.ne j i b _ _ hjk g1 h rfl e5 e6
    · rw [get_set_ne hk] at e4; exact R.ne j k b _ _ hjk g1 e4 et e5 e6
  · rw [upd_ne (show b ≠ a from fun z => n ⟨i, ds, h, z ▸ e⟩)]; exact e3
  · by_cases hj : i = j
    · subst hj; exact .inl ⟨es, get_set_eq h⟩
    · exact .inl ⟨fs, by rw [get_set_ne hj]; exact e3⟩
  · by_cases hj : i = j
    · subst hj; rw [h] at e3; cases e3; exact absurd rfl (n ds)
    · rw [get_set_ne hj]; exact e3
  · by_cases hj : i = j
    · subst hj; rw [get_set_eq h] at e3; cases e3
    · rw [get_set_ne hj] at e3; exact e3
theorem Rl.write (R : Rl K O Γ σ H) {i : Nat} {ds es : List D} {a : Addr} {us : List V} (h : Γ[i]? = some (.ow ds)) (e : σ[i]? = some (some (.ref a))) (t : AtL K (off O H) es us) :
    Rl K O (Γ.set i (.ow es)) σ (upd H a (.lst us)) ∧ EStp Γ σ H O (Γ.set i (.ow es)) (upd H a (.lst us)) O := Rl.writeC (ds := ⟨.lst, ds⟩) (es := ⟨.lst, es⟩) R h e t
theorem Rl.own (R : Rl K O Γ σ H) {i : Nat} {ds : List D} (h : Γ[i]? = some (.ow ds)) : ∃ a vs, σ[i]? = some (some (.ref a)) ∧ H a = some (.lst vs) ∧ AtL K (off O H) ds vs := by
  obtain ⟨o, e1, a, vs, e2, ma, ha, ta⟩ := R.sl i _ h
  subst e2
  exact ⟨a, vs, e1, ha, ta⟩
end
/-- xs.pop(), xs an owned list of the def -/
def mPop (i : Nat) : EM := fun Γ => match Γ[i]? with
  | some (.owc ⟨.lst, ds⟩) => match ds.getLast? with
    | some d => .ok (.va d) (Γ.set i (.ow ds.dropLast))
    | none => .no
  | _ => .no
section
variable {X : Cx} {XR : XRel} {W : WX} {x : Str} {p pos apos : Pos}
theorem me_pop {i : Nat} (hv : PE X (.Name x p) (tVar i)) (hbase : attributeBase (.Name x p) "pop" X.env (eval (.Name x p) X.env) = eval (.Name x p) X.env := by rfl) (hline : (apos.endLine == pos.line) = true := by rfl) :
    ME X XR W (.Call (.Attribute (.Name x p) "pop" apos) [] [] pos) (mPop i) := (pe_bm0 PySem.F.plainAttrs_list PySem.F.slot_list_pop PySem.F.type_list_pop mt_pop hv hbase hline).imp fun σ H Q ⟨O, Γ, R, P⟩ => by
  unfold mPop at P
  cases e : Γ[i]? with
  | none => rw [e] at P; exact P.elim
  | some s =>
    rw [e] at P
    cases s with
    | owc tt =>
      obtain ⟨cc, ds⟩ := tt
      cases cc with
      | lst =>
        obtain ⟨a, vs, e1, ha, ta⟩ := R.own e
        cases e2 : ds.getLast? with
        | none => simp only [e2] at P; exact P.elim
        | some d =>
          simp only [e2] at P
          rw [List.getLast?_eq_getElem?] at e2
          obtain ⟨v, e3, q⟩ := ta.get e2
          obtain ⟨R', S'⟩ := R.write e e1 ta.dropLast
          exact ⟨.ref a, e1, .inl ⟨rfl, vs, SqL.of ha⟩, a, vs, v, rfl, rfl, ha, by rw [← ta.length]; exact e3, P _ O R' S' v (q.mono (S'.toStp.same R))⟩
      | _ => exact P.elim
    | _ => exact P.elim
end

/-! ### a def's promise, a call -/
abbrev DM := List Sl → Rs RV
def spM (K : Fg) (XR : XRel) (F : DM) (n : Nat) : Sp := fun vs H Q E => vs.length = n ∧ ∃ O Δ, Rl K O Δ (vs.map some) H ∧
  Post K XR (fun cls d _ H' => E cls d H') (vs.map some) Δ H O (fun r Δ' H' O' => ∀ v, RvAt K O' (vs.map some) Δ' H' H r v → Q v H') (F Δ)
def argSl (Γ : List Sl) : RV → Option Sl
  | .va d => some (.va d)
  | .owc ds => some (.va ds.data)
  | .bo i => match Γ[i]? with
    | some .no => none
    | o => o
def argsSl (Γ : List Sl) : List RV → Option (List Sl)
  | [] => some []
  | r :: rs => match argSl Γ r, argsSl Γ rs with
    | some s, some t => some (s :: t)
    | _, _ => none
def isBo (i : Nat) : RV → Bool
  | .bo j => i == j
  | _ => false
/-- where the list at slot i is handed on -/
def posBo (i : Nat) : List RV → Option Nat
  | [] => none
  | r :: rs => if isBo i r then some 0 else (posBo i rs).map (· + 1)
def uniqBo : List RV → Bool
  | [] => true
  | .bo i :: rs => !(rs.any (isBo i)) && uniqBo rs
  | _ :: rs => uniqBo rs
def wb1 (rs : List RV) (Δ : List Sl) (i : Nat) : Sl → Sl
  | .owc ds => match posBo i rs with
    | some j => match Δ[j]? with
      | some s => s
      | none => .owc ds
    | none => .owc ds
  | s => s
def wb (rs : List RV) (Δ : List Sl) : Nat → List Sl → List Sl
  | _, [] => []
  | i, s :: t => wb1 rs Δ i s :: wb rs Δ (i + 1) t
def Rs.back (rs : List RV) (Γ : List Sl) : Rs RV → Rs RV
  | .ok (.va d) Δ => .ok (.va d) (wb rs Δ 0 Γ)
  | .ok (.owc ds) Δ => .ok (.owc ds) (wb rs Δ 0 Γ)
  | .ok (.bo _) _ => .no
  | .ex c pl Δ => .ex c pl (wb rs Δ 0 Γ)
  | .no => .no
def mCall (F : DM) (ms : AM) : EM := fun Γ => (ms Γ).bind fun rs Γ1 => match argsSl Γ1 rs with
  | some Δ => if uniqBo rs then (F Δ).back rs Γ1 else .no
  | none => .no
theorem wb_get (rs : List RV) (Δ : List Sl) : ∀ (Γ : List Sl) (i j : Nat), (wb rs Δ i Γ)[j]? = (Γ[j]?).map (wb1 rs Δ (i + j))
  | [], i, j => by simp [wb]
  | s :: t, i, 0 => by simp [wb]
  | s :: t, i, j + 1 => by
    simp only [wb, List.getElem?_cons_succ]
    rw [wb_get rs Δ t (i + 1) j, show i + 1 + j = i + (j + 1) by omega]
theorem wb_len (rs : List RV) (Δ : List Sl) : ∀ (Γ : List Sl) (i : Nat), (wb rs Δ i Γ).length = Γ.length
  | [], i => rfl
  | s :: t, i => by simp [wb, wb_len rs Δ t (i + 1)]
theorem posBo_get : ∀ {rs : List RV} {i j : Nat}, posBo i rs = some j → rs[j]? = some (.bo i)
  | [], _, _, h => by cases h
  | r :: rs, i, j, h => by
    unfold posBo at h
    split at h
    · rename_i hb
      cases h
      cases r with
      | bo k => simp [isBo] at hb; subst hb; rfl
      | _ => cases hb
    · obtain ⟨k, e1, e2⟩ := Option.map_eq_some_iff.mp h
      subst e2
      simpa using posBo_get e1
theorem posBo_none : ∀ {rs : List RV} {i j : Nat}, posBo i rs = none → rs[j]? ≠ some (.bo i)
  | [], _, _, _ => by simp
  | r :: rs, i, j, h => by
    unfold posBo at h
    split at h
    · cases h
    · rename_i hb
      have h2 : posBo i rs = none := by simpa using h
      cases j with
      | zero => intro z; simp at z; subst z; simp [isBo] at hb
      | succ j => intro z; exact posBo_none h2 (j := j) (by simpa using z)
theorem any_isBo {i : Nat} : ∀ {rs : List RV} {j : Nat}, rs[j]? = some (.bo i) → rs.any (isBo i) = true
  | [], _, h => by simp at h
  | r :: rs, 0, h => by simp at h; subst h; simp [isBo]
  | r :: rs, j + 1, h => by simp only [List.any_cons, any_isBo (rs := rs) (j := j) (by simpa using h), Bool.or_true]
theorem uniqBo_eq : ∀ {rs : List RV} {i j k : Nat}, uniqBo rs = true → rs[j]? = some (.bo i) → rs[k]? = some (.bo i) → j = k
  | [], _, _, _, _, h, _ => by simp at h
  | r :: rs, i, 0, 0, _, _, _ => rfl
  | r :: rs, i, 0, k + 1, u, h1, h2 => by
    simp at h1; subst h1
    simp only [uniqBo, Bool.and_eq_true, Bool.not_eq_true'] at u
    rw [any_isBo (rs := rs) (j := k) (by simpa using h2)] at u
    exact nomatch u.1
  | r :: rs, i, j + 1, 0, u, h1, h2 => by
    simp at h2; subst h2
    simp only [uniqBo, Bool.and_eq_true, Bool.not_eq_true'] at u
    rw [any_isBo (rs := rs) (j := j) (by simpa using h1)] at u
    exact nomatch u.1
  | r :: rs, i, j + 1, k + 1, u, h1, h2 => by
    have u2 : uniqBo rs = true := by
      cases r with
      | bo m => simp only [uniqBo, Bool.and_eq_true] at u; exact u.2
      | _ => exact u
    rw [uniqBo_eq (rs := rs) (j := j) (k := k) u2 (by simpa using h1) (by simpa using h2)]
section
variable {K : Fg} {O O' O'' : List Addr} {Γ : List Sl} {σ : L2.St} {H H' : Hp} {rs : List RV} {vs : List V} {Δ Δ' : List Sl}
theorem argsSl_get : ∀ {rs : List RV} {Δ : List Sl} {j : Nat} {r : RV}, argsSl Γ rs = some Δ → rs[j]? = some r → ∃ s, argSl Γ r = some s ∧ Δ[j]? = some s
  | [], _, _, _, _, h => by simp at h
  | r :: rs, Δ, j, r', e, h => by
    unfold argsSl at e
    split at e
    · rename_i s t e1 e2
      cases e
      cases j with
      | zero => simp at h; subst h; exact ⟨s, e1, rfl⟩
      | succ j =>
        obtain ⟨s', h1, h2⟩ := argsSl_get (rs := rs) (j := j) e2 (by simpa using h)
        exact ⟨s', h1, by simpa using h2⟩
    · cases e
theorem argsSl_getD : ∀ {rs : List RV} {Δ : List Sl} {j : Nat} {s : Sl}, argsSl Γ rs = some Δ → Δ[j]? = some s → ∃ r, rs[j]? = some r ∧ argSl Γ r = some s
  | [], _, _, _, e, h => by cases e; simp at h
  | r :: rs, Δ, j, s', e, h => by
    unfold argsSl at e
    split at e
    · rename_i s t e1 e2
      cases e
      cases j with
      | zero => simp at h; subst h; exact ⟨r, rfl, e1⟩
      | succ j =>
        obtain ⟨r', h1, h2⟩ := argsSl_getD (rs := rs) (j := j) e2 (by simpa using h)
        exact ⟨r', by simpa using h1, h2⟩
    · cases e
theorem argsSl_len : ∀ {rs : List RV} {Δ : List Sl}, argsSl Γ rs = some Δ → Δ.length = rs.length
  | [], _, e => by cases e; rfl
  | r :: rs, Δ, e => by
    unfold argsSl at e
    split at e
    · rename_i s t e1 e2
      cases e
      simp [argsSl_len e2]
    · cases e
theorem RvAll.len : ∀ {rs : List RV} {vs : List V}, RvAll K O σ Γ H rs vs → vs.length = rs.length
  | [], _, h => by cases h; rfl
  | r :: rs, _, ⟨v, t, e1, _, ht⟩ => by subst e1; simp [RvAll.len ht]
theorem RvAll.at : ∀ {rs : List RV} {vs : List V} {j : Nat} {r : RV}, RvAll K O σ Γ H rs vs → rs[j]? = some r → ∃ v, vs[j]? = some v ∧ ∃ Γ1 H1 O1 H0, Rl K O1 Γ1 σ H1 ∧ RvAt K O1 σ Γ1 H1 H0 r v ∧ EStp Γ1 σ H1 O1 Γ H O
  | [], _, _, _, _, h => by simp at h
  | r :: rs, _, 0, _, ⟨v, t, e1, q, ht⟩, h => by simp at h; subst h e1; exact ⟨v, rfl, q⟩
  | r :: rs, _, j + 1, _, ⟨v, t, e1, _, ht⟩, h => by
    subst e1
    obtain ⟨v', h1, h2⟩ := RvAll.at (j := j) ht (by simpa using h)
    exact ⟨v', by simpa using h1, h2⟩
theorem map_some_get {vs : List V} {j : Nat} {v : V} (h : vs[j]? = some v) : (vs.map some)[j]? = some (some v) := by rw [List.getElem?_map, h]; rfl
/-- an owned argument is an owned slot of the caller's -/
theorem arg_own (R : Rl K O Γ σ H) (hA : RvAll K O σ Γ H rs vs) (hD : argsSl Γ rs = some Δ) {j : Nat} {ds : Ct} (h : Δ[j]? = some (.owc ds)) : ∃ i, rs[j]? = some (.bo i) ∧ Γ[i]? = some (.owc ds) ∧ ∃ v, vs[j]? = some v ∧ σ[i]? = some (some v) := by
  obtain ⟨r, e1, e2⟩ := argsSl_getD hD h
  cases r with
  | va d => cases e2
  | owc es => cases e2
  | bo i =>
    obtain ⟨v, e3, Γ1, H1, O1, H0, _, ⟨hv, _⟩, _⟩ := hA.at e1
    refine ⟨i, e1, ?_, v, e3, hv⟩
    simp only [argSl] at e2
    cases e4 : Γ[i]? with
    | none => rw [e4] at e2; cases e2
    | some s =>
      rw [e4] at e2
      cases s with
      | no => cases e2
      | _ => cases e2 <;> rfl
theorem arg_held (R : Rl K O Γ σ H) (hA : RvAll K O σ Γ H rs vs) (hD : argsSl Γ rs = some Δ) {j : Nat} {t : Sl} (h : Δ[j]? = some t) (ht : t.hd = true) : ∃ i, rs[j]? = some (.bo i) ∧ Γ[i]? = some t ∧ ∃ v, vs[j]? = some v ∧ σ[i]? = some (some v) := by
  obtain ⟨r, e1, e2⟩ := argsSl_getD hD h
  cases r with
  | va d => cases e2; cases ht
  | owc es => cases e2; cases ht
  | bo i =>
    obtain ⟨v, e3, Γ1, H1, O1, H0, _, ⟨hv, _⟩, _⟩ := hA.at e1
    refine ⟨i, e1, ?_, v, e3, hv⟩
    simp only [argSl] at e2
    cases e4 : Γ[i]? with
    | none => rw [e4] at e2; cases e2
    | some s =>
      rw [e4] at e2
      cases s with
      | no => cases e2
      | _ => cases e2 <;> rfl
/-- the arguments as the callee's slots -/
theorem args_rl (R : Rl K O Γ σ H) (hA : RvAll K O σ Γ H rs vs) (hD : argsSl Γ rs = some Δ) (hu : uniqBo rs = true) : Rl K O Δ (vs.map some) H where
  len := by rw [argsSl_len hD, List.length_map, hA.len]
  sl := fun j s h => by
    obtain ⟨r, e1, e2⟩ := argsSl_getD hD h
    obtain ⟨v, e3, Γ1, H1, O1, H0, R1, hv, S⟩ := hA.at e1
    refine ⟨some v, map_some_get e3, ?_⟩
    cases r with
    | va d =>
      cases e2
      exact ⟨v, rfl, At.mono (S.toStp.same R1) hv⟩
    | owc ds =>
      cases e2
      obtain ⟨a, us, e4, n, _, q, t, _⟩ := hv
      exact ⟨v, rfl, at_data.mpr ⟨a, us, e4, S.toStp.same R1 a _ (off_some.mpr ⟨n, q⟩), (t.mono off_less).mono (S.toStp.same R1)⟩⟩
    | bo i =>
      obtain ⟨hv, _⟩ := hv
      simp only [argSl] at e2
      cases e4 : Γ[i]? with
      | none => rw [e4] at e2; cases e2
      | some s' =>
        rw [e4] at e2
        obtain ⟨o, e5, q⟩ := R.sl i s' e4
        rw [hv] at e5; cases e5
        cases s' with
        | no => cases e2
        | va d => cases e2; exact q
        | owc ds => cases e2; exact q
        | bwc ds => cases e2; exact q
        | sc ns => cases e2; exact q
  ne := fun j k a ds t hjk h1 h2 ht h3 h4 => by
    obtain ⟨i1, g1, g2, v1, g3, g4⟩ := arg_own R hA hD h1
    obtain ⟨i2, k1, k2, v2, k3, k4⟩ := arg_held R hA hD h2 ht
    rw [map_some_get g3] at h3; cases h3
    rw [map_some_get k3] at h4; cases h4
    by_cases e : i1 = i2
    · subst e; exact hjk (uniqBo_eq hu g1 k1)
    · exact R.ne i1 i2 a ds t e g2 k2 ht g4 k4
  tr := R.tr
theorem args_mu (R : Rl K O Γ σ H) (hA : RvAll K O σ Γ H rs vs) (hD : argsSl Γ rs = some Δ) {b : Addr} (m : Mu Δ (vs.map some) b) : Mu Γ σ b := by
  obtain ⟨j, ds, h1, h2⟩ := m
  obtain ⟨i, g1, g2, v, g3, g4⟩ := arg_own R hA hD h1
  rw [map_some_get g3] at h2; cases h2
  exact ⟨i, ds, g2, g4⟩
/-- what the caller's slots are behind the call -/
theorem wb_own {i : Nat} {ds : Ct} (h : Γ[i]? = some (.owc ds)) : (wb rs Δ' 0 Γ)[i]? = some (match posBo i rs with
    | some j => (match Δ'[j]? with
      | some s => s
      | none => .owc ds)
    | none => .owc ds) := by
  rw [wb_get, h]
  simp only [Option.map_some, Nat.zero_add, wb1]
theorem wb_oth {i : Nat} {s : Sl} (h : Γ[i]? = some s) (n : ∀ ds, s ≠ .owc ds) : (wb rs Δ' 0 Γ)[i]? = some s := by
  rw [wb_get, h]
  cases s with
  | owc ds => exact absurd rfl (n ds)
  | _ => rfl
theorem wb_from {i : Nat} {s : Sl} (h : (wb rs Δ' 0 Γ)[i]? = some s) : ∃ s0, Γ[i]? = some s0 ∧ s = wb1 rs Δ' i s0 := by
  rw [wb_get] at h
  obtain ⟨s0, e1, e2⟩ := Option.map_eq_some_iff.mp h
  exact ⟨s0, e1, by rw [← e2, Nat.zero_add]⟩
theorem back_rl (R : Rl K O Γ σ H) (hA : RvAll K O σ Γ H rs vs) (hD : argsSl Γ rs = some Δ) (hu : uniqBo rs = true) (S : EStp Δ (vs.map some) H O Δ' H' O') (R' : Rl K O'' Δ' (vs.map some) H')
    (s2 : Same (off O H) (off O'' H')) (s3 : ∀ b, b ∈ O → ¬ Mu Δ (vs.map some) b → b ∈ O'') : Rl K O'' (wb rs Δ' 0 Γ) σ H' := by
  have passed : ∀ {i j : Nat} {ds : Ct}, Γ[i]? = some (.owc ds) → posBo i rs = some j → ∃ v s, σ[i]? = some (some v) ∧ vs[j]? = some v ∧ Δ[j]? = some (.owc ds) ∧ Δ'[j]? = some s := fun {i j ds} h e => by
    have g := posBo_get e
    obtain ⟨s, e1, e2⟩ := argsSl_get hD g
    have e3 : s = .owc ds := by simp only [argSl, h] at e1; exact (Option.some.inj e1).symm
    subst e3
    obtain ⟨v, e4, _, _, _, _, _, ⟨hv, _⟩, _⟩ := hA.at g
    rcases S.pres j ds e2 with ⟨es, e5⟩ | ⟨es, e5⟩
    · exact ⟨v, _, hv, e4, e2, e5⟩
    · exact ⟨v, _, hv, e4, e2, e5⟩
  have notp : ∀ {i : Nat} {ds : Ct} {a : Addr}, Γ[i]? = some (.owc ds) → σ[i]? = some (some (.ref a)) → posBo i rs = none → ¬ Mu Δ (vs.map some) a := fun {i ds a} h e n ⟨j, es, h1, h2⟩ => by
    obtain ⟨i', g1, g2, v, g3, g4⟩ := arg_own R hA hD h1
    rw [map_some_get g3] at h2; cases h2
    by_cases z : i = i'
    · subst z; exact posBo_none n g1
    · exact R.ne i i' a ds _ z h g2 rfl e g4
  refine ⟨by rw [wb_len]; exact R.len, fun i s h => ?_, fun i j a ds t hij h1 h2 ht h3 h4 => ?_, R'.tr⟩
  · obtain ⟨s0, e1, e2⟩ := wb_from h
    obtain ⟨o, e3, q⟩ := R.sl i s0 e1
    refine ⟨o, e3, ?_⟩
    cases s0 with
    | no => subst e2; trivial
    | va d => subst e2; obtain ⟨v, e4, q⟩ := q; exact ⟨v, e4, q.mono s2⟩
    | sc ns => subst e2; obtain ⟨a, e4, q⟩ := q; exact ⟨a, e4, s2.seq q⟩
    | bwc ds =>
      subst e2
      obtain ⟨a, us, e4, m, ha, t⟩ := q
      subst e4
      have nm : ¬ Mu Δ (vs.map some) a := fun ⟨j, es, h1, h2⟩ => by
        obtain ⟨i', g1, g2, v, g3, g4⟩ := arg_own R hA hD h1
        rw [map_some_get g3] at h2; cases h2
        by_cases z : i' = i
        · subst z; rw [e1] at g2; cases g2
        · exact R.ne i' i a es _ z g2 e1 rfl g4 e3
      exact ⟨a, us, rfl, s3 a m nm, S.keep a _ nm ha, t.mono s2⟩
    | owc ds =>
      simp only [wb1] at e2
      cases ep : posBo i rs with
      | none =>
        rw [ep] at e2; subst e2
        obtain ⟨a, us, e4, m, ha, t⟩ := q
        subst e4
        have nm := notp e1 e3 ep
        exact ⟨a, us, rfl, s3 a m nm, S.keep a _ nm ha, t.mono s2⟩
      | some j =>
        obtain ⟨v, s', g1, g2, g3, g4⟩ := passed e1 ep
        rw [ep] at e2
        simp only [g4] at e2
        subst e2
        rw [g1] at e3; cases e3
        obtain ⟨o', e5, q'⟩ := R'.sl j s g4
        rw [map_some_get g2] at e5; cases e5
        exact q'
  · obtain ⟨s0, e1, e2⟩ := wb_from h1
    obtain ⟨s1, e3, e4⟩ := wb_from h2
    have k0 : ∃ ys, s0 = .owc ys := by
      cases s0 with
      | owc ys => exact ⟨ys, rfl⟩
      | _ => cases e2
    obtain ⟨ys, rfl⟩ := k0
    have k1 : s1.hd = true := by
      cases s1 with
      | owc zs => rfl
      | bwc zs => rfl
      | _ => subst e4; cases ht
    exact R.ne i j a _ _ hij e1 e3 k1 h3 h4
theorem back_st (R : Rl K O Γ σ H) (hA : RvAll K O σ Γ H rs vs) (hD : argsSl Γ rs = some Δ) (S : EStp Δ (vs.map some) H O Δ' H' O') : EStp Γ σ H O (wb rs Δ' 0 Γ) H' O' := by
  refine ⟨⟨fun b o n e => S.keep b o (fun m => n (args_mu R hA hD m)) e, fun b ⟨i, ds, h1, h2⟩ => ?_, S.stay, S.grow, fun b h1 h2 => args_mu R hA hD (S.lose b h1 h2)⟩, S.sub, fun i ds h => ?_, fun i s h n => wb_oth h n, fun i ds h => ?_⟩
  · obtain ⟨s0, e1, e2⟩ := wb_from h1
    cases s0 with
    | owc ys => exact .inl ⟨i, ys, e1, h2⟩
    | _ => cases e2
  · rw [wb_own h]
    cases ep : posBo i rs with
    | none => exact .inl ⟨ds, rfl⟩
    | some j =>
      obtain ⟨s, e1, e2⟩ := argsSl_get hD (posBo_get ep)
      have e3 : s = .owc ds := by simp only [argSl, h] at e1; exact (Option.some.inj e1).symm
      subst e3
      rcases S.pres j ds e2 with ⟨es, e5⟩ | ⟨es, e5⟩
      · simp only [e5]; exact .inl ⟨es, rfl⟩
      · simp only [e5]; exact .inr ⟨es, rfl⟩
  · obtain ⟨s0, e1, e2⟩ := wb_from h
    cases s0 with
    | owc ys =>
      exfalso
      simp only [wb1] at e2
      split at e2
      · rename_i j hj
        split at e2
        · rename_i s hs
          subst e2
          obtain ⟨s', e3, e4⟩ := argsSl_get hD (posBo_get hj)
          have e5 : s' = .owc ys := by simp only [argSl, e1] at e3; exact (Option.some.inj e3).symm
          subst e5
          have e6 := S.bwb j ds hs
          rw [e4] at e6; cases e6
        · cases e2
      · cases e2
    | _ => rw [e1, e2] <;> rfl
end
section
variable {X : Cx} {XR : XRel} {W : WX} {k : Nat} {f : Addr} {fd : FuncData} {ps : List Str} {x : Str} {p pos : Pos} {e : Expr} {es : List Expr} {ms : AM} {F : DM} {n : Nat} {CX' : CXT}
theorem call_tE {K : Fg} {σ : L2.St} {H : Hp} {Q : VK} (hn : ∀ Γ rs Γ', ms Γ = .ok rs Γ' → rs.length = n) (h : tE K XR W (mCall F ms) σ H Q) : tCallS (spM K XR F n) (WE W) (tA K XR W ms) σ H Q := by
  obtain ⟨O, Γ, R, P⟩ := h
  refine ⟨O, Γ, R, ?_⟩
  have P' := P.bind R
  cases hms : ms Γ with
  | no => rw [hms] at P'; exact P'.elim
  | ex c pl Γ' => rw [hms] at P'; exact P'
  | ok rs Γ1 =>
    have hl := hn Γ rs Γ1 hms
    rw [hms] at P'
    intro H1 O1 R1 S1 vs hvs
    have P1 := P' H1 O1 R1 S1
    dsimp only at P1
    cases hD : argsSl Γ1 rs with
    | none => rw [hD] at P1; exact P1.elim
    | some Δ =>
      rw [hD] at P1
      by_cases hu : uniqBo rs = true
      · simp only [hu, if_true] at P1
        refine ⟨by rw [hvs.len, hl], O1, Δ, args_rl R1 hvs hD hu, ?_⟩
        cases hF : F Δ with
        | no => rw [hF] at P1; exact P1.elim
        | ex c pl Δ' =>
          rw [hF] at P1
          intro cls d H' O' xr R' S'
          exact P1 cls d H' O' xr (back_rl R1 hvs hD hu S' R' (S'.toStp.same (args_rl R1 hvs hD hu)) fun b hb n => Classical.byContradiction fun z => n (S'.lose b hb z)) (back_st R1 hvs hD S')
        | ok r Δ' =>
          rw [hF] at P1
          intro H' O' R' S' v hv
          have R2 := back_rl R1 hvs hD hu S' R' (S'.toStp.same (args_rl R1 hvs hD hu)) fun b hb n => Classical.byContradiction fun z => n (S'.lose b hb z)
          have S2 := back_st R1 hvs hD S'
          cases r with
          | va d => exact P1 H' O' R2 S2 v hv
          | owc ds =>
            obtain ⟨a, us, e1, n1, n2, q, t, R3⟩ := hv
            refine P1 H' O' R2 S2 v ⟨a, us, e1, n1, none_back S1.toStp a n2, q, t, back_rl R1 hvs hD hu S' R3 ?_ fun b hb n => List.mem_cons_of_mem _ (Classical.byContradiction fun z => n (S'.lose b hb z))⟩
            intro b o e
            obtain ⟨z1, z2⟩ := off_some.mp (S'.toStp.same (args_rl R1 hvs hD hu) b o e)
            refine off_some.mpr ⟨fun m => ?_, z2⟩
            rcases List.mem_cons.mp m with m | m
            · subst m
              rw [(off_some.mp e).2] at n2; cases n2
            · exact z1 m
          | bo i => exact P1.elim
      · simp only [hu] at P1
        exact P1.elim
/-- the number of arguments -/
def ArgN (ms : AM) (n : Nat) : Prop := ∀ Γ rs Γ', ms Γ = .ok rs Γ' → rs.length = n
theorem argN_nil : ArgN mNil 0 := fun Γ rs Γ' h => by cases h; rfl
theorem argN_cons {m : EM} {ms : AM} {n : Nat} (h : ArgN ms n) : ArgN (mCons m ms) (n + 1) := fun Γ rs Γ' e => by
  unfold mCons at e
  cases e1 : m Γ with
  | ok r Γ1 =>
    rw [e1] at e
    simp only [Rs.bind] at e
    cases e2 : ms Γ1 with
    | ok rs' Γ2 => rw [e2] at e; cases e; simp [h _ _ _ e2]
    | ex c pl Γ2 => rw [e2] at e; cases e
    | no => rw [e2] at e; cases e
  | ex c pl Γ1 => rw [e1] at e; cases e
  | no => rw [e1] at e; cases e
/-- a call of a def that keeps its mirror: it may raise -/
theorem me_callX (G : FnOk X.prog X.w X.KW X.mg X.base (L2.CX X.prog X.w) k f fd ps (spM X.KW XR F n)) (hr : Room k X.A) (hg : Gl X x) (hm : X.mg x = some (.ref f)) (hk : PySem.W.keepIn X.KW (.ref f) = true) (hb : Binds X.KW fd ps []) (tk : Takes X W)
    (hn : ArgN ms n) (ha : MA X XR W (e :: es) ms) (hdb : (x == ("__debug__" : Str)) = false := by decide) (he : starEach (e :: es) X.env = (false, eval e X.env) :: starEach es X.env := by rfl) (hpl : (backTo pos (starEach es X.env)).any (·.1) = false := by rfl) :
    ME X XR W (.Call (.Name x p) (e :: es) [] pos) (mCall F ms) := (pe_callS G hr hg hm hk hb (fun σ => passAt tk σ) ha hdb he hpl).imp fun σ H Q h => call_tE hn h
end
end Mir

set_option Elab.async false
set_option autoImplicit false
set_option linter.all false
set_option maxRecDepth 100000
set_option maxHeartbeats 4000000
namespace Mir
open PySem PySem.Spec PyProof.Rows L2

/-! ### what a loop or a comprehension walks -/
/-- J yields the data ds while G holds -/
structure Walk (K : Fg) (J : It) (ds : List D) (G : List Addr → List Sl → L2.St → Hp → Prop) : Prop where
  go : ∀ i O Γ σ H d, ds[i]? = some d → Rl K O Γ σ H → G O Γ σ H → J.go i H
  yld : ∀ i O Γ σ H d x H', ds[i]? = some d → Rl K O Γ σ H → G O Γ σ H → J.yld i H x H' → Same H H' ∧ At K (off O H') d x
  stop : ∀ O Γ σ H, Rl K O Γ σ H → G O Γ σ H → J.stop ds.length H
  stb : ∀ O Γ σ H O' Γ' σ' H', G O Γ σ H → Same (off O H) (off O' H') → (∀ (i : Nat) (es : Ct), Γ[i]? = some (Sl.bwc es) → Γ'[i]? = some (Sl.bwc es) ∧ σ'[i]? = σ[i]?) → G O' Γ' σ' H'
def bor (b : Option Nat) (ds : List D) (Γ : List Sl) : List Sl := match b with
  | some i => Γ.set i (.bw ds)
  | none => Γ
def unb (b : Option Nat) (ds : List D) (Γ : List Sl) : List Sl := match b with
  | some i => Γ.set i (.ow ds)
  | none => Γ
abbrev IM := List Sl → Rs (List D × Option Nat)
/-- b is an owned slot with these items -/
def BorOk (Γ : List Sl) (p : List D × Option Nat) : Prop := ∀ i, p.2 = some i → Γ[i]? = some (.ow p.1)
def tI (K : Fg) (XR : XRel) (W : WX) (m : IM) : TI := fun σ H R => ∃ O Γ, Rl K O Γ σ H ∧ Post K XR W σ Γ H O (fun p Γ' H' O' => BorOk Γ' p → ∀ J G, Walk K J p.1 G → G O' (bor p.2 p.1 Γ') σ H' → R J H') (m Γ)
def MI (X : Cx) (XR : XRel) (W : WX) (tg iter : Expr) (m : IM) : Prop := PI X tg iter (tI X.KW XR W m)
theorem _root_.L2.PI.imp {X : Cx} {tg e : Expr} {t t' : TI} (h : PI X tg e t) (k : ∀ σ H Q, t' σ H Q → t σ H Q) : PI X tg e t' := ⟨fun pins s σ H Q I q => h.run pins s σ H Q I (k σ H Q q)⟩
section
variable {K : Fg} {a : Addr} {vs : List V} {ds : List D} {O : List Addr} {Γ : List Sl} {σ : L2.St} {H H' : Hp}
/-- a list that is data -/
def GL (K : Fg) (a : Addr) (ds : List D) : List Addr → List Sl → L2.St → Hp → Prop := fun O _ _ H => ∃ vs, SqL K (off O H) a vs ∧ AtL K (off O H) ds vs
theorem walk_list : Walk K (Itl K a) ds (GL K a ds) where
  go := fun i O Γ σ H d e R ⟨vs, h, t⟩ => by
    obtain ⟨v, e1, _⟩ := t.get e
    exact ⟨vs, v, off_le.seq h, e1⟩
  yld := fun i O Γ σ H d x H' e R ⟨vs, h, t⟩ ⟨e1, y⟩ => by
    subst e1
    obtain ⟨v, e2, q⟩ := t.get e
    have e3 := y vs (off_le.seq h)
    rw [e2] at e3; cases e3
    exact ⟨fun _ _ z => z, q⟩
  stop := fun O Γ σ H R ⟨vs, h, t⟩ => ⟨vs, off_le.seq h, by rw [t.length]; exact Nat.le_refl _⟩
  stb := fun O Γ σ H O' Γ' σ' H' ⟨vs, h, t⟩ e _ => ⟨vs, e.seq h, t.mono e⟩
def GT (K : Fg) (a : Addr) (ds : List D) : List Addr → List Sl → L2.St → Hp → Prop := fun O _ _ H => ∃ vs, SqT K (off O H) a vs ∧ AtL K (off O H) ds vs
theorem walk_tup : Walk K (Itt K a) ds (GT K a ds) where
  go := fun i O Γ σ H d e R ⟨vs, h, t⟩ => by
    obtain ⟨v, e1, _⟩ := t.get e
    exact ⟨vs, v, Same.seqT off_le h, e1⟩
  yld := fun i O Γ σ H d x H' e R ⟨vs, h, t⟩ ⟨e1, y⟩ => by
    subst e1
    obtain ⟨v, e2, q⟩ := t.get e
    have e3 := y vs (Same.seqT off_le h)
    rw [e2] at e3; cases e3
    exact ⟨fun _ _ z => z, q⟩
  stop := fun O Γ σ H R ⟨vs, h, t⟩ => ⟨vs, Same.seqT off_le h, by rw [t.length]; exact Nat.le_refl _⟩
  stb := fun O Γ σ H O' Γ' σ' H' ⟨vs, h, t⟩ e _ => ⟨vs, Same.seqT e h, t.mono e⟩
/-- a lent slot -/
def GB (i : Nat) (a : Addr) (ds : List D) : List Addr → List Sl → L2.St → Hp → Prop := fun _ Γ σ _ => Γ[i]? = some (.bw ds) ∧ σ[i]? = some (some (.ref a))
theorem GB.list {i : Nat} (R : Rl K O Γ σ H) (g : GB i a ds O Γ σ H) : ∃ vs, H a = some (.lst vs) ∧ AtL K (off O H) ds vs := by
  obtain ⟨o, e1, a', vs, e2, m, h, t⟩ := R.sl i _ g.1
  rw [g.2] at e1; cases e1; cases e2
  exact ⟨vs, h, t⟩
theorem walk_bor {i : Nat} : Walk K (Itl K a) ds (GB i a ds) where
  go := fun j O Γ σ H d e R g => by
    obtain ⟨vs, h, t⟩ := g.list R
    obtain ⟨v, e1, _⟩ := t.get e
    exact ⟨vs, v, SqL.of h, e1⟩
  yld := fun j O Γ σ H d x H' e R g ⟨e1, y⟩ => by
    subst e1
    obtain ⟨vs, h, t⟩ := g.list R
    obtain ⟨v, e2, q⟩ := t.get e
    have e3 := y vs (SqL.of h)
    rw [e2] at e3; cases e3
    exact ⟨fun _ _ z => z, q⟩
  stop := fun O Γ σ H R g => by
    obtain ⟨vs, h, t⟩ := g.list R
    exact ⟨vs, SqL.of h, by rw [t.length]; exact Nat.le_refl _⟩
  stb := fun O Γ σ H O' Γ' σ' H' ⟨g1, g2⟩ _ k => by
    obtain ⟨h1, h2⟩ := k i ⟨.lst, ds⟩ g1
    exact ⟨h1, by rw [h2]; exact g2⟩
def G0 : List Addr → List Sl → L2.St → Hp → Prop := fun _ _ _ _ => True
def rngD (lo : Int) (n : Nat) : List D := (List.range n).map fun (k : Nat) => D.int (lo + (k : Int))
theorem rngD_get {lo : Int} {n i : Nat} : (rngD lo n)[i]? = if i < n then some (D.int (lo + i)) else none := by
  unfold rngD
  rw [List.getElem?_map]
  by_cases h : i < n
  · rw [List.getElem?_range h, if_pos h] <;> rfl
  · rw [List.getElem?_eq_none (by simpa using h), if_neg h] <;> rfl
theorem walk_rng {lo : Int} {n : Nat} : Walk K (Itr lo n) (rngD lo n) G0 where
  go := fun i O Γ σ H d e R _ => by
    rw [rngD_get] at e
    split at e
    · assumption
    · cases e
  yld := fun i O Γ σ H d x H' e R _ ⟨e1, y⟩ => by
    subst e1 y
    rw [rngD_get] at e
    split at e
    · cases e; exact ⟨fun _ _ z => z, rfl⟩
    · cases e
  stop := fun O Γ σ H R _ => by show n ≤ (rngD lo n).length; simp [rngD]
  stb := fun _ _ _ _ _ _ _ _ _ _ _ => trivial
def strD (x : List Nat) : List D := x.map fun c => D.str [c]
theorem walk_str {x : List Nat} : Walk K (Its (toS x)) (strD x) G0 where
  go := fun i O Γ σ H d e R _ => by
    show i < (toS x).cps.size
    unfold strD at e
    rw [List.getElem?_map] at e
    obtain ⟨c, e1, _⟩ := Option.map_eq_some_iff.mp e
    simpa using (List.getElem?_eq_some_iff.mp e1).1
  yld := fun i O Γ σ H d x' H' e R _ ⟨e1, c, y1, y2⟩ => by
    subst e1 y2
    unfold strD at e
    rw [List.getElem?_map] at e
    obtain ⟨c', e2, e3⟩ := Option.map_eq_some_iff.mp e
    have e4 : x[i]? = some c := by simpa using y1
    rw [e2] at e4; cases e4; subst e3
    exact ⟨fun _ _ z => z, rfl⟩
  stop := fun O Γ σ H R _ => by show (toS x).cps.size ≤ _; simp [strD]
  stb := fun _ _ _ _ _ _ _ _ _ _ _ => trivial
end
/-- a list, a tuple, a text -/
def iAny (K : Fg) (te : TE) : TI := fun σ H R => te σ H fun x H1 => (∃ a, x = .ref a ∧ (∃ xs, SqL K H1 a xs) ∧ R (Itl K a) H1) ∨ (∃ a, x = .ref a ∧ (∃ xs, SqT K H1 a xs) ∧ R (Itt K a) H1) ∨ ∃ z, x = .str z ∧ R (Its z) H1
section
variable {X : Cx} {XR : XRel} {W : WX} {tg e e2 : Expr} {m m2 : EM} {p pos : Pos}
theorem pi_any {te : TE} (he : PE X e te) : PI X tg e (iAny X.KW te) := by
  refine ⟨fun pins s σ H R I h => ?_⟩
  refine thn (he.run pins s σ H _ I h) fun v s1 ⟨x, H1, I1, r1, q1⟩ => ?_
  rcases q1 with ⟨a, e, ⟨xs, hq⟩, q⟩ | ⟨a, e, ⟨xs, hq⟩, q⟩ | ⟨z, e, q⟩
  · subst e
    cases r1
    obtain ⟨its, rv, p, hz⟩ := I1.list hq
    refine wpAny_pyIter_list p.isList ?_
    refine ⟨s1.heap.objs.size, [s1.heap.objs.size], _, _, H1, rfl, I1.kept (t' := s1.toks) fun b o e => Heap.get?_push_of_some _ e, turn_list a _, ⟨_, Heap.get?_push_size _ rfl, rfl, rfl⟩, fun b hb => ?_, q⟩
    have e : b = s1.heap.objs.size := by simpa using hb
    subst e
    exact I1.fpOk (Nat.le_refl _) (I1.hok.fresh (Nat.le_refl _))
  · subst e
    cases r1
    obtain ⟨its, rv, p, hz⟩ := I1.tuple hq
    refine wpAny_pyIter_tuple (show s1.heap.IsTuple a its.toArray from p) ?_
    refine ⟨s1.heap.objs.size, [s1.heap.objs.size], _, _, H1, rfl, I1.kept (t' := s1.toks) fun b o e => Heap.get?_push_of_some _ e, turn_tuple a _, ⟨_, Heap.get?_push_size _ rfl, rfl, rfl⟩, fun b hb => ?_, q⟩
    have e : b = s1.heap.objs.size := by simpa using hb
    subst e
    exact I1.fpOk (Nat.le_refl _) (I1.hok.fresh (Nat.le_refl _))
  · subst e
    obtain ⟨t, rfl⟩ := r1
    cases ha : z.cps.all (· < 128)
    · exact wpAny_pyIter_wide ha (pi_one (tk := s1.toks) I1 _ (turn_str _ z t "str_iterator" (.inr rfl)) ⟨_, Heap.get?_push_size _ rfl, rfl, rfl⟩ q)
    · exact wpAny_pyIter_ascii ha (pi_one (tk := s1.toks) I1 _ (turn_str _ z t "str_ascii_iterator" (.inl rfl)) ⟨_, Heap.get?_push_size _ rfl, rfl, rfl⟩ q)
def itemsD : D → Option (List D)
  | .lst ds => some ds
  | .tup ds => some ds
  | .str x => some (strD x)
  | _ => none
def mSeq (m : EM) : IM := fun Γ => (m Γ).bind fun r Γ1 => match r with
  | .va d => (match itemsD d with
    | some ds => .ok (ds, none) Γ1
    | none => .no)
  | .owc ⟨.lst, ds⟩ => .ok (ds, none) Γ1
  | .bo i => match Γ1[i]? with
    | some (.owc ⟨.lst, ds⟩) => .ok (ds, some i) Γ1
    | some (.bwc ⟨.lst, ds⟩) => .ok (ds, none) Γ1
    | some (.sc ns) => .ok (ns.map .int, none) Γ1
    | _ => .no
  | _ => .no
theorem mi_seq (h : ME X XR W e m) : MI X XR W tg e (mSeq m) := (pi_any h).imp fun σ H R' ⟨O, Γ, R, P⟩ => by
  refine ⟨O, Γ, R, (P.bind R).imp fun r Γ1 H1 O1 R1 S1 P1 v hv => ?_⟩
  cases r with
  | va d =>
    cases d with
    | lst ds =>
      obtain ⟨a, vs, rfl, q, t⟩ := hv
      exact .inl ⟨a, rfl, ⟨vs, SqL.of (off_le _ _ q)⟩, (P1 H1 O1 R1 EStp.refl) (fun j ej => by cases ej) (Itl X.KW a) _ walk_list ⟨vs, SqL.of q, t⟩⟩
    | tup ds =>
      obtain ⟨a, vs, rfl, q, t⟩ := hv
      exact .inr (.inl ⟨a, rfl, ⟨vs, Same.seqT off_le q⟩, (P1 H1 O1 R1 EStp.refl) (fun j ej => by cases ej) (Itt X.KW a) _ walk_tup ⟨vs, q, t⟩⟩)
    | str z => exact .inr (.inr ⟨toS z, hv, (P1 H1 O1 R1 EStp.refl) (fun j ej => by cases ej) (Its (toS z)) _ walk_str trivial⟩)
    | _ => exact P1.elim
  | owc tt =>
    obtain ⟨cc, ds⟩ := tt
    cases cc with
    | lst =>
      obtain ⟨a, vs, rfl, n, _, q, t, _⟩ := hv
      exact .inl ⟨a, rfl, ⟨vs, SqL.of q⟩, (P1 H1 O1 R1 EStp.refl) (fun j ej => by cases ej) (Itl X.KW a) _ walk_list ⟨vs, SqL.of (off_some.mpr ⟨n, q⟩), t.mono off_less⟩⟩
    | _ => exact P1.elim
  | bo i =>
    obtain ⟨e1, _⟩ := hv
    cases e2 : Γ1[i]? with
    | none => simp only [e2] at P1; exact P1.elim
    | some s =>
      simp only [e2] at P1
      obtain ⟨o, e3, q⟩ := R1.sl i s e2
      rw [e1] at e3; cases e3
      cases s with
      | owc tt =>
        obtain ⟨cc, ds⟩ := tt
        cases cc with
        | lst =>
          obtain ⟨a, vs, e4, m', q, t⟩ := q
          cases e4
          exact .inl ⟨a, rfl, ⟨vs, SqL.of q⟩, (P1 H1 O1 R1 EStp.refl) (fun j ej => by cases ej; exact e2) (Itl X.KW a) _ walk_bor ⟨get_set_eq e2, e1⟩⟩
        | _ => exact P1.elim
      | bwc tt =>
        obtain ⟨cc, bwds⟩ := tt
        cases cc with
        | lst =>
          obtain ⟨a, vs, e4, m', q, t⟩ := q
          cases e4
          exact .inl ⟨a, rfl, ⟨vs, SqL.of q⟩, (P1 H1 O1 R1 EStp.refl) (fun j ej => by cases ej) (Itl X.KW a) _ walk_bor ⟨e2, e1⟩⟩
        | _ => exact P1.elim
      | sc ns =>
        obtain ⟨a, e4, q⟩ := q
        cases e4
        exact .inl ⟨a, rfl, ⟨_, off_le.seq q⟩, (P1 H1 O1 R1 EStp.refl) (fun j ej => by cases ej) (Itl X.KW a) _ walk_list ⟨_, q, AtL.ints ns⟩⟩
      | _ => exact P1.elim
/-- range(n), range(a, b) -/
def mRng1 (m : EM) : IM := fun Γ => (m Γ).bind fun r Γ1 => match r with
  | .va (.int n) => if n < 4611686018427387904 ∧ -4611686018427387904 ≤ n then .ok (rngD 0 n.toNat, none) Γ1 else .no
  | _ => .no
theorem mi_rng1 (hg : Gl X "range") (hm : X.mg "range" = none) (h : ME X XR W e m) (hs : starEach [e] X.env = [(false, eval e X.env)] := by rfl) (he : starEach [e] X.env = (false, eval e X.env) :: starEach [] X.env := by rfl) : MI X XR W tg (.Call (.Name "range" p) [e] [] pos) (mRng1 m) :=
  (pi_range1 hg hm (pa_cons h pa_nil he) hs).imp fun σ H R' ⟨O, Γ, R, P⟩ => by
    refine ⟨O, Γ, R, (P.bind R).imp fun r Γ1 H1 O1 R1 S1 P1 v hv => ?_⟩
    cases r with
    | va d =>
      cases d with
      | int n =>
        simp only at P1
        split at P1
        · rename_i hz
          exact ⟨n, by rw [show v = V.int n from hv], by omega, by omega, (P1 H1 O1 R1 EStp.refl) (fun j ej => by cases ej) _ _ walk_rng trivial⟩
        · exact P1.elim
      | _ => exact P1.elim
    | _ => exact P1.elim
end

/-! ### targets -/
/-- what is stored at a slot: not at one that is owned and kept for the caller, not at one that is lent -/
abbrev GM := D → List Sl → Option (List Sl)
structure SStp (P : List Nat) (Γ : List Sl) (σ : L2.St) (H : Hp) (O : List Addr) (Γ' : List Sl) (σ' : L2.St) (H' : Hp) (O' : List Addr) : Prop extends Stp Γ σ H O Γ' σ' H' O' where
  par : ∀ (i : Nat), i ∈ P → σ'[i]? = σ[i]? ∧ ((∀ (ds : Ct), Γ[i]? = some (Sl.owc ds) → (∃ es, Γ'[i]? = some (Sl.owc es)) ∨ ∃ es : Ct, Γ'[i]? = some (Sl.va es.data)) ∧ (∀ (s : Sl), Γ[i]? = some s → (∀ ds, s ≠ Sl.owc ds) → Γ'[i]? = some s))
  bwk : ∀ (i : Nat) (ds : Ct), Γ[i]? = some (Sl.bwc ds) → Γ'[i]? = some (Sl.bwc ds) ∧ σ'[i]? = σ[i]?
  bwb : ∀ (i : Nat) (ds : Ct), Γ'[i]? = some (Sl.bwc ds) → Γ[i]? = some (Sl.bwc ds)
section
variable {K : Fg} {P : List Nat} {O O1 O2 O' : List Addr} {Γ Γ1 Γ2 Γ' : List Sl} {σ σ1 σ2 σ' : L2.St} {H H1 H2 H' : Hp}
theorem SStp.refl : SStp P Γ σ H O Γ σ H O := ⟨Stp.refl, fun i _ => ⟨rfl, fun ds h => .inl ⟨ds, h⟩, fun s h _ => h⟩, fun i ds h => ⟨h, rfl⟩, fun i ds h => h⟩
theorem EStp.s (S : EStp Γ σ H O Γ' H' O') : SStp P Γ σ H O Γ' σ H' O' := ⟨S.toStp, fun i _ => ⟨rfl, S.pres i, S.oth i⟩, fun i ds h => ⟨S.oth i _ h (fun _ z => by cases z), rfl⟩, S.bwb⟩
theorem SStp.trans (R : Rl K O Γ σ H) (a : SStp P Γ σ H O Γ1 σ1 H1 O1) (b : SStp P Γ1 σ1 H1 O1 Γ2 σ2 H2 O2) : SStp P Γ σ H O Γ2 σ2 H2 O2 where
  toStp := a.toStp.trans R b.toStp
  par := fun i h => by
    obtain ⟨a1, a2, a3⟩ := a.par i h
    obtain ⟨b1, b2, b3⟩ := b.par i h
    refine ⟨b1.trans a1, fun ds e => ?_, fun s e n => b3 s (a3 s e n) n⟩
    rcases a2 ds e with ⟨es, q⟩ | ⟨es, q⟩
    · exact b2 es q
    · exact .inr ⟨es, b3 _ q fun _ z => nomatch z⟩
  bwk := fun i ds h => by
    obtain ⟨a1, a2⟩ := a.bwk i ds h
    obtain ⟨b1, b2⟩ := b.bwk i ds a1
    exact ⟨b1, b2.trans a2⟩
  bwb := fun i ds h => a.bwb i ds (b.bwb i ds h)
/-- a slot that may be stored -/
def stOk (Γ : List Sl) (i : Nat) : Bool := match Γ[i]? with
  | some (.bwc _) => false
  | some _ => true
  | none => false
def put (i : Nat) (s : Sl) (Γ : List Sl) : Option (List Sl) := if stOk Γ i then some (Γ.set i s) else none
theorem Rl.put {i : Nat} {s : Sl} {v : V} (R : Rl K O Γ σ H) (hp : i ∉ P) (e : Mir.put i s Γ = some Γ') (hs : ∀ ds, s ≠ .owc ds ∧ s ≠ .bwc ds) (h : SlAt K O H s (some v)) : Rl K O Γ' (σ.set i (some v)) H ∧ SStp P Γ σ H O Γ' (σ.set i (some v)) H O := by
  unfold Mir.put at e
  split at e
  · rename_i hk
    cases e
    have hi : i < Γ.length := by
      unfold stOk at hk
      cases z : Γ[i]? with
      | none => rw [z] at hk; cases hk
      | some t => exact (List.getElem?_eq_some_iff.mp z).1
    have hiσ : i < σ.length := by rw [← R.len]; exact hi
    have nb : ∀ ds, Γ[i]? ≠ some (.bwc ds) := fun ds z => by unfold stOk at hk; rw [z] at hk; cases hk
    have mus : ∀ b, Mu (Γ.set i s) (σ.set i (some v)) b → Mu Γ σ b := fun b ⟨j, es, e3, e4⟩ => by
      by_cases hj : i = j
      · subst hj
        rw [List.getElem?_set_self hi] at e3
        exact absurd (Option.some.inj e3) (hs es).1
      · rw [get_set_ne hj] at e3 e4; exact ⟨j, es, e3, e4⟩
    refine ⟨⟨by rw [List.length_set, List.length_set]; exact R.len, fun j t e3 => ?_, fun j k a ds t hjk e3 e4 et e5 e6 => ?_, R.tr⟩, ⟨⟨fun b o _ e => e, fun b m => .inl (mus b m), fun b e => e, fun b m => .inl m, fun b m n => absurd m n⟩, fun j hj => ?_, fun j ds e3 => ?_, fun j ds e3 => ?_⟩⟩
    · by_cases hj : i = j
      · subst hj
        rw [List.getElem?_set_self hi] at e3; cases e3
        exact ⟨some v, List.getElem?_set_self hiσ, h⟩
      · rw [get_set_ne hj] at e3 ⊢; exact R.sl j t e3
    · by_cases hj : i = j
      · subst hj
        rw [List.getElem?_set_self hi] at e3
        exact absurd (Option.some.inj e3) (hs ds).1
      · by_cases hk2 : i = k
        · subst hk2
          rw [List.getElem?_set_self hi] at e4
          have e7 := Option.some.inj e4
          subst e7
          cases s with
          | owc es => exact absurd rfl (hs es).1
          | bwc es => exact absurd rfl (hs es).2
          | _ => cases et
        · rw [get_set_ne hj] at e3 e5; rw [get_set_ne hk2] at e4 e6; exact R.ne j k a ds t hjk e3 e4 et e5 e6
    · have hne : i ≠ j := fun z => hp (z ▸ hj)
      rw [get_set_ne hne, get_set_ne hne]
      exact ⟨rfl, fun ds h => .inl ⟨ds, h⟩, fun s h _ => h⟩
    · have hne : i ≠ j := fun z => nb ds (z ▸ e3)
      rw [get_set_ne hne, get_set_ne hne]
      exact ⟨e3, rfl⟩
    · by_cases hj : i = j
      · subst hj
        rw [List.getElem?_set_self hi] at e3
        exact absurd (Option.some.inj e3) (hs ds).2
      · rw [get_set_ne hj] at e3; exact e3
  · cases e
end
/-- but for the slots of T all is as it was -/
structure Tch (T : List Nat) (Γ : List Sl) (σ : L2.St) (Γ' : List Sl) (σ' : L2.St) : Prop where
  len : Γ'.length = Γ.length
  out : ∀ j, j ∉ T → Γ'[j]? = Γ[j]? ∧ σ'[j]? = σ[j]?
def gM (K : Fg) (P T : List Nat) (f : GM) : TG := fun v σ H Q => ∃ O Γ d Γ', Rl K O Γ σ H ∧ At K (off O H) d v ∧ f d Γ = some Γ' ∧ ∀ σ', Rl K O Γ' σ' H → SStp P Γ σ H O Γ' σ' H O → Tch T Γ σ Γ' σ' → Q σ' H
def MG (X : Cx) (P T : List Nat) (t : Expr) (f : GM) : Prop := PG X t (gM X.KW P T f)
theorem _root_.L2.PG.imp {X : Cx} {e : Expr} {t t' : TG} (h : PG X e t) (k : ∀ v σ H Q, t' v σ H Q → t v σ H Q) : PG X e t' := ⟨fun pins s σ H v u Q I r q => h.run pins s σ H v u Q I r (k v σ H Q q)⟩
def gN (i : Nat) : GM := fun d Γ => put i (.va d) Γ
theorem mg_name {X : Cx} {P : List Nat} {i : Nat} {x : Str} {pos : Pos} (hN : X.N.Nodup) (hi : X.N[i]? = some x) (hx : Loc X.env.scope x) (hp : i ∉ P := by decide) (hf : X.fn x = true ∨ X.env.scope.names.lookup x = some .local := by first | exact .inl rfl | exact .inr rfl | assumption) : MG X P [i] (.Name x pos) (gN i) :=
  (pg_name hN hi hx hf).imp fun v σ H Q ⟨O, Γ, d, Γ', R, h, e, q⟩ => by
    obtain ⟨R', S'⟩ := R.put (v := v) hp e (fun ds => ⟨(fun z => by cases z), (fun z => by cases z)⟩) ⟨v, rfl, h⟩
    refine q _ R' S' ⟨?_, fun j hj => ?_⟩
    · unfold gN put at e
      split at e
      · cases e; rw [List.length_set]
      · cases e
    have hne : i ≠ j := fun z => hj (by simp [z])
    unfold gN put at e
    split at e
    · cases e; exact ⟨get_set_ne hne, get_set_ne hne⟩
    · cases e
/-- (a, b, ..) -/
abbrev GMs := List D → List Sl → Option (List Sl)
def gMs (K : Fg) (P T : List Nat) (f : GMs) : TGs := fun vs σ H Q => ∃ O Γ ds Γ', Rl K O Γ σ H ∧ AtL K (off O H) ds vs ∧ f ds Γ = some Γ' ∧ ∀ σ', Rl K O Γ' σ' H → SStp P Γ σ H O Γ' σ' H O → Tch T Γ σ Γ' σ' → Q σ' H
def MGs (X : Cx) (P T : List Nat) (ts : List Expr) (f : GMs) : Prop := PGs X ts (gMs X.KW P T f)
theorem _root_.L2.PGs.imp {X : Cx} {e : List Expr} {t t' : TGs} (h : PGs X e t) (k : ∀ v σ H Q, t' v σ H Q → t v σ H Q) : PGs X e t' := ⟨fun pins s σ H v u Q I r q => h.run pins s σ H v u Q I r (k v σ H Q q)⟩
def gsNil : GMs := fun ds Γ => match ds with
  | [] => some Γ
  | _ => none
def gsCons (f : GM) (g : GMs) : GMs := fun ds Γ => match ds with
  | d :: r => (f d Γ).bind fun Γ1 => g r Γ1
  | _ => none
section
variable {X : Cx} {P T T' : List Nat} {t : Expr} {ts : List Expr} {f : GM} {g : GMs} {pos : Pos} {k : Nat}
theorem mgs_nil : MGs X P [] [] gsNil := pgs_nil.imp fun vs σ H Q ⟨O, Γ, ds, Γ', R, h, e, q⟩ => by
  cases ds with
  | nil => cases h; cases e; exact ⟨rfl, q σ R SStp.refl ⟨rfl, fun _ _ => ⟨rfl, rfl⟩⟩⟩
  | cons => cases e
theorem mgs_cons (h1 : MG X P T t f) (h2 : MGs X P T' ts g) (hs : (assignEach (t :: ts) X.env).map (·.2) = assign t X.env :: (assignEach ts X.env).map (·.2) := by rfl) : MGs X P (T ++ T') (t :: ts) (gsCons f g) := (pgs_cons h1 h2 hs).imp fun vs σ H Q ⟨O, Γ, ds, Γ', R, h, e, q⟩ => by
  cases ds with
  | nil => cases e
  | cons d r =>
    obtain ⟨v, vr, rfl, e1, e2⟩ := h
    obtain ⟨Γ1, e3, e4⟩ := Option.bind_eq_some_iff.mp e
    exact ⟨v, vr, rfl, O, Γ, d, Γ1, R, e1, e3, fun σ1 R1 S1 t1 => ⟨O, Γ1, r, Γ', R1, e2.mono (S1.toStp.same R), e4, fun σ' R' S' t2 => q σ' R' (S1.trans R S') ⟨t2.len.trans t1.len, fun j hj => by
      obtain ⟨a1, a2⟩ := t1.out j (fun z => hj (List.mem_append_left _ z))
      obtain ⟨b1, b2⟩ := t2.out j (fun z => hj (List.mem_append_right _ z))
      exact ⟨b1.trans a1, b2.trans a2⟩⟩⟩⟩
def gT (n : Nat) (g : GMs) : GM := fun d Γ => match d with
  | .tup ds => if ds.length = n then g ds Γ else none
  | _ => none
theorem mg_tup {n : Nat} (hc : X.calm = true) (h : MGs X P T ts g) (hn : (assignEach ts X.env).length = n := by rfl) (hst : (assignEach ts X.env).findIdx? (·.1) = none := by rfl) : MG X P T (.Tuple ts k pos) (gT n g) := (pg_tup hc h hn hst).imp fun v σ H Q ⟨O, Γ, d, Γ', R, h, e, q⟩ => by
  cases d with
  | tup ds =>
    obtain ⟨a, vs, rfl, h1, t⟩ := h
    simp only [gT] at e
    split at e
    · rename_i hl
      exact ⟨a, vs, rfl, Same.seqT off_le h1, by rw [← t.length]; exact hl, O, Γ, ds, Γ', R, t, e, q⟩
    · cases e
  | _ => cases e
end
end Mir

set_option Elab.async false
set_option autoImplicit false
set_option linter.all false
set_option maxRecDepth 100000
set_option maxHeartbeats 4000000
namespace Mir
open PySem PySem.Spec PyProof.Rows L2

section
variable {K : Fg} {P : List Nat} {O O0 O1 O2 O' O'' : List Addr} {Γ Γ0 Γ1 Γ2 Γ' : List Sl} {σ σ0 σ1 σ2 σ' : L2.St} {H H0 H1 H2 H' H'' : Hp} {b : Option Nat} {ds : List D}
/-! ### lent, given back -/
theorem Rl.lend {i : Nat} (R : Rl K O Γ σ H) (h : Γ[i]? = some (.ow ds)) : Rl K O (Γ.set i (.bw ds)) σ H ∧ Stp Γ σ H O (Γ.set i (.bw ds)) σ H O := by
  have mus : ∀ b, Mu (Γ.set i (.bw ds)) σ b → Mu Γ σ b := fun b ⟨j, es, e3, e4⟩ => by
    by_cases hj : i = j
    · subst hj; rw [get_set_eq h] at e3; cases e3
    · rw [get_set_ne hj] at e3; exact ⟨j, es, e3, e4⟩
  refine ⟨⟨by rw [List.length_set]; exact R.len, fun j s e3 => ?_, fun j k a fs t hjk e3 e4 et e5 e6 => ?_, R.tr⟩, ⟨fun b o _ e => e, fun b m => .inl (mus b m), fun b e => e, fun b m => .inl m, fun b m n => absurd m n⟩⟩
  · by_cases hj : i = j
    · subst hj
      rw [get_set_eq h] at e3; cases e3
      obtain ⟨o, e4, q⟩ := R.sl i _ h
      exact ⟨o, e4, q⟩
    · rw [get_set_ne hj] at e3; exact R.sl j s e3
  · by_cases hj : i = j
    · subst hj; rw [get_set_eq h] at e3; cases e3
    · rw [get_set_ne hj] at e3
      by_cases hk : i = k
      · subst hk; exact R.ne j i a fs _ hjk e3 h rfl e5 e6
      · rw [get_set_ne hk] at e4; exact R.ne j k a fs t hjk e3 e4 et e5 e6
theorem bor_rl (R : Rl K O Γ σ H) (h : BorOk Γ (ds, b)) : Rl K O (bor b ds Γ) σ H ∧ Stp Γ σ H O (bor b ds Γ) σ H O := by
  cases b with
  | none => exact ⟨R, Stp.refl⟩
  | some i => exact R.lend (h i rfl)
theorem unb_rl (R0 : Rl K O0 Γ0 σ0 H0) (h : BorOk Γ0 (ds, b)) (mu : ∀ a, Mu Γ' σ' a → Mu (bor b ds Γ0) σ0 a ∨ H0 a = none) (bwk : ∀ (i : Nat), b = some i → Γ'[i]? = some (Sl.bw ds) ∧ σ'[i]? = σ0[i]?)
    (bwb : ∀ (i : Nat) (es : Ct), Γ'[i]? = some (Sl.bwc es) → (bor b ds Γ0)[i]? = some (Sl.bwc es) ∧ σ'[i]? = σ0[i]?) (R : Rl K O'' Γ' σ' H') : Rl K O'' (unb b ds Γ') σ' H' := by
  cases b with
  | none => exact R
  | some i =>
    obtain ⟨g1, g2⟩ := bwk i rfl
    have h0 := h i rfl
    obtain ⟨a, vs, e1, ha, _⟩ := R0.own h0
    have out : ∀ (j : Nat) (es : Ct), Γ'[j]? = some (Sl.owc es) → σ'[j]? = some (some (.ref a)) → False := fun j es e3 e4 => by
      rcases mu a ⟨j, es, e3, e4⟩ with ⟨k, fs, e5, e6⟩ | z
      · have e5' : (Γ0.set i (.bw ds))[k]? = some (.owc fs) := e5
        by_cases hk : i = k
        · subst hk; rw [get_set_eq h0] at e5'; cases e5'
        · rw [get_set_ne hk] at e5'; exact R0.ne i k a ⟨.lst, ds⟩ _ hk h0 e5' rfl e1 e6
      · rw [ha] at z; cases z
    refine ⟨by show (Γ'.set i _).length = _; rw [List.length_set]; exact R.len, fun j s e3 => ?_, fun j k a' fs t hjk e3 e4 et e5 e6 => ?_, R.tr⟩
    · have e3' : (Γ'.set i (.ow ds))[j]? = some s := e3
      by_cases hj : i = j
      · subst hj
        rw [get_set_eq g1] at e3'; cases e3'
        obtain ⟨o, e4, q⟩ := R.sl i _ g1
        exact ⟨o, e4, q⟩
      · rw [get_set_ne hj] at e3'; exact R.sl j s e3'
    · have e3' : (Γ'.set i (.ow ds))[j]? = some (.owc fs) := e3
      have e4' : (Γ'.set i (.ow ds))[k]? = some t := e4
      by_cases hj : i = j
      · subst hj
        rw [g2, e1] at e5; cases e5
        rw [get_set_ne hjk] at e4'
        cases t with
        | owc gs => exact out k gs e4' e6
        | bwc gs =>
          -- two lent slots of one list: the other one was lent ahead
          obtain ⟨z1, z2⟩ := bwb k gs e4'
          have z1' : (Γ0.set i (.bw ds))[k]? = some (.bwc gs) := z1
          rw [get_set_ne hjk] at z1'
          exact R0.ne i k a ⟨.lst, ds⟩ _ hjk h0 z1' rfl e1 (z2 ▸ e6)
        | _ => cases et
      · rw [get_set_ne hj] at e3'
        by_cases hk : i = k
        · subst hk
          rw [g2, e1] at e6; cases e6
          exact out j fs e3' e5
        · rw [get_set_ne hk] at e4'; exact R.ne j k a' fs t hjk e3' e4' et e5 e6
end
end Mir

set_option Elab.async false
set_option autoImplicit false
set_option linter.all false
set_option maxRecDepth 100000
set_option maxHeartbeats 4000000
namespace Mir
open PySem PySem.Spec PyProof.Rows L2

/-! ### statements -/
inductive SR where
  | nx (Γ : List Sl) | rt (r : RV) (Γ : List Sl) | bk (Γ : List Sl) | ct (Γ : List Sl) | ex (c : Nat) (pl : List D) (Γ : List Sl) | no
abbrev SM := List Sl → SR
def SPost (K : Fg) (XR : XRel) (W : WX) (P : List Nat) (σ : L2.St) (Γ : List Sl) (H : Hp) (O : List Addr) (D : Ends) : SR → Prop
  | .nx Γ' => ∀ σ' H' O', Rl K O' Γ' σ' H' → SStp P Γ σ H O Γ' σ' H' O' → D.nx σ' H'
  | .rt r Γ' => ∀ σ' H' O', Rl K O' Γ' σ' H' → SStp P Γ σ H O Γ' σ' H' O' → ∀ v, RvAt K O' σ' Γ' H' H r v → D.rt v H'
  | .bk Γ' => ∀ σ' H' O', Rl K O' Γ' σ' H' → SStp P Γ σ H O Γ' σ' H' O' → D.bk σ' H'
  | .ct Γ' => ∀ σ' H' O', Rl K O' Γ' σ' H' → SStp P Γ σ H O Γ' σ' H' O' → D.ct σ' H'
  | .ex c pl Γ' => ∀ cls d σ' H' O', XR c pl H' cls d → Rl K O' Γ' σ' H' → SStp P Γ σ H O Γ' σ' H' O' → W cls d σ' H'
  | .no => False
def tS (K : Fg) (XR : XRel) (W : WX) (P : List Nat) (m : SM) : TS := fun D σ H => ∃ O Γ, Rl K O Γ σ H ∧ SPost K XR W P σ Γ H O D (m Γ)
def MS (X : Cx) (XR : XRel) (W : WX) (P : List Nat) (s : Stmt) (m : SM) : Prop := PS X s (tS X.KW XR W P m)
def MSs (X : Cx) (XR : XRel) (W : WX) (P : List Nat) (ss : List Stmt) (m : SM) : Prop := PSs X ss (tS X.KW XR W P m)
/-- an expression ahead of what is done with it -/
def Rs.sr {α : Type} (x : Rs α) (f : α → List Sl → SR) : SR := match x with
  | .ok a Γ => f a Γ
  | .ex c pl Γ => .ex c pl Γ
  | .no => .no
section
variable {K : Fg} {XR : XRel} {W : WX} {P : List Nat} {σ : L2.St} {Γ Γ1 : List Sl} {H H1 : Hp} {O O1 : List Addr} {D : Ends}
theorem SPost.after {σ1 : L2.St} {x : SR} (R0 : Rl K O Γ σ H) (S : SStp P Γ σ H O Γ1 σ1 H1 O1) (h : SPost K XR W P σ Γ H O D x) : SPost K XR W P σ1 Γ1 H1 O1 D x := by
  cases x with
  | nx Γ' => exact fun σ' H' O' R' S' => h σ' H' O' R' (S.trans R0 S')
  | rt r Γ' => exact fun σ' H' O' R' S' v hv => h σ' H' O' R' (S.trans R0 S') v (hv.older (none_back S.toStp))
  | bk Γ' => exact fun σ' H' O' R' S' => h σ' H' O' R' (S.trans R0 S')
  | ct Γ' => exact fun σ' H' O' R' S' => h σ' H' O' R' (S.trans R0 S')
  | ex c pl Γ' => exact fun cls d σ' H' O' xr R' S' => h cls d σ' H' O' xr R' (S.trans R0 S')
  | no => exact h
theorem SPost.sr {α : Type} {x : Rs α} {f : α → List Sl → SR} (R0 : Rl K O Γ σ H) (h : SPost K XR W P σ Γ H O D (x.sr f)) : Post K XR W σ Γ H O (fun a Γ1 H1 O1 => SPost K XR W P σ Γ1 H1 O1 D (f a Γ1)) x := by
  cases x with
  | ok a Γ' => exact fun H' O' R' S' => h.after R0 S'.s
  | ex c pl Γ' => exact fun cls d H' O' xr R' S' => h cls d σ H' O' xr R' S'.s
  | no => exact h
end
section
variable {X : Cx} {XR : XRel} {W : WX} {P : List Nat} {st : Stmt} {rest : List Stmt} {m m2 : SM} {e : Expr} {me : EM} {pos : Pos}
def sNil : SM := fun Γ => .nx Γ
def sSeq (m m2 : SM) : SM := fun Γ => match m Γ with
  | .nx Γ1 => m2 Γ1
  | x => x
theorem mss_nil : MSs X XR W P [] sNil := pss_nil.imp fun D σ H ⟨O, Γ, R, h⟩ => h σ H O R SStp.refl
theorem mss_cons (h1 : MS X XR W P st m) (h2 : MSs X XR W P rest m2) : MSs X XR W P (st :: rest) (sSeq m m2) := (pss_cons h1 h2).imp fun D σ H ⟨O, Γ, R, h⟩ => by
  refine ⟨O, Γ, R, ?_⟩
  unfold sSeq at h
  cases e : m Γ with
  | nx Γ1 =>
    rw [e] at h
    exact fun σ' H' O' R' S' => ⟨O', Γ1, R', h.after R S'⟩
  | _ => rw [e] at h; exact h
theorem mss_one (h1 : MS X XR W P st m) : MSs X XR W P [st] m := pss_one h1
def sBreak : SM := fun Γ => .bk Γ
def sCont : SM := fun Γ => .ct Γ
def sDrop (me : EM) : SM := fun Γ => (me Γ).sr fun _ Γ1 => .nx Γ1
theorem ms_expr (he : ME X XR W e me) (hs : swapsWith e none pos.line X.env = pure false := by rfl) : MS X XR W P (.Expr e pos) (sDrop me) := (ps_expr he hs).imp fun D σ H ⟨O, Γ, R, h⟩ =>
  ⟨O, Γ, R, (h.sr R).imp fun r Γ1 H1 O1 R1 S1 h1 v _ => h1 σ H1 O1 R1 SStp.refl⟩
def sRet (me : EM) : SM := fun Γ => (me Γ).sr fun r Γ1 => .rt r Γ1
theorem ms_ret (he : ME X XR W e me) : MS X XR W P (.Return (some e) pos) (sRet me) := (ps_ret he).imp fun D σ H ⟨O, Γ, R, h⟩ =>
  ⟨O, Γ, R, by
    unfold sRet at h
    cases e1 : me Γ with
    | ok r Γ1 => rw [e1] at h; exact fun H1 O1 R1 S1 v hv => h σ H1 O1 R1 S1.s v hv
    | ex c pl Γ1 => rw [e1] at h; exact fun cls d H' O' xr R' S' => h cls d σ H' O' xr R' S'.s
    | no => rw [e1] at h; exact h⟩
def sRetN : SM := fun Γ => .rt (.va .non) Γ
def sIf (t : List Sl → Rs Bool) (m m2 : SM) : SM := fun Γ => (t Γ).sr fun b Γ1 => if b = true then m Γ1 else m2 Γ1
theorem ms_if {c : Expr} {a b : List Stmt} {t : List Sl → Rs Bool} (hc : MT X XR W c t) (ha : MSs X XR W P a m) (hb : MSs X XR W P b m2) : MS X XR W P (.If c a b pos) (sIf t m m2) := (ps_if hc ha hb).imp fun D σ H ⟨O, Γ, R, h⟩ => by
  refine ⟨O, Γ, R, (h.sr R).imp fun k Γ1 H1 O1 R1 S1 h1 => ?_⟩
  cases k with
  | true => exact iteT ⟨O1, Γ1, R1, h1⟩
  | false => exact iteF ⟨O1, Γ1, R1, h1⟩

/-! ### stores -/
/-- name = value: a new list is owned, a list of another name is let go -/
def stV (i : Nat) (r : RV) (Γ : List Sl) : Option (List Sl) := match r with
  | .va d => put i (.va d) Γ
  | .owc ds => if stOk Γ i then some (Γ.set i (.owc ds)) else none
  | .bo j => match esc Γ (.bo j) with
    | some (d, Γ1) => put i (.va d) Γ1
    | none => none
def sSet (i : Nat) (me : EM) : SM := fun Γ => (me Γ).sr fun r Γ1 => match stV i r Γ1 with
  | some Γ2 => .nx Γ2
  | none => .no
theorem Rl.putO {K : Fg} {O : List Addr} {Γ : List Sl} {σ : L2.St} {H : Hp} {i : Nat} {a : Addr} {vs : List V} {ds : Ct} (hp : i ∉ P) (hk : stOk Γ i = true) (R : Rl K O Γ σ H) (R2 : Rl K (a :: O) Γ σ H) (na : a ∉ O) (e : H a = some (ds.ho K.w a vs)) (t : AtL K (off (a :: O) H) ds.ds vs) :
    Rl K (a :: O) (Γ.set i (.owc ds)) (σ.set i (some (.ref a))) H := by
  have hi : i < Γ.length := by
    unfold stOk at hk
    cases z : Γ[i]? with
    | none => rw [z] at hk; cases hk
    | some t => exact (List.getElem?_eq_some_iff.mp z).1
  have hiσ : i < σ.length := by rw [← R.len]; exact hi
  have nh : ∀ (j : Nat) (t : Sl), Γ[j]? = some t → t.hd = true → σ[j]? ≠ some (some (.ref a)) := fun j t e3 ht z => by
    obtain ⟨o, e4, q⟩ := R.sl j t e3
    rw [z] at e4; cases e4
    cases t with
    | owc es => obtain ⟨a', _, e5, m, _⟩ := q; cases e5; exact na m
    | bwc es => obtain ⟨a', _, e5, m, _⟩ := q; cases e5; exact na m
    | _ => cases ht
  refine ⟨by rw [List.length_set, List.length_set]; exact R.len, fun j s e3 => ?_, fun j k b fs t' hjk e3 e4 et e5 e6 => ?_, R2.tr⟩
  · by_cases hj : i = j
    · subst hj
      rw [List.getElem?_set_self hi] at e3; cases e3
      exact ⟨_, List.getElem?_set_self hiσ, a, vs, rfl, List.mem_cons_self, e, t⟩
    · rw [get_set_ne hj] at e3 ⊢; exact R2.sl j s e3
  · by_cases hj : i = j
    · subst hj
      rw [List.getElem?_set_self hiσ] at e5; cases e5
      rw [get_set_ne hjk] at e4 e6
      exact nh k t' e4 et e6
    · rw [get_set_ne hj] at e3 e5
      by_cases hk2 : i = k
      · subst hk2
        rw [List.getElem?_set_self hiσ] at e6; cases e6
        exact nh j _ e3 rfl e5
      · rw [get_set_ne hk2] at e4 e6; exact R.ne j k b fs t' hjk e3 e4 et e5 e6
theorem SPost.sr0 {K : Fg} {σ : L2.St} {Γ : List Sl} {H : Hp} {O : List Addr} {D : Ends} {α : Type} {x : Rs α} {f : α → List Sl → SR} (h : SPost K XR W P σ Γ H O D (x.sr f)) : Post K XR W σ Γ H O (fun a Γ1 H1 O1 => SPost K XR W P σ Γ H O D (f a Γ1)) x := by
  cases x with
  | ok a Γ' => exact fun H' O' R' S' => h
  | ex c pl Γ' => exact fun cls d H' O' xr R' S' => h cls d σ H' O' xr R' S'.s
  | no => exact h
theorem sst_own {O O1 : List Addr} {Γ Γ1 : List Sl} {σ : L2.St} {H H1 : Hp} {i : Nat} {a : Addr} {ds : Ct} (hp : i ∉ P) (hk : stOk Γ1 i = true) (S : EStp Γ σ H O Γ1 H1 O1) (n0 : H a = none) (hl : i < σ.length) (hl1 : i < Γ1.length) :
    SStp P Γ σ H O (Γ1.set i (.owc ds)) (σ.set i (some (.ref a))) H1 (a :: O1) := by
  have nb : ∀ es, Γ1[i]? ≠ some (.bwc es) := fun es z => by unfold stOk at hk; rw [z] at hk; cases hk
  refine ⟨⟨S.keep, fun b ⟨j, es, e3, e4⟩ => ?_, S.stay, fun b hb => ?_, fun b h1 h2 => S.lose b h1 fun z => h2 (List.mem_cons_of_mem _ z)⟩, fun j hj => ?_, fun j es e => ?_, fun j es e => ?_⟩
  · by_cases hj : i = j
    · subst hj
      rw [List.getElem?_set_self hl] at e4; cases e4
      exact .inr n0
    · rw [get_set_ne hj] at e3 e4; exact S.mu b ⟨j, es, e3, e4⟩
  · rcases List.mem_cons.mp hb with e | e
    · rw [e]; exact .inr n0
    · exact S.grow b e
  · have hne : i ≠ j := fun z => hp (z ▸ hj)
    rw [get_set_ne hne, get_set_ne hne]
    exact ⟨rfl, S.pres j, S.oth j⟩
  · have e1 := S.oth j _ e (fun _ z => by cases z)
    have hne : i ≠ j := fun z => nb es (z ▸ e1)
    rw [get_set_ne hne, get_set_ne hne]
    exact ⟨e1, rfl⟩
  · by_cases hj : i = j
    · subst hj
      rw [List.getElem?_set_self hl1] at e; cases e
    · rw [get_set_ne hj] at e; exact S.bwb j es e
theorem set_tS {K : Fg} {i : Nat} {D : Ends} {σ : L2.St} {H : Hp} (hp : i ∉ P) (h : tS K XR W P (sSet i me) D σ H) : tAsg (tE K XR W me) (gName i) D σ H := by
  obtain ⟨O, Γ, R, h⟩ := h
  refine ⟨O, Γ, R, h.sr0.imp fun r Γ1 H1 O1 R1 S1 h1 v hv => ?_⟩
  show D.nx (σ.set i (some v)) H1
  cases es : stV i r Γ1 with
  | none => simp only [es] at h1; exact h1.elim
  | some Γ2 =>
    simp only [es] at h1
    cases r with
    | va d =>
      obtain ⟨R2, S2⟩ := R1.put (P := P) (v := v) hp es (fun ds => ⟨(fun z => by cases z), (fun z => by cases z)⟩) ⟨v, rfl, hv⟩
      exact h1 _ _ _ R2 (S1.s.trans R S2)
    | owc ds =>
      simp only [stV] at es
      split at es
      · rename_i hk
        cases es
        obtain ⟨a, vs, rfl, na, n0, e, t, Rh⟩ := hv
        have hi : i < Γ1.length := by
          unfold stOk at hk
          cases z : Γ1[i]? with
          | none => rw [z] at hk; cases hk
          | some t => exact (List.getElem?_eq_some_iff.mp z).1
        exact h1 _ _ (a :: O1) (Rl.putO (P := P) hp hk R1 Rh na e t) (sst_own hp hk S1 n0 (by rw [← R1.len]; exact hi) hi)
      · cases es
    | bo j =>
      simp only [stV] at es
      cases e2 : esc Γ1 (.bo j) with
      | none => rw [e2] at es; cases es
      | some q =>
        obtain ⟨d, Γ3⟩ := q
        rw [e2] at es
        obtain ⟨O3, R3, S3, q3⟩ := RvAt.esc R1 hv EStp.refl R1 e2
        obtain ⟨R4, S4⟩ := R3.put (P := P) (v := v) hp es (fun ds => ⟨(fun z => by cases z), (fun z => by cases z)⟩) ⟨v, rfl, q3⟩
        exact h1 _ _ _ R4 ((S1.s.trans R S3.s).trans R S4)
theorem ms_set {i : Nat} {x : Str} {pos' : Pos} (hN : X.N.Nodup) (hi : X.N[i]? = some x) (hx : Loc X.env.scope x) (he : ME X XR W e me) (hp : i ∉ P := by decide) (hs : swapsWith e (some (.Name x pos')) pos.line X.env = pure false := by rfl) (hf : X.fn x = true ∨ X.env.scope.names.lookup x = some .local := by first | exact .inl rfl | exact .inr rfl | assumption) :
    MS X XR W P (.Assign [.Name x pos'] e pos) (sSet i me) := (ps_set hN hi hx he hs hf).imp fun D σ H h => set_tS hp h
/-- (a, b) = value, the value data -/
def sAsg (f : GM) (me : EM) : SM := fun Γ => (me Γ).sr fun r Γ1 => match r with
  | .va d => (match f d Γ1 with
    | some Γ2 => .nx Γ2
    | none => .no)
  | _ => .no
theorem ms_asg {tg : Expr} {f : GM} {T : List Nat} (he : ME X XR W e me) (hg : MG X P T tg f) (hs : swapsWithSole [tg] e pos.line X.env = pure false := by rfl) (hw : swappedStores [tg] e X.env = pure none := by rfl)
    (h1 : (assignEach [tg] X.env).map (·.2) = [assign tg X.env] := by rfl) : MS X XR W P (.Assign [tg] e pos) (sAsg f me) := (ps_asg he hg hs hw h1).imp fun D σ H ⟨O, Γ, R, h⟩ => by
  refine ⟨O, Γ, R, (h.sr R).imp fun r Γ1 H1 O1 R1 S1 h1 v hv => ?_⟩
  cases r with
  | va d =>
    cases es : f d Γ1 with
    | none => simp only [es] at h1; exact h1.elim
    | some Γ2 =>
      simp only [es] at h1
      exact ⟨O1, Γ1, d, Γ2, R1, hv, es, fun σ' R' S' _ => h1 σ' H1 O1 R' S'⟩
  | _ => exact h1.elim
/-- n, d = a, b -/
def sPar (i j : Nat) (ms : AM) : SM := fun Γ => (ms Γ).sr fun rs Γ1 => match rs with
  | [.va d, .va e] => (match (put i (.va d) Γ1).bind fun Γ2 => put j (.va e) Γ2 with
    | some Γ2 => .nx Γ2
    | none => .no)
  | _ => .no
/-- name op= value, ints -/
def sAug (i : Nat) (f : D → D → FR) (me : EM) : SM := fun Γ => match Γ[i]? with
  | some (.va d) => (me Γ).sr fun r Γ1 => (match r with
    | .va d2 => (match f d d2 with
      | .va d3 => (match put i (.va d3) Γ1 with
        | some Γ2 => .nx Γ2
        | none => .no)
      | _ => .no)
    | _ => .no)
  | _ => .no
def fAddI : D → D → FR
  | .int i, .int j => .va (.int (i + j))
  | _, _ => .no
/-! ### owned lists changed by statements -/
/-- xs[i] = e -/
def sStore (i : Nat) (me mi : EM) : SM := fun Γ => (me Γ).sr fun r Γ1 => match esc Γ1 r with
  | some (d, Γ2) => (match Γ2[i]? with
    | some (.owc ⟨.lst, _⟩) => (mi Γ2).sr fun z Γ3 => (match z, Γ3[i]? with
      | .va (.int k), some (.owc ⟨.lst, es⟩) => (match ixN es.length k with
        | some j => .nx (Γ3.set i (.ow (es.set j d)))
        | none => .no)
      | _, _ => .no)
    | _ => .no)
  | none => .no
/-- xs.m(e ..): append, insert, reverse, .. : a change of the owned list by data -/
def mMut (i : Nat) (f : List D → List D → Option (List D)) (ms : AM) : EM := fun Γ => match Γ[i]? with
  | some (.owc ⟨.lst, _⟩) => (ms Γ).bind fun rs Γ1 => (match escs Γ1 rs with
    | some (ds, Γ2) => (match Γ2[i]? with
      | some (.owc ⟨.lst, es⟩) => (match f es ds with
        | some fs => .ok (.va .non) (Γ2.set i (.ow fs))
        | none => .no)
      | _ => .no)
    | none => .no)
  | _ => .no
def fAppend (es ds : List D) : Option (List D) := match ds with
  | [d] => if es.length < big then some (es ++ [d]) else none
  | _ => none
variable {x : Str} {p apos : Pos} {es : List Expr} {ms : AM} {a : Expr}
theorem me_append {i : Nat} {b : Expr} (hv : PE X (.Name x p) (tVar i)) (ha : MA X XR W [b] ms)
    (hbase : attributeBase (.Name x p) "append" X.env (eval (.Name x p) X.env) = eval (.Name x p) X.env := by rfl)
    (hfew : ((backTo pos (starEach [b] X.env)).all (fun x => !x.1) && (backToKw pos (keywordEach [] X.env)).all (fun x => x.1.isSome)
      && decide ([b].length + ([] : List Keyword).length + (if ([] : List Keyword).isEmpty then 0 else 1) < 30)) = true := by rfl)
    (hline : (apos.endLine == pos.line) = true := by rfl) (hs : starEach [b] X.env = (false, eval b X.env) :: starEach [] X.env := by rfl) (hplain : (backTo pos (starEach [] X.env)).any (·.1) = false := by rfl) :
    ME X XR W (.Call (.Attribute (.Name x p) "append" apos) [b] [] pos) (mMut i fAppend ms) :=
  (pe_bm PySem.F.plainAttrs_list PySem.F.slot_list_append PySem.F.type_list_append mt_append hv ha hbase hfew hline hs hplain).imp fun σ H Q ⟨O, Γ, R, P⟩ => by
    unfold mMut at P
    cases e : Γ[i]? with
    | none => rw [e] at P; exact P.elim
    | some s =>
      rw [e] at P
      cases s with
      | owc tt =>
        obtain ⟨cc, es0⟩ := tt
        cases cc with
        | lst =>
          obtain ⟨a, vs0, e1, ha0, ta0⟩ := R.own e
          refine ⟨.ref a, e1, .inl ⟨rfl, vs0, SqL.of ha0⟩, O, Γ, R, (P.bind R).imp fun rs Γ1 H1 O1 R1 S1 P1 vs hvs => ?_⟩
          cases e2 : escs Γ1 rs with
          | none => simp only [e2] at P1; exact P1.elim
          | some q =>
            obtain ⟨ds, Γ2⟩ := q
            simp only [e2] at P1
            obtain ⟨O2, R2, S2, t⟩ := RvAll.escs R1 hvs EStp.refl R1 e2
            cases e3 : Γ2[i]? with
            | none => simp only [e3] at P1; exact P1.elim
            | some s2 =>
              simp only [e3] at P1
              cases s2 with
              | owc tt =>
                obtain ⟨cc, fs⟩ := tt
                cases cc with
                | lst =>
                  obtain ⟨a', us, e4, ha', ta'⟩ := R2.own e3
                  rw [e1] at e4; cases e4
                  cases e5 : fAppend fs ds with
                  | none => simp only [e5] at P1; exact P1.elim
                  | some gs =>
                    simp only [e5] at P1
                    unfold fAppend at e5
                    split at e5
                    · rename_i d
                      split at e5
                      · rename_i hz
                        cases e5
                        obtain ⟨v, r, rfl, q1, q2⟩ := t
                        cases q2
                        obtain ⟨R3, S3⟩ := R2.write e3 e1 (ta'.append (AtL.cons q1 AtL.nil))
                        exact ⟨a, us, v, rfl, rfl, ha', by rw [← ta'.length, big_eq]; exact hz, P1 _ _ R3 (S2.trans R1 S3) .non rfl⟩
                      · cases e5
                    · cases e5
                | _ => exact P1.elim
              | _ => exact P1.elim
        | _ => exact P.elim
      | _ => exact P.elim
def fReverse (es ds : List D) : Option (List D) := match ds with
  | [] => some es.reverse
  | _ => none
theorem me_reverse {i : Nat} (hv : PE X (.Name x p) (tVar i)) (hbase : attributeBase (.Name x p) "reverse" X.env (eval (.Name x p) X.env) = eval (.Name x p) X.env := by rfl) (hline : (apos.endLine == pos.line) = true := by rfl) :
    ME X XR W (.Call (.Attribute (.Name x p) "reverse" apos) [] [] pos) (mMut i fReverse mNil) := (pe_bm0 PySem.F.plainAttrs_list PySem.F.slot_list_reverse PySem.F.type_list_reverse mt_reverse hv hbase hline).imp fun σ H Q ⟨O, Γ, R, P⟩ => by
  unfold mMut mNil at P
  cases e : Γ[i]? with
  | none => rw [e] at P; exact P.elim
  | some s =>
    rw [e] at P
    cases s with
    | owc tt =>
      obtain ⟨cc, es0⟩ := tt
      cases cc with
      | lst =>
        obtain ⟨a, vs0, e1, ha0, ta0⟩ := R.own e
        simp only [Rs.bind, escs, e, fReverse] at P
        obtain ⟨R3, S3⟩ := R.write e e1 ta0.reverse
        exact ⟨.ref a, e1, .inl ⟨rfl, vs0, SqL.of ha0⟩, a, vs0, rfl, rfl, ha0, P _ _ R3 S3 .non rfl⟩
      | _ => exact P.elim
    | _ => exact P.elim
/-- xs[i] = e -/
theorem ms_store {i : Nat} {b : Expr} {mb : EM} {ps : Pos} (hv : PE X (.Name x p) (tVar i)) (he : ME X XR W e me) (hb : ME X XR W b mb) (hs : swapsWithSole [.Subscript (.Name x p) b ps] e pos.line X.env = pure false := by rfl) (hw : swappedStores [.Subscript (.Name x p) b ps] e X.env = pure none := by rfl)
    (h1 : (assignEach [.Subscript (.Name x p) b ps] X.env).map (·.2) = [assign (.Subscript (.Name x p) b ps) X.env] := by rfl)
    (ha : ∀ v, assign (.Subscript (.Name x p) b ps) X.env v = (do
      let ov ← holding [v] (eval (.Name x p) X.env)
      let iv ← holding [v, ov] (eval b X.env)
      standAt ps
      holding [v, ov, iv] (setItem ov iv v)
      release [v, ov, iv] []) := by intro _; rfl) : MS X XR W P (.Assign [.Subscript (.Name x p) b ps] e pos) (sStore i me mb) := (ps_asg he (pg_sub hv hb set_list ha) hs hw h1).imp fun D σ H ⟨O, Γ, R, h⟩ => by
  refine ⟨O, Γ, R, (h.sr R).imp fun r Γ1 H1 O1 R1 S1 h1 v hv1 => ?_⟩
  cases e2 : esc Γ1 r with
  | none => simp only [e2] at h1; exact h1.elim
  | some q =>
    obtain ⟨d, Γ2⟩ := q
    simp only [e2] at h1
    obtain ⟨O2, R2, S2, t⟩ := RvAt.esc R1 hv1 EStp.refl R1 e2
    cases e3 : Γ2[i]? with
    | none => simp only [e3] at h1; exact h1.elim
    | some s2 =>
      simp only [e3] at h1
      cases s2 with
      | owc tt =>
        obtain ⟨cc, fs⟩ := tt
        cases cc with
        | lst =>
          obtain ⟨a, us, e4, ha', ta'⟩ := R2.own e3
          refine ⟨.ref a, e4, O2, Γ2, R2, ((h1.after R1 S2.s).sr R2).imp fun z Γ3 H3 O3 R3 S3 h3 w hw => ?_⟩
          cases e5 : Γ3[i]? with
          | none => simp only [e5] at h3; exact (by cases z <;> first | exact h3 | (rename_i zd; cases zd <;> exact h3) : False).elim
          | some s3 =>
            simp only [e5] at h3
            cases z with
            | va zd =>
              cases zd with
              | int k =>
                cases s3 with
                | owc tt =>
                  obtain ⟨cc, gs⟩ := tt
                  cases cc with
                  | lst =>
                    obtain ⟨a', us', e6, ha3, ta3⟩ := R3.own e5
                    rw [e4] at e6; cases e6
                    cases e7 : ixN gs.length k with
                    | none => simp only [e7] at h3; exact h3.elim
                    | some j =>
                      simp only [e7] at h3
                      obtain ⟨R4, S4⟩ := R3.write e5 e4 (ta3.set j (t.mono (S3.toStp.same R2)))
                      exact ⟨a, us', k, j, rfl, hw, ha3, by rw [← ta3.length]; exact e7, h3 _ _ _ R4 S4.s⟩
                  | _ => exact h3.elim
                | _ => exact h3.elim
              | _ => exact h3.elim
            | _ => exact h3.elim
        | _ => exact h1.elim
      | _ => exact h1.elim
end
end Mir

set_option Elab.async false
set_option autoImplicit false
set_option linter.all false
set_option maxRecDepth 100000
set_option maxHeartbeats 4000000
namespace Mir
open PySem PySem.Spec PyProof.Rows L2

/-! ### for -/
def loopS (f : GM) (m : SM) : List D → SM
  | [], Γ => .nx Γ
  | d :: ds, Γ => match f d Γ with
    | none => .no
    | some Γ1 => match m Γ1 with
      | .nx Γ2 => loopS f m ds Γ2
      | .ct Γ2 => loopS f m ds Γ2
      | .bk Γ2 => .nx Γ2
      | .rt r Γ2 => .rt r Γ2
      | .ex c pl Γ2 => .ex c pl Γ2
      | .no => .no
def SR.fin (g : List Sl → List Sl) : SR → SR
  | .nx Γ => .nx (g Γ)
  | .rt r Γ => .rt r (g Γ)
  | .bk Γ => .bk (g Γ)
  | .ct Γ => .ct (g Γ)
  | .ex c pl Γ => .ex c pl (g Γ)
  | .no => .no
def sFor (mi : IM) (f : GM) (m : SM) : SM := fun Γ => (mi Γ).sr fun p Γ1 => (loopS f m p.1 (bor p.2 p.1 Γ1)).fin (unb p.2 p.1)
section
variable {K : Fg} {XR : XRel} {W : WX} {P T : List Nat} {O O0 O1 O' : List Addr} {Γ Γ0 Γ1 Γ' : List Sl} {σ σ0 σ' : L2.St} {H H0 H1 H' : Hp} {b : Option Nat} {ds : List D}
theorem bor_sst (h : BorOk Γ0 (ds, b)) (R0 : Rl K O0 Γ0 σ0 H0) (S : SStp P (bor b ds Γ0) σ0 H0 O0 Γ' σ' H' O') : SStp P Γ0 σ0 H0 O0 (unb b ds Γ') σ' H' O' := by
  cases b with
  | none => exact S
  | some i =>
    have h0 := h i rfl
    obtain ⟨a, vs, e1, ha, _⟩ := R0.own h0
    have g0 : (bor (some i) ds Γ0)[i]? = some (.bw ds) := get_set_eq h0
    obtain ⟨g1, g2⟩ := S.bwk i ⟨.lst, ds⟩ g0
    have mus : ∀ b, Mu (bor (some i) ds Γ0) σ0 b → Mu Γ0 σ0 b := fun b ⟨j, es, e3, e4⟩ => by
      have e3' : (Γ0.set i (.bw ds))[j]? = some (.owc es) := e3
      by_cases hj : i = j
      · subst hj; rw [get_set_eq h0] at e3'; cases e3'
      · rw [get_set_ne hj] at e3'; exact ⟨j, es, e3', e4⟩
    refine ⟨⟨fun b o n e => S.keep b o (fun m => n (mus b m)) e, fun b ⟨j, es, e3, e4⟩ => ?_, S.stay, S.grow, fun b h1 h2 => mus b (S.lose b h1 h2)⟩, fun j hj => ?_, fun j es e => ?_, fun j es e => ?_⟩
    · have e3' : (Γ'.set i (.ow ds))[j]? = some (.owc es) := e3
      by_cases hj : i = j
      · subst hj
        exact .inl ⟨i, ⟨.lst, ds⟩, h0, g2 ▸ e4⟩
      · rw [get_set_ne hj] at e3'
        exact (S.mu b ⟨j, es, e3', e4⟩).imp (mus b) id
    · obtain ⟨p1, p2, p3⟩ := S.par j hj
      refine ⟨p1, fun es e => ?_, fun s e n => ?_⟩
      · by_cases hj2 : i = j
        · subst hj2; exact .inl ⟨⟨.lst, ds⟩, get_set_eq g1⟩
        · have := p2 es (by show (Γ0.set i _)[j]? = _; rw [get_set_ne hj2]; exact e)
          show (∃ es, (Γ'.set i _)[j]? = _) ∨ ∃ es, (Γ'.set i _)[j]? = _
          rw [get_set_ne hj2]; exact this
      · by_cases hj2 : i = j
        · subst hj2; rw [h0] at e; cases e; exact absurd rfl (n ⟨.lst, ds⟩)
        · show (Γ'.set i _)[j]? = _
          rw [get_set_ne hj2]
          exact p3 s (by show (Γ0.set i _)[j]? = _; rw [get_set_ne hj2]; exact e) n
    · have hj2 : i ≠ j := fun z => by subst z; rw [h0] at e; cases e
      obtain ⟨q1, q2⟩ := S.bwk j es (by show (Γ0.set i _)[j]? = _; rw [get_set_ne hj2]; exact e)
      exact ⟨by show (Γ'.set i _)[j]? = _; rw [get_set_ne hj2]; exact q1, q2⟩
    · have e' : (Γ'.set i (.ow ds))[j]? = some (.bwc es) := e
      by_cases hj2 : i = j
      · subst hj2; rw [get_set_eq g1] at e'; cases e'
      · rw [get_set_ne hj2] at e'
        have q := S.bwb j es e'
        have q' : (Γ0.set i (.bw ds))[j]? = some (.bwc es) := q
        rw [get_set_ne hj2] at q'; exact q'
theorem unb_all {O'' : List Addr} (h : BorOk Γ0 (ds, b)) (R0 : Rl K O0 Γ0 σ0 H0) (S : SStp P (bor b ds Γ0) σ0 H0 O0 Γ' σ' H' O') (R : Rl K O'' Γ' σ' H') : Rl K O'' (unb b ds Γ') σ' H' := by
  refine unb_rl R0 h S.mu (fun i e => ?_) (fun i es e => ?_) R
  · subst e; exact S.bwk i ⟨.lst, ds⟩ (get_set_eq (h i rfl))
  · have q := S.bwb i es e
    exact ⟨q, (S.bwk i es q).2⟩
theorem unb_rv {r : RV} {v : V} {Hs : Hp} (h : BorOk Γ0 (ds, b)) (R0 : Rl K O0 Γ0 σ0 H0) (S : SStp P (bor b ds Γ0) σ0 H0 O0 Γ' σ' H' O') (hv : RvAt K O' σ' Γ' H' Hs r v) : RvAt K O' σ' (unb b ds Γ') H' Hs r v := by
  cases r with
  | va d => exact hv
  | owc es => obtain ⟨a, vs, e1, n, z, q, t, R⟩ := hv; exact ⟨a, vs, e1, n, z, q, t, unb_all h R0 S R⟩
  | bo j =>
    obtain ⟨e1, e2⟩ := hv
    refine ⟨e1, ?_⟩
    cases b with
    | none => exact e2
    | some i =>
      by_cases hj : i = j
      · subst hj
        exact .inl ⟨⟨.lst, ds⟩, get_set_eq (S.bwk i ⟨.lst, ds⟩ (get_set_eq (h i rfl))).1⟩
      · show (∃ es, (Γ'.set i _)[j]? = _) ∨ (∃ ns, (Γ'.set i _)[j]? = _) ∨ ∃ es, (Γ'.set i _)[j]? = _
        rw [get_set_ne hj]; exact e2
/-- the end of a loop reaches what is wanted -/
theorem SPost.unb {D : Ends} {x : SR} (h : BorOk Γ0 (ds, b)) (R0 : Rl K O0 Γ0 σ0 H0) (hx : SPost K XR W P σ0 Γ0 H0 O0 D (x.fin (Mir.unb b ds))) : SPost K XR W P σ0 (bor b ds Γ0) H0 O0 D x := by
  cases x with
  | nx Γ' => exact fun σ' H' O' R' S' => hx σ' H' O' (unb_all h R0 S' R') (bor_sst h R0 S')
  | rt r Γ' => exact fun σ' H' O' R' S' v hv => hx σ' H' O' (unb_all h R0 S' R') (bor_sst h R0 S') v (unb_rv h R0 S' hv)
  | bk Γ' => exact fun σ' H' O' R' S' => hx σ' H' O' (unb_all h R0 S' R') (bor_sst h R0 S')
  | ct Γ' => exact fun σ' H' O' R' S' => hx σ' H' O' (unb_all h R0 S' R') (bor_sst h R0 S')
  | ex c pl Γ' => exact fun cls d σ' H' O' xr R' S' => hx cls d σ' H' O' xr (unb_all h R0 S' R') (bor_sst h R0 S')
  | no => exact hx
theorem for_tS {D : Ends} {mi : IM} {f : GM} {m : SM} (h : tS K XR W P (sFor mi f m) D σ H) : tFor (tI K XR W mi) (gM K P T f) (tS K XR W P m) D σ H := by
  obtain ⟨O, Γ, R, h⟩ := h
  refine ⟨O, Γ, R, (h.sr R).imp fun p Γ1 H1 O1 R1 S1 h1 => ?_⟩
  · intro hb J G WK hG
    obtain ⟨ds, b⟩ := p
    obtain ⟨R1b, S1b⟩ := bor_rl R1 hb
    have hx := SPost.unb hb R1 h1
    refine ⟨fun i k σ' H' => ∃ O' Γ' rem, ds.drop i = rem ∧ k = rem.length ∧ i ≤ ds.length ∧ Rl K O' Γ' σ' H' ∧ SStp P (bor b ds Γ1) σ H1 O1 Γ' σ' H' O' ∧ G O' Γ' σ' H' ∧ loopS f m rem Γ' = loopS f m ds (bor b ds Γ1),
      ⟨ds.length, O1, _, ds, rfl, rfl, Nat.zero_le _, R1b, SStp.refl, hG, rfl⟩, ?_⟩
    rintro i k σ' H' ⟨O', Γ', rem, e1, e2, hi, R', S', g', hl⟩
    cases rem with
    | nil =>
      have ei : i = ds.length := by
        have := congrArg List.length e1
        rw [List.length_drop] at this
        simp at this; omega
      subst ei
      refine .inl ⟨WK.stop O' Γ' σ' H' R' g', ?_⟩
      rw [← hl] at hx
      exact hx σ' H' O' R' S'
    | cons d rem =>
      have ed : ds[i]? = some d := by
        have := congrArg (·[0]?) e1
        simpa using this
      have e3 : ds.drop (i + 1) = rem := by
        have := congrArg List.tail e1
        simpa using this
      have hi2 : i < ds.length := (List.getElem?_eq_some_iff.mp ed).1
      refine .inr ⟨WK.go i O' Γ' σ' H' d ed R' g', fun σ3 H3 => ∃ O3 Γ3, Rl K O3 Γ3 σ3 H3 ∧ SStp P (bor b ds Γ1) σ H1 O1 Γ3 σ3 H3 O3 ∧ G O3 Γ3 σ3 H3 ∧ loopS f m rem Γ3 = loopS f m ds (bor b ds Γ1), ?_, ?_⟩
      · rintro σ3 H3 ⟨O3, Γ3, R3, S3, g3, hl3⟩
        exact ⟨rem.length, by rw [e2]; simp, O3, Γ3, rem, e3, rfl, hi2, R3, S3, g3, hl3⟩
      · intro x H2 hy
        obtain ⟨sm, hx2⟩ := WK.yld i O' Γ' σ' H' d x H2 ed R' g' hy
        have R2 := R'.same sm
        have S2 : SStp P (bor b ds Γ1) σ H1 O1 Γ' σ' H2 O' := S'.trans R1b (EStp.of_same sm).s
        have g2 : G O' Γ' σ' H2 := WK.stb O' Γ' σ' H' O' Γ' σ' H2 g' ((EStp.of_same (σ := σ') (Γ := Γ') (O := O') sm).toStp.same R') fun i es e => ⟨e, rfl⟩
        simp only [loopS] at hl
        cases ef : f d Γ' with
        | none => rw [ef] at hl; rw [← hl] at hx; exact hx.elim
        | some Γ3 =>
          rw [ef] at hl
          refine ⟨O', Γ', d, Γ3, R2, hx2, ef, fun σ3 R3 S3 _ => ⟨O', Γ3, R3, ?_⟩⟩
          have S3' := S2.trans R1b S3
          have hstb : ∀ {σ4 : L2.St} {H4 : Hp} {O4 : List Addr} {Γ4 : List Sl}, SStp P Γ3 σ3 H2 O' Γ4 σ4 H4 O4 → G O4 Γ4 σ4 H4 := fun {σ4 H4 O4 Γ4} S4 => by
            have S5 := S3.trans R2 S4
            exact WK.stb O' Γ' σ' H2 O4 Γ4 σ4 H4 g2 (S5.toStp.same R2) S5.bwk
          cases em : m Γ3 with
          | nx Γ4 =>
            simp only [em] at hl
            exact fun σ4 H4 O4 R4 S4 => ⟨O4, Γ4, R4, S3'.trans R1b S4, hstb S4, hl⟩
          | ct Γ4 =>
            simp only [em] at hl
            exact fun σ4 H4 O4 R4 S4 => ⟨O4, Γ4, R4, S3'.trans R1b S4, hstb S4, hl⟩
          | bk Γ4 =>
            simp only [em] at hl
            rw [← hl] at hx
            exact fun σ4 H4 O4 R4 S4 => hx σ4 H4 O4 R4 (S3'.trans R1b S4)
          | rt r Γ4 =>
            simp only [em] at hl
            rw [← hl] at hx
            exact fun σ4 H4 O4 R4 S4 v hv => hx σ4 H4 O4 R4 (S3'.trans R1b S4) v (hv.older (none_back S3'.toStp))
          | ex c pl Γ4 =>
            simp only [em] at hl
            rw [← hl] at hx
            exact fun cls dd σ4 H4 O4 xr R4 S4 => hx cls dd σ4 H4 O4 xr R4 (S3'.trans R1b S4)
          | no =>
            simp only [em] at hl
            rw [← hl] at hx
            exact hx.elim
end
section
variable {X : Cx} {XR : XRel} {W : WX} {P T : List Nat} {tg iter : Expr} {body : List Stmt} {mi : IM} {f : GM} {m : SM} {pos : Pos}
theorem ms_for (hp : PassesOwn (model X.prog X.w) X.A X.env X.xe) (hc : X.calm = true) (hi : MI X XR W tg iter mi) (hg : MG X P T tg f) (hb : MSs X XR W P body m) (hs : ∀ x, foldedSetIterable iter X.env x = pure x := by intro _; rfl) :
    MS X XR W P (.For tg iter body [] pos) (sFor mi f m) := (ps_for hp hc hi hg hb hs).imp fun D σ H h => for_tS h
end

/-! ### comprehensions -/
def wipeG (Γ : List Sl) : List Nat → List Sl
  | [] => Γ
  | v :: vs => (wipeG Γ vs).set v .no
/-- the own names as they were -/
def backG (Γ0 Γ : List Sl) : List Nat → List Sl
  | [] => Γ
  | v :: vs => (backG Γ0 Γ vs).set v (Γ0.getD v .no)
def loopC (own : List Nat) (f : GM) (t : List Sl → Rs Bool) (m : EM) : List D → List D → List Sl → Rs (List D)
  | [], acc, Γ => .ok acc Γ
  | d :: ds, acc, Γ => match f d Γ with
    | none => .no
    | some Γ1 => match t Γ1 with
      | .ok true Γ2 => (match m Γ2 with
        | .ok r Γ3 => (match esc Γ3 r with
          | some (d', Γ4) => if acc.length < big then loopC own f t m ds (acc ++ [d']) (wipeG Γ4 own) else .no
          | none => .no)
        | _ => .no)
      | .ok false Γ2 => loopC own f t m ds acc (wipeG Γ2 own)
      | _ => .no
def notHd (Γ : List Sl) (i : Nat) : Bool := match Γ[i]? with
  | some s => !s.hd
  | none => false
def mLc (own : List Nat) (mi : IM) (f : GM) (t : List Sl → Rs Bool) (m : EM) : EM := fun Γ => (mi Γ).bind fun p Γ1 =>
  if own.all (notHd Γ1) then (match loopC own f t m p.1 [] (wipeG (bor p.2 p.1 Γ1) own) with
    | .ok acc Γ2 => .ok (.ow acc) (backG Γ1 (unb p.2 p.1 Γ2) own)
    | _ => .no) else .no
end Mir

set_option Elab.async false
set_option autoImplicit false
set_option linter.all false
set_option maxRecDepth 100000
set_option maxHeartbeats 4000000
namespace Mir
open PySem PySem.Spec PyProof.Rows L2

theorem wipeG_len (Γ : List Sl) : ∀ vs : List Nat, (wipeG Γ vs).length = Γ.length
  | [] => rfl
  | v :: vs => by unfold wipeG; rw [List.length_set, wipeG_len Γ vs]
theorem wipeG_out {Γ : List Sl} {j : Nat} : ∀ {vs : List Nat}, j ∉ vs → (wipeG Γ vs)[j]? = Γ[j]?
  | [], _ => rfl
  | v :: vs, h => by
    simp only [List.mem_cons, not_or] at h
    unfold wipeG
    rw [get_set_ne (Ne.symm h.1), wipeG_out h.2]
theorem wipeG_in {Γ : List Sl} {j : Nat} (hj : j < Γ.length) : ∀ {vs : List Nat}, j ∈ vs → (wipeG Γ vs)[j]? = some .no
  | [], h => by cases h
  | v :: vs, h => by
    unfold wipeG
    by_cases e : v = j
    · subst e; exact List.getElem?_set_self (by rw [wipeG_len]; exact hj)
    · rw [get_set_ne e]
      rcases List.mem_cons.mp h with z | z
      · exact absurd z.symm e
      · exact wipeG_in hj z
theorem wipe_out {σ : L2.St} {j : Nat} : ∀ {vs : List Nat}, j ∉ vs → (L2.wipe σ vs)[j]? = σ[j]?
  | [], _ => rfl
  | v :: vs, h => by
    simp only [List.mem_cons, not_or] at h
    unfold L2.wipe
    rw [get_set_ne (Ne.symm h.1), wipe_out h.2]
theorem wipe_in {σ : L2.St} {j : Nat} (hj : j < σ.length) : ∀ {vs : List Nat}, j ∈ vs → (L2.wipe σ vs)[j]? = some none
  | [], h => by cases h
  | v :: vs, h => by
    unfold L2.wipe
    by_cases e : v = j
    · subst e; exact List.getElem?_set_self (by rw [wipe_length]; exact hj)
    · rw [get_set_ne e]
      rcases List.mem_cons.mp h with z | z
      · exact absurd z.symm e
      · exact wipe_in hj z
theorem wipe_ext {σ τ : L2.St} {vs : List Nat} (hl : σ.length = τ.length) (h : ∀ j, j ∉ vs → σ[j]? = τ[j]?) : L2.wipe σ vs = L2.wipe τ vs := by
  refine List.ext_getElem? fun j => ?_
  by_cases hv : j ∈ vs
  · by_cases hj : j < σ.length
    · rw [wipe_in hj hv, wipe_in (by rw [← hl]; exact hj) hv]
    · rw [List.getElem?_eq_none (by rw [wipe_length]; omega), List.getElem?_eq_none (by rw [wipe_length]; omega)]
  · rw [wipe_out hv, wipe_out hv, h j hv]
theorem wipe_wipe {σ : L2.St} {vs : List Nat} : L2.wipe (L2.wipe σ vs) vs = L2.wipe σ vs := wipe_ext (wipe_length _ _) fun j h => wipe_out h
theorem backG_out {Γ0 Γ : List Sl} {j : Nat} : ∀ {vs : List Nat}, j ∉ vs → (backG Γ0 Γ vs)[j]? = Γ[j]?
  | [], _ => rfl
  | v :: vs, h => by
    simp only [List.mem_cons, not_or] at h
    unfold backG
    rw [get_set_ne (Ne.symm h.1), backG_out h.2]
theorem backG_len (Γ0 Γ : List Sl) : ∀ vs : List Nat, (backG Γ0 Γ vs).length = Γ.length
  | [] => rfl
  | v :: vs => by unfold backG; rw [List.length_set, backG_len Γ0 Γ vs]
theorem backG_in {Γ0 Γ : List Sl} {j : Nat} (hl : Γ0.length = Γ.length) (hj : j < Γ.length) : ∀ {vs : List Nat}, j ∈ vs → (backG Γ0 Γ vs)[j]? = Γ0[j]?
  | [], h => by cases h
  | v :: vs, h => by
    unfold backG
    by_cases e : v = j
    · subst e
      rw [List.getElem?_set_self (by rw [backG_len]; exact hj), List.getD_eq_getElem?_getD, List.getElem?_eq_getElem (by rw [hl]; exact hj)]
      rfl
    · rw [get_set_ne e]
      rcases List.mem_cons.mp h with z | z
      · exact absurd z.symm e
      · exact backG_in hl hj z
section
variable {K : Fg} {O O1 O2 O' : List Addr} {Γ Γ1 Γ2 Γ' : List Sl} {σ σ1 σ2 σ' : L2.St} {H H1 H2 H' : Hp} {own : List Nat}
theorem Rl.wipe (R : Rl K O Γ σ H) : Rl K O (wipeG Γ own) (L2.wipe σ own) H := by
  refine ⟨by rw [wipeG_len, wipe_length]; exact R.len, fun j s h => ?_, fun i j a ds t hij h1 h2 ht h3 h4 => ?_, R.tr⟩
  · by_cases hv : j ∈ own
    · have hj : j < Γ.length := by rw [← wipeG_len Γ own]; exact (List.getElem?_eq_some_iff.mp h).1
      rw [wipeG_in hj hv] at h; cases h
      exact ⟨none, wipe_in (by rw [← R.len]; exact hj) hv, trivial⟩
    · rw [wipeG_out hv] at h; rw [wipe_out hv]; exact R.sl j s h
  · have nin : ∀ {k : Nat} {s : Sl}, (wipeG Γ own)[k]? = some s → s.hd = true → k ∉ own := fun {k s} e hs hv => by
      have hj : k < Γ.length := by rw [← wipeG_len Γ own]; exact (List.getElem?_eq_some_iff.mp e).1
      rw [wipeG_in hj hv] at e; cases e; cases hs
    have n1 := nin h1 rfl
    have n2 := nin h2 ht
    rw [wipeG_out n1] at h1; rw [wipe_out n1] at h3
    rw [wipeG_out n2] at h2; rw [wipe_out n2] at h4
    exact R.ne i j a ds t hij h1 h2 ht h3 h4
/-- what is hidden and held by no slot may change -/
theorem Rl.other (R : Rl K O Γ σ H) {a : Addr} {o : HO} (m : a ∈ O) (nh : ∀ (j : Nat) (t : Sl), Γ[j]? = some t → t.hd = true → σ[j]? ≠ some (some (.ref a))) : Rl K O Γ σ (upd H a o) ∧ Same (off O H) (off O (upd H a o)) := by
  have eo : Same (off O H) (off O (upd H a o)) := off_mono (fun b x n e => by rw [upd_ne (show b ≠ a from fun z => n (z ▸ m))]; exact e) fun b h n => absurd h n
  refine ⟨⟨R.len, fun j s h => ?_, R.ne, fun b hb => ?_⟩, eo⟩
  · obtain ⟨o', h1, h2⟩ := R.sl j s h
    refine ⟨o', h1, ?_⟩
    cases s with
    | no => trivial
    | va d => obtain ⟨v, e1, q⟩ := h2; exact ⟨v, e1, q.mono eo⟩
    | owc ds =>
      obtain ⟨b, vs, e1, mb, q, t⟩ := h2
      exact ⟨b, vs, e1, mb, by rw [upd_ne (show b ≠ a from fun z => nh j _ h rfl (by rw [h1, e1, z]))]; exact q, t.mono eo⟩
    | bwc ds =>
      obtain ⟨b, vs, e1, mb, q, t⟩ := h2
      exact ⟨b, vs, e1, mb, by rw [upd_ne (show b ≠ a from fun z => nh j _ h rfl (by rw [h1, e1, z]))]; exact q, t.mono eo⟩
    | sc ns => obtain ⟨b, e1, q⟩ := h2; exact ⟨b, e1, eo.seq q⟩
  · by_cases z : b = a
    · subst z; rw [upd_same]; exact fun z => by cases z
    · rw [upd_ne z]; exact R.tr b hb
theorem Rl.congr (h : ∀ b, b ∈ O ↔ b ∈ O') (R : Rl K O Γ σ H) : Rl K O' Γ σ H := by
  have e : off O H = off O' H := by
    funext b
    by_cases z : b ∈ O
    · rw [off_in z, off_in ((h b).mp z)]
    · rw [off_out z, off_out (fun z' => z ((h b).mpr z'))]
  refine ⟨R.len, fun j s hj => ?_, R.ne, fun b hb => R.tr b ((h b).mpr hb)⟩
  obtain ⟨o, h1, h2⟩ := R.sl j s hj
  refine ⟨o, h1, ?_⟩
  cases s with
  | no => trivial
  | va d => obtain ⟨v, e1, q⟩ := h2; exact ⟨v, e1, e ▸ q⟩
  | owc ds => obtain ⟨b, vs, e1, mb, q, t⟩ := h2; exact ⟨b, vs, e1, (h b).mp mb, q, e ▸ t⟩
  | bwc ds => obtain ⟨b, vs, e1, mb, q, t⟩ := h2; exact ⟨b, vs, e1, (h b).mp mb, q, e ▸ t⟩
  | sc ns => obtain ⟨b, e1, q⟩ := h2; exact ⟨b, e1, e ▸ q⟩
/-- what no slot holds need not be hidden -/
theorem Rl.show {a : Addr} (R : Rl K (a :: O) Γ σ H) (nh : ∀ (j : Nat) (t : Sl), Γ[j]? = some t → t.hd = true → σ[j]? ≠ some (some (.ref a))) : Rl K O Γ σ H := by
  refine ⟨R.len, fun j s h => ?_, R.ne, fun b hb => R.tr b (List.mem_cons_of_mem _ hb)⟩
  obtain ⟨o', h1, h2⟩ := R.sl j s h
  refine ⟨o', h1, ?_⟩
  cases s with
  | no => trivial
  | va d => obtain ⟨v, e1, q⟩ := h2; exact ⟨v, e1, q.mono off_less⟩
  | owc ds =>
    obtain ⟨b, vs, e1, mb, q, t⟩ := h2
    exact ⟨b, vs, e1, (List.mem_cons.mp mb).resolve_left fun z => nh j _ h rfl (by rw [h1, e1, z]), q, t.mono off_less⟩
  | bwc ds =>
    obtain ⟨b, vs, e1, mb, q, t⟩ := h2
    exact ⟨b, vs, e1, (List.mem_cons.mp mb).resolve_left fun z => nh j _ h rfl (by rw [h1, e1, z]), q, t.mono off_less⟩
  | sc ns => obtain ⟨b, e1, q⟩ := h2; exact ⟨b, e1, off_less.seq q⟩
theorem EStp.shadow {a : Addr} {o : HO} (S : EStp Γ σ H O Γ' H' O') (h : H a ≠ none) : EStp Γ σ (upd H a o) O Γ' (upd H' a o) O' := by
  have back : ∀ b, H b = none → upd H a o b = none := fun b e => by rw [upd_ne (show b ≠ a from fun z => h (z ▸ e))]; exact e
  refine ⟨⟨fun b x n e => ?_, fun b m => (S.mu b m).imp id (back b), fun b e => ?_, fun b m => (S.grow b m).imp id (back b), S.lose⟩, S.sub, S.pres, S.oth, S.bwb⟩
  · by_cases z : b = a
    · subst z; rw [upd_same] at e ⊢; exact e
    · rw [upd_ne z] at e ⊢; exact S.keep b x n e
  · by_cases z : b = a
    · subst z; rw [upd_same]; exact fun z => by cases z
    · rw [upd_ne z] at e ⊢; exact S.stay b e
theorem EStp.hdb (S : EStp Γ σ H O Γ' H' O') (hl : Γ'.length = Γ.length) {j : Nat} {t : Sl} (h : Γ'[j]? = some t) (ht : t.hd = true) : ∃ s, Γ[j]? = some s ∧ s.hd = true := by
  have hj : j < Γ.length := by rw [← hl]; exact (List.getElem?_eq_some_iff.mp h).1
  have e := List.getElem?_eq_getElem hj
  cases t with
  | bwc ds => exact ⟨_, S.bwb j ds h, rfl⟩
  | owc ds =>
    refine ⟨_, e, ?_⟩
    cases es : Γ[j] with
    | owc _ => rfl
    | _ =>
      rw [es] at e
      have := S.oth j _ e (fun _ z => by cases z)
      rw [h] at this; cases this
  | _ => cases ht
/-- one turn of a block: the target, what is evaluated, the own names forgotten -/
theorem turn_C {T : List Nat} {Γ3 : List Sl} {O3 : List Addr} {H3 : Hp} (R : Rl K O Γ σ H) (R2 : Rl K O Γ1 σ1 H) (hT : ∀ i, i ∈ T → i ∈ own) (hno : ∀ i, i ∈ own → Γ[i]? = some .no) (hσ : L2.wipe σ own = σ) (t : Tch T Γ σ Γ1 σ1) (s1 : SStp [] Γ σ H O Γ1 σ1 H O) (s2 : EStp Γ1 σ1 H O Γ3 H3 O3) (R3 : Rl K O3 Γ3 σ1 H3) :
    L2.wipe σ1 own = σ ∧ EStp Γ σ H O (wipeG Γ3 own) H3 O3 ∧ Rl K O3 (wipeG Γ3 own) σ H3 := by
  have hl1 : σ1.length = σ.length := by rw [← R2.len, ← R.len, t.len]
  have hw : L2.wipe σ1 own = σ := by
    rw [← hσ]
    exact wipe_ext hl1 fun j hj => (t.out j fun z => hj (hT j z)).2
  have hl3 : Γ3.length = Γ.length := by rw [R3.len, ← R2.len, t.len]
  have R5 : Rl K O3 (wipeG Γ3 own) σ H3 := by
    have q := R3.wipe (own := own)
    rw [hw] at q; exact q
  have out : ∀ j, j ∉ own → Γ1[j]? = Γ[j]? ∧ σ1[j]? = σ[j]? := fun j hj => t.out j fun z => hj (hT j z)
  have S := s1.toStp.trans R s2.toStp
  have inn : ∀ {j : Nat} {s : Sl}, (wipeG Γ3 own)[j]? = some s → j ∈ own → s = .no := fun {j s} e hj => by
    have hl : j < Γ3.length := by rw [← wipeG_len Γ3 own]; exact (List.getElem?_eq_some_iff.mp e).1
    rw [wipeG_in hl hj] at e; cases e; rfl
  refine ⟨hw, ⟨⟨S.keep, fun b ⟨j, ds, e1, e2⟩ => ?_, S.stay, S.grow, S.lose⟩, s2.sub, fun j ds e => ?_, fun j s e n => ?_, fun j ds e => ?_⟩, R5⟩
  · by_cases hj : j ∈ own
    · cases inn e1 hj
    · rw [wipeG_out hj] at e1
      exact S.mu b ⟨j, ds, e1, by rw [(out j hj).2]; exact e2⟩
  · have hj : j ∉ own := fun z => by rw [hno j z] at e; cases e
    rw [wipeG_out hj]
    exact s2.pres j ds (by rw [(out j hj).1]; exact e)
  · by_cases hj : j ∈ own
    · rw [hno j hj] at e; cases e
      exact wipeG_in (by rw [hl3]; exact (List.getElem?_eq_some_iff.mp (hno j hj)).1) hj
    · rw [wipeG_out hj]
      exact s2.oth j s (by rw [(out j hj).1]; exact e) n
  · by_cases hj : j ∈ own
    · cases inn e hj
    · rw [wipeG_out hj] at e
      have q := s2.bwb j ds e
      rw [(out j hj).1] at q; exact q
/-- the own names as they were ahead of the block -/
theorem Rl.back (R0 : Rl K O1 Γ1 σ H1) (hn : own.all (notHd Γ1) = true) (e : Same (off O1 H1) (off O H)) (R : Rl K O Γ (L2.wipe σ own) H) : Rl K O (backG Γ1 Γ own) σ H := by
  have hl : Γ1.length = Γ.length := by rw [R0.len, R.len, wipe_length]
  have nh : ∀ {j : Nat} {s : Sl}, j ∈ own → Γ1[j]? = some s → s.hd = false := fun {j s} hj e => by
    have := List.all_eq_true.mp hn j hj
    unfold notHd at this
    rw [e] at this
    simpa using this
  have nin : ∀ {k : Nat} {s : Sl}, (backG Γ1 Γ own)[k]? = some s → s.hd = true → k ∉ own := fun {k s} e hs hv => by
    have hj : k < Γ.length := by rw [← backG_len Γ1 Γ own]; exact (List.getElem?_eq_some_iff.mp e).1
    rw [backG_in hl hj hv] at e
    rw [nh hv e] at hs; cases hs
  refine ⟨by rw [backG_len, ← hl]; exact R0.len, fun j s h => ?_, fun i j a ds t hij h1 h2 ht h3 h4 => ?_, R.tr⟩
  · by_cases hv : j ∈ own
    · have hj : j < Γ.length := by rw [← backG_len Γ1 Γ own]; exact (List.getElem?_eq_some_iff.mp h).1
      rw [backG_in hl hj hv] at h
      obtain ⟨o, e1, q⟩ := R0.sl j s h
      refine ⟨o, e1, ?_⟩
      cases s with
      | no => trivial
      | va d => obtain ⟨v, e2, q⟩ := q; exact ⟨v, e2, q.mono e⟩
      | sc ns => obtain ⟨b, e2, q⟩ := q; exact ⟨b, e2, e.seq q⟩
      | owc ds => have := nh hv h; cases this
      | bwc ds => have := nh hv h; cases this
    · rw [backG_out hv] at h
      have q := R.sl j s h
      rw [wipe_out hv] at q; exact q
  · have n1 := nin h1 rfl
    have n2 := nin h2 ht
    rw [backG_out n1] at h1
    rw [backG_out n2] at h2
    exact R.ne i j a ds t hij h1 h2 ht (by rw [wipe_out n1]; exact h3) (by rw [wipe_out n2]; exact h4)
end
/-- nothing is let out -/
abbrev W0 : WX := fun _ _ _ _ => False
section
variable {K : Fg} {XR : XRel} {W : WX} {T own : List Nat} {mi : IM} {f : GM} {t : List Sl → Rs Bool} {m : EM}
theorem bor_wipe {Γ : List Sl} {b : Option Nat} {ds : List D} (h : BorOk Γ (ds, b)) (hn : own.all (notHd Γ) = true) : wipeG (bor b ds Γ) own = bor b ds (wipeG Γ own) ∧ BorOk (wipeG Γ own) (ds, b) := by
  cases b with
  | none => exact ⟨rfl, fun i e => by cases e⟩
  | some i =>
    have h0 := h i rfl
    have hi : i ∉ own := fun z => by
      have := List.all_eq_true.mp hn i z
      unfold notHd at this
      rw [h0] at this; cases this
    refine ⟨?_, fun j e => ?_⟩
    · refine List.ext_getElem? fun j => ?_
      show (wipeG (Γ.set i _) own)[j]? = ((wipeG Γ own).set i _)[j]?
      have hil : i < Γ.length := (List.getElem?_eq_some_iff.mp h0).1
      by_cases hv : j ∈ own
      · have hne : i ≠ j := fun z => hi (z ▸ hv)
        rw [get_set_ne hne]
        by_cases hj : j < Γ.length
        · rw [wipeG_in (by rw [List.length_set]; exact hj) hv, wipeG_in hj hv]
        · rw [List.getElem?_eq_none (by rw [wipeG_len, List.length_set]; omega), List.getElem?_eq_none (by rw [wipeG_len]; omega)]
      · rw [wipeG_out hv]
        by_cases hj : i = j
        · subst hj
          rw [List.getElem?_set_self hil, List.getElem?_set_self (by rw [wipeG_len]; exact hil)]
        · rw [get_set_ne hj, get_set_ne hj, wipeG_out hv]
    · cases e
      show (wipeG Γ own)[i]? = _
      rw [wipeG_out hi]; exact h0
theorem lc_tE (hT : ∀ i, i ∈ T → i ∈ own) {σ : L2.St} {H : Hp} {Q : VK} (h : tE K XR W (mLc own mi f t m) σ H Q) : tLc (tI K XR W mi) (gM K [] T f) (tT K XR W0 t) (tE K XR W0 m) own σ H Q := by
  obtain ⟨O, Γ, R, P⟩ := h
  refine ⟨O, Γ, R, (P.bind R).imp fun p Γ1 H1 O1 R1 S1 P1 hb J G WK hG D hD => ?_⟩
  obtain ⟨ds, b⟩ := p
  by_cases hn : own.all (notHd Γ1) = true
  · simp only [hn, if_true] at P1
    obtain ⟨ebw, hbw⟩ := bor_wipe hb hn
    rw [ebw] at P1
    -- the start: own names forgotten, the new list hidden
    have Rw : Rl K O1 (wipeG Γ1 own) (L2.wipe σ own) H1 := R1.wipe
    have sD : Same H1 (upd H1 D (.lst [])) := same_up hD
    have Rh : Rl K (D :: O1) (wipeG Γ1 own) (L2.wipe σ own) (upd H1 D (.lst [])) := Rw.hide sD hD (by rw [upd_same]; exact fun z => by cases z)
    obtain ⟨Rb, Sb⟩ := bor_rl Rh hbw
    have hlen : (wipeG Γ1 own).length = Γ1.length := wipeG_len _ _
    have hbl : (bor b ds (wipeG Γ1 own)).length = Γ1.length := by
      cases b with
      | none => exact hlen
      | some i => show ((wipeG Γ1 own).set i _).length = _; rw [List.length_set]; exact hlen
    have hown : ∀ i, i ∈ own → (bor b ds (wipeG Γ1 own))[i]? = some .no := fun i hi => by
      have hil : i < Γ1.length := by
        have := List.all_eq_true.mp hn i hi
        unfold notHd at this
        cases z : Γ1[i]? with
        | none => rw [z] at this; cases this
        | some s => exact (List.getElem?_eq_some_iff.mp z).1
      rw [← ebw]
      refine wipeG_in ?_ hi
      cases b with
      | none => exact hil
      | some j => show i < (Γ1.set j _).length; rw [List.length_set]; exact hil
    have nD : D ∉ O1 := fun z => R1.tr D z hD
    -- no slot of the start holds D
    have nh0 : ∀ (j : Nat) (s : Sl), (bor b ds (wipeG Γ1 own))[j]? = some s → s.hd = true → (L2.wipe σ own)[j]? ≠ some (some (.ref D)) := fun j s e hs z => by
      obtain ⟨Rb2, _⟩ := bor_rl Rw hbw
      obtain ⟨o, e1, q⟩ := Rb2.sl j s e
      rw [z] at e1; cases e1
      cases s with
      | owc es => obtain ⟨a, vs, e2, _, ha, _⟩ := q; cases e2; rw [hD] at ha; cases ha
      | bwc es => obtain ⟨a, vs, e2, _, ha, _⟩ := q; cases e2; rw [hD] at ha; cases ha
      | _ => cases hs
    have hG1 : G (D :: O1) (bor b ds (wipeG Γ1 own)) (L2.wipe σ own) (upd H1 D (.lst [])) := by
      refine WK.stb O1 (bor b ds Γ1) σ H1 _ _ _ _ hG (off_mono (fun b o _ e => sD b o e) fun b h n => ?_) fun i es e => ?_
      · rcases List.mem_cons.mp h with z | z
        · rw [z]; exact hD
        · exact absurd z n
      · have hi : i ∉ own := fun z => by
          have := hown i z
          rw [← ebw, wipeG_in (by exact (List.getElem?_eq_some_iff.mp e).1) z] at this
          have h2 := List.all_eq_true.mp hn i z
          unfold notHd at h2
          cases b with
          | none =>
            have e' : Γ1[i]? = some (.bwc es) := e
            rw [e'] at h2; cases h2
          | some k =>
            have e' : (Γ1.set k (.bw ds))[i]? = some (.bwc es) := e
            by_cases hk : k = i
            · subst hk
              rw [hb k rfl] at h2; cases h2
            · rw [get_set_ne hk] at e'
              rw [e'] at h2; cases h2
        rw [← ebw, wipeG_out hi, wipe_out hi]
        exact ⟨e, rfl⟩
    refine ⟨fun i k H' => ∃ Ox Γ' rem acc accV, ds.drop i = rem ∧ k = rem.length ∧ i ≤ ds.length ∧ Rl K Ox Γ' (L2.wipe σ own) H' ∧ D ∈ Ox ∧ EStp (bor b ds (wipeG Γ1 own)) (L2.wipe σ own) (upd H1 D (.lst [])) (D :: O1) Γ' (upd H' D (.lst [])) Ox ∧
        G Ox Γ' (L2.wipe σ own) H' ∧ H' D = some (.lst accV) ∧ AtL K (off Ox H') acc accV ∧ loopC own f t m rem acc Γ' = loopC own f t m ds [] (bor b ds (wipeG Γ1 own)),
      ⟨ds.length, D :: O1, _, ds, [], [], rfl, rfl, Nat.zero_le _, Rb, List.mem_cons_self, ?_, hG1, upd_same, rfl, rfl⟩, ?_⟩
    · rw [upd_upd]; exact EStp.refl
    rintro i k H' ⟨Ox, Γ', rem, acc, accV, e1, e2, hi, R', mD, S', g', eD, tD, hl⟩
    have hlen' : Γ'.length = (bor b ds (wipeG Γ1 own)).length := by rw [R'.len, ← Rb.len]
    have nh' : ∀ (j : Nat) (s : Sl), Γ'[j]? = some s → s.hd = true → (L2.wipe σ own)[j]? ≠ some (some (.ref D)) := fun j s e hs => by
      obtain ⟨s0, e0, h0⟩ := S'.hdb hlen' e hs
      exact nh0 j s0 e0 h0
    have hno' : ∀ i, i ∈ own → Γ'[i]? = some .no := fun i hi => S'.oth i _ (hown i hi) fun _ z => by cases z
    cases rem with
    | nil =>
      have ei : i = ds.length := by
        have := congrArg List.length e1
        rw [List.length_drop] at this
        simp at this; omega
      subst ei
      refine .inl ⟨WK.stop Ox Γ' _ H' R' g', ?_⟩
      rw [← hl] at P1
      simp only [loopC] at P1
      -- what was lent is given back, the own names are as they were
      have Ru : Rl K Ox (unb b ds Γ') (L2.wipe σ own) H' := by
        refine unb_rl Rh hbw (fun a ma => S'.mu a ma) (fun i e => ?_) (fun i es e => ⟨S'.bwb i es e, rfl⟩) R'
        subst e
        exact ⟨S'.oth i _ (get_set_eq (hbw i rfl)) (fun _ z => by cases z), rfl⟩
      have eo : Same (off O1 H1) (off Ox H') := by
        have q1 : Same (off (D :: O1) (upd H1 D (.lst []))) (off Ox (upd H' D (.lst []))) := S'.toStp.same Rb
        intro b' o e
        obtain ⟨z1, z2⟩ := off_some.mp e
        have nb : b' ≠ D := fun z => by rw [z, hD] at z2; cases z2
        have q2 := q1 b' o (off_some.mpr ⟨fun z => (List.mem_cons.mp z).elim nb z1, by rw [upd_ne nb]; exact z2⟩)
        obtain ⟨z3, z4⟩ := off_some.mp q2
        rw [upd_ne nb] at z4
        exact off_some.mpr ⟨z3, z4⟩
      have Rf : Rl K Ox (backG Γ1 (unb b ds Γ') own) σ H' := R1.back hn eo Ru
      have hlu : (unb b ds Γ').length = Γ1.length := by
        cases b with
        | none => show Γ'.length = _; rw [hlen', hbl]
        | some i => show (Γ'.set i _).length = _; rw [List.length_set, hlen', hbl]
      have nhf : ∀ (j : Nat) (s : Sl), (backG Γ1 (unb b ds Γ') own)[j]? = some s → s.hd = true → σ[j]? ≠ some (some (.ref D)) := fun j s e hs z => by
        have hj : j ∉ own := fun hv => by
          have hjl : j < (unb b ds Γ').length := by rw [← backG_len Γ1 (unb b ds Γ') own]; exact (List.getElem?_eq_some_iff.mp e).1
          rw [backG_in (by rw [hlu]) hjl hv] at e
          have h2 := List.all_eq_true.mp hn j hv
          unfold notHd at h2
          rw [e] at h2
          simp [hs] at h2
        rw [backG_out hj] at e
        have zw : (L2.wipe σ own)[j]? = some (some (.ref D)) := by rw [wipe_out hj]; exact z
        cases b with
        | none => exact nh' j s e hs zw
        | some i =>
          have e' : (Γ'.set i (.ow ds))[j]? = some s := e
          by_cases hij : i = j
          · subst hij
            exact nh' i (.bwc ⟨.lst, ds⟩) (S'.oth i _ (get_set_eq (hbw i rfl)) (fun _ z => by cases z)) rfl zw
          · rw [get_set_ne hij] at e'; exact nh' j s e' hs zw
      have hO : ∀ b', b' ∈ Ox ↔ b' ∈ D :: Ox.filter fun c => decide (c ≠ D) := fun b' => by
        by_cases z : b' = D
        · subst z; exact ⟨fun _ => List.mem_cons_self, fun _ => mD⟩
        · exact ⟨fun h => List.mem_cons_of_mem _ (List.mem_filter.mpr ⟨h, decide_eq_true z⟩), fun h => (List.mem_cons.mp h).elim (fun q => absurd q z) fun q => (List.mem_filter.mp q).1⟩
      have Rc := Rl.congr hO Rf
      have Rs := Rc.show nhf
      -- the step, seen from the outside
      have inO1 : ∀ b', b' ∈ Ox.filter (fun c => decide (c ≠ D)) → b' ∈ O1 := fun b' h => by
        obtain ⟨h1, h2⟩ := List.mem_filter.mp h
        exact (List.mem_cons.mp (S'.sub b' h1)).resolve_left (by simpa using h2)
      have muw : ∀ b', Mu (bor b ds (wipeG Γ1 own)) (L2.wipe σ own) b' → Mu Γ1 σ b' := fun b' ⟨j, es, z1, z2⟩ => by
        obtain ⟨_, Sb2⟩ := bor_rl Rw hbw
        rcases Sb2.mu b' ⟨j, es, z1, z2⟩ with ⟨j', es', z3, z4⟩ | z
        · have hj : j' ∉ own := fun hv => by
            have hjl : j' < Γ1.length := by rw [← hlen]; exact (List.getElem?_eq_some_iff.mp z3).1
            rw [wipeG_in hjl hv] at z3; cases z3
          rw [wipeG_out hj] at z3; rw [wipe_out hj] at z4
          exact ⟨j', es', z3, z4⟩
        · obtain ⟨o, q1, a', vs', q2, _, q3, _⟩ := (bor_rl Rw hbw).1.sl j _ z1
          rw [z2] at q1; cases q1; cases q2
          rw [z] at q3; cases q3
      have ES : EStp Γ1 σ H1 O1 (backG Γ1 (unb b ds Γ') own) H' (Ox.filter fun c => decide (c ≠ D)) := by
        refine ⟨⟨fun b' o n e => ?_, fun b' ⟨j, es, z1, z2⟩ => ?_, fun b' e => ?_, fun b' m => .inl (inO1 b' m), fun b' h1 h2 => ?_⟩, inO1, fun j es e => ?_, fun j s e n => ?_, fun j es e => ?_⟩
        · have nb : b' ≠ D := fun z => by rw [z, hD] at e; cases e
          have := S'.keep b' o (fun mm => n (muw b' mm)) (by rw [upd_ne nb]; exact e)
          rw [upd_ne nb] at this; exact this
        · have hj : j ∉ own := fun hv => by
            have hjl : j < (unb b ds Γ').length := by rw [← backG_len Γ1 (unb b ds Γ') own]; exact (List.getElem?_eq_some_iff.mp z1).1
            rw [backG_in (by rw [hlu]) hjl hv] at z1
            have h2 := List.all_eq_true.mp hn j hv
            unfold notHd at h2
            rw [z1] at h2; cases h2
          rw [backG_out hj] at z1
          have zw : (L2.wipe σ own)[j]? = some (some (.ref b')) := by rw [wipe_out hj]; exact z2
          cases b with
          | none =>
            rcases S'.mu b' ⟨j, es, z1, zw⟩ with q | q
            · exact .inl (muw b' q)
            · by_cases nb : b' = D
              · subst nb; exact .inr hD
              · rw [upd_ne nb] at q; exact .inr q
          | some i =>
            have z1' : (Γ'.set i (.ow ds))[j]? = some (.owc es) := z1
            by_cases hij : i = j
            · subst hij; exact .inl ⟨i, ⟨.lst, ds⟩, hb i rfl, z2⟩
            · rw [get_set_ne hij] at z1'
              rcases S'.mu b' ⟨j, es, z1', zw⟩ with q | q
              · exact .inl (muw b' q)
              · by_cases nb : b' = D
                · subst nb; exact .inr hD
                · rw [upd_ne nb] at q; exact .inr q
        · have nb : b' ≠ D := fun z => by rw [z] at e; exact e hD
          have := S'.stay b' (by rw [upd_ne nb]; exact e)
          rw [upd_ne nb] at this; exact this
        · have nb : b' ≠ D := fun z => nD (z ▸ h1)
          exact muw b' (S'.lose b' (List.mem_cons_of_mem _ h1) fun z => h2 (List.mem_filter.mpr ⟨z, decide_eq_true nb⟩))
        · have hj : j ∉ own := fun hv => by
            have h2 := List.all_eq_true.mp hn j hv
            unfold notHd at h2
            rw [e] at h2; cases h2
          rw [backG_out hj]
          cases b with
          | none => exact S'.pres j es (by show (wipeG Γ1 own)[j]? = _; rw [wipeG_out hj]; exact e)
          | some i =>
            by_cases hij : i = j
            · subst hij
              exact .inl ⟨⟨.lst, ds⟩, get_set_eq (S'.oth i _ (get_set_eq (hbw i rfl)) (fun _ z => by cases z))⟩
            · show (∃ es, (Γ'.set i _)[j]? = _) ∨ ∃ es, (Γ'.set i _)[j]? = _
              rw [get_set_ne hij]
              exact S'.pres j es (by show ((wipeG Γ1 own).set i _)[j]? = _; rw [get_set_ne hij, wipeG_out hj]; exact e)
        · by_cases hj : j ∈ own
          · rw [backG_in (by rw [hlu]) (by rw [hlu]; exact (List.getElem?_eq_some_iff.mp e).1) hj]; exact e
          · rw [backG_out hj]
            cases b with
            | none => exact S'.oth j s (by show (wipeG Γ1 own)[j]? = _; rw [wipeG_out hj]; exact e) n
            | some i =>
              have hij : i ≠ j := fun z => by subst z; rw [hb i rfl] at e; cases e; exact n ⟨.lst, ds⟩ rfl
              show (Γ'.set i _)[j]? = _
              rw [get_set_ne hij]
              exact S'.oth j s (by show ((wipeG Γ1 own).set i _)[j]? = _; rw [get_set_ne hij, wipeG_out hj]; exact e) n
        · by_cases hj : j ∈ own
          · have hjl : j < (unb b ds Γ').length := by rw [← backG_len Γ1 (unb b ds Γ') own]; exact (List.getElem?_eq_some_iff.mp e).1
            rw [backG_in (by rw [hlu]) hjl hj] at e; exact e
          · rw [backG_out hj] at e
            cases b with
            | none =>
              have q := S'.bwb j es e
              have q' : (wipeG Γ1 own)[j]? = some (.bwc es) := q
              rw [wipeG_out hj] at q'; exact q'
            | some i =>
              have e' : (Γ'.set i (.ow ds))[j]? = some (.bwc es) := e
              by_cases hij : i = j
              · subst hij
                rw [get_set_eq (S'.oth i _ (get_set_eq (hbw i rfl)) (fun _ z => by cases z))] at e'; cases e'
              · rw [get_set_ne hij] at e'
                have q := S'.bwb j es e'
                have q' : ((wipeG Γ1 own).set i (.bw ds))[j]? = some (.bwc es) := q
                rw [get_set_ne hij, wipeG_out hj] at q'; exact q'
      refine P1 H' _ Rs ES (.ref D) ⟨D, accV, rfl, fun z => by simpa using (List.mem_filter.mp z).2, none_back S1.toStp D hD, eD, ?_, Rc⟩
      refine tD.mono fun b' o e => ?_
      obtain ⟨z1, z2⟩ := off_some.mp e
      exact off_some.mpr ⟨fun z => z1 ((hO b').mpr z), z2⟩
    | cons d rem =>
      have ed : ds[i]? = some d := by
        have := congrArg (·[0]?) e1
        simpa using this
      have e3 : ds.drop (i + 1) = rem := by
        have := congrArg List.tail e1
        simpa using this
      have hi2 : i < ds.length := (List.getElem?_eq_some_iff.mp ed).1
      refine .inr ⟨WK.go i Ox Γ' _ H' d ed R' g', fun H3 => ∃ O3 Γ3 acc3 accV3, Rl K O3 Γ3 (L2.wipe σ own) H3 ∧ D ∈ O3 ∧ EStp (bor b ds (wipeG Γ1 own)) (L2.wipe σ own) (upd H1 D (.lst [])) (D :: O1) Γ3 (upd H3 D (.lst [])) O3 ∧
        G O3 Γ3 (L2.wipe σ own) H3 ∧ H3 D = some (.lst accV3) ∧ AtL K (off O3 H3) acc3 accV3 ∧ loopC own f t m rem acc3 Γ3 = loopC own f t m ds [] (bor b ds (wipeG Γ1 own)), ?_, ?_⟩
      · rintro H3 ⟨O3, Γ3, acc3, accV3, a1, a2, a3, a4, a5, a6, a7⟩
        exact ⟨rem.length, by rw [e2]; simp, O3, Γ3, rem, acc3, accV3, e3, rfl, hi2, a1, a2, a3, a4, a5, a6, a7⟩
      · intro x H2 hy
        obtain ⟨sm, hx2⟩ := WK.yld i Ox Γ' _ H' d x H2 ed R' g' hy
        have R2 := R'.same sm
        have eD2 : H2 D = some (.lst accV) := sm D _ eD
        have hDn : H' D ≠ none := by rw [eD]; exact fun z => by cases z
        have ES1 : EStp Γ' (L2.wipe σ own) H' Ox Γ' H2 Ox := EStp.of_same sm
        have S2 : EStp (bor b ds (wipeG Γ1 own)) (L2.wipe σ own) (upd H1 D (.lst [])) (D :: O1) Γ' (upd H2 D (.lst [])) Ox := S'.trans Rb (ES1.shadow hDn)
        have g2 : G Ox Γ' (L2.wipe σ own) H2 := WK.stb Ox Γ' _ H' Ox Γ' _ H2 g' (ES1.toStp.same R') fun i es e => ⟨e, rfl⟩
        have tD2 : AtL K (off Ox H2) acc accV := tD.mono (ES1.toStp.same R')
        have hDn2 : H2 D ≠ none := by rw [eD2]; exact fun z => by cases z
        simp only [loopC] at hl
        cases ef : f d Γ' with
        | none => rw [ef] at hl; rw [← hl] at P1; exact P1.elim
        | some Γ3 =>
          rw [ef] at hl
          refine ⟨Ox, Γ', d, Γ3, R2, hx2, ef, fun σ3 R3 S3 tch => ?_⟩
          have hw3 : L2.wipe σ3 own = L2.wipe σ own := (turn_C R2 R3 hT hno' wipe_wipe tch S3 (EStp.refl) R3).1
          refine ⟨hw3, Ox, Γ3, R3, ?_⟩
          cases et : t Γ3 with
          | ex c pl Γ4 => simp only [et] at hl; rw [← hl] at P1; exact P1.elim
          | no => simp only [et] at hl; rw [← hl] at P1; exact P1.elim
          | ok k4 Γ4 =>
            intro H4 O4 R4 S4
            cases k4 with
            | false =>
              simp only [et] at hl
              obtain ⟨_, S5, R5⟩ := turn_C R2 R3 hT hno' wipe_wipe tch S3 S4 R4
              have mD4 : D ∈ O4 := Classical.byContradiction fun z => by
                obtain ⟨j, es, z1, z2⟩ := S5.lose D mD z
                exact nh' j _ z1 rfl z2
              have eD4 : H4 D = some (.lst accV) := S5.keep D _ (fun ⟨j, es, z1, z2⟩ => nh' j _ z1 rfl z2) eD2
              exact iteF ⟨O4, wipeG Γ4 own, acc, accV, R5, mD4, S2.trans Rb (S5.shadow hDn2), WK.stb Ox Γ' _ H2 O4 _ _ H4 g2 (S5.toStp.same R2) (fun i es e => ⟨S5.oth i _ e (fun _ z => by cases z), rfl⟩), eD4, tD2.mono (S5.toStp.same R2), hl⟩
            | true =>
              simp only [et] at hl
              refine iteT ⟨O4, Γ4, R4, ?_⟩
              cases em : m Γ4 with
              | ex c pl Γ5 => simp only [em] at hl; rw [← hl] at P1; exact P1.elim
              | no => simp only [em] at hl; rw [← hl] at P1; exact P1.elim
              | ok r Γ5 =>
                simp only [em] at hl
                intro H5 O5 R5 S5 v hv
                cases ee : esc Γ5 r with
                | none => simp only [ee] at hl; rw [← hl] at P1; exact P1.elim
                | some q =>
                  obtain ⟨d', Γ6⟩ := q
                  simp only [ee] at hl
                  obtain ⟨O6, R6, S6, q6⟩ := hv.esc R5 EStp.refl R5 ee
                  split at hl
                  · rename_i hz
                    obtain ⟨_, S7, R7⟩ := turn_C R2 R3 hT hno' wipe_wipe tch S3 ((S4.trans R3 S5).trans R3 S6) R6
                    have mD6 : D ∈ O6 := Classical.byContradiction fun z => by
                      obtain ⟨j, es, z1, z2⟩ := S7.lose D mD z
                      exact nh' j _ z1 rfl z2
                    have eD6 : H5 D = some (.lst accV) := S7.keep D _ (fun ⟨j, es, z1, z2⟩ => nh' j _ z1 rfl z2) eD2
                    have tD6 := tD2.mono (S7.toStp.same R2)
                    have hl6 : (wipeG Γ6 own).length = Γ'.length := by rw [R7.len, R'.len]
                    have nh6 : ∀ (j : Nat) (s : Sl), (wipeG Γ6 own)[j]? = some s → s.hd = true → (L2.wipe σ own)[j]? ≠ some (some (.ref D)) := fun j s e hs => by
                      obtain ⟨s0, e0, h0⟩ := S7.hdb hl6 e hs
                      exact nh' j s0 e0 h0
                    obtain ⟨R8, eo8⟩ := R7.other (o := .lst (accV ++ [v])) mD6 nh6
                    refine ⟨accV, eD6, by rw [← tD6.length, big_eq]; exact hz, O6, wipeG Γ6 own, acc ++ [d'], accV ++ [v], R8, mD6, ?_, ?_, upd_same, (tD6.append (AtL.cons q6 AtL.nil)).mono eo8, hl⟩
                    · rw [upd_upd]; exact S2.trans Rb (S7.shadow hDn2)
                    · exact WK.stb O6 _ _ H5 O6 _ _ _ (WK.stb Ox Γ' _ H2 O6 _ _ H5 g2 (S7.toStp.same R2) (fun i es e => ⟨S7.oth i _ e (fun _ z => by cases z), rfl⟩)) eo8 fun i es e => ⟨e, rfl⟩
                  · rw [← hl] at P1; exact P1.elim
  · simp only [hn] at P1
    exact P1.elim
end
section
variable {X : Cx} {XR : XRel} {W : WX} {T : List Nat} {elt tg iter : Expr} {ifs : List Expr} {scope : Scope} {own : List (Str × Nat)} {pos : Pos} {mi : IM} {f : GM} {t : List Sl → Rs Bool} {m : EM}
def MTs (X : Cx) (XR : XRel) (W : WX) (es : List Expr) (m : List Sl → Rs Bool) : Prop := PTs X es (tT X.KW XR W m)
def tYesM : List Sl → Rs Bool := fun Γ => .ok true Γ
theorem mts_nil : MTs X XR W [] tYesM := ⟨fun pins s σ H Q I ⟨O, Γ, R, h⟩ => pts_nil.run pins s σ H Q I (h H O R EStp.refl)⟩
theorem mts_one {c : Expr} (h : MT X XR W c t) : MTs X XR W [c] t := pts_one h
theorem me_lc (hc : X.calm = true) (hN : X.N.Nodup) (hi : MI X XR W tg iter mi) (ok : BlkOk X.N X.env.scope scope own) (hT : ∀ i, i ∈ T → i ∈ own.map (·.2))
    (hg : ∀ (s : Shared) (H : Hp) (C : Addr) (cl : List (Str × Addr)) (fp : List Addr), MG (X.blk s H scope (compEnvC scope cl C X.env) fp) [] T tg f) (ht : ∀ (s : Shared) (H : Hp) (C : Addr) (cl : List (Str × Addr)) (fp : List Addr), MTs (X.blk s H scope (compEnvC scope cl C X.env) fp) XR W0 ifs t)
    (he : ∀ (s : Shared) (H : Hp) (C : Addr) (cl : List (Str × Addr)) (fp : List Addr), ME (X.blk s H scope (compEnvC scope cl C X.env) fp) XR W0 elt m) (hs : ∀ x, foldedSetIterable iter X.env x = pure x := by intro _; rfl) :
    ME X XR W (.ListComp elt [⟨tg, iter, ifs, 0⟩] scope pos) (mLc (own.map (·.2)) mi f t m) :=
  (pe_lc (g := gM X.KW [] T f) (tt := tT X.KW XR W0 t) (te := tE X.KW XR W0 m) hc hN hi ok hg ht he hs).imp fun σ H Q h => lc_tE hT h
end
end Mir

set_option Elab.async false
set_option autoImplicit false
set_option linter.all false
set_option maxRecDepth 100000
set_option maxHeartbeats 4000000
namespace Mir
open PySem PySem.Spec PyProof.Rows L2

section
variable {X : Cx} {XR : XRel} {W : WX} {P T : List Nat} {elt tg iter : Expr} {ifs : List Expr} {scope : Scope} {own : List (Str × Nat)} {pos spos : Pos} {mi : IM} {f : GM} {t : List Sl → Rs Bool} {m : EM}
/-- name = [.. for ..] on one line -/
theorem ms_setLc {i : Nat} {y : Str} {py : Pos} (hc : X.calm = true) (hN : X.N.Nodup) (hy : X.N[i]? = some y) (hyl : X.env.scope.names.lookup y = some .local)
    (hsw : swapsWith (.ListComp elt [⟨tg, iter, ifs, 0⟩] scope pos) (some (.Name y py)) spos.line X.env = pure true) (hi : MI X XR W tg iter mi) (ok : BlkOk X.N X.env.scope scope own) (hT : ∀ i, i ∈ T → i ∈ own.map (·.2))
    (hg : ∀ (s : Shared) (H : Hp) (C : Addr) (cl : List (Str × Addr)) (fp : List Addr), MG (X.blk s H scope (compEnvC scope cl C X.env) fp) [] T tg f) (ht : ∀ (s : Shared) (H : Hp) (C : Addr) (cl : List (Str × Addr)) (fp : List Addr), MTs (X.blk s H scope (compEnvC scope cl C X.env) fp) XR W0 ifs t)
    (he : ∀ (s : Shared) (H : Hp) (C : Addr) (cl : List (Str × Addr)) (fp : List Addr), ME (X.blk s H scope (compEnvC scope cl C X.env) fp) XR W0 elt m) (hp : i ∉ P := by decide) (hs : ∀ x, foldedSetIterable iter X.env x = pure x := by intro _; rfl) :
    MS X XR W P (.Assign [.Name y py] (.ListComp elt [⟨tg, iter, ifs, 0⟩] scope pos) spos) (sSet i (mLc (own.map (·.2)) mi f t m)) :=
  (ps_setLc (g := gM X.KW [] T f) (tt := tT X.KW XR W0 t) (te := tE X.KW XR W0 m) hc hN hy hyl hsw hi ok hg ht he hs).imp fun D σ H h => lc_tE hT (set_tS hp h)
/-- raise C('..') -/
def sRaise (c : Nat) : SM := fun Γ => .ex c [] Γ
end

/-! ### a def -/
def finD : List Sl → List Sl → List Sl
  | [], _ => []
  | s :: Δ, [] => s :: finD Δ []
  | s :: Δ, g :: Γ => (match s with
    | .owc _ => g
    | s => s) :: finD Δ Γ
def pOk (P : List Nat) : Nat → List Sl → Bool
  | _, [] => true
  | j, s :: t => (match s with
    | .owc _ => P.contains j
    | _ => true) && pOk P (j + 1) t
def pad (nN : Nat) (Δ : List Sl) : List Sl := Δ ++ List.replicate (nN - Δ.length) .no
def endD (P : List Nat) (Δ : List Sl) : SR → Rs RV
  | .nx Γ => .ok (.va .non) (finD Δ Γ)
  | .rt (.va d) Γ => .ok (.va d) (finD Δ Γ)
  | .rt (.owc ds) Γ => .ok (.owc ds) (finD Δ Γ)
  | .rt (.bo i) Γ => match Γ[i]? with
    | some (.owc ds) => if P.contains i then .no else .ok (.owc ds) (finD Δ Γ)
    | some (.va d) => .ok (.va d) (finD Δ Γ)
    | _ => .no
  | .ex c pl Γ => .ex c pl (finD Δ Γ)
  | _ => .no
def mDef (nN np : Nat) (P : List Nat) (body : SM) : DM := fun Δ => if pOk P 0 Δ && decide (Δ.length = np) then endD P Δ (body (pad nN Δ)) else .no
theorem finD_get : ∀ (Δ Γ : List Sl) (j : Nat), (finD Δ Γ)[j]? = (Δ[j]?).map fun s => match s with
    | .owc ds => (Γ[j]?).getD (.owc ds)
    | s => s
  | [], Γ, j => by simp [finD]
  | s :: Δ, [], 0 => by cases s <;> simp [finD]
  | s :: Δ, [], j + 1 => by
    simp only [finD, List.getElem?_cons_succ]
    rw [finD_get Δ [] j]
    cases Δ[j]? with
    | none => rfl
    | some s => cases s <;> simp
  | s :: Δ, g :: Γ, 0 => by cases s <;> simp [finD]
  | s :: Δ, g :: Γ, j + 1 => by
    simp only [finD, List.getElem?_cons_succ]
    rw [finD_get Δ Γ j]
theorem finD_len : ∀ (Δ Γ : List Sl), (finD Δ Γ).length = Δ.length
  | [], _ => rfl
  | s :: Δ, [] => by simp [finD, finD_len Δ []]
  | s :: Δ, g :: Γ => by simp [finD, finD_len Δ Γ]
theorem pOk_get {P : List Nat} : ∀ {Δ : List Sl} {i j : Nat} {ds : Ct}, pOk P i Δ = true → Δ[j]? = some (.owc ds) → i + j ∈ P
  | [], _, _, _, _, h => by simp at h
  | s :: t, i, 0, ds, e, h => by
    simp at h; subst h
    simp only [pOk, Bool.and_eq_true] at e
    simpa using e.1
  | s :: t, i, j + 1, ds, e, h => by
    simp only [pOk, Bool.and_eq_true] at e
    have := pOk_get (j := j) e.2 (by simpa using h)
    rw [show i + (j + 1) = i + 1 + j by omega]; exact this
section
variable {K : Fg} {XR : XRel} {P : List Nat} {O O' E E'' : List Addr} {Δ Γ' : List Sl} {vs : List V} {σ σ' : L2.St} {H H' : Hp} {N : List Str}
theorem start_get {vs : List V} {j : Nat} (h : j < vs.length) : (L2.start N vs)[j]? = (vs.map some)[j]? := by
  unfold L2.start
  rw [List.getElem?_append_left (by simpa using h)]
theorem pad_get {nN j : Nat} (h : j < Δ.length) : (pad nN Δ)[j]? = Δ[j]? := by
  unfold pad
  rw [List.getElem?_append_left h]
theorem pad_out {nN j : Nat} {s : Sl} (h : ¬ j < Δ.length) (e : (pad nN Δ)[j]? = some s) : s = .no := by
  unfold pad at e
  rw [List.getElem?_append_right (by omega), List.getElem?_replicate] at e
  split at e
  · cases e; rfl
  · cases e
theorem Rl.start (R : Rl K O Δ (vs.map some) H) (hN : vs.length ≤ N.length) : Rl K O (pad N.length Δ) (L2.start N vs) H := by
  have hl : Δ.length = vs.length := by rw [R.len, List.length_map]
  refine ⟨by unfold pad L2.start; simp [hl], fun j s h => ?_, fun i j a ds t hij h1 h2 ht h3 h4 => ?_, R.tr⟩
  · by_cases hj : j < Δ.length
    · rw [pad_get hj] at h
      rw [start_get (by omega)]; exact R.sl j s h
    · have e := pad_out hj h
      subst e
      have hjn : j < (L2.start N vs).length := by
        have := (List.getElem?_eq_some_iff.mp h).1
        unfold pad at this
        unfold L2.start
        simp only [List.length_append, List.length_replicate, List.length_map] at this ⊢
        omega
      exact ⟨_, List.getElem?_eq_getElem hjn, trivial⟩
  · have g1 : i < Δ.length := Classical.byContradiction fun z => by have := pad_out z h1; cases this
    have g2 : j < Δ.length := Classical.byContradiction fun z => by have := pad_out z h2; subst this; cases ht
    rw [pad_get g1] at h1; rw [pad_get g2] at h2
    rw [start_get (by omega)] at h3 h4
    exact R.ne i j a ds t hij h1 h2 ht h3 h4
theorem start_mu {b : Addr} (hl : Δ.length = vs.length) : Mu (pad N.length Δ) (L2.start N vs) b ↔ Mu Δ (vs.map some) b := by
  constructor
  · rintro ⟨i, ds, h1, h2⟩
    have g1 : i < Δ.length := Classical.byContradiction fun z => by have := pad_out z h1; cases this
    rw [pad_get g1] at h1; rw [start_get (by omega)] at h2
    exact ⟨i, ds, h1, h2⟩
  · rintro ⟨i, ds, h1, h2⟩
    have g1 : i < Δ.length := (List.getElem?_eq_some_iff.mp h1).1
    exact ⟨i, ds, by rw [pad_get g1]; exact h1, by rw [start_get (by omega)]; exact h2⟩
/-- the end of a def: the slots of its parameters, for the caller -/
theorem fin_rl (R : Rl K O Δ (vs.map some) H) (hp : pOk P 0 Δ = true) (S : SStp P (pad N.length Δ) (L2.start N vs) H O Γ' σ' H' O') (hsame : Same (off O H) (off E'' H')) (hE : Same (off E H') (off E'' H')) (hsub : ∀ b, b ∈ E'' → b ∈ E)
    (hlose : ∀ b, b ∈ O → b ∈ E → b ∈ E'') (hk : ∀ b, b ∈ O → ¬ Mu Δ (vs.map some) b → b ∈ E'') (R' : Rl K E Γ' σ' H') : Rl K E'' (finD Δ Γ') (vs.map some) H' := by
  have hl : Δ.length = vs.length := by rw [R.len, List.length_map]
  -- an owned parameter at the end
  have own : ∀ {j : Nat} {ds : Ct}, Δ[j]? = some (.owc ds) → ∃ s, Γ'[j]? = some s ∧ ((∃ es, s = .owc es) ∨ ∃ es : Ct, s = .va es.data) ∧ σ'[j]? = (vs.map some)[j]? := fun {j ds} h => by
    have g1 : j < Δ.length := (List.getElem?_eq_some_iff.mp h).1
    have hP : j ∈ P := by have := pOk_get (i := 0) hp h; rwa [Nat.zero_add] at this
    obtain ⟨p1, p2, _⟩ := S.par j hP
    rw [start_get (by omega)] at p1
    rcases p2 ds (by rw [pad_get g1]; exact h) with ⟨es, e⟩ | ⟨es, e⟩
    · exact ⟨_, e, .inl ⟨es, rfl⟩, p1⟩
    · exact ⟨_, e, .inr ⟨es, rfl⟩, p1⟩
  refine ⟨by rw [finD_len]; exact R.len, fun j s h => ?_, fun i j a ds t hij h1 h2 ht h3 h4 => ?_, fun b hb => R'.tr b (hsub b hb)⟩
  · rw [finD_get] at h
    obtain ⟨s0, e1, e2⟩ := Option.map_eq_some_iff.mp h
    obtain ⟨o, e3, q⟩ := R.sl j s0 e1
    refine ⟨o, e3, ?_⟩
    cases s0 with
    | no => subst e2; trivial
    | va d => subst e2; obtain ⟨v, e4, q⟩ := q; exact ⟨v, e4, q.mono hsame⟩
    | sc ns => subst e2; obtain ⟨a, e4, q⟩ := q; exact ⟨a, e4, hsame.seq q⟩
    | bwc ds =>
      subst e2
      obtain ⟨a, us, e4, m, ha, t⟩ := q
      subst e4
      have nm : ¬ Mu Δ (vs.map some) a := fun ⟨k, es, z1, z2⟩ => by
        by_cases z : k = j
        · subst z; rw [e1] at z1; cases z1
        · exact R.ne k j a es _ z z1 e1 rfl z2 e3
      exact ⟨a, us, rfl, hk a m nm, S.keep a _ (fun mm => nm ((start_mu hl).mp mm)) ha, t.mono hsame⟩
    | owc ds =>
      obtain ⟨s', g1, g2, g3⟩ := own e1
      simp only [g1, Option.getD_some] at e2
      subst e2
      obtain ⟨o', g4, q'⟩ := R'.sl j s' g1
      rw [g3, e3] at g4; cases g4
      obtain ⟨a0, us0, e4, m0, _⟩ := q
      rcases g2 with ⟨es, rfl⟩ | ⟨es, rfl⟩
      · obtain ⟨a, us, e5, m, ha, t⟩ := q'
        rw [e4] at e5; cases e5
        exact ⟨a0, us, e4, hlose a0 m0 m, ha, t.mono hE⟩
      · obtain ⟨v, e5, q'⟩ := q'
        exact ⟨v, e5, q'.mono hE⟩
  · have src : ∀ {k : Nat} {s : Sl}, (finD Δ Γ')[k]? = some s → s.hd = true → ∃ s0, Δ[k]? = some s0 ∧ s0.hd = true := fun {k s} z hs => by
      rw [finD_get] at z
      obtain ⟨s0, e1, e2⟩ := Option.map_eq_some_iff.mp z
      refine ⟨s0, e1, ?_⟩
      cases s0 with
      | owc _ => rfl
      | bwc _ => rfl
      | _ => subst e2; cases hs
    have src1 : ∃ es, Δ[i]? = some (.owc es) := by
      rw [finD_get] at h1
      obtain ⟨s0, e1, e2⟩ := Option.map_eq_some_iff.mp h1
      cases s0 with
      | owc es => exact ⟨es, e1⟩
      | _ => cases e2
    obtain ⟨es, g1⟩ := src1
    obtain ⟨s0, g2, g3⟩ := src h2 ht
    exact R.ne i j a es s0 hij g1 g2 g3 h3 h4
theorem fin_st (R : Rl K O Δ (vs.map some) H) (hp : pOk P 0 Δ = true) (S : SStp P (pad N.length Δ) (L2.start N vs) H O Γ' σ' H' O') (hsub : ∀ b, b ∈ E'' → b ∈ O) (hlose : ∀ b, b ∈ O → b ∈ O' → b ∈ E'') : EStp Δ (vs.map some) H O (finD Δ Γ') H' E'' := by
  have hl : Δ.length = vs.length := by rw [R.len, List.length_map]
  refine ⟨⟨fun b o n e => S.keep b o (fun m => n ((start_mu hl).mp m)) e, fun b ⟨j, ds, h1, h2⟩ => ?_, S.stay, fun b h => .inl (hsub b h), fun b h1 h2 => (start_mu hl).mp (S.lose b h1 fun z => h2 (hlose b h1 z))⟩, hsub, fun j ds h => ?_, fun j s h n => ?_, fun j ds h => ?_⟩
  · rw [finD_get] at h1
    obtain ⟨s0, e1, e2⟩ := Option.map_eq_some_iff.mp h1
    cases s0 with
    | owc es => exact .inl ⟨j, es, e1, h2⟩
    | _ => cases e2
  · have g1 : j < Δ.length := (List.getElem?_eq_some_iff.mp h).1
    have hP : j ∈ P := by have := pOk_get (i := 0) hp h; rwa [Nat.zero_add] at this
    obtain ⟨p1, p2, _⟩ := S.par j hP
    rw [finD_get, h]
    rcases p2 ds (by rw [pad_get g1]; exact h) with ⟨es, e⟩ | ⟨es, e⟩
    · exact .inl ⟨es, by simp [e]⟩
    · exact .inr ⟨es, by simp [e]⟩
  · rw [finD_get, h]
    cases s with
    | owc ds => exact absurd rfl (n ds)
    | _ => rfl
  · rw [finD_get] at h
    obtain ⟨s0, e1, e2⟩ := Option.map_eq_some_iff.mp h
    cases s0 with
    | owc es =>
      exfalso
      have g1 : j < Δ.length := (List.getElem?_eq_some_iff.mp e1).1
      have hP : j ∈ P := by have := pOk_get (i := 0) hp e1; rwa [Nat.zero_add] at this
      obtain ⟨_, p2, _⟩ := S.par j hP
      rcases p2 es (by rw [pad_get g1]; exact e1) with ⟨fs, e⟩ | ⟨fs, e⟩
      · simp [e] at e2
      · simp [e] at e2
    | bwc es => rw [e1]; exact congrArg some e2
    | _ => cases e2
theorem def_tS {W : WX} {np : Nat} {body : SM} {Q : VK} {E : XK} (hN : vs.length ≤ N.length) (hW : W = fun cls d _ H => E cls d H) (R : Rl K O Δ (vs.map some) H)
    (h : Post K XR (fun cls d _ H' => E cls d H') (vs.map some) Δ H O (fun r Δ' H' O' => ∀ v, RvAt K O' (vs.map some) Δ' H' H r v → Q v H') (mDef N.length np P body Δ)) :
    tS K XR W P body { nx := fun _ H' => Q .non H', rt := Q } (L2.start N vs) H := by
  subst hW
  unfold mDef at h
  by_cases hp : (pOk P 0 Δ && decide (Δ.length = np)) = true
  · simp only [hp, if_true] at h
    rw [Bool.and_eq_true] at hp
    have hl : Δ.length = vs.length := by rw [R.len, List.length_map]
    refine ⟨O, pad N.length Δ, R.start hN, ?_⟩
    -- the caller's view of the end
    have fin : ∀ {Γ' : List Sl} {σ' : L2.St} {H' : Hp} {O' : List Addr}, Rl K O' Γ' σ' H' → SStp P (pad N.length Δ) (L2.start N vs) H O Γ' σ' H' O' →
        Rl K (O'.filter fun b => decide (b ∈ O)) (finD Δ Γ') (vs.map some) H' ∧ EStp Δ (vs.map some) H O (finD Δ Γ') H' (O'.filter fun b => decide (b ∈ O)) := fun {Γ' σ' H' O'} R' S' => by
      have sub : ∀ b, b ∈ O'.filter (fun b => decide (b ∈ O)) → b ∈ O' := fun b hb => (List.mem_filter.mp hb).1
      have subO : ∀ b, b ∈ O'.filter (fun b => decide (b ∈ O)) → b ∈ O := fun b hb => of_decide_eq_true (List.mem_filter.mp hb).2
      have mem : ∀ b, b ∈ O → b ∈ O' → b ∈ O'.filter (fun b => decide (b ∈ O)) := fun b h1 h2 => List.mem_filter.mpr ⟨h2, decide_eq_true h1⟩
      have hE : Same (off O' H') (off (O'.filter fun b => decide (b ∈ O)) H') := off_mono (fun b o _ e => e) fun b h n => absurd (sub b h) n
      have hs : Same (off O H) (off (O'.filter fun b => decide (b ∈ O)) H') := fun b o e => hE b o (S'.toStp.same (R.start hN) b o e)
      exact ⟨fin_rl R hp.1 S' hs hE sub mem (fun b h1 n => mem b h1 (Classical.byContradiction fun z => n ((start_mu hl).mp (S'.lose b h1 z)))) R', fin_st R hp.1 S' subO mem⟩
    have finV : ∀ {Γ' : List Sl} {σ' : L2.St} {H' : Hp} {O' : List Addr} {a : Addr} {us : List V} {ds : Ct}, Rl K O' Γ' σ' H' → SStp P (pad N.length Δ) (L2.start N vs) H O Γ' σ' H' O' → H a = none → a ∉ O → H' a = some (ds.ho K.w a us) →
        (∃ E1, Rl K E1 Γ' σ' H' ∧ (∀ b, b ∈ E1 ↔ b ∈ a :: O') ∧ AtL K (off E1 H') ds.ds us) → RvAt K (O'.filter fun b => decide (b ∈ O)) (vs.map some) (finD Δ Γ') H' H (.owc ds) (.ref a) := fun {Γ' σ' H' O' a us ds} R' S' n0 na e ⟨E1, R1, hE1, t⟩ => by
      have sub : ∀ b, b ∈ a :: O'.filter (fun b => decide (b ∈ O)) → b ∈ E1 := fun b hb => (hE1 b).mpr ((List.mem_cons.mp hb).elim (fun z => by rw [z]; exact List.mem_cons_self) fun z => List.mem_cons_of_mem _ (List.mem_filter.mp z).1)
      have hE : Same (off E1 H') (off (a :: O'.filter fun b => decide (b ∈ O)) H') := off_mono (fun b o _ e => e) fun b h n => absurd (sub b h) n
      have hs : Same (off O H) (off (a :: O'.filter fun b => decide (b ∈ O)) H') := fun b o e => by
        obtain ⟨z1, z2⟩ := off_some.mp (S'.toStp.same (R.start hN) b o e)
        refine off_some.mpr ⟨fun m => ?_, z2⟩
        rcases List.mem_cons.mp m with m | m
        · rw [m] at e; rw [(off_some.mp e).2] at n0; cases n0
        · exact z1 (List.mem_filter.mp m).1
      refine ⟨a, us, rfl, fun z => na (of_decide_eq_true (List.mem_filter.mp z).2), n0, e, t.mono hE, ?_⟩
      refine fin_rl R hp.1 S' hs hE sub (fun b h1 h2 => ?_) (fun b h1 n => ?_) R1
      · exact ((List.mem_cons.mp ((hE1 b).mp h2)).elim (fun z => by rw [z]; exact List.mem_cons_self) fun z => List.mem_cons_of_mem _ (List.mem_filter.mpr ⟨z, decide_eq_true h1⟩))
      · exact List.mem_cons_of_mem _ (List.mem_filter.mpr ⟨Classical.byContradiction fun z => n ((start_mu hl).mp (S'.lose b h1 z)), decide_eq_true h1⟩)
    cases hb : body (pad N.length Δ) with
    | no => rw [hb] at h; exact h.elim
    | bk Γ' => rw [hb] at h; exact h.elim
    | ct Γ' => rw [hb] at h; exact h.elim
    | nx Γ' =>
      rw [hb] at h
      intro σ' H' O' R' S'
      obtain ⟨R2, S2⟩ := fin R' S'
      exact h H' _ R2 S2 .non rfl
    | ex c pl Γ' =>
      rw [hb] at h
      intro cls d σ' H' O' xr R' S'
      obtain ⟨R2, S2⟩ := fin R' S'
      exact h cls d H' _ xr R2 S2
    | rt r Γ' =>
      rw [hb] at h
      intro σ' H' O' R' S' v hv
      obtain ⟨R2, S2⟩ := fin R' S'
      have hE : Same (off O' H') (off (O'.filter fun b => decide (b ∈ O)) H') := off_mono (fun b o _ e => e) fun b h n => absurd (List.mem_filter.mp h).1 n
      cases r with
      | va d => exact h H' _ R2 S2 v (At.mono hE hv)
      | owc ds =>
        obtain ⟨a, us, rfl, n1, n0, e, t, R3⟩ := hv
        exact h H' _ R2 S2 _ (finV R' S' n0 (fun z => R.tr a z n0) e ⟨a :: O', R3, fun b => Iff.rfl, t⟩)
      | bo i =>
        obtain ⟨e1, _⟩ := hv
        simp only [endD] at h
        cases e2 : Γ'[i]? with
        | none => simp only [e2] at h; exact h.elim
        | some s =>
          simp only [e2] at h
          obtain ⟨o, e3, q⟩ := R'.sl i s e2
          rw [e1] at e3; cases e3
          cases s with
          | va d =>
            obtain ⟨v', e4, q⟩ := q
            cases e4
            exact h H' _ R2 S2 v (At.mono hE q)
          | owc ds =>
            obtain ⟨a, us, e4, m, ha, t⟩ := q
            cases e4
            simp only at h
            split at h
            · exact h.elim
            · rename_i hi
              have hi' : i ∉ P := by simpa using hi
              have n0 : H a = none := by
                rcases S'.mu a ⟨i, ds, e2, e1⟩ with ⟨j, es, z1, z2⟩ | z
                · exfalso
                  have g1 : j < Δ.length := Classical.byContradiction fun z => by have := pad_out z z1; cases this
                  rw [pad_get g1] at z1
                  have hP : j ∈ P := by have := pOk_get (i := 0) hp.1 z1; rwa [Nat.zero_add] at this
                  obtain ⟨p1, p2, _⟩ := S'.par j hP
                  have hij : i ≠ j := fun z => hi' (z ▸ hP)
                  rcases p2 es (by rw [pad_get g1]; exact z1) with ⟨fs, e⟩ | ⟨fs, e⟩
                  · exact R'.ne i j a ds _ hij e2 e rfl e1 (p1.trans z2)
                  · obtain ⟨o, w1, w2, w3, w6⟩ := R'.sl j _ e
                    obtain ⟨a', us', w4, w5, _⟩ := at_data.mp w6
                    rw [p1.trans z2] at w1; cases w1; cases w3; cases w4
                    exact (off_some.mp w5).1 m
                · exact z
              exact h H' _ R2 S2 _ (finV R' S' n0 (fun z => R.tr a z n0) ha ⟨O', R', fun b => ⟨fun z => List.mem_cons_of_mem _ z, fun z => (List.mem_cons.mp z).elim (fun q => q ▸ m) id⟩, t⟩)
          | _ => exact h.elim
  · simp only [hp] at h
    exact h.elim
end
section
variable {Pr : Program} {w : World} {K : PySem.W.Frag} {mg : Str → Option Value} {base : Heap} {XR : XRel}
/-- THE RULE: a def whose body keeps the mirror of its rows keeps its own mirror -/
theorem fun_mir {x qual : Str} {st : Stmt} {f : Addr} {fd : FuncData} {N ps : List Str} {k : Nat} {P : List Nat} {body : SM} (F : Fun K x qual st f fd) (S : FnScope N ps (defScope st)) (hn : ps.length ≤ N.length)
    (hbody : ∀ (cdv : Value) (A : Around) (outer : List Env) (s : Shared) (H : Hp) (E : XK), Room k (A.deeper (envOfC qual (defScope st) s.heap.objs.size f cdv)) →
      MSs (cxOf (L2.CX Pr w) Pr w K mg base N qual (defScope st) f cdv A outer s H E) XR (fun cls d _ H => E cls d H) P (defBody st) body) :
    FnOk Pr w K mg base (L2.CX Pr w) (k + 1) f fd ps (spM ⟨K, w⟩ XR (mDef N.length ps.length P body) ps.length) :=
  F.okX S (fun vs H Q E h => h.1) fun cdv A outer s H vs Q E hr ⟨hl, O, Δ, R, h⟩ => ⟨_, hbody cdv A outer s H E hr, def_tS (by omega) rfl R h⟩
end
end Mir

set_option Elab.async false
set_option autoImplicit false
set_option linter.all false
set_option maxRecDepth 100000
set_option maxHeartbeats 4000000
namespace Mir
open PySem PySem.Spec PyProof.Rows L2
/-! ### exception classes of the program by numbers; defs of the program by names -/
section
variable {X : Cx} {W : WX} {P : List Nat} {xt : Nat → Option Addr}
end
/-- a def of the program keeps its mirror -/
structure Use (Pr : Program) (w : World) (K : PySem.W.Frag) (mg : Str → Option Value) (base : Heap) (XR : XRel) (x : Str) (ps : List Str) (k : Nat) (F : DM) : Prop where
  ex : ∃ (f : Addr) (fd : FuncData), FnOk Pr w K mg base (L2.CX Pr w) k f fd ps (spM ⟨K, w⟩ XR F ps.length) ∧ mg x = some (.ref f) ∧ PySem.W.keepIn K (.ref f) = true ∧ Binds K fd ps []
section
variable {X : Cx} {XR : XRel} {W : WX} {x : Str} {ps : List Str} {k : Nat} {F : DM} {ms : AM} {e : Expr} {es : List Expr} {p pos : Pos}
theorem me_use (U : Use X.prog X.w X.K X.mg X.base XR x ps k F) (hr : Room k X.A) (hg : Gl X x) (tk : Takes X W) (hn : ArgN ms ps.length) (ha : MA X XR W (e :: es) ms) (hdb : (x == ("__debug__" : Str)) = false := by decide)
    (he : starEach (e :: es) X.env = (false, eval e X.env) :: starEach es X.env := by rfl) (hpl : (backTo pos (starEach es X.env)).any (·.1) = false := by rfl) :
    ME X XR W (.Call (.Name x p) (e :: es) [] pos) (mCall F ms) := by
  obtain ⟨f, fd, h1, h2, h3, h4⟩ := U.ex
  exact me_callX h1 hr hg h2 h3 h4 tk hn ha hdb he hpl
end
section
variable {Pr : Program} {w : World} {K : PySem.W.Frag} {mg : Str → Option Value} {base : Heap} {XR : XRel}
theorem Use.mk' {x : Str} {ps : List Str} {k : Nat} {F : DM} {f : Addr} {fd : FuncData} (h1 : FnOk Pr w K mg base (L2.CX Pr w) k f fd ps (spM ⟨K, w⟩ XR F ps.length)) (h2 : mg x = some (.ref f)) (h3 : PySem.W.keepIn K (.ref f) = true) (h4 : Binds K fd ps []) : Use Pr w K mg base XR x ps k F := ⟨f, fd, h1, h2, h3, h4⟩
/-- a mirror that is stuck promises nothing -/
theorem fnOk_no {k : Nat} {f : Addr} {fd : FuncData} {ps : List Str} : FnOk Pr w K mg base (L2.CX Pr w) k f fd ps (spM ⟨K, w⟩ XR (fun _ => .no) ps.length) :=
  ⟨fun vs H Q E h => h.1, fun A outer s H args us vs Q E _ _ _ _ h => by obtain ⟨_, O, Δ, R, q⟩ := h; exact q.elim⟩
end
end Mir

set_option Elab.async false
set_option autoImplicit false
set_option linter.all false
set_option maxRecDepth 100000
set_option maxHeartbeats 4000000
namespace Mir
open PySem PySem.Spec PyProof.Rows L2
/-- the law's promise, whatever the table of exceptions -/
def spT (K : Fg) (m : DM) (n : Nat) : Sp := fun vs H Q E => ∀ XR : XRel, spM K XR m n vs H Q E
theorem fnOk_T {Pr : Program} {w : World} {K : PySem.W.Frag} {mg : Str → Option Value} {base : Heap} {XR : XRel} {k n : Nat} {f : Addr} {fd : FuncData} {ps : List Str} {m : DM} (h : FnOk Pr w K mg base (L2.CX Pr w) k f fd ps (spM ⟨K, w⟩ XR m n)) : FnOk Pr w K mg base (L2.CX Pr w) k f fd ps (spT ⟨K, w⟩ m n) := h.imp fun vs H Q E z => z XR
theorem law_sp {K : Fg} {m : DM} {ns : List Int} {H : Hp} {a : Addr} (h : ∃ Γ, m [.sc ns] = .ok (.va (.bl true)) Γ) (hS : SqL K H a (ns.map V.int)) : spT K m 1 [.ref a] H (fun v _ => v = .bl true) fun _ _ _ => False := by
  intro XR
  obtain ⟨Γ, e⟩ := h
  have h0 : Same H (off [] H) := fun b o e => off_some.mpr ⟨by simp, e⟩
  refine ⟨rfl, [], [.sc ns], ⟨rfl, fun i s hs => ?_, fun i j a ds t _ h1 => ?_, fun b hb => by cases hb⟩, ?_⟩
  · cases i with
    | zero => cases hs; exact ⟨_, rfl, a, rfl, h0.seq hS⟩
    | succ i => cases hs
  · cases i with
    | zero => cases h1
    | succ i => cases h1
  · rw [e]
    intro H' O' R S v hv
    exact hv
theorem law_cx {P : Program} {w : World} {H : Hp} {s : Shared} {e : Value} {s' : Shared} (h : L2.CX P w [] H s (fun _ _ _ => False) e s') : False := by
  obtain ⟨_, _, _, _, _, _, _, _, _, _, _, _, _, z⟩ := h

theorem walk_mir {l : PySem.W.OpenLaw} {n k : Nat} {q : Program} {loose : List Str} {XP : (Str → Option Value) → Heap → Prop} {YP : World → Heap → Prop} {d : DefRec} {K : Params → PySem.W.Frag} {m : DM} {x : Str}
    (hn : l.most = some n) (hn2 : n ≤ sizeLine) (hdf : d.params.defaults = []) (hr : Room k callerA)
    (hY : ∀ (w : World) (h : Heap), YP w h → (K w.params).In h)
    (F : ∀ (w : World) (mg : Str → Option Value) (fa : Addr) (h : Heap), (K w.params).In h → h.Ns mainGlobals mg → mg d.name = some (.ref fa) →
      ∃ fd : FuncData, (∀ (s : Shared) (u : Value), BindsTo s fd ⟨[u], []⟩ [(x, u)]) ∧
        ∀ base : Heap, (K w.params).In base → base.Ns mainGlobals mg → FnOk l.prog w (K w.params) mg base (L2.CX l.prog w) k fa fd [x] (spT ⟨K w.params, w⟩ m 1))
    (pure : ∀ ns : List Int, ns.length ≤ n → (∀ z ∈ ns, Builtin.Int.intBits z ≤ 1048576) → ∃ Γ, m [.sc ns] = .ok (.va (.bl true)) Γ) :
    PySem.W.WalkO q loose XP YP l.row.toRowW d [] (fun f vs => PySem.call f vs) :=
  walk_ofB (K := K) (CX := fun w => L2.CX l.prog w) (sp := fun w => spT ⟨K w.params, w⟩ m 1) hn hn2 hdf hr hY F (fun w H a ns hl hb _ hS => law_sp (pure ns hl hb) hS) fun w H s e s' h => law_cx h
end Mir

set_option Elab.async false
set_option autoImplicit false
set_option linter.all false
set_option maxRecDepth 100000
set_option maxHeartbeats 4000000
namespace Mir
open PySem PySem.Spec PyProof.Rows L2
/-! ### a sign times a number -/
section
variable {X : Cx} {XR : XRel} {W : WX} {ma mb : EM} {ms : AM}
/-! ### '..'.join(list) -/
def strs? : List D → Option (List (List Nat))
  | [] => some []
  | .str x :: ds => (strs? ds).map (x :: ·)
  | _ :: _ => none
theorem strs_at {K : Fg} {H : Hp} : ∀ {ds : List D} {vs : List V} {ns : List (List Nat)}, AtL K H ds vs → strs? ds = some ns → vs = (ns.map toS).map V.str
  | [], _, _, h, e => by cases h; cases e; rfl
  | .str i :: ds, _, _, ⟨v, r, e1, e2, e3⟩, e => by
    subst e1
    simp only [strs?] at e
    obtain ⟨ns, e4, e5⟩ := Option.map_eq_some_iff.mp e
    subst e5
    rw [strs_at e3 e4, show v = V.str (toS i) from e2]
    rfl
  | .non :: _, _, _, _, e => by cases e
  | .bl _ :: _, _, _, _, e => by cases e
  | .int _ :: _, _, _, _, e => by cases e
  | .tup _ :: _, _, _, _, e => by cases e
  | .lst _ :: _, _, _, _, e => by cases e
def joinD (S : List Nat) : List (List Nat) → List Nat
  | [] => []
  | [p] => p
  | p :: q :: r => p ++ (S ++ joinD S (q :: r))
theorem join_toS (S : List Nat) : ∀ ys : List (List Nat), Str.join (toS S) (ys.map toS) = toS (joinD S ys)
  | [] => rfl
  | [p] => rfl
  | p :: q :: r => by
    show toS p ++ toS S ++ Str.join (toS S) ((q :: r).map toS) = toS (p ++ (S ++ joinD S (q :: r)))
    rw [join_toS S (q :: r), toS_app, toS_app, List.append_assoc]
def fJoin (S : List Nat) : D → FR
  | .lst ds => match strs? ds with
    | some ys => if (ys.map (·.length)).sum + ys.length * S.length ≤ 16777216 then .va (.str (joinD S ys)) else .no
    | none => .no
  | _ => .no
def mJoin (S : List Nat) (mb : EM) : EM := fun Γ => (mb Γ).bind fun r Γ1 => match peek Γ1 r with
  | some d => (fJoin S d).res Γ1
  | none => .no
theorem me_join {S : List Nat} {x : Str} {j : Nat} {p2 apos pos : Pos} {e : Expr} (hb : ME X XR W e mb) (h : x = toS S := by decide +kernel) (hs : starEach [e] X.env = [(false, eval e X.env)] := by rfl)
    (hbase : attributeBase (.Constant (.str x) j p2) "join" X.env (eval (.Constant (.str x) j p2) X.env) = eval (.Constant (.str x) j p2) X.env := by rfl) (hline : (apos.endLine == pos.line) = true := by rfl) :
    ME X XR W (.Call (.Attribute (.Constant (.str x) j p2) "join" apos) [e] [] pos) (mJoin S mb) := (pe_join pe_str hb hs hbase hline).imp fun σ H Q ⟨O, Γ, R, P⟩ => by
  refine ⟨⟨x, rfl⟩, O, Γ, R, (P.bind R).imp fun r Γ1 H1 O1 R1 S1 P1 v hv => ?_⟩
  cases e1 : peek Γ1 r with
  | none => rw [e1] at P1; exact P1.elim
  | some d =>
    rw [e1] at P1
    have o := hv.opn R1 EStp.refl R1 e1
    have q := FPost.of R1 (none_back S1.toStp) P1
    cases d with
    | lst ds =>
      simp only [fJoin] at q
      split at q
      · rename_i ys ey
        split at q
        · rename_i hz
          obtain ⟨a, vs, rfl, h1, t⟩ := o.lst off_le
          rw [strs_at t ey] at h1
          refine ⟨x, a, ys.map toS, rfl, rfl, .inl h1, ?_, ?_⟩
          · rw [List.map_map, List.length_map, h, toS_len]
            rw [show (ys.map ((fun x => x.length) ∘ toS)) = ys.map (·.length) from List.map_congr_left fun y _ => toS_len y]
            exact hz
          · rw [TL.join_eq, h, join_toS]
            exact q.str off_le
        · exact q.elim
      · exact q.elim
    | _ => exact q.elim
/-! ### xs.insert(k, y) -/
def fInsert (es ds : List D) : Option (List D) := match ds with
  | [.int k, d] => if es.length < big ∧ 0 ≤ k ∧ k < 2 ^ 63 then some (es.take k.toNat ++ [d] ++ es.drop k.toNat) else none
  | _ => none
variable {x : Str} {p apos pos : Pos}
theorem me_insert {i : Nat} {b b2 : Expr} (hv : PE X (.Name x p) (tVar i)) (ha : MA X XR W [b, b2] ms)
    (hbase : attributeBase (.Name x p) "insert" X.env (eval (.Name x p) X.env) = eval (.Name x p) X.env := by rfl)
    (hfew : ((backTo pos (starEach [b, b2] X.env)).all (fun x => !x.1) && (backToKw pos (keywordEach [] X.env)).all (fun x => x.1.isSome)
      && decide ([b, b2].length + ([] : List Keyword).length + (if ([] : List Keyword).isEmpty then 0 else 1) < 30)) = true := by rfl)
    (hline : (apos.endLine == pos.line) = true := by rfl) (hs : starEach [b, b2] X.env = (false, eval b X.env) :: starEach [b2] X.env := by rfl) (hplain : (backTo pos (starEach [b2] X.env)).any (·.1) = false := by rfl) :
    ME X XR W (.Call (.Attribute (.Name x p) "insert" apos) [b, b2] [] pos) (mMut i fInsert ms) :=
  (pe_bm PySem.F.plainAttrs_list PySem.F.slot_list_insert PySem.F.type_list_insert mt_insert hv ha hbase hfew hline hs hplain).imp fun σ H Q ⟨O, Γ, R, P⟩ => by
    unfold mMut at P
    cases e : Γ[i]? with
    | none => rw [e] at P; exact P.elim
    | some s =>
      rw [e] at P
      cases s with
      | owc tt =>
        obtain ⟨cc, es0⟩ := tt
        cases cc with
        | lst =>
          obtain ⟨a, vs0, e1, ha0, ta0⟩ := R.own e
          refine ⟨.ref a, e1, .inl ⟨rfl, vs0, SqL.of ha0⟩, O, Γ, R, (P.bind R).imp fun rs Γ1 H1 O1 R1 S1 P1 vs hvs => ?_⟩
          cases e2 : escs Γ1 rs with
          | none => simp only [e2] at P1; exact P1.elim
          | some q =>
            obtain ⟨ds, Γ2⟩ := q
            simp only [e2] at P1
            obtain ⟨O2, R2, S2, t⟩ := RvAll.escs R1 hvs EStp.refl R1 e2
            cases e3 : Γ2[i]? with
            | none => simp only [e3] at P1; exact P1.elim
            | some s2 =>
              simp only [e3] at P1
              cases s2 with
              | owc tt =>
                obtain ⟨cc, fs⟩ := tt
                cases cc with
                | lst =>
                  obtain ⟨a', us, e4, ha', ta'⟩ := R2.own e3
                  rw [e1] at e4; cases e4
                  cases e5 : fInsert fs ds with
                  | none => simp only [e5] at P1; exact P1.elim
                  | some gs =>
                    simp only [e5] at P1
                    unfold fInsert at e5
                    split at e5
                    · rename_i k d
                      split at e5
                      · rename_i hz
                        cases e5
                        obtain ⟨v0, r0, rfl, q0, v, r, rfl, q1, q2⟩ := t
                        cases q2
                        obtain rfl : v0 = V.int k := q0
                        have t2 : AtL X.KW (off O2 H1) (fs.take k.toNat ++ [d] ++ fs.drop k.toNat) (us.take k.toNat ++ [v] ++ us.drop k.toNat) := ((ta'.take k.toNat).append (AtL.cons q1 AtL.nil)).append (ta'.drop k.toNat)
                        obtain ⟨R3, S3⟩ := R2.write e3 e1 t2
                        exact ⟨a, us, k, v, rfl, rfl, ha', by rw [← ta'.length, big_eq]; exact hz.1, hz.2.1, hz.2.2, P1 _ _ R3 (S2.trans R1 S3) .non rfl⟩
                      · cases e5
                    · cases e5
                | _ => exact P1.elim
              | _ => exact P1.elim
        | _ => exact P.elim
      | _ => exact P.elim
end
end Mir

set_option Elab.async false
set_option autoImplicit false
set_option linter.all false
set_option maxRecDepth 100000
set_option maxHeartbeats 4000000
namespace Mir
open PySem PySem.Spec PyProof.Rows L2
theorem AtL.erase {K : Fg} {H : Hp} : ∀ {ds : List D} {vs : List V} (i : Nat), AtL K H ds vs → AtL K H (ds.eraseIdx i) (vs.eraseIdx i)
  | [], _, _, h => by cases h; exact rfl
  | d :: ds, _, 0, ⟨v, r, e, _, t⟩ => by subst e; exact t
  | d :: ds, _, i + 1, ⟨v, r, e, q, t⟩ => by subst e; exact AtL.cons q (t.erase i)
section
variable {X : Cx} {XR : XRel} {W : WX} {ms : AM} {x : Str} {p apos pos : Pos}
/-- xs.pop(k), k from 0 -/
def mPopAt (i : Nat) (ms : AM) : EM := fun Γ => match Γ[i]? with
  | some (.owc ⟨.lst, _⟩) => (ms Γ).bind fun rs Γ1 => match rs, Γ1[i]? with
    | [.va (.int k)], some (.owc ⟨.lst, es⟩) => if 0 ≤ k ∧ k < 2 ^ 63 then (match es[k.toNat]? with
      | some d => .ok (.va d) (Γ1.set i (.ow (es.eraseIdx k.toNat)))
      | none => .no) else .no
    | _, _ => .no
  | _ => .no
theorem me_popAt {i : Nat} {b : Expr} (hv : PE X (.Name x p) (tVar i)) (ha : MA X XR W [b] ms)
    (hbase : attributeBase (.Name x p) "pop" X.env (eval (.Name x p) X.env) = eval (.Name x p) X.env := by rfl)
    (hfew : ((backTo pos (starEach [b] X.env)).all (fun x => !x.1) && (backToKw pos (keywordEach [] X.env)).all (fun x => x.1.isSome)
      && decide ([b].length + ([] : List Keyword).length + (if ([] : List Keyword).isEmpty then 0 else 1) < 30)) = true := by rfl)
    (hline : (apos.endLine == pos.line) = true := by rfl) (hs : starEach [b] X.env = (false, eval b X.env) :: starEach [] X.env := by rfl) (hplain : (backTo pos (starEach [] X.env)).any (·.1) = false := by rfl) :
    ME X XR W (.Call (.Attribute (.Name x p) "pop" apos) [b] [] pos) (mPopAt i ms) :=
  (pe_bm PySem.F.plainAttrs_list PySem.F.slot_list_pop PySem.F.type_list_pop mt_popAt hv ha hbase hfew hline hs hplain).imp fun σ H Q ⟨O, Γ, R, P⟩ => by
    unfold mPopAt at P
    cases e : Γ[i]? with
    | none => rw [e] at P; exact P.elim
    | some s =>
      rw [e] at P
      cases s with
      | owc tt =>
        obtain ⟨cc, es0⟩ := tt
        cases cc with
        | lst =>
          obtain ⟨a, vs0, e1, ha0, ta0⟩ := R.own e
          refine ⟨.ref a, e1, .inl ⟨rfl, vs0, SqL.of ha0⟩, O, Γ, R, (P.bind R).imp fun rs Γ1 H1 O1 R1 S1 P1 vs hvs => ?_⟩
          split at P1
          · rename_i k es e2
            obtain ⟨v, r, rfl, ⟨Γ3, H3, O3, H4, R3, hv1, S3⟩, q2⟩ := hvs
            cases q2
            obtain ⟨a', us, e4, ha', ta'⟩ := R1.own e2
            rw [e1] at e4; cases e4
            split at P1
            · rename_i hk
              cases e5 : es[k.toNat]? with
              | none => simp only [e5] at P1; exact P1.elim
              | some d =>
                simp only [e5] at P1
                obtain ⟨y, e6, q⟩ := ta'.get e5
                obtain ⟨R', S'⟩ := R1.write e2 e1 (ta'.erase k.toNat)
                obtain rfl : v = V.int k := hv1
                have hl : k.toNat < us.length := (List.getElem?_eq_some_iff.mp e6).1
                have hx : ixN us.length k = some k.toNat := by
                  unfold ixN
                  rw [if_pos hk.1, if_pos (by omega)]
                exact ⟨a, us, k, k.toNat, y, rfl, rfl, ha', by omega, hk.2, (ixN_seq hx).1, e6, P1 _ _ R' S' y (q.mono (S'.toStp.same R1))⟩
            · exact P1.elim
          · exact P1.elim
        | _ => exact P.elim
      | _ => exact P.elim
end
/-! ### sorted(list of texts) -/
def leL (a b : List Nat) : Bool := !decide (b < a)
theorem leL_trans (a b c : List Nat) (h : leL a b = true) (h2 : leL b c = true) : leL a c = true := by
  unfold leL at *
  simp only [Bool.not_eq_true', decide_eq_false_iff_not] at *
  exact List.le_trans (show a ≤ b from h) (show b ≤ c from h2)
theorem leL_total (a b : List Nat) : (leL a b || leL b a) = true := by
  unfold leL
  rcases List.le_total a b with h | h
  · have : ¬ b < a := h
    simp [this]
  · have : ¬ a < b := h
    simp [this]
theorem leL_anti (a b : List Nat) (h : leL a b = true) (h2 : leL b a = true) : a = b := by
  unfold leL at *
  simp only [Bool.not_eq_true', decide_eq_false_iff_not] at *
  exact List.le_antisymm (show a ≤ b from h) (show b ≤ a from h2)
theorem rising_leL : ∀ (r : List (List Nat)) (p : List Nat), risingS (toS p) (r.map toS) = true → (p :: r).Pairwise fun a b => leL a b = true
  | [], p, _ => List.pairwise_singleton _ _
  | x :: r, p, h => by
    have h : (!ltCps (toS x).cps.toList (toS p).cps.toList && risingS (toS x) (r.map toS)) = true := h
    rw [Bool.and_eq_true] at h
    have ih := rising_leL r x h.2
    have hx : leL p x = true := by
      unfold leL
      rw [← ltCps_eq]
      exact h.1
    refine List.pairwise_cons.mpr ⟨fun y hy => ?_, ih⟩
    rcases List.mem_cons.mp hy with rfl | hy
    · exact hx
    · exact leL_trans p x y hx ((List.pairwise_cons.mp ih).1 y hy)
theorem sorted_leL : ∀ (l : List (List Nat)), sortedS (l.map toS) = true → l.Pairwise fun a b => leL a b = true
  | [], _ => List.Pairwise.nil
  | x :: r, h => rising_leL r x h
def fSorted : List D → FR
  | [.lst ds] => match strs? ds with
    | some xs => if xs.length < 64 then .ow ((xs.mergeSort leL).map .str) else .no
    | none => .no
  | _ => .no
theorem AtL.strs {K : Fg} {H : Hp} : ∀ xs : List (List Nat), AtL K H (xs.map D.str) ((xs.map toS).map V.str)
  | [] => rfl
  | x :: xs => AtL.cons rfl (AtL.strs xs)
theorem cd_sorted {X : Cx} : CallR X (.builtin "sorted") (rCOf X.KW fSorted) := fun pins s σ H xs us Q I r ⟨Hd, ds, s1, h, q⟩ => by
  unfold fSorted at q
  split at q
  · split at q
    · rename_i ys ey
      split at q
      · rename_i hz
        obtain ⟨v, rfl, o⟩ := h.one
        obtain ⟨a, vs, rfl, e, t⟩ := o.lst s1
        rw [strs_at t ey] at e
        refine cr_sortedS pins s σ H _ us Q I r ⟨a, ys.map toS, rfl, e, by rw [List.length_map]; exact hz, fun zs p hp hs hn => ?_⟩
        have back : ∀ l : List Str, (l.map fun s => s.cps.toList).map toS = l := fun l => by
          rw [List.map_map]
          conv => rhs; rw [← List.map_id l]
          exact List.map_congr_left fun s _ => by cases s; simp [toS]
        have ezs := back zs
        have hp2 : (zs.map fun s => s.cps.toList).Perm ys := by
          have := hp.map fun s : Str => s.cps.toList
          rw [List.map_map] at this
          have e2 : ys.map ((fun s : Str => s.cps.toList) ∘ toS) = ys := by
            conv => rhs; rw [← List.map_id ys]
            exact List.map_congr_left fun y _ => by simp
          rwa [e2] at this
        have hs2 : (zs.map fun s => s.cps.toList).Pairwise fun a b => leL a b = true := sorted_leL _ (by rw [ezs]; exact hs)
        have eq : (zs.map fun s => s.cps.toList) = ys.mergeSort leL := List.Perm.eq_of_pairwise (le := fun a b => leL a b = true) (fun a b _ _ => leL_anti a b) hs2 (List.pairwise_mergeSort leL_trans leL_total ys) (hp2.trans (List.mergeSort_perm ys leL).symm)
        rw [← ezs, eq]
        exact FPost.lst q s1 hn (AtL.strs _)
      · exact q.elim
    · exact q.elim
  · exact q.elim
/-! ### names of the module that hold data -/
/-- the value u of a name of the module is the data d, whatever the heap -/
def GlD (K : Fg) (mg : Str → Option Value) (x : Str) (d : D) : Prop := ∃ (u : Value) (v : V), mg x = some u ∧ RelV v u ∧ ∀ H, At K H d v
section
variable {X : Cx} {XR : XRel} {W : WX} {x : Str} {pos : Pos} {d : D}
theorem me_glob (h : GlD X.KW X.mg x d) (hg : Gl X x) (hd : (x == ("__debug__" : Str)) = false := by decide) : ME X XR W (.Name x pos) (mC d) := by
  obtain ⟨u, v, e, r, a⟩ := h
  exact me_const (pe_glob hg e r hd) a
end
theorem glD_int {K : Fg} {mg : Str → Option Value} {x : Str} {i : Int} {t : Tok} (h : mg x = some (.int i t)) : GlD K mg x (.int i) := ⟨_, .int i, h, ⟨t, rfl⟩, fun H => rfl⟩
end Mir

set_option Elab.async false
set_option autoImplicit false
set_option linter.all false
set_option maxRecDepth 100000
set_option maxHeartbeats 4000000
namespace Mir
open PySem
/-! ### what a mirror answers: weakest preconditions over plain data -/
def Rs.wp {α : Type} (x : Rs α) (Q : α → List Sl → Prop) (E : Nat → List D → List Sl → Prop) : Prop := match x with
  | .ok a Γ => Q a Γ
  | .ex c pl Γ => E c pl Γ
  | .no => False
structure SK where
  nx : List Sl → Prop
  rt : RV → List Sl → Prop
  bk : List Sl → Prop
  ct : List Sl → Prop
  ex : Nat → List D → List Sl → Prop
def SR.wp (x : SR) (K : SK) : Prop := match x with
  | .nx Γ => K.nx Γ
  | .rt r Γ => K.rt r Γ
  | .bk Γ => K.bk Γ
  | .ct Γ => K.ct Γ
  | .ex c pl Γ => K.ex c pl Γ
  | .no => False
def opt {β : Type} (x : Option β) (Q : β → Prop) : Prop := match x with
  | some b => Q b
  | none => False
section
variable {α β : Type} {x : Rs α} {Q : α → List Sl → Prop} {Qb : β → List Sl → Prop} {Qr : RV → List Sl → Prop} {Qs : List RV → List Sl → Prop} {Qt : Bool → List Sl → Prop} {E : Nat → List D → List Sl → Prop} {K : SK} {Γ : List Sl} {ma mb mc : EM} {ms : AM} {t u : List Sl → Rs Bool} {m m2 : SM}
theorem wp_ok {a : α} : (Rs.ok a Γ).wp Q E = Q a Γ := rfl
theorem wp_ex {c : Nat} {pl : List D} : (Rs.ex c pl Γ : Rs α).wp Q E = E c pl Γ := rfl
theorem wp_no : (Rs.no : Rs α).wp Q E = False := rfl
theorem wp_bind {f : α → List Sl → Rs β} : (x.bind f).wp Qb E = x.wp (fun a Γ => (f a Γ).wp Qb E) E := by cases x <;> rfl
theorem wp_sr {f : α → List Sl → SR} : (x.sr f).wp K = x.wp (fun a Γ => (f a Γ).wp K) K.ex := by cases x <;> rfl
theorem swp_nx : (SR.nx Γ).wp K = K.nx Γ := rfl
theorem swp_rt {r : RV} : (SR.rt r Γ).wp K = K.rt r Γ := rfl
theorem swp_bk : (SR.bk Γ).wp K = K.bk Γ := rfl
theorem swp_ct : (SR.ct Γ).wp K = K.ct Γ := rfl
theorem swp_ex {c : Nat} {pl : List D} : (SR.ex c pl Γ).wp K = K.ex c pl Γ := rfl
theorem swp_no : SR.no.wp K = False := rfl
theorem seq_wp (h : ∀ R : List Sl → Prop, (∀ Γ', (m2 Γ').wp K → R Γ') → (m Γ).wp { K with nx := R }) : (sSeq m m2 Γ).wp K := by
  have h := h (fun Γ' => (m2 Γ').wp K) fun _ z => z
  unfold sSeq
  cases e : m Γ <;> rw [e] at h <;> exact h
theorem wp_if : (sIf t m m2 Γ).wp K = (t Γ).wp (fun b Γ1 => if b = true then (m Γ1).wp K else (m2 Γ1).wp K) K.ex := by
  unfold sIf
  rw [wp_sr]
  congr 1
  funext b Γ1
  cases b <;> rfl
theorem wp_nil : (sNil Γ).wp K = K.nx Γ := rfl
theorem wp_break : (sBreak Γ).wp K = K.bk Γ := rfl
theorem wp_cont : (sCont Γ).wp K = K.ct Γ := rfl
theorem wp_drop : (sDrop ma Γ).wp K = (ma Γ).wp (fun _ Γ1 => K.nx Γ1) K.ex := by unfold sDrop; rw [wp_sr]; rfl
theorem wp_ret : (sRet ma Γ).wp K = (ma Γ).wp (fun r Γ1 => K.rt r Γ1) K.ex := by unfold sRet; rw [wp_sr]; rfl
theorem wp_retN : (sRetN Γ).wp K = K.rt (.va .non) Γ := rfl
theorem wp_raise {c : Nat} : (sRaise c Γ).wp K = K.ex c [] Γ := rfl
theorem wp_set {i : Nat} : (sSet i ma Γ).wp K = (ma Γ).wp (fun r Γ1 => match stV i r Γ1 with | some Γ2 => K.nx Γ2 | none => False) K.ex := by
  unfold sSet; rw [wp_sr]; congr 1; funext r Γ1
  cases stV i r Γ1 <;> rfl
theorem wp_asg {f : GM} : (sAsg f ma Γ).wp K = (ma Γ).wp (fun r Γ1 => match r with | .va d => (match f d Γ1 with | some Γ2 => K.nx Γ2 | none => False) | _ => False) K.ex := by
  unfold sAsg; rw [wp_sr]; congr 1; funext r Γ1
  cases r with
  | va d => simp only; cases f d Γ1 <;> rfl
  | _ => rfl
theorem wp_par {i j : Nat} : (sPar i j ms Γ).wp K = (ms Γ).wp (fun rs Γ1 => match rs with | [.va d, .va e] => (match (put i (.va d) Γ1).bind fun Γ2 => put j (.va e) Γ2 with | some Γ2 => K.nx Γ2 | none => False) | _ => False) K.ex := by
  unfold sPar; rw [wp_sr]; congr 1; funext rs Γ1
  rcases rs with _ | ⟨r1, _ | ⟨r2, _ | ⟨r3, rs⟩⟩⟩
  · rfl
  · cases r1 <;> rfl
  · cases r1 with
    | va d => cases r2 with
      | va e => simp only; cases (put i (.va d) Γ1).bind fun Γ2 => put j (.va e) Γ2 <;> rfl
      | _ => rfl
    | _ => first | rfl | (cases r2 <;> rfl)
  · cases r1 <;> first | rfl | (cases r2 <;> rfl)
theorem wp_store {i : Nat} : (sStore i ma mb Γ).wp K = (ma Γ).wp (fun r Γ1 => match esc Γ1 r with
  | some (d, Γ2) => (match Γ2[i]? with
    | some (.owc ⟨.lst, _⟩) => (mb Γ2).wp (fun z Γ3 => match z, Γ3[i]? with
      | .va (.int k), some (.owc ⟨.lst, es⟩) => (match L2.ixN es.length k with
        | some j => K.nx (Γ3.set i (.ow (es.set j d)))
        | none => False)
      | _, _ => False) K.ex
    | _ => False)
  | none => False) K.ex := by
  unfold sStore; rw [wp_sr]; congr 1; funext r Γ1
  cases esc Γ1 r with
  | none => rfl
  | some p =>
    obtain ⟨d, Γ2⟩ := p
    simp only
    cases Γ2[i]? with
    | none => rfl
    | some s => cases s with
      | owc tt =>
        obtain ⟨cc, ds⟩ := tt
        cases cc with
        | lst =>
          simp only; rw [wp_sr]; congr 1; funext z Γ3
          cases z with
          | va d' => cases d' with
            | int k => cases Γ3[i]? with
              | none => rfl
              | some s => cases s with
                | owc tt =>
                  obtain ⟨cc, es⟩ := tt
                  cases cc with
                  | lst => simp only; cases L2.ixN es.length k <;> rfl
                  | _ => rfl
                | _ => rfl
            | _ => rfl
          | _ => rfl
        | _ => rfl
      | _ => rfl
/-- what comes back from a call -/
def backK (Q : RV → List Sl → Prop) (rs : List RV) (Γ : List Sl) : RV → List Sl → Prop := fun r Δ => match r with
  | .va d => Q (.va d) (wb rs Δ 0 Γ)
  | .owc ds => Q (.owc ds) (wb rs Δ 0 Γ)
  | .bo _ => False
theorem backK_owc {rs : List RV} {Δ : List Sl} {ds : Ct} : backK Qr rs Γ (.owc ds) Δ = Qr (.owc ds) (wb rs Δ 0 Γ) := rfl
theorem backK_va {rs : List RV} {Δ : List Sl} {d : D} : backK Qr rs Γ (.va d) Δ = Qr (.va d) (wb rs Δ 0 Γ) := rfl
theorem backK_ow {rs : List RV} {Δ : List Sl} {ds : List D} : backK Qr rs Γ (.ow ds) Δ = Qr (.ow ds) (wb rs Δ 0 Γ) := rfl
theorem wp_call {F : DM} : (mCall F ms Γ).wp Qr E = (ms Γ).wp (fun rs Γ1 => opt (argsSl Γ1 rs) fun Δ => if uniqBo rs = true then (F Δ).wp (backK Qr rs Γ1) (fun c pl Δ' => E c pl (wb rs Δ' 0 Γ1)) else False) E := by
  unfold mCall; rw [wp_bind]; congr 1; funext rs Γ1
  cases argsSl Γ1 rs with
  | none => rfl
  | some Δ =>
    simp only [opt]
    split
    · cases F Δ with
      | ok r Δ' => cases r <;> rfl
      | ex => rfl
      | no => rfl
    · rfl
theorem wp_mte : (mTE ma Γ).wp Qt E = (ma Γ).wp (fun r Γ1 => match r with | .va (.bl b) => Qt b Γ1 | _ => False) E := by
  unfold mTE; rw [wp_bind]; congr 1; funext r Γ1
  cases r with
  | va d => cases d <;> rfl
  | _ => rfl
theorem wp_mtru : (mTru ma Γ).wp Qt E = (ma Γ).wp (fun r Γ1 => match (peek Γ1 r).bind truD with | some k => Qt k Γ1 | none => False) E := by
  unfold mTru; rw [wp_bind]; congr 1; funext r Γ1
  cases (peek Γ1 r).bind truD <;> rfl
theorem wp_tnot : (tNotM t Γ).wp Qt E = (t Γ).wp (fun b Γ1 => Qt (!b) Γ1) E := by unfold tNotM; rw [wp_bind]; rfl
theorem wp_tand : (tAndM t u Γ).wp Qt E = (t Γ).wp (fun b Γ1 => if b = true then (u Γ1).wp Qt E else Qt false Γ1) E := by
  unfold tAndM; rw [wp_bind]; congr 1; funext b Γ1; cases b <;> rfl
theorem wp_tor : (tOrM t u Γ).wp Qt E = (t Γ).wp (fun b Γ1 => if b = true then Qt true Γ1 else (u Γ1).wp Qt E) E := by
  unfold tOrM; rw [wp_bind]; congr 1; funext b Γ1; cases b <;> rfl
theorem wp_andV : (mAndV ma mb Γ).wp Qr E = (ma Γ).wp (fun r Γ1 => match r with | .va (.bl b) => if b = true then (mb Γ1).wp Qr E else Qr (.va (.bl false)) Γ1 | _ => False) E := by
  unfold mAndV; rw [wp_bind]; congr 1; funext r Γ1
  cases r with
  | va d => cases d with
    | bl b => cases b <;> rfl
    | _ => rfl
  | _ => rfl
theorem wp_orV : (mOrV ma mb Γ).wp Qr E = (ma Γ).wp (fun r Γ1 => match r with | .va (.bl b) => if b = true then Qr (.va (.bl true)) Γ1 else (mb Γ1).wp Qr E | _ => False) E := by
  unfold mOrV; rw [wp_bind]; congr 1; funext r Γ1
  cases r with
  | va d => cases d with
    | bl b => cases b <;> rfl
    | _ => rfl
  | _ => rfl
theorem wp_notV : (mNotV ma Γ).wp Qr E = (ma Γ).wp (fun r Γ1 => match r with | .va (.bl b) => Qr (.va (.bl (!b))) Γ1 | _ => False) E := by
  unfold mNotV; rw [wp_bind]; congr 1; funext r Γ1
  cases r with
  | va d => cases d <;> rfl
  | _ => rfl
theorem wp_neg : (mNeg ma Γ).wp Qr E = (ma Γ).wp (fun r Γ1 => match r with | .va (.int i) => Qr (.va (.int (-i))) Γ1 | _ => False) E := by
  unfold mNeg; rw [wp_bind]; congr 1; funext r Γ1
  cases r with
  | va d => cases d <;> rfl
  | _ => rfl
theorem wp_mif : (mIf t ma mb Γ).wp Qr E = (t Γ).wp (fun b Γ1 => if b = true then (ma Γ1).wp Qr E else (mb Γ1).wp Qr E) E := by
  unfold mIf; rw [wp_bind]; congr 1; funext b Γ1; cases b <;> rfl
def FR.wp (x : FR) (Q : RV → Prop) : Prop := match x with
  | .va d => Q (.va d)
  | .owc ds => Q (.owc ds)
  | .no => False
theorem wp_res {x : FR} : (x.res Γ).wp Qr E = x.wp fun r => Qr r Γ := by cases x <;> rfl
theorem wp_bin {f : D → D → FR} : (mBin f ma mb Γ).wp Qr E = (ma Γ).wp (fun ra Γ1 => (mb Γ1).wp (fun rb Γ2 => opt (peek Γ2 ra) fun d => opt (peek Γ2 rb) fun e => (f d e).wp fun r => Qr r Γ2) E) E := by
  unfold mBin; rw [wp_bind]; congr 1; funext ra Γ1; rw [wp_bind]; congr 1; funext rb Γ2
  unfold op2
  cases peek Γ2 ra with
  | none => rfl
  | some d => cases peek Γ2 rb with
    | none => rfl
    | some e => exact wp_res
theorem wp_binT {f : D → D → FR} : (mBinT f ma mb Γ).wp Qr E = (ma Γ).wp (fun ra Γ1 => (mb Γ1).wp (fun rb Γ2 => opt (peekT Γ2 ra) fun d => opt (peekT Γ2 rb) fun e => (f d e).wp fun r => Qr r Γ2) E) E := by
  unfold mBinT; rw [wp_bind]; congr 1; funext ra Γ1; rw [wp_bind]; congr 1; funext rb Γ2
  unfold op2T
  cases peekT Γ2 ra with
  | none => rfl
  | some d => cases peekT Γ2 rb with
    | none => rfl
    | some e => exact wp_res
theorem wp_cons : (mCons ma ms Γ).wp Qs E = (ma Γ).wp (fun r Γ1 => (ms Γ1).wp (fun rs Γ2 => Qs (r :: rs) Γ2) E) E := by
  unfold mCons; rw [wp_bind]; congr 1; funext r Γ1; rw [wp_bind]; rfl
theorem wp_mnil : (mNil Γ).wp Qs E = Qs [] Γ := rfl
theorem wp_c {d : D} : (mC d Γ).wp Qr E = Qr (.va d) Γ := rfl
theorem wp_var {i : Nat} : (mVar i Γ).wp Qr E = opt (Γ[i]?) fun s => match s with | .no => False | .va d => Qr (.va d) Γ | _ => Qr (.bo i) Γ := by
  unfold mVar
  cases Γ[i]? with
  | none => rfl
  | some s => cases s <;> rfl
theorem wp_fn {f : List D → FR} : (mFn f ms Γ).wp Qr E = (ms Γ).wp (fun rs Γ1 => opt (peeks Γ1 rs) fun ds => (f ds).wp fun r => Qr r Γ1) E := by
  unfold mFn; rw [wp_bind]; congr 1; funext rs Γ1
  cases peeks Γ1 rs with
  | none => rfl
  | some ds => exact wp_res
theorem wp_tup : (mTup ms Γ).wp Qr E = (ms Γ).wp (fun rs Γ1 => opt (escs Γ1 rs) fun p => if p.1.length ≤ big then Qr (.va (.tup p.1)) p.2 else False) E := by
  unfold mTup; rw [wp_bind]; congr 1; funext rs Γ1
  cases escs Γ1 rs with
  | none => rfl
  | some p =>
    obtain ⟨ds, Γ2⟩ := p
    simp only [opt]
    split <;> rfl
theorem wp_lst : (mLst ms Γ).wp Qr E = (ms Γ).wp (fun rs Γ1 => opt (escs Γ1 rs) fun p => if p.1.length ≤ big then Qr (.ow p.1) p.2 else False) E := by
  unfold mLst; rw [wp_bind]; congr 1; funext rs Γ1
  cases escs Γ1 rs with
  | none => rfl
  | some p =>
    obtain ⟨ds, Γ2⟩ := p
    simp only [opt]
    split <;> rfl
theorem wp_aug {i : Nat} : (sAug i fAddI ma Γ).wp K = opt (Γ[i]?) fun s => match s with
    | .va d => (ma Γ).wp (fun r Γ1 => match r with
      | .va d2 => (fAddI d d2).wp fun r3 => match r3 with
        | .va d3 => opt (put i (.va d3) Γ1) K.nx
        | _ => False
      | _ => False) K.ex
    | _ => False := by
  unfold sAug
  cases Γ[i]? with
  | none => rfl
  | some s => cases s with
    | va d =>
      simp only [opt]; rw [wp_sr]; congr 1; funext r Γ1
      cases r with
      | va d2 =>
        simp only
        cases fAddI d d2 with
        | va d3 => simp only [FR.wp]; cases put i (.va d3) Γ1 <;> rfl
        | _ => rfl
      | _ => rfl
    | _ => rfl
theorem wp_sl {ml mh : List Sl → Rs (Option Int)} : (mSl ma ml mh Γ).wp Qr E = (ma Γ).wp (fun r Γ1 => (ml Γ1).wp (fun l Γ2 => (mh Γ2).wp (fun h Γ3 => opt (peek Γ3 r) fun d => (fSl d l h).wp fun r => Qr r Γ3) E) E) E := by
  unfold mSl; rw [wp_bind]; congr 1; funext r Γ1; rw [wp_bind]; congr 1; funext l Γ2; rw [wp_bind]; congr 1; funext h Γ3
  cases peek Γ3 r with
  | none => rfl
  | some d => exact wp_res
theorem wp_onone {Qo : Option Int → List Sl → Prop} : (oNone Γ).wp Qo E = Qo none Γ := rfl
theorem wp_osome {Qo : Option Int → List Sl → Prop} : (oSome ma Γ).wp Qo E = (ma Γ).wp (fun r Γ1 => match r with | .va (.int i) => Qo (some i) Γ1 | _ => False) E := by
  unfold oSome; rw [wp_bind]; congr 1; funext r Γ1
  cases r with
  | va d => cases d <;> rfl
  | _ => rfl
theorem wp_isi {T : String} : (mIsi T ma Γ).wp Qr E = (ma Γ).wp (fun r Γ1 => opt (peek Γ1 r) fun d => if isPl d = true then Qr (.va (.bl (isiD d T))) Γ1 else False) E := by
  unfold mIsi; rw [wp_bind]; congr 1; funext r Γ1
  cases peek Γ1 r with
  | none => rfl
  | some d => simp only [opt]; split <;> rfl
theorem wp_isi2 {T T' : String} : (mIsi2 T T' ma Γ).wp Qr E = (ma Γ).wp (fun r Γ1 => opt (peek Γ1 r) fun d => if isPl d = true then Qr (.va (.bl (isiD d T || isiD d T'))) Γ1 else False) E := by
  unfold mIsi2; rw [wp_bind]; congr 1; funext r Γ1
  cases peek Γ1 r with
  | none => rfl
  | some d => simp only [opt]; split <;> rfl
theorem wp_chain {f g : D → D → FR} : (mChain f g ma mb mc Γ).wp Qr E = (ma Γ).wp (fun ra Γ1 => (mb Γ1).wp (fun rb Γ2 => opt (peek Γ2 ra) fun d => opt (peek Γ2 rb) fun e => (f d e).wp fun z => match z with
    | .va (.bl true) => (mc Γ2).wp (fun rc Γ4 => opt (peek Γ4 rb) fun d => opt (peek Γ4 rc) fun e => (g d e).wp fun r => Qr r Γ4) E
    | .va (.bl false) => Qr (.va (.bl false)) Γ2
    | _ => False) E) E := by
  unfold mChain; rw [wp_bind]; congr 1; funext ra Γ1; rw [wp_bind]; congr 1; funext rb Γ2; rw [wp_bind]
  unfold op2
  cases peek Γ2 ra with
  | none => rfl
  | some d => cases peek Γ2 rb with
    | none => rfl
    | some e =>
      simp only [opt, wp_res]
      congr 1; funext z
      cases z with
      | va d => cases d with
        | bl b => cases b with
          | true =>
            simp only; rw [wp_bind]; congr 1; funext rc Γ4
            cases peek Γ4 rb with
            | none => rfl
            | some d => cases peek Γ4 rc with
              | none => rfl
              | some e => exact wp_res
          | false => rfl
        | _ => rfl
      | _ => rfl
/-! ### walks -/
abbrev IQ := List D × Option Nat → List Sl → Prop
theorem wp_seqI {Qi : IQ} : (mSeq ma Γ).wp Qi E = (ma Γ).wp (fun r Γ1 => match r with
  | .va d => opt (itemsD d) fun ds => Qi (ds, none) Γ1
  | .owc ⟨.lst, ds⟩ => Qi (ds, none) Γ1
  | .bo i => opt (Γ1[i]?) fun s => match s with
    | .owc ⟨.lst, ds⟩ => Qi (ds, some i) Γ1
    | .bwc ⟨.lst, ds⟩ => Qi (ds, none) Γ1
    | .sc ns => Qi (ns.map .int, none) Γ1
    | _ => False
  | _ => False) E := by
  unfold mSeq; rw [wp_bind]; congr 1; funext r Γ1
  cases r with
  | va d => simp only; cases itemsD d <;> rfl
  | owc tt =>
    obtain ⟨cc, ds⟩ := tt
    cases cc <;> rfl
  | bo i =>
    simp only
    cases Γ1[i]? with
    | none => rfl
    | some s => cases s with
      | owc tt =>
        obtain ⟨cc, ds⟩ := tt
        cases cc <;> rfl
      | bwc tt =>
        obtain ⟨cc, ds⟩ := tt
        cases cc <;> rfl
      | _ => rfl
theorem wp_rng1 {Qi : IQ} : (mRng1 ma Γ).wp Qi E = (ma Γ).wp (fun r Γ1 => match r with
  | .va (.int n) => (n < 4611686018427387904 ∧ -4611686018427387904 ≤ n) ∧ Qi (rngD 0 n.toNat, none) Γ1
  | _ => False) E := by
  unfold mRng1; rw [wp_bind]; congr 1; funext r Γ1
  cases r with
  | va d => cases d with
    | int n =>
      simp only
      split
      · rename_i h; exact propext ⟨fun q => ⟨h, q⟩, fun q => q.2⟩
      · rename_i h; exact propext ⟨fun q => q.elim, fun q => h q.1⟩
    | _ => rfl
  | _ => rfl
theorem wp_for {mi : IM} {f : GM} : (sFor mi f m Γ).wp K = (mi Γ).wp (fun p Γ1 => (loopS f m p.1 (bor p.2 p.1 Γ1)).wp { nx := fun Γ => K.nx (unb p.2 p.1 Γ), rt := fun r Γ => K.rt r (unb p.2 p.1 Γ), bk := fun Γ => K.bk (unb p.2 p.1 Γ), ct := fun Γ => K.ct (unb p.2 p.1 Γ), ex := fun c pl Γ => K.ex c pl (unb p.2 p.1 Γ) }) K.ex := by
  unfold sFor; rw [wp_sr]; congr 1; funext p Γ1
  cases loopS f m p.1 (bor p.2 p.1 Γ1) <;> rfl
/-- a loop, by an invariant over the items still to come -/
theorem loop_wp {f : GM} (I : List D → List Sl → Prop) {ds : List D} (h0 : I ds Γ)
    (step : ∀ d r Γ, I (d :: r) Γ → opt (f d Γ) fun Γ1 => (m Γ1).wp { nx := I r, rt := K.rt, bk := K.nx, ct := I r, ex := K.ex }) (done : ∀ Γ, I [] Γ → K.nx Γ) : (loopS f m ds Γ).wp K := by
  induction ds generalizing Γ with
  | nil => exact done Γ h0
  | cons d r ih =>
    have h := step d r Γ h0
    unfold loopS
    cases e : f d Γ with
    | none => rw [e] at h; exact h.elim
    | some Γ1 =>
      rw [e] at h
      simp only
      simp only [opt] at h
      cases e2 : m Γ1 with
      | nx Γ2 => rw [e2] at h; exact ih h
      | ct Γ2 => rw [e2] at h; exact ih h
      | _ => rw [e2] at h; exact h
theorem wp_lc {own : List Nat} {mi : IM} {f : GM} : (mLc own mi f t ma Γ).wp Qr E = (mi Γ).wp (fun p Γ1 => if own.all (notHd Γ1) = true then (loopC own f t ma p.1 [] (wipeG (bor p.2 p.1 Γ1) own)).wp (fun acc Γ2 => Qr (.ow acc) (backG Γ1 (unb p.2 p.1 Γ2) own)) (fun _ _ _ => False) else False) E := by
  unfold mLc; rw [wp_bind]; congr 1; funext p Γ1
  split
  · cases loopC own f t ma p.1 [] (wipeG (bor p.2 p.1 Γ1) own) <;> rfl
  · rfl
/-- a comprehension, by an invariant over the items still to come and those made -/
theorem lc_wp {own : List Nat} {f : GM} {Qa : List D → List Sl → Prop} (I : List D → List D → List Sl → Prop) {ds acc : List D} (h0 : I ds acc Γ)
    (step : ∀ d r acc Γ, I (d :: r) acc Γ → opt (f d Γ) fun Γ1 => (t Γ1).wp (fun b Γ2 => if b = true then (ma Γ2).wp (fun v Γ3 => opt (esc Γ3 v) fun p => acc.length < big ∧ I r (acc ++ [p.1]) (wipeG p.2 own)) (fun _ _ _ => False) else I r acc (wipeG Γ2 own)) (fun _ _ _ => False))
    (done : ∀ acc Γ, I [] acc Γ → Qa acc Γ) : (loopC own f t ma ds acc Γ).wp Qa (fun _ _ _ => False) := by
  induction ds generalizing acc Γ with
  | nil => exact done acc Γ h0
  | cons d r ih =>
    have h := step d r acc Γ h0
    unfold loopC
    cases e : f d Γ with
    | none => rw [e] at h; exact h.elim
    | some Γ1 =>
      rw [e] at h
      simp only
      simp only [opt] at h
      cases e2 : t Γ1 with
      | ok b Γ2 =>
        rw [e2] at h
        simp only [Rs.wp] at h
        cases b with
        | true =>
          simp only [if_true] at h
          simp only
          cases e3 : ma Γ2 with
          | ok v Γ3 =>
            rw [e3] at h
            simp only at h
            cases e4 : esc Γ3 v with
            | none => rw [e4] at h; exact h.elim
            | some p =>
              obtain ⟨d', Γ4⟩ := p
              rw [e4] at h
              simp only at h ⊢
              simp only [e4, h.1, if_true]
              exact ih h.2
          | ex => rw [e3] at h; exact h.elim
          | no => rw [e3] at h; exact h.elim
        | false =>
          simp only [Bool.false_eq_true, if_false] at h
          exact ih h
      | ex => rw [e2] at h; exact h.elim
      | no => rw [e2] at h; exact h.elim
theorem wp_tyes : (tYesM Γ).wp Qt E = Qt true Γ := rfl
/-! ### a def -/
def endK (P : List Nat) (Δ : List Sl) (Q : RV → List Sl → Prop) (E : Nat → List D → List Sl → Prop) : SK where
  nx := fun Γ => Q (.va .non) (finD Δ Γ)
  rt := fun r Γ => match r with
    | .va d => Q (.va d) (finD Δ Γ)
    | .owc ds => Q (.owc ds) (finD Δ Γ)
    | .bo i => opt (Γ[i]?) fun s => match s with
      | .owc ds => if P.contains i = true then False else Q (.owc ds) (finD Δ Γ)
      | .va d => Q (.va d) (finD Δ Γ)
      | _ => False
  bk := fun _ => False
  ct := fun _ => False
  ex := fun c pl Γ => E c pl (finD Δ Γ)
theorem def_wp {nN np : Nat} {P : List Nat} {Δ : List Sl} (h1 : (pOk P 0 Δ && decide (Δ.length = np)) = true) (h : (m (pad nN Δ)).wp (endK P Δ Qr E)) : (mDef nN np P m Δ).wp Qr E := by
  unfold mDef
  rw [if_pos h1]
  cases e : m (pad nN Δ) with
  | rt r Γ =>
    rw [e] at h
    cases r with
    | bo i =>
      simp only [SR.wp, endK, opt] at h
      simp only [endD]
      cases e2 : Γ[i]? with
      | none => rw [e2] at h; exact h.elim
      | some s =>
        rw [e2] at h
        cases s with
        | owc ds =>
          simp only at h ⊢
          split at h
          · exact h.elim
          · rename_i z; simp only [z, if_false]; exact h
        | va d => exact h
        | _ => exact h.elim
    | _ => exact h
  | _ => rw [e] at h; exact h
theorem wp_bits : (mBits ma Γ).wp Qr E = (ma Γ).wp (fun r Γ1 => match r with | .va (.int i) => Qr (.va (.int (Builtin.Int.intBits i : Nat))) Γ1 | _ => False) E := by
  unfold mBits; rw [wp_bind]; congr 1; funext r Γ1
  cases r with
  | va d => cases d <;> rfl
  | _ => rfl
theorem wp_pop {i : Nat} : (mPop i Γ).wp Qr E = opt (Γ[i]?) fun s => match s with | .owc ⟨.lst, ds⟩ => opt ds.getLast? fun d => Qr (.va d) (Γ.set i (.ow ds.dropLast)) | _ => False := by
  unfold mPop
  cases Γ[i]? with
  | none => rfl
  | some s => cases s with
    | owc tt =>
      obtain ⟨cc, ds⟩ := tt
      cases cc with
      | lst => simp only [opt]; cases ds.getLast? <;> rfl
      | _ => rfl
    | _ => rfl
theorem wp_mut {i : Nat} {f : List D → List D → Option (List D)} : (mMut i f ms Γ).wp Qr E = opt (Γ[i]?) fun s => match s with
    | .owc ⟨.lst, _⟩ => (ms Γ).wp (fun rs Γ1 => opt (escs Γ1 rs) fun p => opt (p.2[i]?) fun s => match s with
      | .owc ⟨.lst, es⟩ => opt (f es p.1) fun fs => Qr (.va .non) (p.2.set i (.ow fs))
      | _ => False) E
    | _ => False := by
  unfold mMut
  cases Γ[i]? with
  | none => rfl
  | some s => cases s with
    | owc tt =>
      obtain ⟨cc, ds⟩ := tt
      cases cc with
      | lst =>
        simp only [opt]; rw [wp_bind]; congr 1; funext rs Γ1
        cases escs Γ1 rs with
        | none => rfl
        | some p =>
          obtain ⟨ds, Γ2⟩ := p
          simp only
          cases e : Γ2[i]? with
          | none => rfl
          | some s => cases s with
            | owc tt =>
              obtain ⟨cc, es⟩ := tt
              cases cc with
              | lst => simp only; cases f es ds <;> rfl
              | _ => rfl
            | _ => rfl
      | _ => rfl
    | _ => rfl
end
end Mir

set_option Elab.async false
set_option autoImplicit false
set_option linter.all false
set_option maxRecDepth 100000
set_option maxHeartbeats 4000000
namespace Mir
open PySem
section
variable {Q : RV → Prop} {i j : Int} {a b : Bool} {x y : List Nat} {ds es : List D} {d e : D} {Γ : List Sl}
theorem opt_some {β : Type} {b : β} {Q : β → Prop} : opt (some b) Q = Q b := rfl
theorem opt_none {β : Type} {Q : β → Prop} : opt none Q = False := rfl
theorem add_int : (fAdd (.int i) (.int j)).wp Q = Q (.va (.int (i + j))) := rfl
theorem add_str : (fAdd (.str x) (.str y)).wp Q = if x.length + y.length ≤ big then Q (.va (.str (x ++ y))) else False := by simp only [fAdd]; split <;> rfl
theorem add_lst : (fAdd (.lst ds) (.lst es)).wp Q = if ds.length + es.length ≤ big then Q (.ow (ds ++ es)) else False := by simp only [fAdd]; split <;> rfl
theorem addI_int : (fAddI (.int i) (.int j)).wp Q = Q (.va (.int (i + j))) := rfl
theorem sub_int : (fSub (.int i) (.int j)).wp Q = Q (.va (.int (i - j))) := rfl
theorem mul_int : (fMul (.int i) (.int j)).wp Q = (Builtin.Int.intBits i + Builtin.Int.intBits j ≤ 134217728 ∧ Q (.va (.int (i * j)))) := by
  simp only [fMul]; split <;> rename_i h <;> simp [FR.wp, h]
theorem div_int : (fDiv (.int i) (.int j)).wp Q = ((0 < j ∧ Builtin.divisionGoesByPylong i j = false) ∧ Q (.va (.int (i / j)))) := by
  simp only [fDiv]; split <;> rename_i h
  · simp only [FR.wp]; exact propext ⟨fun q => ⟨h, q⟩, fun q => q.2⟩
  · simp only [FR.wp]; exact propext ⟨fun q => q.elim, fun q => h q.1⟩
theorem mod_int : (fMod (.int i) (.int j)).wp Q = (0 < j ∧ Q (.va (.int (i % j)))) := by
  simp only [fMod]; split <;> rename_i h <;> simp [FR.wp, h]
theorem pow_int : (fPow (.int i) (.int j)).wp Q = ((0 ≤ j ∧ j ≤ 1000000 ∧ i.natAbs < 2 ^ 64) ∧ Q (.va (.int (i ^ j.toNat)))) := by
  simp only [fPow]; split <;> rename_i h
  · simp only [FR.wp]; exact propext ⟨fun q => ⟨h, q⟩, fun q => q.2⟩
  · simp only [FR.wp]; exact propext ⟨fun q => q.elim, fun q => h q.1⟩
theorem eq_int : (fEq (.int i) (.int j)).wp Q = Q (.va (.bl (decide (i = j)))) := by
  show Q (.va (.bl (i == j))) = _
  rw [Bool.beq_eq_decide_eq]
theorem ne_int : (fNe (.int i) (.int j)).wp Q = Q (.va (.bl (decide (i ≠ j)))) := by
  show Q (.va (.bl (!(i == j)))) = _
  rw [Bool.beq_eq_decide_eq, decide_not]
theorem eq_bl : (fEq (.bl a) (.bl b)).wp Q = Q (.va (.bl (a == b))) := rfl
theorem ne_bl : (fNe (.bl a) (.bl b)).wp Q = Q (.va (.bl (!(a == b)))) := rfl
theorem eq_str : (fEq (.str x) (.str y)).wp Q = Q (.va (.bl (x == y))) := rfl
theorem ne_str : (fNe (.str x) (.str y)).wp Q = Q (.va (.bl (!(x == y)))) := rfl
theorem eq_gd (h : gd 60 d = true) (h2 : gd 60 e = true) : (fEq d e).wp Q = Q (.va (.bl (eqD d e))) := by unfold fEq okE; rw [h, h2]; simp [FR.wp]
theorem isi_non_int : isiD (.non) "int" = false := rfl
theorem isi_non_str : isiD (.non) "str" = false := rfl
theorem isi_non_bool : isiD (.non) "bool" = false := rfl
theorem isi_non_tuple : isiD (.non) "tuple" = false := rfl
theorem isi_non_list : isiD (.non) "list" = false := rfl
theorem isi_bl_int : isiD (.bl a) "int" = true := rfl
theorem isi_bl_str : isiD (.bl a) "str" = false := rfl
theorem isi_bl_bool : isiD (.bl a) "bool" = true := rfl
theorem isi_bl_tuple : isiD (.bl a) "tuple" = false := rfl
theorem isi_bl_list : isiD (.bl a) "list" = false := rfl
theorem isi_int_int : isiD (.int i) "int" = true := rfl
theorem isi_int_str : isiD (.int i) "str" = false := rfl
theorem isi_int_bool : isiD (.int i) "bool" = false := rfl
theorem isi_int_tuple : isiD (.int i) "tuple" = false := rfl
theorem isi_int_list : isiD (.int i) "list" = false := rfl
theorem isi_str_int : isiD (.str x) "int" = false := rfl
theorem isi_str_str : isiD (.str x) "str" = true := rfl
theorem isi_str_bool : isiD (.str x) "bool" = false := rfl
theorem isi_str_tuple : isiD (.str x) "tuple" = false := rfl
theorem isi_str_list : isiD (.str x) "list" = false := rfl
theorem isi_tup_int : isiD (.tup ds) "int" = false := rfl
theorem isi_tup_str : isiD (.tup ds) "str" = false := rfl
theorem isi_tup_bool : isiD (.tup ds) "bool" = false := rfl
theorem isi_tup_tuple : isiD (.tup ds) "tuple" = true := rfl
theorem isi_tup_list : isiD (.tup ds) "list" = false := rfl
theorem isi_lst_int : isiD (.lst ds) "int" = false := rfl
theorem isi_lst_str : isiD (.lst ds) "str" = false := rfl
theorem isi_lst_bool : isiD (.lst ds) "bool" = false := rfl
theorem isi_lst_tuple : isiD (.lst ds) "tuple" = false := rfl
theorem isi_lst_list : isiD (.lst ds) "list" = true := rfl
theorem isN_non : isN .non = true := rfl
theorem isN_bl : isN (.bl a) = false := rfl
theorem isN_int : isN (.int i) = false := rfl
theorem isN_str : isN (.str x) = false := rfl
theorem isN_tup : isN (.tup ds) = false := rfl
theorem isN_lst : isN (.lst ds) = false := rfl
theorem eq_non : (fEq .non .non).wp Q = Q (.va (.bl true)) := rfl
theorem lt_int : (fLt (.int i) (.int j)).wp Q = Q (.va (.bl (decide (i < j)))) := rfl
theorem le_int : (fLe (.int i) (.int j)).wp Q = Q (.va (.bl (decide (i ≤ j)))) := rfl
theorem gt_int : (fGt (.int i) (.int j)).wp Q = Q (.va (.bl (decide (j < i)))) := rfl
theorem ge_int : (fGe (.int i) (.int j)).wp Q = Q (.va (.bl (decide (j ≤ i)))) := rfl
theorem is_non : (fIs d .non).wp Q = Q (.va (.bl (isN d))) := by cases d <;> rfl
theorem isnot_non : (fIsNot d .non).wp Q = Q (.va (.bl (!isN d))) := by cases d <;> rfl
theorem notin_lst (h : gd 60 d = true) (h2 : gds 60 ds = true) : (fNotIn d (.lst ds)).wp Q = Q (.va (.bl (!ds.any fun z => eqD z d))) := by
  cases d <;> (unfold fNotIn; simp [h, h2, FR.wp])
theorem ix_lst : (fIx (.lst ds) (.int i)).wp Q = opt (L2.atI ds i) fun d => Q (.va d) := by
  show (match L2.atI ds i with | some d => FR.va d | none => FR.no).wp Q = _
  cases L2.atI ds i <;> rfl
theorem ix_tup : (fIx (.tup ds) (.int i)).wp Q = opt (L2.atI ds i) fun d => Q (.va d) := by
  show (match L2.atI ds i with | some d => FR.va d | none => FR.no).wp Q = _
  cases L2.atI ds i <;> rfl
theorem len_lst : (fLen [.lst ds]).wp Q = Q (.va (.int ds.length)) := rfl
theorem len_tup : (fLen [.tup ds]).wp Q = Q (.va (.int ds.length)) := rfl
theorem len_str : (fLen [.str x]).wp Q = if x.length ≤ big then Q (.va (.int x.length)) else False := by simp only [fLen]; split <;> rfl
theorem int_int : (fInt [.int i]).wp Q = Q (.va (.int i)) := rfl
theorem abs_int : (fAbs [.int i]).wp Q = Q (.va (.int (if i < 0 then -i else i))) := rfl
theorem list_lst : (fList [.lst ds]).wp Q = Q (.ow ds) := rfl
theorem list_tup : (fList [.tup ds]).wp Q = Q (.ow ds) := rfl
theorem tuple_lst : (fTuple [.lst ds]).wp Q = Q (.va (.tup ds)) := rfl
theorem tuple_tup : (fTuple [.tup ds]).wp Q = Q (.va (.tup ds)) := rfl
theorem gcd_int : (fGcd [.int i, .int j]).wp Q = Q (.va (.int ((Nat.gcd i.natAbs j.natAbs : Nat) : Int))) := rfl
/-- a slot behind a call: as it was, unless its list was handed on -/
def wb2 (Δ : List Sl) (j : Nat) : Sl → Sl
  | .owc ds => match Δ[j]? with
    | some s => s
    | none => .owc ds
  | s => s
theorem wb1_eq {rs : List RV} {Δ : List Sl} {i : Nat} {s : Sl} : wb1 rs Δ i s = match posBo i rs with
    | none => s
    | some j => wb2 Δ j s := by
  cases s with
  | owc ds =>
    unfold wb1
    cases posBo i rs <;> rfl
  | _ => cases h : posBo i rs <;> simp only [wb1, wb2]
/-- a slot that may be stored -/
def nb : Sl → Bool
  | .bwc _ => false
  | _ => true
theorem nb_no : nb .no = true := rfl
theorem nb_va : nb (.va d) = true := rfl
theorem nb_ow : nb (.ow ds) = true := rfl
theorem nb_sc {ns : List Int} : nb (.sc ns) = true := rfl
theorem stOk_eq {k : Nat} : stOk Γ k = match Γ[k]? with
    | some s => nb s
    | none => false := by
  unfold stOk
  cases Γ[k]? with
  | none => rfl
  | some s => cases s <;> rfl
theorem nb_owc {t : Ct} : nb (.owc t) = true := rfl
theorem isPl_non : isPl .non = true := rfl
theorem isPl_bl {b : Bool} : isPl (.bl b) = true := rfl
theorem isPl_int {i : Int} : isPl (.int i) = true := rfl
theorem isPl_str {x : List Nat} : isPl (.str x) = true := rfl
theorem isPl_tup {ds : List D} : isPl (.tup ds) = true := rfl
theorem isPl_lst {ds : List D} : isPl (.lst ds) = true := rfl
theorem append_one : opt (fAppend es [d]) = fun Q => es.length < big ∧ Q (es ++ [d]) := by
  funext Q
  unfold fAppend
  simp only
  by_cases h : es.length < big
  · simp [h, opt]
  · simp [h, opt]
theorem reverse_nil : fReverse es [] = some es.reverse := rfl
end
/-! ### sizes -/
open PySem.Builtin.Int in
theorem bits_lt {z : Int} {m : Nat} (h : -(2 : Int) ^ m < z) (h2 : z < (2 : Int) ^ m) : intBits z ≤ m := by
  refine intBits_le_iff.mpr ?_
  have e : ((2 ^ m : Nat) : Int) = (2 : Int) ^ m := by push_cast; rfl
  rw [← e] at h h2
  omega
open PySem.Builtin.Int in
theorem nopy {x y : Int} (h : intBits y ≤ 9000) : Builtin.divisionGoesByPylong x y = false := by
  refine PyProof.noPylong_of_log2 ?_
  have h2 := intBits_le_iff.mp h
  by_cases z : y.natAbs = 0
  · rw [z]; decide
  · exact (Nat.log2_lt z).mpr h2
/-! ### lists by places -/
theorem atI_0 {α : Type} {x : α} {l : List α} : L2.atI (x :: l) 0 = some x := L2.atI_nat (j := 0) rfl
theorem atI_1 {α : Type} {x y : α} {l : List α} : L2.atI (x :: y :: l) 1 = some y := L2.atI_nat (j := 1) rfl
theorem atI_2 {α : Type} {x y z : α} {l : List α} : L2.atI (x :: y :: z :: l) 2 = some z := L2.atI_nat (j := 2) rfl
theorem atI_of {α : Type} {l : List α} {i : Int} (h0 : 0 ≤ i) (h1 : i < l.length) : ∃ a, L2.atI l i = some a ∧ a ∈ l := by
  obtain ⟨n, rfl⟩ := Int.eq_ofNat_of_zero_le h0
  have hn : n < l.length := by omega
  exact ⟨l[n], L2.atI_nat (List.getElem?_eq_getElem hn), List.getElem_mem hn⟩
theorem ixN_of {n : Nat} {i : Int} (h0 : 0 ≤ i) (h1 : i < n) : L2.ixN n i = some i.toNat := by
  unfold L2.ixN
  rw [if_pos h0, if_pos h1]
end Mir

set_option Elab.async false
set_option autoImplicit false
set_option linter.all false
set_option maxRecDepth 100000
set_option maxHeartbeats 4000000
/-! The order of nested data where only the first difference must be comparable. -/
namespace Mir.So
open PySem PySem.W PySem.Calls PyProof.Rows PySem.SeqAt
abbrev Tk := List (Int ⊕ List Nat)
abbrev ltT (a b : Tk) : Bool := PyProof.Rows.lexLt itemOrd a b
mutual
/-- x < y is told by Python -/
def cok : PyData → PyData → Bool
  | .int _, y => (match y with | .int _ => true | _ => false)
  | .str _, y => (match y with | .str _ => true | _ => false)
  | .tuple xs, y => (match y with | .tuple ys => cokT xs ys | _ => false)
  | .list xs, y => (match y with | .list ys => cokL xs ys | _ => false)
  | _, _ => false
/-- the first place that differs -/
def cokT : List PyData → List PyData → Bool
  | x :: xs, y :: ys => if PyData.eqv x y then cokT xs ys else cok x y
  | _, _ => true
/-- each place that differs -/
def cokL : List PyData → List PyData → Bool
  | x :: xs, y :: ys => (PyData.eqv x y || cok x y) && cokL xs ys
  | _, _ => true
end
theorem cokL_T : ∀ xs ys : List PyData, cokL xs ys = true → cokT xs ys = true
  | [], _, _ => by simp [cokT]
  | _ :: _, [], _ => by simp [cokT]
  | x :: xs, y :: ys, h => by
    simp only [cokL, Bool.and_eq_true, Bool.or_eq_true] at h
    simp only [cokT]
    split
    · exact cokL_T xs ys h.2
    · rename_i n; exact h.1.resolve_left n
/-! ### signs -/
mutual
theorem eqv_toks : ∀ x y : PyData, PyData.eqv x y = true → keyToks x = keyToks y
  | .none, y, h => by cases y <;> simp_all [PyData.eqv, keyToks]
  | .bool a, y, h => by cases y <;> simp_all [PyData.eqv, keyToks]
  | .int a, y, h => by cases y <;> simp_all [PyData.eqv, keyToks]
  | .str a, y, h => by cases y <;> simp_all [PyData.eqv, keyToks]
  | .list xs, y, h => by
    cases y with
    | list ys => simp only [keyToks]; exact eqv_toksAll xs ys (by simpa [PyData.eqv] using h)
    | _ => simp [PyData.eqv] at h
  | .tuple xs, y, h => by
    cases y with
    | tuple ys => simp only [keyToks]; exact eqv_toksAll xs ys (by simpa [PyData.eqv] using h)
    | _ => simp [PyData.eqv] at h
  | .dict _, y, h => by cases y <;> simp_all [PyData.eqv, keyToks]
theorem eqv_toksAll : ∀ xs ys : List PyData, PyData.eqvAll xs ys = true → keyToksAll xs = keyToksAll ys
  | [], [], _ => rfl
  | [], _ :: _, h => by simp [PyData.eqvAll] at h
  | _ :: _, [], h => by simp [PyData.eqvAll] at h
  | x :: xs, y :: ys, h => by
    simp only [PyData.eqvAll, Bool.and_eq_true] at h
    rw [toks_all_cons, toks_all_cons, eqv_toks x y h.1, eqv_toksAll xs ys h.2]
end
theorem lt_same (p : Int ⊕ List Nat) (a b : Tk) : ltT (p :: a) (p :: b) = ltT a b := lex_self (O := itemOrd) p a b
mutual
theorem cok_toks : ∀ x y : PyData, cok x y = true → PyData.eqv x y = false → ∀ l m, ltT (keyToks x ++ l) (keyToks y ++ m) = ltT (keyToks x) (keyToks y)
  | .int a, y, h, e, l, m => by
    cases y with
    | int b =>
      have hne : (Sum.inl a : Int ⊕ List Nat) ≠ Sum.inl b := fun q => by cases q; simp [PyData.eqv] at e
      simp only [keyToks, List.cons_append, List.nil_append]
      exact lex_atom hne l m
    | _ => simp [cok] at h
  | .str a, y, h, e, l, m => by
    cases y with
    | str b =>
      have hne : (Sum.inr a.cps.toList : Int ⊕ List Nat) ≠ Sum.inr b.cps.toList := fun q => by
        have q2 := str_of_cps (Sum.inr.inj q); subst q2; simp [PyData.eqv] at e
      simp only [keyToks, List.cons_append, List.nil_append]
      exact lex_atom hne l m
    | _ => simp [cok] at h
  | .list xs, y, h, e, l, m => by
    cases y with
    | list ys => simp only [keyToks]; exact cokT_toks xs ys (cokL_T xs ys (by simpa [cok] using h)) (by simpa [PyData.eqv] using e) l m
    | _ => simp [cok] at h
  | .tuple xs, y, h, e, l, m => by
    cases y with
    | tuple ys => simp only [keyToks]; exact cokT_toks xs ys (by simpa [cok] using h) (by simpa [PyData.eqv] using e) l m
    | _ => simp [cok] at h
  | .none, y, h, _, _, _ => by simp [cok] at h
  | .bool _, y, h, _, _, _ => by simp [cok] at h
  | .dict _, y, h, _, _, _ => by simp [cok] at h
theorem cokT_toks : ∀ xs ys : List PyData, cokT xs ys = true → PyData.eqvAll xs ys = false → ∀ l m, ltT (keyToksAll xs ++ l) (keyToksAll ys ++ m) = ltT (keyToksAll xs) (keyToksAll ys)
  | [], [], _, e, _, _ => by simp [PyData.eqvAll] at e
  | [], _ :: _, _, _, l, m => by
    simp only [keyToksAll, List.cons_append, List.nil_append]
    exact (lex_atom (by simp) _ _).trans (lex_atom (by simp) _ _).symm
  | _ :: _, [], _, _, l, m => by
    simp only [keyToksAll, List.cons_append, List.nil_append]
    exact (lex_atom (by simp) _ _).trans (lex_atom (by simp) _ _).symm
  | x :: xs, y :: ys, h, e, l, m => by
    rw [eqv_all_cons] at e
    simp only [cokT] at h
    rw [toks_all_cons, toks_all_cons]
    simp only [List.cons_append, List.append_assoc]
    rw [lt_same, lt_same]
    cases q : PyData.eqv x y with
    | true =>
      rw [q] at h e
      rw [eqv_toks x y q]
      exact (lex_pre _ _ _).trans ((cokT_toks xs ys h e l m).trans (lex_pre _ _ _).symm)
    | false =>
      rw [q] at h
      have z := cok_toks x y h q
      exact (z _ _).trans (z _ _).symm
end
/-- the first place that decides -/
theorem toksAll_cons {x y : PyData} {xs ys : List PyData} (h : cokT (x :: xs) (y :: ys) = true) : ltT (keyToksAll (x :: xs)) (keyToksAll (y :: ys)) = if PyData.eqv x y = true then ltT (keyToksAll xs) (keyToksAll ys) else ltT (keyToks x) (keyToks y) := by
  rw [toks_all_cons, toks_all_cons, lt_same]
  simp only [cokT] at h
  split
  · rename_i q
    rw [eqv_toks x y q]; exact lex_pre _ _ _
  · rename_i q
    have q : PyData.eqv x y = false := by simpa using q
    rw [q] at h
    exact cok_toks x y h q _ _
theorem toksAll_nil {ys : List PyData} : ltT (keyToksAll []) (keyToksAll ys) = decide (0 < ys.length) := by
  cases ys with
  | nil => exact lex_irrefl _
  | cons y ys =>
    rw [toks_all_cons]
    show ltT [Sum.inl 0] (Sum.inl 1 :: (keyToks y ++ keyToksAll ys)) = decide (0 < ys.length + 1)
    rw [show ltT [Sum.inl 0] (Sum.inl 1 :: (keyToks y ++ keyToksAll ys)) = itemLt (Sum.inl 0) (Sum.inl 1) from lex_diff (O := itemOrd) (by simp)]
    simp [itemLt]
theorem toksAll_nil2 {x : PyData} {xs : List PyData} : ltT (keyToksAll (x :: xs)) (keyToksAll []) = false := by
  rw [toks_all_cons]
  show ltT (Sum.inl 1 :: (keyToks x ++ keyToksAll xs)) [Sum.inl 0] = false
  rw [show ltT (Sum.inl 1 :: (keyToks x ++ keyToksAll xs)) [Sum.inl 0] = itemLt (Sum.inl 1) (Sum.inl 0) from lex_diff (O := itemOrd) (by simp)]
  simp [itemLt]
theorem lt_one (p q : Int ⊕ List Nat) : ltT [p] [q] = itemLt p q := lex_one p q
/-! ### tuples: < by the first difference -/
/-- in the state s, the pairs from the left: the first unequal one decides -/
def LexIn (A : Around) (s : Shared) (fin k : Bool) : List (Value × Value) → Prop
  | [] => k = fin
  | (p, q) :: r => (EqAt A s p q true ∧ LexIn A s fin k r) ∨ (EqAt A s p q false ∧ RcLt A s p q k)
open AutoSeq1 (wpAny_loadPart') in
open MeetsSeq MeetsSeq2 MeetsSeq3 SeqRoads2 in
theorem tup_lt_meets (l b : Addr) (us ws : Array Value) (n n2 : Nat) (dd dd2 : Option Addr) (sl sl2 : Array (Option Value)) (k : Bool) :
    Meets (Builtin.«tuple.__lt__» ⟨[.ref l, .ref b], []⟩) (fun A R s => (s.heap.get? l = some { cls := .type "tuple", dict := dd, data := .seq us n, slots := sl } ∧ s.heap.get? b = some { cls := .type "tuple", dict := dd2, data := .seq ws n2, slots := sl2 }) ∧
        LexIn A.in1 s (decide (us.size < ws.size)) k (us.toList.zip ws.toList) ∧ R (.ok (.ret (.bool k))) s) :=
  .of_wp fun prog w A R s z => by
    obtain ⟨hp, g, d, tk, os⟩ := s; obtain ⟨⟨hl, hb⟩, hx, hR⟩ := z
    have sub2 := AutoSeq1.sub_tuple_tuple
    wp_walk using wpAny_loadPart' hl, wpAny_loadPart' hb, wpAny_forIn_list _ (fun rest c s' => c.1 = none ∧ s' = ⟨hp, g, d, tk, os⟩ ∧ LexIn A.in1 ⟨hp, g, d, tk, os⟩ (decide (us.size < ws.size)) k rest) _
    case turn =>
      rintro ⟨y, x⟩ rest c s' ⟨hc, rfl, hx⟩
      rcases hx with ⟨e1, e2⟩ | ⟨e1, e2⟩
      · refine wpAny_bind (e1 prog w _ _ ?_)
        wp_walk
        exact ⟨rfl, rfl, e2⟩
      · refine wpAny_bind (e1 prog w _ _ ?_)
        have less := e2 prog w
        wp_walk using less
        exact ⟨_, rfl, by simpa using hR⟩
    case fin =>
      rintro ⟨c1, c2⟩ s' ⟨hc, rfl, hx⟩
      simp only at hc
      subst hc
      have hx : k = decide (us.size < ws.size) := hx
      wp_walk
      exact ⟨_, rfl, by simpa [Builtin.Tuple.tupleCompareSizes, hx] using hR⟩
    case h => exact ⟨rfl, rfl, hx⟩
section
variable {A : Around} {s : Shared} {k : Bool}
theorem rc_tup {l b : Addr} {us ws : Array Value} (hl : s.heap.IsTuple l us) (hb : s.heap.IsTuple b ws) (hu : A.units < cLine) (hx : LexIn A.in1 s (decide (us.size < ws.size)) k (us.toList.zip ws.toList)) : RcLt A s (.ref l) (.ref b) k := fun prog w E Q q => by
  obtain ⟨⟨c1, d1, t1, s1⟩, ho, hc, n, hd⟩ := id hl
  obtain ⟨⟨c2, d2, t2, s2⟩, ho2, hc2, n2, hd2⟩ := id hb
  cases hc; cases hd; cases hc2; cases hd2
  exact richCompare_meets_room (op := .Lt) ⟨_, ho, rfl⟩ ⟨_, ho2, rfl⟩ F.slot_tuple_lt F.entry_tuple_lt (F.args_tuple_lt_2 _ _) (tup_lt_meets l b us ws n n2 d1 d2 s1 s2 k) ⟨⟨ho, ho2⟩, hx, show Value.bool k ≠ Value.notImplemented ∧ Q (.bool k) s from ⟨(fun x => nomatch x), q⟩⟩ hu
theorem call_tup {prog : Program} {w : World} {E Q : Value → Shared → Prop} {l b : Addr} {us ws : Array Value} (hl : s.heap.IsTuple l us) (hb : s.heap.IsTuple b ws) (hx : LexIn A.in1 s (decide (us.size < ws.size)) k (us.toList.zip ws.toList)) (q : Q (.bool k) s) :
    wpAny (model prog w) A (call (.builtin "tuple.__lt__") [.ref l, .ref b]) Q E s := by
  obtain ⟨⟨c1, d1, t1, s1⟩, ho, hc, n, hd⟩ := id hl
  obtain ⟨⟨c2, d2, t2, s2⟩, ho2, hc2, n2, hd2⟩ := id hb
  cases hc; cases hd; cases hc2; cases hd2
  exact call_meets F.slot_tuple_lt ⟨_, ho, rfl⟩ F.entry_tuple_lt (F.args_tuple_lt_2 _ _) (tup_lt_meets l b us ws n n2 d1 d2 s1 s2 k) ⟨⟨ho, ho2⟩, hx, q⟩
/-! ### < of nested data -/
theorem lexIn_of : ∀ (xs ys : List PyData) (vs ws : List Value), cokT xs ys = true → xs.length = vs.length → ys.length = ws.length →
    (∀ j (h1 : j < vs.length) (h2 : j < ws.length), EqAt A s vs[j] ws[j] (pairEq xs ys j)) →
    (∀ j (h1 : j < vs.length) (h2 : j < ws.length), (∀ i, i < j → pairEq xs ys i = true) → pairEq xs ys j = false → cok (xs.getD j .none) (ys.getD j .none) = true → RcLt A s vs[j] ws[j] (ltT (keyToks (xs.getD j .none)) (keyToks (ys.getD j .none)))) →
    LexIn A s (decide (xs.length < ys.length)) (ltT (keyToksAll xs) (keyToksAll ys)) (vs.zip ws)
  | [], ys, vs, ws, h, l1, l2, he, hr => by
    obtain rfl : vs = [] := List.length_eq_zero_iff.mp l1.symm
    show ltT (keyToksAll []) (keyToksAll ys) = decide (0 < ys.length)
    exact toksAll_nil
  | x :: xs, [], vs, ws, h, l1, l2, he, hr => by
    obtain rfl : ws = [] := List.length_eq_zero_iff.mp l2.symm
    rw [List.zip_nil_right]
    show ltT (keyToksAll (x :: xs)) (keyToksAll []) = decide (xs.length + 1 < 0)
    rw [toksAll_nil2]
    simp
  | x :: xs, y :: ys, [], ws, h, l1, l2, he, hr => by cases l1
  | x :: xs, y :: ys, v :: vs, [], h, l1, l2, he, hr => by cases l2
  | x :: xs, y :: ys, v :: vs, w :: ws, h, l1, l2, he, hr => by
    rw [toksAll_cons h]
    have e0 : EqAt A s v w (PyData.eqv x y) := he 0 (Nat.succ_pos _) (Nat.succ_pos _)
    cases q : PyData.eqv x y with
    | true =>
      rw [q] at e0
      have h' : cokT xs ys = true := by simpa [cokT, q] using h
      have ih := lexIn_of xs ys vs ws h' (Nat.succ.inj l1) (Nat.succ.inj l2) (fun j h1 h2 => he (j + 1) (Nat.succ_lt_succ h1) (Nat.succ_lt_succ h2)) fun j h1 h2 hb hj hc => by
        refine hr (j + 1) (Nat.succ_lt_succ h1) (Nat.succ_lt_succ h2) (fun i hi => ?_) hj hc
        cases i with
        | zero => exact q
        | succ i => exact hb i (Nat.lt_of_succ_lt_succ hi)
      refine .inl ⟨e0, ?_⟩
      rw [if_pos rfl]
      have ed : decide ((x :: xs).length < (y :: ys).length) = decide (xs.length < ys.length) := decide_eq_decide.mpr (by simp)
      rw [ed]; exact ih
    | false =>
      rw [q] at e0
      have hc : cok x y = true := by simpa [cokT, q] using h
      exact .inr ⟨e0, by rw [if_neg Bool.false_ne_true]; exact hr 0 (Nat.succ_pos _) (Nat.succ_pos _) (fun i hi => absurd hi (Nat.not_lt_zero _)) q hc⟩
theorem firstLt_of : ∀ (xs ys : List PyData), cokT xs ys = true →
    firstLt (pairEq xs ys) (fun j => ltT (keyToks (xs.getD j .none)) (keyToks (ys.getD j .none))) (decide (xs.length < ys.length)) (List.range (min xs.length ys.length)) = ltT (keyToksAll xs) (keyToksAll ys)
  | [], ys, _ => by rw [toksAll_nil]; simp [firstLt]
  | x :: xs, [], _ => by rw [toksAll_nil2]; simp [firstLt]
  | x :: xs, y :: ys, h => by
    rw [toksAll_cons h, show min (x :: xs).length (y :: ys).length = min xs.length ys.length + 1 by simp only [List.length_cons]; omega, show decide ((x :: xs).length < (y :: ys).length) = decide (xs.length < ys.length) from decide_eq_decide.mpr (by simp), List.range_succ_eq_map]
    cases q : PyData.eqv x y with
    | true =>
      have h' : cokT xs ys = true := by simpa [cokT, q] using h
      rw [firstLt_yes (show pairEq (x :: xs) (y :: ys) 0 = true from q), firstLt_map, if_pos rfl]
      exact firstLt_of xs ys h'
    | false =>
      rw [firstLt_no (show pairEq (x :: xs) (y :: ys) 0 = false from q), if_neg Bool.false_ne_true]
      rfl
theorem cokL_at : ∀ (xs ys : List PyData) (j : Nat), cokL xs ys = true → j < xs.length → j < ys.length → pairEq xs ys j = false → cok (xs.getD j .none) (ys.getD j .none) = true
  | [], _, _, _, h, _, _ => absurd h (Nat.not_lt_zero _)
  | _ :: _, [], _, _, _, h, _ => absurd h (Nat.not_lt_zero _)
  | x :: xs, y :: ys, 0, h, _, _, q => by
    simp only [cokL, Bool.and_eq_true, Bool.or_eq_true] at h
    exact h.1.resolve_left fun z => by rw [show pairEq (x :: xs) (y :: ys) 0 = PyData.eqv x y from rfl, z] at q; cases q
  | x :: xs, y :: ys, j + 1, h, h1, h2, q => by
    simp only [cokL, Bool.and_eq_true] at h
    exact cokL_at xs ys j h.2 (Nat.lt_of_succ_lt_succ h1) (Nat.lt_of_succ_lt_succ h2) q
end
theorem lay_tup {xs : List PyData} (h : (PyData.tuple xs).canLay0 = true) : PyData.canLayAll0 xs = true := by simpa [PyData.canLay0] using h
theorem lay_lst {xs : List PyData} (h : (PyData.list xs).canLay0 = true) : PyData.canLayAll0 xs = true := by simpa [PyData.canLay0] using h
mutual
/-- a < b of values that read as data whose order Python tells -/
theorem rc_cok : ∀ (x y : PyData) (A : Around) (s : Shared) (a b : Value) (as bs : List Addr), Reads s.heap a x as → Reads s.heap b y bs → x.canLay0 = true → y.canLay0 = true → cok x y = true → A.units + min x.depth y.depth < cLine → RcLt A s a b (ltT (keyToks x) (keyToks y))
  | .int i, y, A, s, a, b, as, bs, ra, rb, _, _, h, _ => by
    cases y with
    | int j =>
      cases ra
      cases rb
      intro prog w E Q q
      simp only [keyToks] at q
      rw [lt_one] at q
      exact P.lt_int q
    | _ => simp [cok] at h
  | .str i, y, A, s, a, b, as, bs, ra, rb, _, _, h, _ => by
    cases y with
    | str j =>
      cases ra
      cases rb
      intro prog w E Q q
      rw [show ltT (keyToks (.str i)) (keyToks (.str j)) = dataLt (.str i) (.str j) from rfl, dataLt_str] at q
      exact P.lt_str q
    | _ => simp [cok] at h
  | .list xs, y, A, s, a, b, as, bs, ra, rb, l1, l2, h, hu => by
    cases y with
    | list ys =>
      have hc : cokL xs ys = true := by simpa [cok] using h
      cases ra with
      | @list p o vs n _ as₁ h1 h2 h3 h4 =>
        cases rb with
        | @list p' o' ws n' _ bs₁ k1 k2 k3 k4 =>
          have n1 : vs.size = xs.length := by simpa using ReadsAll.length _ _ _ h4
          have n2 : ws.size = ys.length := by simpa using ReadsAll.length _ _ _ k4
          have g := rc_cokL xs ys A.in1 s vs.toList ws.toList _ _ h4 k4 (lay_lst l1) (lay_lst l2) (room_in hu)
          show RcLt A s (.ref p) (.ref p') (ltT (keyToksAll xs) (keyToksAll ys))
          rw [← firstLt_of xs ys (cokL_T xs ys hc), ← n1, ← n2]
          refine RcLt.lists ⟨_, h1, h2, _, h3⟩ ⟨_, k1, k2, _, k3⟩ (room_here hu) (fun j j1 j2 => ?_) fun j j1 j2 e => ?_
          · have t := eqAt_readsAll xs ys A.in1 s vs.toList ws.toList _ _ h4 k4 (lay_lst l1) (lay_lst l2) (room_in hu) j (by rw [Array.length_toList]; exact j1) (by rw [Array.length_toList]; exact j2)
            rw [Array.getElem_toList, Array.getElem_toList] at t; exact t
          · have t := g j (by rw [Array.length_toList]; exact j1) (by rw [Array.length_toList]; exact j2) (cokL_at xs ys j hc (by omega) (by omega) e)
            rw [Array.getElem_toList, Array.getElem_toList] at t; exact t
    | _ => simp [cok] at h
  | .tuple xs, y, A, s, a, b, as, bs, ra, rb, l1, l2, h, hu => by
    cases y with
    | tuple ys =>
      have hc : cokT xs ys = true := by simpa [cok] using h
      cases ra with
      | @tuple p o vs n _ as₁ h1 h2 h3 h4 =>
        cases rb with
        | @tuple p' o' ws n' _ bs₁ k1 k2 k3 k4 =>
          have n1 : vs.size = xs.length := by simpa using ReadsAll.length _ _ _ h4
          have n2 : ws.size = ys.length := by simpa using ReadsAll.length _ _ _ k4
          have g := rc_cokL xs ys A.in1 s vs.toList ws.toList _ _ h4 k4 (lay_tup l1) (lay_tup l2) (room_in hu)
          show RcLt A s (.ref p) (.ref p') (ltT (keyToksAll xs) (keyToksAll ys))
          refine rc_tup ⟨_, h1, h2, _, h3⟩ ⟨_, k1, k2, _, k3⟩ (room_here hu) ?_
          have z := lexIn_of (A := A.in1) (s := s) xs ys vs.toList ws.toList hc (by rw [Array.length_toList]; exact n1.symm) (by rw [Array.length_toList]; exact n2.symm)
            (fun j j1 j2 => eqAt_readsAll xs ys A.in1 s vs.toList ws.toList _ _ h4 k4 (lay_tup l1) (lay_tup l2) (room_in hu) j j1 j2) fun j j1 j2 _ _ c => g j j1 j2 c
          rw [n1, n2]; exact z
    | _ => simp [cok] at h
  | .none, y, _, _, _, _, _, _, _, _, _, _, h, _ => by simp [cok] at h
  | .bool _, y, _, _, _, _, _, _, _, _, _, _, h, _ => by simp [cok] at h
  | .dict _, y, _, _, _, _, _, _, _, _, _, _, h, _ => by simp [cok] at h
theorem rc_cokL : ∀ (xs ys : List PyData) (A : Around) (s : Shared) (vs ws : List Value) (as bs : List Addr), ReadsAll s.heap vs xs as → ReadsAll s.heap ws ys bs → PyData.canLayAll0 xs = true → PyData.canLayAll0 ys = true → A.units + min (PyData.depthAll xs) (PyData.depthAll ys) < cLine →
    ∀ j (h1 : j < vs.length) (h2 : j < ws.length), cok (xs.getD j .none) (ys.getD j .none) = true → RcLt A s vs[j] ws[j] (ltT (keyToks (xs.getD j .none)) (keyToks (ys.getD j .none)))
  | [], _, _, _, _, _, _, _, ra, _, _, _, _, j, h1, _, _ => by cases ra; exact absurd h1 (Nat.not_lt_zero _)
  | _ :: _, [], _, _, _, _, _, _, _, rb, _, _, _, j, _, h2, _ => by cases rb; exact absurd h2 (Nat.not_lt_zero _)
  | x :: xs, y :: ys, A, s, _, _, _, _, ra, rb, l1, l2, hu, j, h1, h2, hc => by
    have l1' : x.canLay0 = true ∧ PyData.canLayAll0 xs = true := by simpa [PyData.canLayAll0] using l1
    have l2' : y.canLay0 = true ∧ PyData.canLayAll0 ys = true := by simpa [PyData.canLayAll0] using l2
    cases ra with
    | cons r rs =>
      cases rb with
      | cons r' rs' =>
        cases j with
        | zero => exact rc_cok x y A s _ _ _ _ r r' l1'.1 l2'.1 hc (room_head hu)
        | succ j => exact rc_cokL xs ys A s _ _ _ _ rs rs' l1'.2 l2'.2 (room_tail hu) j (Nat.lt_of_succ_lt_succ h1) (Nat.lt_of_succ_lt_succ h2) hc
end
/-! ### as sorting compares -/
section
variable {prog : Program} {w : World} {A : Around} {E : Value → Shared → Prop} {s : Shared}
theorem one_cok {f : Bool} {x y : PyData} {a b : Value} {as bs : List Addr} {Q : Bool → Shared → Prop} (ra : Reads s.heap a x as) (rb : Reads s.heap b y bs) (l1 : x.canLay0 = true) (l2 : y.canLay0 = true) (h : cok x y = true)
    (hu : A.units + min x.depth y.depth < cLine) (q : Q (ltT (keyToks x) (keyToks y)) s) : wpAny (model prog w) A (oneLt' f a b) Q E s := by
  cases f with
  | false =>
    rw [oneLt'_eq]
    simp only [Bool.false_eq_true, if_false]
    exact wpAny_bind (rc_cok x y A s a b as bs ra rb l1 l2 h hu prog w E _ (wpAny_truthy_bool q))
  | true =>
    cases x with
    | int i =>
      cases y with
      | int j =>
        cases ra; cases rb
        simp only [keyToks] at q
        rw [lt_one] at q
        exact oneLt_int q
      | _ => simp [cok] at h
    | str i =>
      cases y with
      | str j =>
        cases ra; cases rb
        rw [show ltT (keyToks (.str i)) (keyToks (.str j)) = dataLt (.str i) (.str j) from rfl, dataLt_str] at q
        exact oneLt_str q
      | _ => simp [cok] at h
    | list xs =>
      cases y with
      | list ys =>
        have hc : cokL xs ys = true := by simpa [cok] using h
        cases ra with
        | @list p o vs n _ as₁ h1 h2 h3 h4 =>
          cases rb with
          | @list p' o' ws n' _ bs₁ k1 k2 k3 k4 =>
            have n1 : vs.size = xs.length := by simpa using ReadsAll.length _ _ _ h4
            have n2 : ws.size = ys.length := by simpa using ReadsAll.length _ _ _ k4
            have g := rc_cokL xs ys A.in1 s vs.toList ws.toList _ _ h4 k4 (lay_lst l1) (lay_lst l2) (room_in hu)
            simp only [keyToks] at q
            rw [← firstLt_of xs ys (cokL_T xs ys hc), ← n1, ← n2] at q
            rw [oneLt'_eq]
            simp only [if_true]
            refine wpAny_bind (wpAny_cRoomFor (room_here hu) (wpAny_bind (wpAny_callSpecialIfBound?_slot (T := "list") ⟨_, h1, h2⟩ F.slot_list_lt (call_list_lt (e := pairEq xs ys) (r := fun j => ltT (keyToks (xs.getD j .none)) (keyToks (ys.getD j .none))) ⟨_, h1, h2, _, h3⟩ ⟨_, k1, k2, _, k3⟩ (fun j j1 j2 => ?_) (fun j j1 j2 e => ?_) (wpAny_truthy_bool q)))))
            · have t := eqAt_readsAll xs ys A.in1 s vs.toList ws.toList _ _ h4 k4 (lay_lst l1) (lay_lst l2) (room_in hu) j (by rw [Array.length_toList]; exact j1) (by rw [Array.length_toList]; exact j2)
              rw [Array.getElem_toList, Array.getElem_toList] at t; exact t
            · have t := g j (by rw [Array.length_toList]; exact j1) (by rw [Array.length_toList]; exact j2) (cokL_at xs ys j hc (by omega) (by omega) e)
              rw [Array.getElem_toList, Array.getElem_toList] at t; exact t
      | _ => simp [cok] at h
    | tuple xs =>
      cases y with
      | tuple ys =>
        have hc : cokT xs ys = true := by simpa [cok] using h
        cases ra with
        | @tuple p o vs n _ as₁ h1 h2 h3 h4 =>
          cases rb with
          | @tuple p' o' ws n' _ bs₁ k1 k2 k3 k4 =>
            have n1 : vs.size = xs.length := by simpa using ReadsAll.length _ _ _ h4
            have n2 : ws.size = ys.length := by simpa using ReadsAll.length _ _ _ k4
            have g := rc_cokL xs ys A.in1 s vs.toList ws.toList _ _ h4 k4 (lay_tup l1) (lay_tup l2) (room_in hu)
            have z := lexIn_of (A := A.in1) (s := s) xs ys vs.toList ws.toList hc (by rw [Array.length_toList]; exact n1.symm) (by rw [Array.length_toList]; exact n2.symm)
              (fun j j1 j2 => eqAt_readsAll xs ys A.in1 s vs.toList ws.toList _ _ h4 k4 (lay_tup l1) (lay_tup l2) (room_in hu) j j1 j2) fun j j1 j2 _ _ c => g j j1 j2 c
            rw [← n1, ← n2] at z
            rw [oneLt'_eq]
            simp only [if_true]
            exact wpAny_bind (wpAny_cRoomFor (room_here hu) (wpAny_bind (wpAny_callSpecialIfBound?_slot (T := "tuple") ⟨_, h1, h2⟩ F.slot_tuple_lt (call_tup ⟨_, h1, h2, _, h3⟩ ⟨_, k1, k2, _, k3⟩ z (wpAny_truthy_bool q)))))
      | _ => simp [cok] at h
    | none => simp [cok] at h
    | bool _ => simp [cok] at h
    | dict _ => simp [cok] at h
/-- tuples, item by item -/
theorem katLex_cok {b fin : Bool} {Q : Bool → Shared → Prop} : ∀ (xs ys : List PyData) (i : Nat) (vs ws : List Value) (as bs : List Addr), ReadsAll s.heap vs xs as → ReadsAll s.heap ws ys bs → PyData.canLayAll0 xs = true → PyData.canLayAll0 ys = true → cokT xs ys = true →
    A.units + 1 + min (PyData.depthAll xs) (PyData.depthAll ys) < cLine → fin = decide (xs.length < ys.length) → Q (ltT (keyToksAll xs) (keyToksAll ys)) s → KatLex prog w A b fin Q (vs.zip ws) i s
  | [], ys, i, _, _, _, _, ra, rb, _, _, _, _, hf, q => by
    cases ra
    rw [toksAll_nil] at q
    refine kat_nil ?_
    rw [hf]; simpa using q
  | x :: xs, [], i, _, _, _, _, ra, rb, _, _, _, _, hf, q => by
    cases rb
    rw [toksAll_nil2] at q
    rw [List.zip_nil_right]
    refine kat_nil ?_
    rw [hf]; simpa using q
  | x :: xs, y :: ys, i, _, _, _, _, ra, rb, l1, l2, h, hu, hf, q => by
    have l1' : x.canLay0 = true ∧ PyData.canLayAll0 xs = true := by simpa [PyData.canLayAll0] using l1
    have l2' : y.canLay0 = true ∧ PyData.canLayAll0 ys = true := by simpa [PyData.canLayAll0] using l2
    rw [toksAll_cons h] at q
    cases ra with
    | @cons v vs _ _ as₁ as₂ r rs =>
      cases rb with
      | @cons u us _ _ bs₁ bs₂ r' rs' =>
        have hu' : A.units + min x.depth y.depth < cLine := by have := room_head hu; omega
        have ev : EqAt A s v u (PyData.eqv x y) := eqAt_reads x y A s v u _ _ r r' l1'.1 l2'.1 hu'
        show KatLex prog w A b fin Q ((v, u) :: vs.zip us) i s
        refine kat_cons (ev prog w _ _ (kat_go (fun e => ?_) fun e => ?_))
        · rw [e, if_pos rfl] at q
          have h' : cokT xs ys = true := by simpa [cokT, e] using h
          refine kat_yes ?_
          refine katLex_cok xs ys (i + 1) vs us _ _ rs rs' l1'.2 l2'.2 h' (room_tail hu) ?_ q
          rw [hf]; exact decide_eq_decide.mpr (by simp)
        · rw [e, if_neg Bool.false_ne_true] at q
          have hc : cok x y = true := by simpa [cokT, e] using h
          exact kat_no (one_cok r r' l1'.1 l2'.1 hc hu' q)
end
/-! ### the kinds of keys -/
/-- the keys ds, as the heap h lays them -/
noncomputable def kindOf (h : Heap) (ds : List PyData) : KeyKind where
  toKeyOrd := listOrd itemOrd
  keyOf v := open Classical in if q : ∃ d, (d ∈ ds ∧ d.canLay0 = true) ∧ ∃ as, Reads h v d as then some (keyToks q.choose) else none
  dflt := ([] : Tk)
theorem kindOf_some {h : Heap} {ds : List PyData} {v : Value} {d : PyData} {as : List Addr} (hd : d ∈ ds) (hl : d.canLay0 = true) (r : Reads h v d as) : (kindOf h ds).keyOf v = some (keyToks d) := by
  have q : ∃ d, (d ∈ ds ∧ d.canLay0 = true) ∧ ∃ as, Reads h v d as := ⟨d, ⟨hd, hl⟩, as, r⟩
  have e : (kindOf h ds).keyOf v = some (keyToks q.choose) := dif_pos q
  obtain ⟨h1, as', h2⟩ := q.choose_spec
  rw [e, Reads.unique _ _ _ _ _ h1.2 h2 r]
theorem kindOf_inv {h : Heap} {ds : List PyData} {v : Value} {k : Tk} (e : (kindOf h ds).keyOf v = some k) : ∃ d as, d ∈ ds ∧ d.canLay0 = true ∧ Reads h v d as ∧ k = keyToks d := by
  by_cases q : ∃ d, (d ∈ ds ∧ d.canLay0 = true) ∧ ∃ as, Reads h v d as
  · have e' : (kindOf h ds).keyOf v = some (keyToks q.choose) := dif_pos q
    obtain ⟨h1, as', h2⟩ := q.choose_spec
    rw [e'] at e
    exact ⟨_, as', h1.1, h1.2, h2, (Option.some.inj e).symm⟩
  · have e' : (kindOf h ds).keyOf v = none := dif_neg q
    rw [e'] at e; cases e
/-- every two of them can be compared -/
def Cok (ds : List PyData) : Prop := ∀ d, d ∈ ds → ∀ d', d' ∈ ds → cok d d' = true
section
variable {prog : Program} {w : World} {A : Around} {s : Shared}
/-- what stands first in a key -/
def FirstOf (h : Heap) (d : PyData) (o : Option Value) : Prop := match d with
  | .tuple (x :: _) => ∃ v as, o = some v ∧ Reads h v x as
  | _ => o = none
theorem first_run {v : Value} {d : PyData} {as : List Addr} {M : Model} (r : Reads s.heap v d as) (hd : ∀ kv, d ≠ .dict kv) : ∃ o, FirstOf s.heap d o ∧ ∀ (E : Value → Shared → Prop) (Q : Option Value → Shared → Prop), Q o s → wpAny M A (firstOfTuple' v) Q E s := by
  cases r with
  | @tuple a o vs n xs _ h1 h2 h3 h4 =>
    refine ⟨vs[0]?, ?_, fun E Q q => ?_⟩
    · cases xs with
      | nil =>
        have l := ReadsAll.length _ _ _ h4
        show vs[0]? = none
        have : vs.size = 0 := by simpa using l
        exact Array.getElem?_eq_none (by omega)
      | cons x xs =>
        generalize e : vs.toList = L at h4
        cases h4 with
        | @cons v ws _ _ a1 a2 r1 r2 => exact ⟨v, a1, by rw [← Array.getElem?_toList, e]; rfl, r1⟩
    · rw [kas_first_eq]
      refine wpAny_bind ((looks_reads (.tuple h1 h2 h3 h4)).here ?_)
      rw [if_neg (by simp [dataType])]
      exact wpAny_bind (listItems_at h1 h3 (wpAny_pure q))
  | none => exact ⟨none, rfl, fun E Q q => by rw [kas_first_eq]; exact wpAny_bind ((looks_reads .none).here (by rw [if_pos (dataType_other (by intro xs z; cases z))]; exact wpAny_pure q))⟩
  | bool b => exact ⟨none, rfl, fun E Q q => by rw [kas_first_eq]; exact wpAny_bind ((looks_reads (.bool b)).here (by rw [if_pos (dataType_other (by intro xs z; cases z))]; exact wpAny_pure q))⟩
  | int i t => exact ⟨none, rfl, fun E Q q => by rw [kas_first_eq]; exact wpAny_bind ((looks_reads (.int i t)).here (by rw [if_pos (dataType_other (by intro xs z; cases z))]; exact wpAny_pure q))⟩
  | str x t => exact ⟨none, rfl, fun E Q q => by rw [kas_first_eq]; exact wpAny_bind ((looks_reads (.str x t)).here (by rw [if_pos (dataType_other (by intro xs z; cases z))]; exact wpAny_pure q))⟩
  | list h1 h2 h3 h4 => exact ⟨none, rfl, fun E Q q => by rw [kas_first_eq]; exact wpAny_bind ((looks_reads (.list h1 h2 h3 h4)).here (by rw [if_pos (dataType_other (by intro xs z; cases z))]; exact wpAny_pure q))⟩
  | dict _ _ _ _ _ => exact absurd rfl (hd _)
theorem firsts_run {M : Model} : ∀ {vs : List Value} {ds : List PyData}, EachIs (fun v d => ∃ as, Reads s.heap v d as) vs ds → (∀ d, d ∈ ds → ∀ kv, d ≠ .dict kv) → ∃ os, EachIs (fun o d => FirstOf s.heap d o) os ds ∧ ∀ (E : Value → Shared → Prop) (Q : List (Option Value) → Shared → Prop), Q os s → wpAny M A (vs.mapM firstOfTuple') Q E s
  | [], _, e, hd => by
    cases e
    exact ⟨[], .nil, fun E Q q => by rw [List.mapM_nil]; exact wpAny_pure q⟩
  | v :: vs, _, e, hd => by
    cases e with
    | @cons _ d _ ds r t =>
      obtain ⟨as, r⟩ := r
      obtain ⟨o, f, ho⟩ := first_run (M := M) r (hd d List.mem_cons_self)
      obtain ⟨os, fs, hos⟩ := firsts_run (M := M) t fun d m => hd d (List.mem_cons_of_mem _ m)
      exact ⟨o :: os, .cons f fs, fun E Q q => by rw [List.mapM_cons]; exact wpAny_bind (ho _ _ (wpAny_bind (hos _ _ (wpAny_pure q))))⟩
theorem types_run {M : Model} {E : Value → Shared → Prop} : ∀ {vs : List Value} {ds : List PyData} {Q : List Value → Shared → Prop}, EachIs (fun v d => ∃ as, Reads s.heap v d as) vs ds → (Q (ds.map dataType) s) → wpAny M A (vs.mapM typeOf) Q E s
  | [], _, Q, e, h => by
    cases e
    rw [List.mapM_nil]
    exact wpAny_pure h
  | v :: vs, _, Q, e, h => by
    cases e with
    | @cons _ d _ ds r t =>
      obtain ⟨as, r⟩ := r
      rw [List.mapM_cons]
      exact wpAny_bind ((looks_reads r).here (wpAny_bind (types_run t (wpAny_pure h))))
theorem one_run {M : Model} {vs : List Value} {ds : List PyData} (e : EachIs (fun v d => ∃ as, Reads s.heap v d as) vs ds) : ∃ o : Option Value, ∀ (E : Value → Shared → Prop) (Q : Option Value → Shared → Prop), Q o s → wpAny M A (oneTypeOnly' vs.toArray) Q E s := by
  cases q : (ds.map dataType).toArray[0]? with
  | none => exact ⟨none, fun E Q h => by
      rw [oneTypeOnly'_eq, List.mapM_toArray, map_eq_pure_bind]
      refine wpAny_bind (wpAny_bind (types_run e (wpAny_pure ?_)))
      rw [q]
      exact wpAny_pure h⟩
  | some t => exact ⟨if ((ds.map dataType).toArray.all (· == t)) = true then some t else none, fun E Q h => by
      rw [oneTypeOnly'_eq, List.mapM_toArray, map_eq_pure_bind]
      refine wpAny_bind (wpAny_bind (types_run e (wpAny_pure ?_)))
      rw [q]
      exact wpAny_pure h⟩
/-- which kind it is, the keys can be compared by it -/
theorem kind_run {vs : List Value} {ds : List PyData} (e : EachIs (fun v d => ∃ as, Reads s.heap v d as) vs ds) (hl : ∀ d, d ∈ ds → d.canLay0 = true) :
    ∃ kd, (kd = general' ∨ kd = oneType' ∨ ((∃ b, kd = tuples' b) ∧ ∀ d, d ∈ ds → ∃ xs, d = .tuple xs)) ∧ ∀ (E : Value → Shared → Prop) {Q : SortKind → Shared → Prop}, Q kd s → wpAny (model prog w) A (keyKind' vs.toArray) Q E s := by
  have hd : ∀ d, d ∈ ds → ∀ kv, d ≠ .dict kv := fun d m kv z => by have := hl d m; rw [z] at this; cases this
  obtain ⟨os, hos, run⟩ := firsts_run (M := model prog w) (A := A) e hd
  by_cases hall : (os.toArray.all (·.isSome)) = true
  · have tup : ∀ d, d ∈ ds → ∃ xs, d = .tuple xs := fun d m => by
      obtain ⟨o, ho, f⟩ : ∃ o, o ∈ os ∧ FirstOf s.heap d o := by
        clear hall hd hl e run
        induction hos with
        | nil => cases m
        | cons f t ih =>
          rcases List.mem_cons.mp m with rfl | m
          · exact ⟨_, List.mem_cons_self, f⟩
          · obtain ⟨o, h1, h2⟩ := ih m; exact ⟨o, List.mem_cons_of_mem _ h1, h2⟩
      have hs : o.isSome = true := by
        rw [List.all_toArray] at hall
        exact List.all_eq_true.mp hall o ho
      cases d with
      | tuple xs => exact ⟨xs, rfl⟩
      | _ => rw [show o = none from f] at hs; cases hs
    have hv : EachIs (fun v d => ∃ as, Reads s.heap v d as) (os.filterMap id) (ds.filterMap fun d => match d with | .tuple (x :: _) => some x | _ => none) := by
      clear hall hd hl e tup run
      induction hos with
      | nil => exact .nil
      | @cons o d os ds f t ih =>
        cases d with
        | tuple xs =>
          cases xs with
          | nil => rw [show o = none from f]; exact ih
          | cons x r =>
            obtain ⟨v, as, rfl, r1⟩ := f
            exact .cons ⟨as, r1⟩ ih
        | _ => rw [show o = none from f]; exact ih
    obtain ⟨o, ho⟩ := one_run (M := model prog w) (A := A) hv
    refine ⟨tuples' (o.any (· != .type "tuple")), .inr (.inr ⟨⟨_, rfl⟩, tup⟩), fun E Q q => ?_⟩
    rw [keyKind'_eq, List.mapM_toArray, map_eq_pure_bind]
    refine wpAny_bind (wpAny_bind (run _ _ (wpAny_pure ?_)))
    rw [if_pos hall]
    refine wpAny_bind (wpAny_rule ?_)
    rw [List.filterMap_toArray]
    exact wpAny_bind (ho _ _ (wpAny_pure q))
  · by_cases h0 : ((os.toArray[0]?.bind id).isSome) = true
    · refine ⟨general', .inl rfl, fun E Q q => ?_⟩
      rw [keyKind'_eq, List.mapM_toArray, map_eq_pure_bind]
      refine wpAny_bind (wpAny_bind (run _ _ (wpAny_pure ?_)))
      rw [if_neg hall, if_pos h0]
      exact wpAny_pure q
    · obtain ⟨o, ho⟩ := one_run (M := model prog w) (A := A) e
      refine ⟨if o.isSome = true then oneType' else general', by split; exact .inr (.inl rfl); exact .inl rfl, fun E Q q => ?_⟩
      rw [keyKind'_eq, List.mapM_toArray, map_eq_pure_bind]
      refine wpAny_bind (wpAny_bind (run _ _ (wpAny_pure ?_)))
      rw [if_neg hall, if_neg h0]
      exact wpAny_bind (ho _ _ (wpAny_pure q))
/-- keys that can be compared can be sorted -/
theorem sorts_cok {vs : List Value} {ds : List PyData} (e : EachIs (fun v d => ∃ as, Reads s.heap v d as) vs ds) (hl : ∀ d, d ∈ ds → d.canLay0 = true) (hc : Cok ds) (hu : ∀ d, d ∈ ds → A.units + d.depth < cLine) : SortsAt prog w A s (kindOf s.heap ds) vs := by
  refine ⟨fun v hv => ?_, ?_⟩
  · obtain ⟨d, hd, as, r⟩ := e.left v hv
    exact ⟨_, kindOf_some hd (hl d hd) r⟩
  · obtain ⟨kd, hk, run⟩ := kind_run (prog := prog) (w := w) (A := A) e hl
    refine ⟨kd, ?_, fun _ E Q q => run E q⟩
    intro E x y a b Q ha hb q
    obtain ⟨d, as, hd, l1, ra, rfl⟩ := kindOf_inv ha
    obtain ⟨d', as', hd', l2, rb, rfl⟩ := kindOf_inv hb
    have hcc := hc d hd d' hd'
    have room : A.units + min d.depth d'.depth < cLine := Nat.lt_of_le_of_lt (Nat.add_le_add_left (Nat.min_le_left _ _) _) (hu d hd)
    have q : Q (ltT (keyToks d) (keyToks d')) s := q
    rcases hk with rfl | rfl | ⟨⟨b, rfl⟩, tup⟩
    · show wpAny _ _ (oneLt' false x y) Q E s
      exact one_cok ra rb l1 l2 hcc room q
    · rw [keyLt'_oneType]
      exact one_cok ra rb l1 l2 hcc room q
    · obtain ⟨xs, rfl⟩ := tup d hd
      obtain ⟨ys, rfl⟩ := tup d' hd'
      have hc2 : cokT xs ys = true := by simpa [cok] using hcc
      cases ra with
      | @tuple p o us n _ _ h1 h2 h3 h4 =>
        cases rb with
        | @tuple p' o' ws n' _ _ k1 k2 k3 k4 =>
          have n1 : us.size = xs.length := by simpa using ReadsAll.length _ _ _ h4
          have n2 : ws.size = ys.length := by simpa using ReadsAll.length _ _ _ k4
          exact kat_lt h1 h3 k1 k3 (katLex_cok xs ys 0 _ _ _ _ h4 k4 (lay_tup l1) (lay_tup l2) hc2 (by have := SeqAt.room_in room; simpa [Around.in1] using this) (by rw [n1, n2]) q)
end
end Mir.So

set_option Elab.async false
set_option autoImplicit false
set_option linter.all false
set_option maxRecDepth 100000
set_option maxHeartbeats 4000000
/-! sorted(xs, key=f), f a def of the program. -/
namespace Mir
open PySem PySem.Spec PyProof.Rows L2
open PySem.W (EachIs sortVals)
/-! ### the sorted data -/
/-- the order of the keys -/
def ltD (x y : D) : Bool := So.ltT (PySem.W.keyToks (toP x)) (PySem.W.keyToks (toP y))
def leK (p q : D × D) : Bool := !ltD q.2 p.2
def sortK (ds ks : List D) : List D := ((ds.zip ks).mergeSort leK).map (·.1)
def okK (ks : List D) : Bool := ks.all (gd 50) && ks.all fun k => ks.all fun k' => So.cok (toP k) (toP k')
/-! ### a pinned record of ours is changed -/
section
variable {X : Cx} {pins : List (Addr × Obj)} {σ : L2.St} {H : Hp} {s : Shared}
theorem _root_.L2.Inv.less {p : Addr × Obj} (I : Inv X (p :: pins) σ H s) : Inv X pins σ H s := I.pins_of fun q hq => I.pin q (List.mem_append_right _ (List.mem_cons_of_mem _ hq))
/-- an address of ours that nothing else holds -/
structure Ours (X : Cx) (pins : List (Addr × Obj)) (c : Addr) : Prop where
  old : X.s_0.heap.objs.size ≤ c
  loc : c ≠ X.env.locals
  fs : c ∉ X.fs
  cell : ∀ x d, X.env.cells.lookup x = some d → d ≠ c
  pin : ∀ p ∈ X.pn ++ pins, p.1 ≠ c
theorem Ours.of (I : Inv X pins σ H s) {c : Addr} (h : s.heap.objs.size ≤ c) : Ours X pins c := by
  obtain ⟨_, h1, h2, h3, h4, h5⟩ := I.fpOk (H' := fun _ => none) h rfl
  exact ⟨Nat.le_trans I.sz h, h1, h2, h4, h5⟩
theorem take_snoc {α : Type} {l : List α} {j : Nat} {x : α} (h : l[j]? = some x) : l.take (j + 1) = l.take j ++ [x] := by
  rw [List.take_add_one, h]; rfl
theorem toPs_map : ∀ ks : List D, toPs ks = ks.map toP
  | [] => by simp [toPs]
  | k :: ks => by simp [toPs, toPs_map ks]
theorem each_first {β : Type} : ∀ {xs : List V} {us : List Value} {zs : List β}, Vals xs us → zs.length = xs.length → EachIs (fun (v : Value) (b : V × β) => RelV b.1 v) us (xs.zip zs)
  | [], _, _, h, _ => by cases h; exact .nil
  | x :: xs, _, [], _, e => by cases e
  | x :: xs, _, z :: zs, h, e => by
    cases h with
    | cons r t => exact .cons r (each_first t (Nat.succ.inj e))
theorem each_last {α β : Type} {P : Value → β → Prop} : ∀ {xs : List α} {us : List Value} {zs : List β}, EachIs P us zs → zs.length = xs.length → EachIs (fun (v : Value) (b : α × β) => P v b.2) us (xs.zip zs)
  | [], _, _, h, e => by
    cases h with
    | nil => exact .nil
    | cons _ _ => cases e
  | x :: xs, _, _, h, e => by
    cases h with
    | nil => cases e
    | cons r t => exact .cons r (each_last t (Nat.succ.inj e))
theorem each_vals {β : Type} : ∀ {us : List Value} {bs : List (V × β)}, EachIs (fun (v : Value) (b : V × β) => RelV b.1 v) us bs → Vals (bs.map (·.1)) us
  | [], _, h => by cases h; exact .nil
  | _ :: _, _, h => by
    cases h with
    | cons r t => exact .cons r (each_vals t)
theorem atL_pairs {K : Fg} {Hd : Hp} : ∀ {l : List (V × D × D)}, (∀ b ∈ l, At K Hd b.2.1 b.1) → AtL K Hd (l.map (·.2.1)) (l.map (·.1))
  | [], _ => rfl
  | b :: l, h => AtL.cons (h b List.mem_cons_self) (atL_pairs fun c hc => h c (List.mem_cons_of_mem _ hc))
theorem pairs_at {K : Fg} {Hd : Hp} : ∀ {ds ks : List D} {xs : List V}, AtL K Hd ds xs → ∀ b ∈ xs.zip (ds.zip ks), At K Hd b.2.1 b.1
  | [], ks, _, h, b, hb => by cases h; simp at hb
  | d :: ds, [], _, h, b, hb => by simp at hb
  | d :: ds, k :: ks, _, ⟨v, r, e, q, t⟩, b, hb => by
    subst e
    rcases List.mem_cons.mp hb with rfl | hb
    · exact q
    · exact pairs_at t b hb
theorem okK_gd {ks : List D} (h : okK ks = true) {k : D} (m : k ∈ ks) : gd 50 k = true := by
  unfold okK at h
  rw [Bool.and_eq_true] at h
  exact List.all_eq_true.mp h.1 k m
theorem okK_cok {ks : List D} (h : okK ks = true) : So.Cok (ks.map toP) := by
  unfold okK at h
  rw [Bool.and_eq_true] at h
  intro d hd d' hd'
  obtain ⟨k, m, rfl⟩ := List.mem_map.mp hd
  obtain ⟨k', m', rfl⟩ := List.mem_map.mp hd'
  exact List.all_eq_true.mp (List.all_eq_true.mp h.2 k m) k' m'
theorem gds_of : ∀ {n : Nat} {ds : List D}, (∀ d ∈ ds, gd n d = true) → gds n ds = true
  | n, [], _ => by cases n <;> rfl
  | n, d :: ds, h => by
    simp only [gds, Bool.and_eq_true]
    exact ⟨h d List.mem_cons_self, gds_of fun e he => h e (List.mem_cons_of_mem _ he)⟩
end
section
variable {X : Cx} {XR : XRel} {W : WX} {x p : Str} {k : Nat} {F : DM} {ma : EM} {e : Expr} {pn pf pos kp : Pos}
end
end Mir

set_option Elab.async false
set_option autoImplicit false
set_option linter.all false
set_option maxRecDepth 100000
set_option maxHeartbeats 4000000
/-! Shifts, bits; ints as texts, f-strings. -/
namespace Mir
open PySem PySem.Spec PyProof.Rows L2
section
variable {X : Cx}
end
/-! ### ints as texts -/
section
variable {X : Cx} {XR : XRel} {W : WX} {e : Expr} {es : List Expr} {m : EM} {pos : Pos}
/-- the parts keep their mirrors -/
inductive MJ (X : Cx) (XR : XRel) (W : WX) : List Expr → List EM → Prop where
  | nil : MJ X XR W [] []
  | cons {e : Expr} {m : EM} {es : List Expr} {ms : List EM} (h : ME X XR W e m) (r : MJ X XR W es ms) : MJ X XR W (e :: es) (m :: ms)
theorem MJ.pj {ms : List EM} (h : MJ X XR W es ms) : PJ X es (ms.map (tE X.KW XR W)) := by
  induction h with
  | nil => exact .nil
  | cons h _ ih => exact .cons h ih
end
end Mir

set_option Elab.async false
set_option autoImplicit false
set_option linter.all false
set_option maxRecDepth 100000
set_option maxHeartbeats 4000000
/-! sorted(xs) of anything that Python can compare. -/
namespace Mir
open PySem PySem.Spec PyProof.Rows L2
open PySem.W (EachIs sortVals)
def fSortedA (as : List D) : FR := match fSorted as with
  | .no => match as with
    | [.lst ds] => if okK ds = true ∧ ds.length ≤ big then .ow (sortK ds ds) else .no
    | _ => .no
  | r => r
section
variable {X : Cx} {pins : List (Addr × Obj)} {σ : L2.St} {H : Hp} {s : Shared}
/-- sorted(xs) -/
theorem sorted_any {k : Nat} {l : Addr} {xs : List V} {ds : List D} {Hd : Hp} {Q : VK} (hr : Room k X.A) (I : Inv X pins σ H s) (hs : SqL X.KW H l xs) (t : AtL X.KW Hd ds xs) (s1 : Same Hd H) (ok : okK ds = true) (q : FPost X.KW Hd H Q (.ow (sortK ds ds))) :
    wpAny (model X.prog X.w) X.A (call (.builtin "sorted") [.ref l]) (EP X pins σ Q) X.xe s := by
  obtain ⟨its, rv, hl, hz⟩ := I.list hs
  have hz2 : its.length ≤ sizeLine := by rw [← rv.length]; exact hz
  have lx : xs.length = its.length := rv.length
  have ld : ds.length = xs.length := t.length
  obtain ⟨as, rd⟩ := Dp.readsAll I (toPs ds) xs its (AtL.dp (gds_of fun d m => okK_gd ok m) (t.mono s1)) rv
  rw [toPs_map] at rd
  have ek := PySem.W.readsAll_each toP rd
  generalize hH : PySem.W.sortingHeap (PySem.W.copyHeap s.heap its) (s.heap.objs.size + 1) its = h2
  have ek2 : EachIs (fun v d => ∃ as, Reads h2 v (toP d) as) its ds := ek.mono fun v d ⟨as, r⟩ => ⟨as, PyProof.Rows.Reads.keeps (fun _ _ z => by rw [← hH]; exact PySem.W.sorting_copy_old z) r⟩
  have S : PySem.W.SortsAt X.prog X.w X.A.in1.in1 { s with heap := h2 } (So.kindOf h2 (ds.map toP)) its := So.sorts_cok (s := { s with heap := h2 }) (PySem.W.each_map (R := fun v d => ∃ as, Reads h2 v d as) toP ek2) (fun d hd => by
      obtain ⟨k', m, rfl⟩ := List.mem_map.mp hd
      exact (gd_lay 50 k' (okK_gd ok m)).1) (okK_cok ok) fun d hd => by
      obtain ⟨k', m, rfl⟩ := List.mem_map.mp hd
      have := (gd_lay 50 k' (okK_gd ok m)).2
      have := hr.un
      show X.A.units + 1 + 1 + (toP k').depth < _
      omega
  refine PySem.W.sorted_vals (κ := So.kindOf h2 (ds.map toP)) hl.isList (by rw [hH]; exact S) hz2 ?_
  have lz : (ds.zip ds).length = xs.length := by rw [List.length_zip]; omega
  have hR := each_first rv lz
  have hK : EachIs (fun (v : Value) (b : V × D × D) => (So.kindOf h2 (ds.map toP)).keyOf v = some (PySem.W.keyToks (toP b.2.2))) its (xs.zip (ds.zip ds)) := by
    refine each_last (P := fun (v : Value) (b : D × D) => (So.kindOf h2 (ds.map toP)).keyOf v = some (PySem.W.keyToks (toP b.2))) ?_ lz
    refine each_last (P := fun (v : Value) (b : D) => (So.kindOf h2 (ds.map toP)).keyOf v = some (PySem.W.keyToks (toP b))) ?_ rfl
    exact (PySem.W.each_mem ek2).mono fun v b ⟨⟨as, r⟩, m⟩ => So.kindOf_some (List.mem_map.mpr ⟨b, m, rfl⟩) (gd_lay 50 b (okK_gd ok m)).1 r
  have hO := PySem.W.sortVals_each (κ := So.kindOf h2 (ds.map toP)) (rev := false) (fun b : V × D × D => PySem.W.keyToks (toP b.2.2)) hR hK
  generalize eO : sortVals (So.kindOf h2 (ds.map toP)) false its its = out at hO
  generalize eS : (xs.zip (ds.zip ds)).mergeSort (PySem.W.sortLe (So.kindOf h2 (ds.map toP)).toKeyOrd false fun b : V × D × D => PySem.W.keyToks (toP b.2.2)) = srt at hO
  have pS : srt.Perm (xs.zip (ds.zip ds)) := by rw [← eS]; exact List.mergeSort_perm _ _
  have vO : Vals (srt.map (·.1)) out := each_vals hO
  have aO : AtL X.KW Hd (srt.map (·.2.1)) (srt.map (·.1)) := atL_pairs fun b hb => pairs_at t b (pS.mem_iff.mp hb)
  have dO : srt.map (·.2.1) = sortK ds ds := by
    have h1 : srt.map (·.2) = ((xs.zip (ds.zip ds)).map (·.2)).mergeSort leK := by
      rw [← eS]
      exact PySem.W.sort_maps (s := leK) (fun b : V × D × D => b.2) fun a _ b _ => rfl
    rw [List.map_snd_zip (by omega)] at h1
    unfold sortK
    rw [← h1, List.map_map]
    rfl
  rw [dO] at aO
  have lO : (srt.map (·.1)).length ≤ sizeLine := by rw [List.length_map, pS.length_eq, List.length_zip]; omega
  obtain ⟨ep, he'⟩ := PyProof.Rows.sortedAll_at s.heap its out.toArray
  have n0 : H (s.heap.objs.size + 1) = none := I.hok.fresh (Nat.le_succ _)
  exact ⟨.ref _, upd H (s.heap.objs.size + 1) (.lst (srt.map (·.1))), I.laid (t' := s.toks) (fun _ _ => PyProof.Rows.sortedAll_old) (Nat.le_succ _) ⟨lO, out, ep, vO, he'⟩, rfl, FPost.lst q s1 n0 aO⟩
theorem cd_sortedA {k : Nat} (hr : Room k X.A) : CallR X (.builtin "sorted") (rCOf X.KW fSortedA) := fun pins s σ H xs us Q I r ⟨Hd, ds, s1, h, q⟩ => by
  unfold fSortedA at q
  cases e : fSorted ds with
  | no =>
    rw [e] at q
    simp only at q
    split at q
    · split at q
      · rename_i ok
        obtain ⟨v, rfl, o⟩ := h.one
        obtain ⟨a, vs, rfl, e, t⟩ := o.lst s1
        obtain rfl := Vals.ref1 r
        exact sorted_any hr I e t s1 ok.1 q
      · exact q.elim
    · exact q.elim
  | va d => rw [e] at q; exact cd_sorted pins s σ H xs us Q I r ⟨Hd, ds, s1, h, by rw [e]; exact q⟩
  | owc es => rw [e] at q; exact cd_sorted pins s σ H xs us Q I r ⟨Hd, ds, s1, h, by rw [e]; exact q⟩
end
end Mir

set_option Elab.async false
set_option autoImplicit false
set_option linter.all false
set_option maxRecDepth 100000
set_option maxHeartbeats 4000000
/-! try: .. except C as e: a suite that asks isinstance(e, ..) and gives constants. -/
namespace Mir
open PySem PySem.Spec PyProof.Rows L2
/-! ### the suite: slot i holds the exception at a -/
section
variable {X : Cx} {XR : XRel} {P : List Nat} {i : Nat} {a : Addr} {b b' : Bool} {c c' : Expr} {body rest : List Stmt} {m : SM} {d : D} {pos p px pe p3 : Pos}
end
/-- a slot of which nothing is known takes anything -/
theorem Rl.any {K : Fg} {O : List Addr} {Γ : List Sl} {σ : L2.St} {H : Hp} {i : Nat} {o : Option V} (h : Γ[i]? = some .no) (R : Rl K O Γ σ H) : Rl K O Γ (σ.set i o) H := by
  have hi : i < σ.length := by rw [← R.len]; exact (List.getElem?_eq_some_iff.mp h).1
  refine ⟨by rw [List.length_set]; exact R.len, fun j s e3 => ?_, fun j k b ds t hjk e3 e4 et e5 e6 => ?_, R.tr⟩
  · by_cases hj : i = j
    · subst hj
      rw [h] at e3; cases e3
      exact ⟨_, List.getElem?_set_self hi, trivial⟩
    · rw [get_set_ne hj]; exact R.sl j s e3
  · have n1 : i ≠ j := fun z => by subst z; rw [h] at e3; cases e3
    have n2 : i ≠ k := fun z => by subst z; rw [h] at e4; cases e4; cases et
    rw [get_set_ne n1] at e5
    rw [get_set_ne n2] at e6
    exact R.ne j k b ds t hjk e3 e4 et e5 e6
theorem sst_any {P : List Nat} {K : Fg} {O : List Addr} {Γ : List Sl} {σ : L2.St} {H : Hp} {i : Nat} {o : Option V} (hp : i ∉ P) (h : Γ[i]? = some .no) : SStp P Γ σ H O Γ (σ.set i o) H O := by
  have ne : ∀ (j : Nat) (ds : Ct), (Γ[j]? = some (.owc ds) ∨ Γ[j]? = some (.bwc ds)) → i ≠ j := fun j ds e z => by subst z; rw [h] at e; rcases e with e | e <;> cases e
  refine ⟨⟨fun b o _ e => e, fun b ⟨j, ds, e1, e2⟩ => ?_, fun b hb => hb, fun b hb => .inl hb, fun b h1 h2 => absurd h1 h2⟩, fun j hj => ⟨?_, fun ds e => .inl ⟨ds, e⟩, fun s e _ => e⟩, fun j ds e => ⟨e, ?_⟩, fun j ds e => e⟩
  · rw [get_set_ne (ne j ds (.inl e1))] at e2
    exact .inl ⟨j, ds, e1, e2⟩
  · have nj : i ≠ j := fun z => hp (by rw [z]; exact hj)
    rw [get_set_ne nj]
  · rw [get_set_ne (ne j ds (.inr e))]
section
variable {X : Cx} {W : WX} {P : List Nat} {xt : Nat → Option Addr} {x n : Str} {cv : Value} {i : Nat} {body suite : List Stmt} {b₀ : Stmt} {np pos pos' : Pos} {mb : SM} {h : Nat → Option D}
end
end Mir

set_option Elab.async false
set_option autoImplicit false
set_option linter.all false
set_option maxRecDepth 100000
set_option maxHeartbeats 4000000
/-! zip of a tuple with a list; reversed(range(n)). -/
namespace Mir
open PySem PySem.Spec PyProof.Rows L2
def pairsD (ds es : List D) : List D := (ds.zip es).map fun p => .tup [p.1, p.2]
theorem pairs_len {ds es : List D} : (pairsD ds es).length = min ds.length es.length := by simp [pairsD]
theorem pairs_get {ds es : List D} {i : Nat} {d : D} (h : (pairsD ds es)[i]? = some d) : ∃ x y, ds[i]? = some x ∧ es[i]? = some y ∧ d = .tup [x, y] := by
  unfold pairsD at h
  rw [List.getElem?_map] at h
  obtain ⟨⟨x, y⟩, h1, rfl⟩ := Option.map_eq_some_iff.mp h
  obtain ⟨h2, h3⟩ := List.getElem?_zip_eq_some.mp h1
  exact ⟨x, y, h2, h3, rfl⟩
section
variable {X : Cx} {XR : XRel} {W : WX} {e e2 : Expr} {m m2 : EM} {p p2 pos tpos : Pos} {elts : List Expr} {kk : Nat} {tg : Expr}
end
end Mir

set_option Elab.async false
set_option autoImplicit false
set_option linter.all false
set_option maxRecDepth 100000
set_option maxHeartbeats 4000000
/-! Sets of texts: set(xs), {.. for ..}, sorted and len of them. -/
namespace Mir
open PySem PySem.Spec PyProof.Rows L2

/-! ### the object -/
def txt (e : Int × Value) : Str := match e.2 with
  | .str x _ => x
  | _ => Str.empty
def TxtE (w : World) (e : Int × Value) : Prop := ∃ x t, e = (hashStr w x, Value.str x t)
/-- the set at a holds just the texts ks, and it can be walked -/
def SetTx (w : World) (h : Heap) (a : Addr) (ks : List Str) : Prop :=
  ∃ (o : Obj) (es : Array (Int × Value)) (ep : Nat) (t : SetTable), (h.get? a = some o ∧ o.ExactSet ∧ o.data = .set es ep t) ∧ (∀ e ∈ es.toList, TxtE w e) ∧
    ((es.toList.map txt).Perm ks ∧ ks.Nodup) ∧ (es.size < scanBound ∧ t.fits es.size = true) ∧ Ris t.place.toList ∧ (w.params.followText "set-order" = true ∨ t.led = true)
def putT (ks : List Str) (x : Str) : List Str := if x ∈ ks then ks else x :: ks
abbrev freshSet (w : World) : Obj := { cls := .type "set", dict := none, data := .set #[] 0 (.fresh 0 0 (!w.params.followText "set-order")) }
section
variable {P : Program} {w : World} {h h' : Heap} {a : Addr} {ks : List Str}
theorem SetTx.at (R : SetTx w h a ks) (k : ∀ o, h.get? a = some o → h'.get? a = some o) : SetTx w h' a ks := by
  obtain ⟨o, es, ep, t, ⟨h1, h2⟩, r⟩ := R
  exact ⟨o, es, ep, t, ⟨k o h1, h2⟩, r⟩
theorem SetTx.ob (R : SetTx w h a ks) : ∃ o, h.get? a = some o := by
  obtain ⟨o, es, ep, t, ⟨h1, h2⟩, r⟩ := R
  exact ⟨o, h1⟩
theorem txt_elems {l : List (Int × Value)} (g : ∀ e ∈ l, TxtE w e) : ElemsOf (PySem.strKind P w) l := fun e he => by
  obtain ⟨x, t, rfl⟩ := g e he
  exact ⟨⟨x, strKind_is P w x t, rfl⟩, rfl⟩
theorem txt_is {e : Int × Value} (g : TxtE w e) (x : Str) : (PySem.strKind P w).is x e.2 = true ↔ txt e = x := by
  obtain ⟨y, t, rfl⟩ := g
  constructor
  · intro q
    exact (PySem.strKind P w).inj _ _ _ (strKind_is P w y t) q
  · intro q
    have q : y = x := q
    rw [← q]; exact strKind_is P w y t
theorem fresh_tx (w : World) (ho : h.get? a = some (freshSet w)) : SetTx w h a [] := by
  refine ⟨_, #[], 0, _, ⟨ho, ⟨rfl, rfl, rfl⟩, rfl⟩, fun e he => by simp at he, ⟨by simp, List.nodup_nil⟩, ⟨by decide, by rfl⟩, List.Pairwise.nil, ?_⟩
  cases e : w.params.followText "set-order" with
  | true => exact .inl rfl
  | false => exact .inr rfl
end

/-! ### add -/
section
variable {P : Program} {w : World} {A : Around} {E : Value → Shared → Prop} {s : Shared} {a : Addr} {ks : List Str}
/-- the end of an addition: the new table stored, perhaps laid anew -/
theorem set_tail {g : Bool → Sem Unit} (hg : ∀ (b : Bool) (z : Shared) (Z : Unit → Shared → Prop), Z () z → wpAny (model P w) A (g b) Z E z)
    {o : Obj} {es es1 : Array (Int × Value)} {ep : Nat} {t t2 : SetTable} (ho : s.heap.get? a = some o) (hd : o.data = .set es ep t) (hz : es1.size < scanBound) {wasDummy : Bool} {R : Option Bool → Shared → Prop}
    (h1 : ∀ h' n, Heap.SameBut a s.heap h' → h'.get? a = some { o with data := .set es1 n t2 } → R (some true) { s with heap := h' })
    (h2 : ∀ h' n, Heap.SameBut a s.heap h' → h'.get? a = some { o with data := .set (relayAll t2 es1 (SetTable.grown es1.size)).1 n (relayAll t2 es1 (SetTable.grown es1.size)).2.1 } → R (some true) { s with heap := h' }) :
    wpAny (model P w) A (storeSet a es1 t2 >>= fun _ => if (!wasDummy && t2.tooFull) = true then (g (relayAll t2 es1 (SetTable.grown es1.size)).2.2 >>= fun _ =>
      storeSet a (relayAll t2 es1 (SetTable.grown es1.size)).1 (relayAll t2 es1 (SetTable.grown es1.size)).2.1 >>= fun _ => pure (some true)) else pure (some true)) R E s := by
  have o1 := L2.store_at (es' := es1) (t' := t2) ho hd; have b1 := Heap.SameBut.update s.heap a (Obj.putSet es1 t2)
  refine wpAny_bind (wpAny_storeSet_of ho hd ?_ (by have := fits_of_scanBound hz; exact this))
  by_cases c : (!wasDummy && t2.tooFull) = true
  · rw [if_pos c]
    have pm := relayAll_perm t2 es1 (SetTable.grown es1.size)
    have z2 : (relayAll t2 es1 (SetTable.grown es1.size)).1.size < scanBound := by rw [← Array.length_toList, pm.length_eq, Array.length_toList]; exact hz
    refine wpAny_bind (hg _ _ _ (wpAny_bind (wpAny_storeSet_of o1 rfl ?_ (by have := fits_of_scanBound z2; exact this))))
    have o2 := L2.store_at (es' := (relayAll t2 es1 (SetTable.grown es1.size)).1) (t' := (relayAll t2 es1 (SetTable.grown es1.size)).2.1) o1 rfl
    exact wpAny_pure (h2 _ _ (b1.trans (Heap.SameBut.update ..)) o2)
  · rw [if_neg c]
    exact wpAny_pure (h1 _ _ b1 o1)
theorem setTx_add {x : Str} {tk : Tok} {Q : Bool → Shared → Prop} (R : SetTx w s.heap a ks) (room : ks.length + 1 < scanBound)
    (hQ : ∀ b h', Heap.SameBut a s.heap h' → SetTx w h' a (putT ks x) → Q b { s with heap := h' }) : wpAny (model P w) A (setAddHashed a (.str x tk) (hashStr w x)) Q E s := by
  obtain ⟨o, es, ep, t, ⟨ho, hex, hd⟩, g, ⟨pk, nd⟩, ⟨hb, hf⟩, hr, hl⟩ := R
  have key := strKind_is P w x tk
  have hel : ElemsOf (PySem.strKind P w) es.toList := txt_elems g
  have hn : es.size = ks.length := by rw [← pk.length_eq, List.length_map, Array.length_toList]
  unfold setAddHashed setAddHashedIn; refine wpAny_holding (wpAny_bind (wpAny_setState_of ho hd hf ?_)); dsimp only
  rw [byScan_of (x := .str x tk) rfl hb hel]; simp only [↓reduceIte]
  unfold setAddByScan; refine wpAny_bind (wpAny_bind (wpAny_rule (wpAny_bind ?_)))
  refine wpAny_setScan_of (k := x) key ho hd hf hel ?_
  cases hfi : List.findIdx? (fun e => (PySem.strKind P w).is x e.2) es.toList with
  | some j =>
    obtain ⟨hj, pj, _⟩ := List.findIdx?_eq_some_iff_getElem.mp hfi
    have hm : x ∈ ks := pk.mem_iff.mp (List.mem_map.mpr ⟨es.toList[j], List.getElem_mem hj, (txt_is (g _ (List.getElem_mem hj)) x).mp pj⟩)
    refine wpAny_pure (wpAny_pure (hQ false s.heap (Heap.SameBut.refl ..) ?_))
    unfold putT; rw [if_pos hm]
    exact ⟨o, es, ep, t, ⟨ho, hex, hd⟩, g, ⟨pk, nd⟩, ⟨hb, hf⟩, hr, hl⟩
  | none =>
    have hm : x ∉ ks := fun z => by
      obtain ⟨e, he, q⟩ := List.mem_map.mp (pk.mem_iff.mpr z)
      have c := List.findIdx?_eq_none_iff.mp hfi e he
      rw [(txt_is (g e he) x).mpr q] at c; cases c
    dsimp only
    have pm := layNew_perm t es (hashStr w x) (.str x tk); have f1 := layNew_fits t es (hashStr w x) (.str x tk)
    have r1 := layNew_ris t es (hashStr w x) (.str x tk) hr; have l1 := layNew_led t es (hashStr w x) (.str x tk)
    show wpAny _ _ _ _ _ _
    have hhash : (PySem.strKind P w).hash x = hashStr w x := rfl
    try rw [hhash]
    generalize layNew t es (hashStr w x) (.str x tk) = Z at pm f1 r1 l1 ⊢
    obtain ⟨es1, t1, dm, gv⟩ := Z
    dsimp only at pm f1 r1 l1 ⊢
    rw [Array.toList_push] at pm
    have pc := pm.trans (List.perm_append_singleton _ _)
    have g1 : ∀ e ∈ es1.toList, TxtE w e := fun e he => (List.mem_cons.mp (pc.mem_iff.mp he)).elim (fun z => ⟨x, tk, z⟩) (g e)
    have pk1 : (es1.toList.map txt).Perm (x :: ks) := (pc.map txt).trans (List.Perm.cons _ pk)
    have z1 : es1.size < scanBound := by rw [← Array.length_toList, pc.length_eq, List.length_cons, Array.length_toList, hn]; exact room
    have l1' : w.params.followText "set-order" = true ∨ t1.led = true := hl.imp id fun z => by rw [l1]; exact z
    have e2 : putT ks x = x :: ks := by unfold putT; rw [if_neg hm]
    rw [e2] at hQ
    have nd1 : (x :: ks).Nodup := List.nodup_cons.mpr ⟨hm, nd⟩
    have hg : ∀ (b : Bool) (z : Shared) (Z : Unit → Shared → Prop), Z () z → wpAny (model P w) A (match b with | true => rule "set.scan.the-table-gave-way" | false => pure ()) Z E z := fun b z Z q => by
      cases b
      · exact wpAny_pure q
      · exact wpAny_rule q
    -- whatever the table's mark
    have fin : ∀ t2 : SetTable, t2.fits es1.size = true → Ris t2.place.toList → (w.params.followText "set-order" = true ∨ t2.led = true) →
        (∀ h' n, Heap.SameBut a s.heap h' → h'.get? a = some { o with data := .set es1 n t2 } → Q true { s with heap := h' }) ∧
        (∀ h' n, Heap.SameBut a s.heap h' → h'.get? a = some { o with data := .set (relayAll t2 es1 (SetTable.grown es1.size)).1 n (relayAll t2 es1 (SetTable.grown es1.size)).2.1 } → Q true { s with heap := h' }) := fun t2 f2 r2 l2 => by
      refine ⟨fun h' n sb e => hQ true h' sb ⟨_, es1, n, t2, ⟨e, hex, rfl⟩, g1, ⟨pk1, nd1⟩, ⟨z1, f2⟩, r2, l2⟩, fun h' n sb e => hQ true h' sb ?_⟩
      have pm2 := relayAll_perm t2 es1 (SetTable.grown es1.size)
      have z2 : (relayAll t2 es1 (SetTable.grown es1.size)).1.size < scanBound := by rw [← Array.length_toList, pm2.length_eq, Array.length_toList]; exact z1
      exact ⟨_, _, n, _, ⟨e, hex, rfl⟩, fun e he => g1 e (pm2.mem_iff.mp he), ⟨(pm2.map txt).trans pk1, nd1⟩, ⟨z2, relayAll_fits ..⟩, relayAll_ris .., l2.imp id fun z => by rw [relayAll_led]; exact z⟩
    refine wpAny_bind (hg _ _ _ ?_)
    by_cases hp : t1.plain = true
    · rw [if_pos hp]
      refine wpAny_bind ?_; rw [hashByValue_scannable 8 (x := .str x tk) rfl]; refine wpAny_pure ?_
      have q := fin { t1 with plain := false } (SetTable.fits_plain_off f1) r1 l1'
      exact set_tail hg ho hd z1 (fun h' n sb e => wpAny_pure (q.1 h' n sb e)) (fun h' n sb e => wpAny_pure (q.2 h' n sb e))
    · rw [if_neg hp]
      have q := fin t1 f1 r1 l1'
      exact wpAny_bind (wpAny_pure (set_tail hg ho hd z1 (fun h' n sb e => wpAny_pure (q.1 h' n sb e)) (fun h' n sb e => wpAny_pure (q.2 h' n sb e))))
end
def putTs (ks xs : List Str) : List Str := xs.foldl putT ks
theorem putT_len (ks : List Str) (x : Str) : (putT ks x).length ≤ ks.length + 1 := by
  unfold putT; split
  · omega
  · simp
theorem putTs_len : ∀ (xs ks : List Str), (putTs ks xs).length ≤ ks.length + xs.length
  | [], ks => by simp [putTs]
  | x :: xs, ks => by
    have h1 := putTs_len xs (putT ks x); have h2 := putT_len ks x
    show (putTs (putT ks x) xs).length ≤ _
    simp only [List.length_cons]; omega

/-! ### set(xs) -/
section
variable {P : Program} {w : World} {A : Around} {I S : Addr} {fp wr : List Addr} {G : Array GenState → Array GenState → Prop} {n : Nat} {Pv : Nat → Value → Prop} {St : Nat → Shared → Prop} {R : Result → Shared → Prop}
/-- the loop that puts the things walked into the set at S -/
theorem upd_loop (W : WalksS P w A.in1 I fp wr G n Pv St) (nf : S ∉ fp) (xs : List Str) (hn : n = xs.length) (hx : ∀ i v, Pv i v → ∃ x t, xs[i]? = some x ∧ v = .str x t) (hb : xs.length + 1 < scanBound) :
    ∀ (m i : Nat) (s : Shared), i + m = n → St i s → SetTx w s.heap S (putTs [] (xs.take i)) →
      (∀ z, Moved (S :: wr) G s z → SetTx w z.heap S (putTs [] xs) → R (.ok (.ret .none)) z) → codeAny (model P w) A (.builtin "set.update.loop" ⟨[.ref S, .ref I], []⟩) R s := by
  have nw : S ∉ wr := fun h => nf (W.sub _ h)
  have up : ∀ b ∈ wr, b ∈ S :: wr := fun b h => List.mem_cons_of_mem _ h
  intro m
  induction m with
  | zero =>
    intro i s hi st T k
    refine codeAny_builtin F.entry_set_update_loop ?_; rw [Around.under_plainId F.plain_set_update_loop _]
    show wpAny _ A.in1 (pyNext (.ref I) >>= fun x => _) _ _ s
    refine wpAny_bind (W.done s _ _ (by rw [← hi]; exact st) fun z mv => wpAny_pure (k z (mv.mono up) ?_))
    have e : xs.take i = xs := by rw [show i = xs.length by omega]; exact List.take_length
    rw [e] at T
    exact T.at fun o e => mv.heap S o nw e
  | succ m ih =>
    intro i s hi st T k
    refine codeAny_builtin F.entry_set_update_loop ?_; rw [Around.under_plainId F.plain_set_update_loop _]
    show wpAny _ A.in1 (pyNext (.ref I) >>= fun x => _) _ _ s
    refine wpAny_bind (W.item i s _ _ (by omega) st fun v z pv st' mv => ?_)
    obtain ⟨x, t, ex, rfl⟩ := hx i v pv
    have T' : SetTx w z.heap S (putTs [] (xs.take i)) := T.at fun o e => mv.heap S o nw e
    have hi2 : i < xs.length := (List.getElem?_eq_some_iff.mp ex).1
    have e2 : putTs [] (xs.take (i + 1)) = putT (putTs [] (xs.take i)) x := by rw [take_snoc ex]; unfold putTs; rw [List.foldl_append]; rfl
    show wpAny _ A.in1 (holding [Value.str x t] (setAdd S (.str x t)) >>= fun _ => _) _ _ z
    refine wpAny_bind (wpAny_holding ?_); unfold setAdd; refine wpAny_holding (wpAny_bind ?_)
    refine (PySem.strKind P w).pyHash (k := x) (strKind_is P w x t) ?_
    refine setTx_add (s := { z with toks := z.toks + 1 }) T' ?_ fun b h' sb T2 => wpAny_pure ⟨plainId_quiet F.plain_set_update_loop _, ?_⟩
    · have := putTs_len (xs.take i) []
      simp only [List.length_take, List.length_nil] at this
      omega
    · refine ih (i + 1) _ (by omega) (W.frame _ z _ _ st' (Nat.le_succ _) fun b hb' o e => ?_) (by rw [e2]; exact T2) fun y mv2 T3 => k y ?_ T3
      · exact (sb.2 b fun q => nf (q ▸ hb')).trans e
      · refine Moved.trans W.gtrans ((mv.mono up).then_heap (Nat.le_succ _) fun b o q e => ?_) mv2
        exact (sb.2 b fun q2 => q (q2 ▸ List.mem_cons_self)).trans e
end
section
variable {P : Program} {w : World} {A : Around} {E : Value → Shared → Prop} {s : Shared}
set_option maxHeartbeats 3200000 in
/-- set(xs) of a list of texts -/
theorem call_set_txts {l : Addr} {items : Array Value} (xs : List Str) {Q : Value → Shared → Prop} (hh : A.handled = none) (hl : s.heap.IsList l items) (hx : ∀ (i : Nat) (v : Value), items[i]? = some v → ∃ x t, xs[i]? = some x ∧ v = Value.str x t) (hn : items.size = xs.length)
    (hb : xs.length + 1 < scanBound) (k : ∀ (h' : Heap) (tk : Nat), SetTx w h' s.heap.objs.size (putTs [] xs) → (∀ b o, s.heap.get? b = some o → h'.get? b = some o) → Q (.ref s.heap.objs.size) { s with heap := h', toks := tk }) :
    wpAny (model P w) A (call (.type "set") [.ref l]) Q E s := by
  obtain ⟨c, tl, hmro⟩ := F.called_set.mro
  have m1 := F.called_set.made; have m2 := F.called_set.sub; have m3 := F.called_set.notType; have m4 := F.called_set.canCreate; have m5 := F.typeCall_set_1 (.ref l)
  refine wpAny_call (codeAny_of_tree ?_); show wpAny _ _ (callAny (.type "set") _) _ _ s
  refine wpAny_pure ⟨Code.quiet_builtin _ (by decide +kernel), codeAny_builtin F.entry_type_call ?_⟩; rw [Around.under_plain (weight_type_call_type "set" [.ref l] []) rfl]
  repeat (any_goals (first | assumption | wp_step))
  refine codeAny_mono (L2.code_set_led1 (.ref l) (E := E) (Q₁ := fun obj z => obj = .ref s.heap.objs.size ∧ z = { s with heap := s.heap.push (freshSet w) }) ⟨rfl, rfl⟩) fun r z hr => ?_
  cases r with
  | error e => exact hr
  | ok fl =>
    cases fl with
    | ret obj =>
      obtain ⟨rfl, rfl⟩ := hr
      have hS : (s.heap.push (freshSet w)).get? s.heap.objs.size = some (freshSet w) := Heap.get?_push_size _ rfl
      have hT : Shared.TypeIs { s with heap := s.heap.push (freshSet w) } (.ref s.heap.objs.size) "set" := ⟨_, hS, rfl⟩
      have i1 := F.called_set.init.lookup; have i2 := F.called_set.init.bind (.ref s.heap.objs.size)
      repeat (any_goals (first | assumption | wp_step))
      refine codeAny_mono (codeAny_call_builtin (R := wants (fun r z => r = .none ∧ ∃ h' tk, z = { s with heap := h', toks := tk } ∧ SetTx w h' s.heap.objs.size (putTs [] xs) ∧
          ∀ b o, s.heap.get? b = some o → h'.get? b = some o) E) F.called_set.init.plain F.entry_set_init (check_set_init_1 hT ?_)) fun r2 z2 hr2 => ?_
      · obtain ⟨⟨oc, od, odat, osl⟩, hol, hcl, nl, hdl⟩ := hl
        simp only at hcl hdl
        subst hcl hdl
        have hol' : (s.heap.push (freshSet w)).get? l = some { cls := .type "list", dict := od, data := .seq items nl, slots := osl } := Heap.get?_push_of_some _ hol
        have s1 := F.sub_list_set; have s2 := F.sub_list_frozenset; have s3 : (Value.type "list" == Value.type "dict") = false := by decide
        have hl1 : (s.heap.push (freshSet w)).IsList l items := ⟨_, hol', rfl, nl, rfl⟩
        unfold Builtin.«set.__init__» noKeywords Builtin.Frozenset.updateFrom
        generalize hPI : pyIter = PI
        wp_walk
        subst hPI
        refine wpAny_pyIter_list hl1 (wpAny_bind (wpAny_runValue ?_))
        have hlt : l < s.heap.objs.size := Heap.lt_size hol
        have hz : (s.heap.push (freshSet w)).objs.size = s.heap.objs.size + 1 := Heap.size_push ..
        have h3 : A.in1.in1.in1.handled = none := by simp [hh]
        have ne : l ≠ (s.heap.push (freshSet w)).objs.size := by rw [hz]; exact Nat.ne_of_lt (Nat.lt_succ_of_lt hlt)
        have nf : s.heap.objs.size ∉ [(s.heap.push (freshSet w)).objs.size, l] := by
          rw [hz]; intro q
          rcases List.mem_cons.mp q with q | q
          · exact absurd q (Nat.ne_of_lt (Nat.lt_succ_self _))
          · exact absurd (List.mem_singleton.mp q) (Nat.ne_of_gt hlt)
        refine upd_loop ((Walks.list h3 _ l ne items).toS) nf xs hn hx hb items.size 0 _ (Nat.zero_add _) ⟨⟨_, Heap.get?_push_size _ rfl, rfl, rfl⟩, hl1.push _⟩ (fresh_tx w (Heap.get?_push_of_some _ hS)) fun z mv T => ?_
        obtain ⟨h', g2, d', tk', os'⟩ := z
        obtain rfl : g2 = s.gens := mv.gens
        obtain rfl : d' = s.drawn := mv.drawn
        obtain rfl : os' = s.os := mv.os
        show wpAny _ _ _ _ _ _
        refine wpAny_pure ?_; show wpAny _ _ (ret Value.none) _ _ _; refine wpAny_pure ⟨rfl, h', tk', rfl, T, fun b o e => ?_⟩
        have hb0 := Heap.lt_size e
        refine mv.heap b o (fun q => ?_) (Heap.get?_push_of_some _ (Heap.get?_push_of_some _ e))
        rcases List.mem_cons.mp q with q | q
        · exact absurd q (Nat.ne_of_lt hb0)
        · have q2 := List.mem_singleton.mp q; rw [hz] at q2; rw [q2] at hb0; exact absurd hb0 (Nat.not_lt_of_le (Nat.le_succ _))
      · cases r2 with
        | error e => exact hr2
        | ok f2 =>
          cases f2 with
          | ret r =>
            obtain ⟨rfl, h', tk, rfl, T, kp⟩ := hr2
            repeat (any_goals (first | assumption | wp_step))
            exact k h' tk T kp
          | _ => exact hr2.elim
    | _ => exact hr.elim
end
end Mir

set_option Elab.async false
set_option autoImplicit false
set_option linter.all false
set_option maxRecDepth 100000
set_option maxHeartbeats 4000000
/-! sorted(set(xs)), len(set(xs)), sorted({.. for ..}) of texts. -/
namespace Mir
open PySem PySem.Spec PyProof.Rows L2
open PySem.W (EachIs sortVals)
/-! ### the data -/
def putL (ks : List (List Nat)) (x : List Nat) : List (List Nat) := if x ∈ ks then ks else x :: ks
def nubL (xs : List (List Nat)) : List (List Nat) := xs.foldl putL []
def canonT (xs : List (List Nat)) : List (List Nat) := (nubL xs).mergeSort leL
def okTx (xs : List (List Nat)) : Bool := decide (xs.length + 1 < 4096) && xs.all fun x => x.all fun c => decide (c < 0x110000)
theorem mem_putL {ks : List (List Nat)} {x y : List Nat} : y ∈ putL ks x ↔ y = x ∨ y ∈ ks := by
  unfold putL
  by_cases h : x ∈ ks
  · rw [if_pos h]
    exact ⟨.inr, fun z => z.elim (fun e => e ▸ h) id⟩
  · rw [if_neg h, List.mem_cons]
theorem mem_foldL : ∀ (xs ks : List (List Nat)) {y : List Nat}, y ∈ xs.foldl putL ks ↔ y ∈ xs ∨ y ∈ ks
  | [], ks, y => by simp
  | x :: xs, ks, y => by
    rw [List.foldl_cons, mem_foldL xs, mem_putL, List.mem_cons]
    constructor
    · rintro (h | h | h)
      · exact .inl (.inr h)
      · exact .inl (.inl h)
      · exact .inr h
    · rintro ((h | h) | h)
      · exact .inr (.inl h)
      · exact .inl h
      · exact .inr (.inr h)
theorem mem_nubL {xs : List (List Nat)} {y : List Nat} : y ∈ nubL xs ↔ y ∈ xs := by unfold nubL; rw [mem_foldL]; simp
theorem mem_canon {xs : List (List Nat)} {y : List Nat} : y ∈ canonT xs ↔ y ∈ xs := by unfold canonT; rw [(List.mergeSort_perm _ _).mem_iff, mem_nubL]
theorem putTs_map : ∀ (xs ks : List (List Nat)), putTs (ks.map toS) (xs.map toS) = (xs.foldl putL ks).map toS
  | [], ks => rfl
  | x :: xs, ks => by
    have e : putT (ks.map toS) (toS x) = (putL ks x).map toS := by
      unfold putT putL
      by_cases h : x ∈ ks
      · rw [if_pos h, if_pos (List.mem_map.mpr ⟨x, h, rfl⟩)]
      · rw [if_neg h, if_neg (fun z => by obtain ⟨y, hy, e⟩ := List.mem_map.mp z; rw [toS_inj] at e; exact h (e ▸ hy))]; rfl
    show putTs (putT (ks.map toS) (toS x)) (xs.map toS) = _
    rw [e]; exact putTs_map xs (putL ks x)
theorem toS_cps (x : Str) : toS x.cps.toList = x := by cases x; simp [toS]
theorem cps_back (l : List (List Nat)) : l.map ((fun x : Str => x.cps.toList) ∘ toS) = l := by
  conv => rhs; rw [← List.map_id l]
  exact List.map_congr_left fun y _ => by simp
theorem keyToks_str (x : List Nat) : PySem.W.keyToks (toP (.str x)) = [.inr x] := by simp [toP, PySem.W.keyToks]

/-! ### as tracked objects -/
def SetTO (w : World) (a : Addr) (ks : List Str) : HO := .ext fun h => SetTx w h a ks
theorem setTO_new {w : World} {P : Program} {H : Hp} {h : Heap} {a : Addr} {ks : List Str} (R : SetTx w h a ks) : ObjOk P w H h a (SetTO w a ks) := ⟨R, R.ob, fun h1 h2 p k => SetTx.at p k⟩
section
variable {X : Cx} {pins : List (Addr × Obj)} {σ : L2.St} {H : Hp} {s : Shared}
theorem setTO_get {a : Addr} {ks : List Str} (I : Inv X pins σ H s) (h : H a = some (SetTO X.w a ks)) : SetTx X.w s.heap a ks := (I.hok a _ h).1
def rSetTx (K : PySem.W.Frag) (w : World) : List V → Hp → VK → Prop := fun xs H Q => ∃ (l : Addr) (ss : List Str), xs = [V.ref l] ∧ SqL K H l (ss.map V.str) ∧ ss.length + 1 < scanBound ∧ ∀ p, H p = none → Q (.ref p) (upd H p (SetTO w p (putTs [] ss)))
theorem vals_str : ∀ {ss : List Str} {us : List Value}, Vals (ss.map V.str) us → us.length = ss.length ∧ ∀ (i : Nat) (v : Value), us[i]? = some v → ∃ x t, ss[i]? = some x ∧ v = Value.str x t
  | [], _, .nil => ⟨rfl, fun i v h => by simp at h⟩
  | x :: ss, _, .cons r t => by
    obtain ⟨h1, h2⟩ := vals_str (ss := ss) t
    refine ⟨by simp [h1], fun i v h => ?_⟩
    cases i with
    | zero => obtain ⟨tk, e⟩ := r; exact ⟨x, tk, rfl, by simpa [e] using h.symm⟩
    | succ i => exact h2 i v (by simpa using h)
theorem cr_setTx (hh : X.A.handled = none) : CallR X (.type "set") (rSetTx X.K X.w) := by
  intro pins s σ H xs us Q I r ⟨l, ss, e, hl, hb, q⟩
  subst e
  obtain rfl := Vals.ref1 r
  obtain ⟨its, rv, pl, hz⟩ := I.list hl
  obtain ⟨n1, n2⟩ := vals_str rv
  refine call_set_txts ss hh pl.isList (fun i v h => n2 i v (by simpa using h)) (by simp [n1]) hb fun h' tk T kp => ?_
  exact ⟨.ref _, upd H s.heap.objs.size (SetTO X.w s.heap.objs.size (putTs [] ss)), I.laid (t' := tk) kp (Nat.le_refl _) (setTO_new T), rfl, q _ (I.hok.fresh (Nat.le_refl _))⟩
/-- sorted(a set) -/
def rSortTx (w : World) : List V → Hp → VK → Prop := fun xs H Q => ∃ (a : Addr) (ks : List (List Nat)), xs = [V.ref a] ∧ H a = some (SetTO w a (ks.map toS)) ∧ (∀ k ∈ ks, ∀ c ∈ k, c < 0x110000) ∧
  ∀ p, H p = none → Q (.ref p) (upd H p (.lst (((ks.mergeSort leL).map toS).map V.str)))
theorem each_tx {h : Heap} : ∀ {vs : List Value}, (∀ v ∈ vs, ∃ x t, v = Value.str x t) → EachIs (fun v (b : List Nat) => ∃ t, v = Value.str (toS b) t) vs (vs.map fun v => (txt (0, v)).cps.toList)
  | [], _ => .nil
  | v :: vs, g => by
    obtain ⟨x, t, rfl⟩ := g v List.mem_cons_self
    exact .cons ⟨t, by show Value.str x t = Value.str (toS x.cps.toList) t; rw [toS_cps]⟩ (each_tx (h := h) fun u hu => g u (List.mem_cons_of_mem _ hu))
theorem vals_tx : ∀ {bs : List (List Nat)} {vs : List Value}, EachIs (fun v (b : List Nat) => ∃ t, v = Value.str (toS b) t) vs bs → Vals ((bs.map toS).map V.str) vs
  | _, _, .nil => .nil
  | _, _, .cons h t => .cons h (vals_tx t)
theorem cr_sortTx (hh : X.A.handled = none) (hu : X.A.units + 100 < cLine) : CallR X (.builtin "sorted") (rSortTx X.w) := by
  intro pins s σ H xs us Q I r ⟨a, ks, e, ha, hv, q⟩
  subst e
  obtain rfl := Vals.ref1 r
  obtain ⟨o, es, ep, t, ⟨ho, hex, hd⟩, g, ⟨pk, nd⟩, ⟨hb, hf⟩, hr, hl⟩ := setTO_get I ha
  refine Calls.call_function_entry kind_sorted plain_sorted entry_sorted (args_sorted1 _) ?_; unfold Builtin.«sorted»; refine wpAny_bind (m := checkCount "sorted" 1 1 _) (wpAny_pure (wpAny_bind ?_))
  refine L2.collect_set (A := X.A.in1) hh ⟨o, ho, hex.1, hd⟩ hf hb hr hl fun s1 vs k1 hz g1 o1 pm => ?_
  have tx : ∀ v ∈ vs, ∃ x t, v = Value.str x t := fun v hv => by
    obtain ⟨e, he, q⟩ := List.mem_map.mp (pm.mem_iff.mp hv)
    obtain ⟨x, t, rfl⟩ := g e he
    exact ⟨x, t, q.symm⟩
  have E1 := each_tx (h := s1.heap) tx
  generalize hbs : (vs.map fun v => (txt (0, v)).cps.toList) = bs at E1
  have pb : (bs.map toS).Perm (ks.map toS) := by
    rw [← hbs, List.map_map]
    have z1 := pm.map fun v => txt (0, v)
    rw [List.map_map] at z1
    have z2 : (vs.map (toS ∘ fun v => (txt (0, v)).cps.toList)) = vs.map fun v => txt (0, v) := List.map_congr_left fun v _ => toS_cps _
    rw [z2]; exact z1.trans pk
  have pb2 : bs.Perm ks := by
    have z := pb.map fun x : Str => x.cps.toList
    rw [List.map_map, List.map_map] at z
    rwa [cps_back, cps_back] at z
  have lv : vs.length = es.size := by rw [pm.length_eq, List.length_map, Array.length_toList]
  have hz2 : vs.length ≤ sizeLine := by have := fits_of_scanBound hb; omega
  refine wpAny_bind (wpAny_newList ?_ hz2)
  have hoL : (s1.heap.push (seqObj "list" vs.toArray 0)).get? s1.heap.objs.size = some (seqObj "list" vs.toArray 0) := Heap.get?_push_size _ rfl
  generalize hH : PySem.W.sortingHeap (s1.heap.push (seqObj "list" vs.toArray 0)) s1.heap.objs.size vs = h2
  have E2 : EachIs (fun v d => ∃ as, Reads h2 v d as) vs (bs.map fun b => toP (.str b)) := PySem.W.each_map (R := fun v d => ∃ as, Reads h2 v d as) (fun b : List Nat => toP (.str b)) (E1.mono fun v b ⟨t, e⟩ => ⟨[], by rw [e]; exact Reads.str ..⟩)
  have okb : ∀ b ∈ bs, (toP (.str b)).canLay0 = true := fun b m => (gd_lay 50 (.str b) (by simpa [gd] using hv b (pb2.mem_iff.mp m))).1
  have S : PySem.W.SortsAt X.prog X.w X.A.in1.in1 { s1 with heap := h2 } (So.kindOf h2 (bs.map fun b => toP (.str b))) vs := So.sorts_cok (s := { s1 with heap := h2 }) E2 (fun d hd => by
      obtain ⟨b, m, rfl⟩ := List.mem_map.mp hd; exact okb b m) (fun d hd d' hd' => by
      obtain ⟨b, m, rfl⟩ := List.mem_map.mp hd; obtain ⟨b', m', rfl⟩ := List.mem_map.mp hd'; rfl) fun d hd => by
      obtain ⟨b, m, rfl⟩ := List.mem_map.mp hd
      show X.A.units + 1 + 1 + 0 < _; omega
  have hK : EachIs (fun (v : Value) (b : List Nat) => (So.kindOf h2 (bs.map fun b => toP (.str b))).keyOf v = some (PySem.W.keyToks (toP (.str b)))) vs bs := (PySem.W.each_mem E1).mono fun v b ⟨⟨t, e⟩, m⟩ =>
    So.kindOf_some (List.mem_map.mpr ⟨b, m, rfl⟩) (okb b m) (as := []) (by rw [e]; exact Reads.str ..)
  have hO := PySem.W.sortVals_each (κ := So.kindOf h2 (bs.map fun b => toP (.str b))) (rev := false) (fun b : List Nat => PySem.W.keyToks (toP (.str b))) E1 hK
  have eS : bs.mergeSort (PySem.W.sortLe (So.kindOf h2 (bs.map fun b => toP (.str b))).toKeyOrd false fun b : List Nat => PySem.W.keyToks (toP (.str b))) = bs.mergeSort leL := by
    refine PySem.W.sort_congr fun x _ y _ => ?_
    show (!So.ltT (PySem.W.keyToks (toP (.str y))) (PySem.W.keyToks (toP (.str x)))) = leL x y
    rw [keyToks_str, keyToks_str, So.lt_one]; rfl
  rw [eS] at hO
  have eK : bs.mergeSort leL = ks.mergeSort leL := List.Perm.eq_of_pairwise (le := fun a b => leL a b = true) (fun a b _ _ => leL_anti a b) (List.pairwise_mergeSort leL_trans leL_total _) (List.pairwise_mergeSort leL_trans leL_total _) ((List.mergeSort_perm _ _).trans (pb2.trans (List.mergeSort_perm _ _).symm))
  rw [eK] at hO
  refine wpAny_bind (wpAny_holding (wpAny_call_entry slot_list_sort ⟨_, hoL, rfl⟩ entry_list_sort ?body (args_list_sort _)))
  case body =>
    refine PySem.W.list_sort_vals (κ := So.kindOf h2 (bs.map fun b => toP (.str b))) hoL (by rw [hH]; exact S) hz2 ⟨_, rfl, ?_⟩
    generalize sortVals (So.kindOf h2 (bs.map fun b => toP (.str b))) false vs vs = out at hO
    obtain ⟨c, hc⟩ := sortedHeap_at (vs := vs) (out := out.toArray) hoL
    have vO := vals_tx hO
    have lO : (((ks.mergeSort leL).map toS).map V.str).length ≤ sizeLine := by
      have := fits_of_scanBound hb
      rw [List.length_map, List.length_map, List.length_mergeSort, ← pb2.length_eq, ← hbs, List.length_map]; omega
    refine wpAny_pure ⟨_, rfl, .ref s1.heap.objs.size, upd H s1.heap.objs.size (.lst (((ks.mergeSort leL).map toS).map V.str)), ?_, rfl, q _ (I.hok.fresh hz)⟩
    have I1 : Inv X pins σ H s1 := I.call' (ch := []) o1 (Un.kept k1) (I.hok.kept k1) (by rw [g1]; exact I.bare) (fun _ z => nomatch z)
    refine I1.laid (t' := s1.toks) (fun b u e => ?_) (Nat.le_refl _) ⟨lO, out, c, vO, hc⟩
    have hlt := Heap.lt_size e
    refine (sortedHeap_old (Nat.ne_of_lt hlt) (by rw [size_push']; exact Nat.lt_succ_of_lt hlt)).trans ?_
    exact Heap.get?_push_of_some _ e
end
end Mir

set_option Elab.async false
set_option autoImplicit false
set_option linter.all false
set_option maxRecDepth 100000
set_option maxHeartbeats 4000000
/-! sorted(set(xs)), len(set(xs)) of texts, as mirrors. -/
namespace Mir
open PySem PySem.Spec PyProof.Rows L2
def fSortSet : List D → FR
  | [.lst ds] => match strs? ds with
    | some xs => if okTx xs = true then .ow ((canonT xs).map .str) else .no
    | none => .no
  | _ => .no
theorem okTx_b {xs : List (List Nat)} (h : okTx xs = true) : (xs.map toS).length + 1 < scanBound := by
  unfold okTx at h
  rw [Bool.and_eq_true] at h
  have := of_decide_eq_true h.1
  rw [List.length_map]; unfold scanBound; omega
theorem okTx_c {xs : List (List Nat)} (h : okTx xs = true) : ∀ k ∈ xs, ∀ c ∈ k, c < 0x110000 := by
  unfold okTx at h
  rw [Bool.and_eq_true] at h
  intro k hk c hc
  have := List.all_eq_true.mp h.2 k hk
  exact of_decide_eq_true (List.all_eq_true.mp this c hc)
/-- the sorted members of a set that stands at a new place p -/
theorem sort_new {K : Fg} {w : World} {Hd H : Hp} {Q : VK} {xs : List (List Nat)} {p : Addr} (s1 : Same Hd H) (ok : okTx xs = true) (q : FPost K Hd H Q (.ow ((canonT xs).map .str))) (hp : H p = none) {H2 : Hp} (s2 : Same H H2) (h2 : H2 p = some (SetTO w p (putTs [] (xs.map toS)))) (hn : ∀ b, b ≠ p → H b = none → H2 b = none) :
    rSortTx w [.ref p] H2 Q := by
  refine ⟨p, nubL xs, rfl, ?_, fun k hk => okTx_c ok k (mem_nubL.mp hk), fun r hr => ?_⟩
  · rw [h2]
    have e : putTs [] (xs.map toS) = (nubL xs).map toS := putTs_map xs []
    rw [e]
  · have e0 : H r = none := by
      cases e : H r with
      | none => rfl
      | some o => rw [s2 r o e] at hr; cases hr
    have e1 : Hd r = none := by
      cases e : Hd r with
      | none => rfl
      | some o => rw [s1 r o e] at e0; cases e0
    have s3 : Same H (upd H2 r (.lst (((canonT xs).map toS).map V.str))) := fun b o e => by rw [upd_ne (ne_of_none e e0)]; exact s2 b o e
    exact q r _ _ Hd s3 (fun _ _ e => e) (fun b o e => s3 b o (s1 b o e)) (fun b n => .inl n) e0 upd_same e1 (AtL.strs _)
theorem set_sorts {K : Fg} {w : World} {xs : List V} {H : Hp} {Q : VK} (h : rCOf K fSortSet xs H Q) : rSetTx K w xs H fun x H2 => rSortTx w [x] H2 Q := by
  obtain ⟨Hd, ds, s1, o, q⟩ := h
  unfold fSortSet at q
  split at q
  · split at q
    · rename_i ys ey
      split at q
      · rename_i ok
        obtain ⟨v, rfl, o2⟩ := o.one
        obtain ⟨a, vs, rfl, e, t⟩ := o2.lst s1
        rw [strs_at t ey] at e
        exact ⟨a, ys.map toS, rfl, e, okTx_b ok, fun p hp => sort_new s1 ok q hp (same_up hp) upd_same fun b n z => by rw [upd_ne n]; exact z⟩
      · exact q.elim
    · exact q.elim
  · exact q.elim
section
variable {X : Cx} {XR : XRel} {W : WX} {e : Expr} {m : EM} {p p2 pos pos2 : Pos}
theorem tA_imp {K : Fg} {ms : AM} {σ : L2.St} {H : Hp} {R R' : List V → Hp → Prop} (h : tA K XR W ms σ H R) (k : ∀ vs H', R vs H' → R' vs H') : tA K XR W ms σ H R' := by
  obtain ⟨O, Γ, R0, P⟩ := h
  exact ⟨O, Γ, R0, P.imp fun rs Γ1 H1 O1 R1 S1 P1 vs hvs => k vs H1 (P1 vs hvs)⟩
theorem me_sortSet {k : Nat} (hr : Room k X.A) (hg : Gl X "sorted") (hm : X.mg "sorted" = none) (hg2 : Gl X "set") (hm2 : X.mg "set" = none) (ha : ME X XR W e m)
    (hs : starEach [e] X.env = (false, eval e X.env) :: starEach [] X.env := by rfl) (hs2 : starEach [.Call (.Name "set" p2) [e] [] pos2] X.env = (false, eval (.Call (.Name "set" p2) [e] [] pos2) X.env) :: starEach [] X.env := by rfl) :
    ME X XR W (.Call (.Name "sorted" p) [.Call (.Name "set" p2) [e] [] pos2] [] pos) (mFn fSortSet (mCons m mNil)) :=
  (pe_callB (cr_sortTx hr.hd (by have := hr.un; omega)) hg hm (by decide +kernel) (pa_cons (pe_callTy (cr_setTx hr.hd) hg2 hm2 (by decide +kernel) (ma_cons ha ma_nil hs) (he := hs)) pa_nil hs2) (he := hs2)).imp fun σ H Q h =>
    tA_imp (fn_tE h) fun vs H1 q => set_sorts q
end
end Mir

set_option Elab.async false
set_option autoImplicit false
set_option linter.all false
set_option maxRecDepth 100000
set_option maxHeartbeats 4000000
/-! x in a tuple; enumerate(list or tuple). -/
namespace Mir
open PySem PySem.Spec PyProof.Rows L2
def fInA : D → D → FR := fun d e => match e with
  | .tup ds => if gd 60 d && gds 60 ds then .va (.bl (ds.any fun z => eqD z d)) else .no
  | _ => fIn d e
section
variable {X : Cx}
theorem od_inA {k : Nat} (hr : Room k X.A) : OpR X (compareOp .In) (rOf X.KW fInA) := od_mk fun pins s σ H x y v u Q Hd d e I rx ry s1 a b q => by
  have hu : X.A.units + 65 < cLine := by have := hr.un; omega
  by_cases ht : ∃ ds, e = .tup ds
  · obtain ⟨ds, rfl⟩ := ht
    simp only [fInA] at q
    split at q
    · rename_i hz
      rw [Bool.and_eq_true] at hz
      have z := q.bl s1
      rw [← any_toPs] at z
      have g : gd 61 (.tup ds) = true := hz.2
      obtain ⟨as, r1⟩ := Dp.reads I _ x v (a.dp hz.1 s1) rx; obtain ⟨bs, r2⟩ := Dp.reads I (.tuple (toPs ds)) y u (b.dp (d := .tup ds) (n := 61) hz.2 s1) ry
      have c1 : SeqAt.shaped (toP d) = true := gd_shaped hz.1 (by decide)
      have c2 : SeqAt.shaped (PyData.tuple (toPs ds)) = true := gd_shaped (d := .tup ds) g (by decide)
      exact SeqAt.in_tuple_reads r2 r1 (SeqAt.canLay_of_shaped c2) (SeqAt.canLay_of_shaped c1) (room_in_shaped c1 hu) ⟨.bl _, H, I, rfl, z⟩
    · exact q.elim
  · have q2 : FPost X.KW Hd H Q (fIn d e) := by cases e <;> first | exact q | exact absurd ⟨_, rfl⟩ ht
    exact od_in hr pins s σ H x y v u Q I rx ry ⟨Hd, d, e, s1, a, b, q2⟩
end
/-! ### enumerate of a tuple -/
/-- the tuple at a, each item in a new pair -/
def IteT (K : PySem.W.Frag) (a : Addr) : It :=
  ⟨fun i H => ∃ (xs : List V) (x : V), SqT K H a xs ∧ xs[i]? = some x, fun i H v H' => ∃ T x, v = .ref T ∧ H T = none ∧ H' = upd H T (.tup [.int (i : Nat), x]) ∧ ∀ xs, SqT K H a xs → xs[i]? = some x, fun i H => ∃ xs : List V, SqT K H a xs ∧ i = xs.length⟩
def eSt (e it a : Addr) (i : Nat) (h : Heap) : Prop := (∃ old, IsEnum h e it ((i : Nat) : Int) old) ∧ h.IsTupleIter it a i ∧ e ≠ it ∧ a ≠ it ∧ a ≠ e
theorem turn_enumT {P : Program} {w : World} {K : PySem.W.Frag} {elts : List Expr} {kk : Nat} {tpos : Pos} (a e it : Addr) : Turn P w K (.Tuple elts kk tpos) (IteT K a) [e, it] e (eSt e it a) where
  mem := List.mem_cons_self
  obj := fun i h ⟨⟨old, he⟩, ⟨o, ho, hc, hd⟩, _⟩ b hb => by
    rcases List.mem_cons.mp hb with rfl | hb
    · exact ⟨_, he, fun v q => nomatch q⟩
    · rw [List.mem_singleton.mp hb]; exact ⟨o, ho, fun v q => by rw [hd] at q; cases q⟩
  keep := fun i h h' ⟨⟨old, he⟩, hi, ne⟩ k => ⟨⟨old, k e List.mem_cons_self _ he⟩, hi.at fun o q => k it (List.mem_cons_of_mem _ List.mem_cons_self) o q, ne⟩
  item := by
    intro X hP hw hK hc i pins s σ H E I hf ⟨⟨old, he⟩, hit, ne, na, nb⟩ ⟨xs, x, hq, hx⟩
    subst hP hw hK
    obtain ⟨its, rv, p, _⟩ := I.tuple hq
    obtain ⟨u, hu, ru⟩ := rv.get hx
    have hel : e < s.heap.objs.size := Heap.lt_size he
    have hil : it < s.heap.objs.size := by obtain ⟨_, q, _⟩ := hit; exact Heap.lt_size q
    have lt1 : i < its.toArray.size := by have := (List.getElem?_eq_some_iff.mp hu).1; simpa using this
    refine wpAny_pyNext_enum_itemD (Draws.tuple (A := X.A.in1) (I.ok.hd hc) it a na its.toArray) he ⟨hit, p⟩ lt1 ne (by simp [ne, Ne.symm nb]) fun x1 h' tk e1 ho st1 hT hsz hk => ?_
    have q1 : x1 = u := by rw [show its.toArray[i]? = some u by simpa using hu] at e1; cases e1; rfl
    subst q1
    refine ⟨_, rfl, wpAny_letOwnedTupleGo_enum (s := { s with heap := h', toks := tk + 1 }) ho fun h'' he' sb => ?_⟩
    have hT2 : h''.get? s.heap.objs.size = some { cls := .type "tuple", data := .seq #[.int i tk, x1] } := (sb.2 _ (Nat.ne_of_gt hel)).trans hT
    have new : ObjOk X.prog X.w (upd H s.heap.objs.size (.tup [.int (i : Nat), x])) h'' s.heap.objs.size (.tup [.int (i : Nat), x]) :=
      ⟨by show 2 ≤ sizeLine; decide, [.int i tk, x1], .cons ⟨_, rfl⟩ (.cons ru .nil), ⟨_, hT2, rfl, _, rfl⟩⟩
    have old2 : ∀ c o, c ≠ e → c ≠ it → s.heap.get? c = some o → h''.get? c = some o := fun c o n1 n2 q => (sb.2 c n1).trans (hk c o n1 n2 q)
    have I1 : Inv X pins σ (upd H s.heap.objs.size (.tup [.int (i : Nat), x])) { s with heap := h'', toks := tk + 1 } :=
      I.turnedNew (ch := [e, it]) (fun c o hb q => old2 c o (fun z => hb (z ▸ List.mem_cons_self)) (fun z => hb (z ▸ List.mem_cons_of_mem _ List.mem_cons_self)) q) hf (Nat.le_refl _) new
    refine ⟨.ref s.heap.objs.size, _, I1, rfl, ⟨_, x, rfl, I.hok.fresh (Nat.le_refl _), rfl, fun ys hy => by rw [I.tuple_inj hy hq]; exact hx⟩, ⟨⟨x1, ?_⟩, st1.1.at fun o q => (sb.2 it (Ne.symm ne)).trans q, ne, na, nb⟩, fun b hb => ?_⟩
    · rw [show ((i + 1 : Nat) : Int) = (i : Int) + 1 by omega]; exact he'
    · have hlt : b < s.heap.objs.size := by
        rcases List.mem_cons.mp hb with z | z
        · rw [z]; exact hel
        · rw [List.mem_singleton.mp z]; exact hil
      rw [upd_ne (Nat.ne_of_lt hlt)]; exact (hf b hb).1
  done := by
    intro X hP hw hK hc i pins s σ H E I hf ⟨⟨old, he⟩, hit, ne, na, nb⟩ ⟨xs, hq, hx⟩
    subst hP hw hK
    obtain ⟨its, rv, p, _⟩ := I.tuple hq
    obtain ⟨f0, f1, f2, f3, f4, f5⟩ := hf it (List.mem_cons_of_mem _ List.mem_cons_self)
    have hl : its.toArray.size = i := by rw [List.size_toArray, ← rv.length]; exact hx.symm
    refine wpAny_pyNext_enum_endD (Draws.tuple (A := X.A.in1) (I.ok.hd hc) it a na its.toArray) he ⟨by rw [hl]; exact hit, p⟩ fun h' eb => ⟨rfl, ?_⟩
    exact I.turned (t' := s.toks) (fun b o hb q => eb b o hb q) f0 f1 f3 f4 f5
  self := fun A i s Q E st h => wpAny_pyIter_enum st.1.choose_spec h
/-- enumerate(v) of what begins -/
theorem enum_new {v : Value} {o : Obj} {G : Heap → Prop} (B : Begins v o G) : Meets (Builtin.«enumerate.__new__» ⟨[.type "enumerate", v], []⟩) (fun _ R s => G s.heap ∧
    R (.ok (.ret (.ref (s.heap.push o).objs.size))) { s with heap := (s.heap.push o).push { cls := .type "enumerate", data := .fields #[.none, .bool false, .ref s.heap.objs.size, rawInt 0, .none, .none] } }) :=
  .of_wp fun prog w A R s h => by
    obtain ⟨hp, g, d, tk, os⟩ := s; obtain ⟨h1, h⟩ := h
    have sb := sub_enumerate
    have q1 : ∀ {A' : Around} {E : Value → Shared → Prop} {Q : Value → Shared → Prop}, Q (.ref hp.objs.size) ⟨hp.push o, g, d, tk, os⟩ → wpAny (model prog w) A' (pyIter v) Q E ⟨hp, g, d, tk, os⟩ := fun {A' E Q} z => B.iter prog w A' E ⟨hp, g, d, tk, os⟩ Q h1 z
    wp_walk using q1
    refine wpAny_stack_any fun st => wpAny_pure ?_
    split
    · rename_i c _ _ _ _ _
      cases (c == Value.type "enumerate")
      · wp_walk using q1
        exact ⟨_, rfl, h⟩
      · wp_walk using q1
        exact ⟨_, rfl, h⟩
    · wp_walk using q1
      exact ⟨_, rfl, h⟩
theorem call_enum_tup {prog : Program} {w : World} {A : Around} {E : Value → Shared → Prop} {s : Shared} {l : Addr} {items : Array Value} {Q : Value → Shared → Prop} (hL : s.heap.IsTuple l items)
    (h : ∀ h', IsEnum h' (s.heap.objs.size + 1) s.heap.objs.size 0 .none → h'.IsTupleIter s.heap.objs.size l 0 → (∀ b o, s.heap.get? b = some o → h'.get? b = some o) → Q (.ref (s.heap.objs.size + 1)) { s with heap := h' }) :
    wpAny (model prog w) A (call (.type "enumerate") [.ref l]) Q E s := by
  refine callType_new F.called_enumerate (by decide) (F.typeCall_enumerate_1 _) (F.newCall_enumerate_1 _) (fun obj => F.args_object_init_2 obj _) F.entry_enumerate_new (enum_new (begins_tuple l items)) ⟨hL, ?_⟩
  generalize ho : ({ cls := .type "tuple_iterator", data := .fields #[.ref l, .int 0 0] } : Obj) = o
  have hf : o.isFreed = false := by rw [← ho]; rfl
  have hz : (s.heap.push o).objs.size = s.heap.objs.size + 1 := Heap.size_push ..
  show _ ∧ _
  have g1 : (s.heap.push o).get? s.heap.objs.size = some o := Heap.get?_push_size _ hf
  have he := Heap.get?_push_size (s.heap.push o) (o := { cls := .type "enumerate", data := .fields #[.none, .bool false, .ref s.heap.objs.size, rawInt 0, .none, .none] }) rfl
  rw [hz] at he ⊢
  refine ⟨⟨_, he, rfl⟩, h _ he ⟨o, Heap.get?_push_of_some _ g1, by rw [← ho], by rw [← ho]; rfl⟩ fun b u x => Heap.get?_push_of_some _ (Heap.get?_push_of_some _ x)⟩
def iEnumA (K : PySem.W.Frag) (ta : TA) : TI := fun σ H R => ta σ H fun vs H1 => ∃ a xs, vs = [.ref a] ∧ ((SqL K H1 a xs ∧ R (Ite K a) H1) ∨ (SqT K H1 a xs ∧ R (IteT K a) H1))
theorem pi_enumA {X : Cx} {e : Expr} {ta : TA} {p pos tpos : Pos} {elts : List Expr} {kk : Nat} (hg : Gl X "enumerate") (hm : X.mg "enumerate" = none) (ha : PA X [e] ta) (hs : starEach [e] X.env = [(false, eval e X.env)] := by rfl) :
    PI X (.Tuple elts kk tpos) (.Call (.Name "enumerate" p) [e] [] pos) (iEnumA X.K ta) := by
  refine ⟨fun pins s σ H R I h => Call_ (ld_blt I hg hm PyProof.Rows.boot_enumerate (PyProof.Rows.callWith_type1 (thn (ha.run pos pins s σ H _ I h) fun us s1 ⟨vs, H1, I1, r1, a, xs, ex, q⟩ => ?_) hs rfl))⟩
  subst ex
  obtain rfl := Vals.ref1 r1
  have fp : ∀ b ∈ [s1.heap.objs.size + 1, s1.heap.objs.size], FpOk X pins H1 b := fun b hb => by
    have hle : s1.heap.objs.size ≤ b := by
      rcases List.mem_cons.mp hb with z | z
      · rw [z]; exact Nat.le_succ _
      · rw [List.mem_singleton.mp z]; exact Nat.le_refl _
    exact I1.fpOk hle (I1.hok.fresh hle)
  rcases q with ⟨hq, q⟩ | ⟨hq, q⟩
  · obtain ⟨its, rv, pl, hz⟩ := I1.list hq
    refine call_enumerate_list pl.isList fun h' he hit hsz hk => wpAny_pyIter_enum he ⟨s1.heap.objs.size + 1, _, _, _, H1, rfl, I1.kept (t' := s1.toks) hk, turn_enum a (s1.heap.objs.size + 1) s1.heap.objs.size, ⟨⟨.none, he⟩, hit, Nat.succ_ne_self _⟩, fp, q⟩
  · obtain ⟨its, rv, pl, hz⟩ := I1.tuple hq
    have hlt : a < s1.heap.objs.size := by obtain ⟨o, ho, _⟩ := id pl; exact Heap.lt_size ho
    refine call_enum_tup pl fun h' he hit hk => wpAny_pyIter_enum he ⟨s1.heap.objs.size + 1, _, _, _, H1, rfl, I1.kept (t' := s1.toks) hk, turn_enumT a (s1.heap.objs.size + 1) s1.heap.objs.size, ⟨⟨.none, he⟩, hit, Nat.succ_ne_self _, Nat.ne_of_lt hlt, Nat.ne_of_lt (Nat.lt_succ_of_lt hlt)⟩, fp, q⟩
def enumD (ds : List D) : List D := pairsD ((List.range ds.length).map fun (k : Nat) => D.int (k : Int)) ds
theorem enum_get {ds : List D} {i : Nat} {d : D} (h : (enumD ds)[i]? = some d) : ∃ x, ds[i]? = some x ∧ d = .tup [.int (i : Nat), x] := by
  obtain ⟨x, y, h1, h2, rfl⟩ := pairs_get h
  have hi := (List.getElem?_eq_some_iff.mp h2).1
  rw [List.getElem?_map, List.getElem?_range hi] at h1
  cases h1
  exact ⟨y, h2, rfl⟩
theorem enum_len {ds : List D} : (enumD ds).length = ds.length := by unfold enumD; rw [pairs_len]; simp
theorem enum_at {K : Fg} {ds : List D} {O : List Addr} {Γ : List Sl} {σ : L2.St} {H H' : Hp} {i : Nat} {d x : D} {T : Addr} {v : V} (R : Rl K O Γ σ H) (n : H T = none) (e2 : H' = upd H T (.tup [.int (i : Nat), v])) (hx : At K (off O H) x v) : Same H H' ∧ At K (off O H') (.tup [.int (i : Nat), x]) (.ref T) := by
  subst e2
  have sm : Same H (upd H T (.tup [.int (i : Nat), v])) := same_up n
  have nT : T ∉ O := fun m => R.tr T m n
  have so : Same (off O H) (off O (upd H T (.tup [.int (i : Nat), v]))) := off_mono (fun b o _ e => sm b o e) fun b h n => absurd h n
  exact ⟨sm, T, _, rfl, SqT.of (off_some.mpr ⟨nT, upd_same⟩), _, _, rfl, rfl, _, _, rfl, hx.mono so, rfl⟩
theorem walk_enumL {K : Fg} {a : Addr} {ds : List D} : Walk K (Ite K a) (enumD ds) (GL K a ds) where
  go := fun i O Γ σ H d e R ⟨vs, h, t⟩ => by
    obtain ⟨x, ex, _⟩ := enum_get e
    obtain ⟨v, e1, _⟩ := t.get ex
    exact ⟨vs, v, off_le.seq h, e1⟩
  yld := fun i O Γ σ H d z H' e R ⟨vs, h, t⟩ ⟨T, v, e1, n, e2, y1⟩ => by
    subst e1
    obtain ⟨x, ex, rfl⟩ := enum_get e
    obtain ⟨v', e3, q3⟩ := t.get ex
    have z3 := y1 vs (off_le.seq h)
    rw [e3] at z3; cases z3
    exact enum_at (d := x) (ds := ds) R n e2 q3
  stop := fun O Γ σ H R ⟨vs, h, t⟩ => ⟨vs, off_le.seq h, by rw [enum_len, t.length]; exact Nat.le_refl _⟩
  stb := fun O Γ σ H O' Γ' σ' H' ⟨vs, h, t⟩ e _ => ⟨vs, e.seq h, t.mono e⟩
theorem walk_enumT {K : Fg} {a : Addr} {ds : List D} : Walk K (IteT K a) (enumD ds) (GT K a ds) where
  go := fun i O Γ σ H d e R ⟨vs, h, t⟩ => by
    obtain ⟨x, ex, _⟩ := enum_get e
    obtain ⟨v, e1, _⟩ := t.get ex
    exact ⟨vs, v, Same.seqT off_le h, e1⟩
  yld := fun i O Γ σ H d z H' e R ⟨vs, h, t⟩ ⟨T, v, e1, n, e2, y1⟩ => by
    subst e1
    obtain ⟨x, ex, rfl⟩ := enum_get e
    obtain ⟨v', e3, q3⟩ := t.get ex
    have z3 := y1 vs (Same.seqT off_le h)
    rw [e3] at z3; cases z3
    exact enum_at (d := x) (ds := ds) R n e2 q3
  stop := fun O Γ σ H R ⟨vs, h, t⟩ => ⟨vs, Same.seqT off_le h, by rw [enum_len, t.length]⟩
  stb := fun O Γ σ H O' Γ' σ' H' ⟨vs, h, t⟩ e _ => ⟨vs, Same.seqT e h, t.mono e⟩
/-- enumerate(e), e a tuple or a list that becomes data -/
def mEnum (m : EM) : IM := fun Γ => (m Γ).bind fun r Γ1 => match esc Γ1 r with
  | some (.tup ds, Γ2) => .ok (enumD ds, none) Γ2
  | some (.lst ds, Γ2) => .ok (enumD ds, none) Γ2
  | _ => .no
theorem mi_enum {X : Cx} {XR : XRel} {W : WX} {e : Expr} {m : EM} {p pos tpos : Pos} {elts : List Expr} {kk : Nat} (hg : Gl X "enumerate") (hm : X.mg "enumerate" = none) (h : ME X XR W e m) (hs : starEach [e] X.env = [(false, eval e X.env)] := by rfl) (hs2 : starEach [e] X.env = (false, eval e X.env) :: starEach [] X.env := by rfl) :
    MI X XR W (.Tuple elts kk tpos) (.Call (.Name "enumerate" p) [e] [] pos) (mEnum m) :=
  (pi_enumA hg hm (pa_cons h pa_nil hs2) hs).imp fun σ H R' ⟨O, Γ, R, P⟩ => by
    refine ⟨O, Γ, R, (P.bind R).imp fun r Γ1 H1 O1 R1 S1 P1 v hv => ?_⟩
    cases e1 : esc Γ1 r with
    | none => rw [e1] at P1; exact P1.elim
    | some q =>
      obtain ⟨d, Γ2⟩ := q
      rw [e1] at P1
      obtain ⟨O2, R2, S2, q2⟩ := RvAt.esc R1 hv EStp.refl R1 e1
      cases d with
      | tup ds =>
        obtain ⟨a, vs, rfl, hq, ht⟩ := q2
        exact ⟨a, vs, rfl, .inr ⟨Same.seqT off_le hq, P1 H1 O2 R2 S2 (fun j ej => by cases ej) (IteT X.KW a) _ walk_enumT ⟨vs, hq, ht⟩⟩⟩
      | lst ds =>
        obtain ⟨a, vs, rfl, hq, ht⟩ := q2
        exact ⟨a, vs, rfl, .inl ⟨SqL.of (off_le _ _ hq), P1 H1 O2 R2 S2 (fun j ej => by cases ej) (Ite X.KW a) _ walk_enumL ⟨vs, SqL.of hq, ht⟩⟩⟩
      | _ => exact P1.elim
end Mir

set_option Elab.async false
set_option autoImplicit false
set_option linter.all false
set_option maxRecDepth 100000
set_option maxHeartbeats 4000000
/-! {.. for ..} of texts, as a tracked object. -/
namespace Mir
open PySem PySem.Spec PyProof.Rows L2
theorem setTx_new {P : Program} {w : World} {A : Around} {E : Value → Shared → Prop} {s : Shared} {Q : Value → Shared → Prop} (h : Q (.ref s.heap.objs.size) { s with heap := s.heap.push (freshSet w) }) : wpAny (model P w) A (newSet (.type "set")) Q E s := PpSet.newSet_ok h
/-- D.add(x) on tracked objects -/
theorem addT_ok {X : Cx} {pins : List (Addr × Obj)} {σ : L2.St} {H : Hp} {s : Shared} {E : Value → Shared → Prop} {D : Addr} {ks : List Str} {x : Str} {tk : Tok} {Q : Value → Shared → Prop} (I : Inv X pins σ H s) (hD : H D = some (SetTO X.w D ks)) (room : ks.length + 1 < scanBound)
    (h : ∀ z, Inv X pins σ (upd H D (SetTO X.w D (putT ks x))) z → Q .none z) : wpAny (model X.prog X.w) X.A (call (.builtin "set.add") [.ref D, .str x tk]) Q E s := by
  have R := setTO_get I hD
  have hS : s.TypeIs (.ref D) "set" := by obtain ⟨o, es, ep, t, ⟨ho, hex, hd⟩, _⟩ := R; exact ⟨o, ho, hex.1⟩
  refine wpAny_call_entry F.slot_set_add hS F.entry_set_add ?_ (F.args_set_add_2 _ _)
  unfold Builtin.«set.add» Builtin.Frozenset.oneOther; simp only [List.isEmpty_nil, bind_assoc]; unfold Builtin.Frozenset.addrOf setAdd
  refine wpAny_bind (wpAny_pure ?_)
  try dsimp only
  refine wpAny_bind (wpAny_pure ?_)
  try dsimp only
  refine wpAny_bind (wpAny_holding (wpAny_bind ((PySem.strKind X.prog X.w).pyHash (k := x) (strKind_is X.prog X.w x tk) ?_)))
  refine setTx_add (s := { s with toks := s.toks + 1 }) R room fun b h' sb T => ?_
  show wpAny _ _ (ret Value.none) _ _ _
  refine wpAny_pure ⟨_, rfl, h _ (I.write (e := D) (t' := s.toks + 1) (by rw [hD]; trivial) (.inl rfl) (fun c u hc hu => (sb.2 c hc).trans hu) T.ob (setTO_new T))⟩
/-- {elt for tg in iter if ..}, elt a text -/
def tScT (w : World) (wi : TI) (g : TG) (tt : TT) (te : TE) (vs : List Nat) : TE := fun σ H Q => wi σ H fun J H1 => ∀ D, H1 D = none → ∃ W : Nat → Nat → Hp → Prop, (∃ m, W 0 m (upd H1 D (SetTO w D []))) ∧ ∀ i m H, W i m H →
  (J.stop i H ∧ Q (.ref D) H) ∨ (J.go i H ∧ ∃ Nx : Hp → Prop, (∀ H', Nx H' → ∃ m', m' < m ∧ W (i + 1) m' H') ∧ ∀ x H', J.yld i H x H' → g x (wipe σ vs) H' fun σ2 H2 => wipe σ2 vs = wipe σ vs ∧ tt σ2 H2 fun b H3 =>
    if b = true then te σ2 H3 fun y H4 => ∃ (z : Str) (ks : List Str), y = .str z ∧ H4 D = some (SetTO w D ks) ∧ ks.length + 1 < scanBound ∧ Nx (upd H4 D (SetTO w D (putT ks z))) else Nx H3)
theorem scT_core {X : Cx} {pins : List (Addr × Obj)} {s : Shared} {σ : L2.St} {H : Hp} {Q : VK} {elt tg iter : Expr} {ifs : List Expr} {scope : Scope} {own : List (Str × Nat)} {pos pos' : Pos} {wi : TI} {g : TG} {tt : TT} {te : TE} {Qf : Value → Shared → Prop}
    (hc : X.calm = true) (hN : X.N.Nodup) (I : Inv X pins σ H s) (hi : PI X tg iter wi) (ok : BlkOk X.N X.env.scope scope own) (hg : ∀ (s : Shared) (H : Hp) (C : Addr) (cl : List (Str × Addr)) (fp : List Addr), PG (X.blk s H scope (compEnvC scope cl C X.env) fp) tg g)
    (ht : ∀ (s : Shared) (H : Hp) (C : Addr) (cl : List (Str × Addr)) (fp : List Addr), PTs (X.blk s H scope (compEnvC scope cl C X.env) fp) ifs tt) (he : ∀ (s : Shared) (H : Hp) (C : Addr) (cl : List (Str × Addr)) (fp : List Addr), PE (X.blk s H scope (compEnvC scope cl C X.env) fp) elt te)
    (hs : ∀ x, foldedSetIterable iter X.env x = pure x) (h : tScT X.w wi g tt te (own.map (·.2)) σ H Q)
    (fin : ∀ D C z m H', Inv X pins σ H' z → Q (.ref D) H' → z.heap.Ns C m → FpOk X pins H' C → compPost (model X.prog X.w) X.A X.xe none Qf (.ref D) C (.ok .next) z) :
    wpAny (model X.prog X.w) X.A (comprehension (.SetComp elt [⟨tg, iter, ifs, 0⟩] scope pos) scope X.env pos' (newSet (.type "set")) false (eval iter X.env)) Qf X.xe s := by
  have fr : ∀ y ∈ scope.names, y.2 = .free → ∃ c, X.env.cells.lookup y.1 = some c := fun y hy e => (ok.free y hy e).elim (fun k => I.ok.has _ (.inl k)) fun k => I.ok.has _ (.inr k)
  refine wpAny_comprehension_free (use := none) rfl hs (closure_ok fr) ok.kind (fun y hy e => by rw [ok.uniq y hy, e]) (thn (hi.run pins s σ H _ I h) fun v1 s1 h1 => thn h1 fun v2 s2 ⟨it, fp, tn, J, H2, e, I2, T, st2, f2, q⟩ => ?_)
  subst e
  refine setTx_new (newEnv_comp ?_)
  obtain ⟨D, hD⟩ : ∃ D, s2.heap.objs.size = D := ⟨_, rfl⟩
  rw [hD]
  have nD : H2 D = none := I2.hok.fresh (Nat.le_of_eq hD)
  obtain ⟨W, ⟨m0, w0⟩, turn⟩ := q D nD
  obtain ⟨s3, hs3⟩ : ∃ s3 : Shared, s3 = { s2 with heap := s2.heap.push (freshSet X.w) } := ⟨_, rfl⟩
  have g3 : s3.heap = s2.heap.push (freshSet X.w) := by rw [hs3]
  have up3 : ∀ b o, s2.heap.get? b = some o → s3.heap.get? b = some o := fun b o e => by rw [g3]; exact Heap.get?_push_of_some _ e
  have I3 : Inv X pins σ (upd H2 D (SetTO X.w D [])) s3 := by
    rw [hs3]; refine I2.laid (t' := s2.toks) (fun b o e => Heap.get?_push_of_some _ e) (Nat.le_of_eq hD) (setTO_new (fresh_tx X.w ?_))
    rw [← hD]; exact Heap.get?_push_size _ rfl
  have lt2 : ∀ b ∈ fp, b < s2.heap.objs.size := fun b hb => by obtain ⟨o, e, _⟩ := T.obj _ _ st2 b hb; exact Heap.lt_size e
  have f3 : ∀ b ∈ fp, FpOk X pins (upd H2 D (SetTO X.w D [])) b ∧ b < s3.heap.objs.size := fun b hb =>
    ⟨⟨by rw [upd_ne (by rw [← hD]; exact Nat.ne_of_lt (lt2 b hb))]; exact (f2 b hb).1, (f2 b hb).2⟩, by rw [g3, Heap.size_push]; exact Nat.lt_succ_of_lt (lt2 b hb)⟩
  have st3 : tn 0 s3.heap := T.keep _ _ _ st2 fun b _ o e => up3 b o e
  have I4 := block_start I3 ok hN f3
  show codeAny _ _ (.compStart (.SetComp elt [⟨tg, iter, ifs, 0⟩] scope pos) 0 (.ref it) (.ref D) _) _ _
  rw [← hs3]
  obtain ⟨cl, hcl⟩ : ∃ cl, cl = cellsFrom (s3.heap.objs.size + 1) scope.names (cloFrom X.env.cells scope.names []) := ⟨_, rfl⟩
  rw [← hcl] at I4 ⊢
  show codeAny _ _ (.compStart (.SetComp elt [⟨tg, iter, ifs, 0⟩] scope pos) 0 (.ref it) (.ref D) (compEnvC scope cl s3.heap.objs.size X.env)) (compPost (model X.prog X.w) X.A X.xe none Qf (.ref D) s3.heap.objs.size) { s3 with heap := pushCells (s3.heap.push { cls := .type "dict", data := .dict #[] }) scope.names }
  obtain ⟨H3, hH3⟩ : ∃ H3, H3 = upd H2 D (SetTO X.w D []) := ⟨_, rfl⟩
  rw [← hH3] at I3 I4 w0 f3
  have pg := hg s3 H3 s3.heap.objs.size cl fp; have pt := ht s3 H3 s3.heap.objs.size cl fp; have pe := he s3 H3 s3.heap.objs.size cl fp
  have nfp : ∀ b ∈ fp, H3 b = none := fun b hb => (f3 b hb).1.1
  obtain ⟨ce, hce⟩ : ∃ ce, ce = compEnvC scope cl s3.heap.objs.size X.env := ⟨_, rfl⟩
  rw [← hce] at I4 pg pt pe ⊢
  have cL : ce.locals = s3.heap.objs.size := by rw [hce]; rfl
  obtain ⟨s4, hs4⟩ : ∃ s4 : Shared, s4 = { s3 with heap := pushCells (s3.heap.push { cls := .type "dict", data := .dict #[] }) scope.names } := ⟨_, rfl⟩
  rw [← hs4] at I4 ⊢
  have st4 : tn 0 s4.heap := T.keep _ _ _ st3 fun b _ o e => by rw [hs4]; exact pushCells_keeps _ _ _ _ (Heap.get?_push_of_some _ e)
  obtain ⟨Y, hY⟩ : ∃ Y, Y = X.blk s3 H3 scope ce fp := ⟨_, rfl⟩
  have stat : ∀ {τ : L2.St} {G : Hp} {z : Shared}, Inv (X.blk s3 H3 scope ce fp) [] τ G z → (∀ b ∈ fp, G b = none) → ∀ b ∈ fp, FpOk (X.blk s3 H3 scope ce fp) [] G b := fun {τ G z} J' n b hb =>
    ⟨n b hb, (J'.ok.exf b hb).1, J'.ok.exfs b hb, .inl hb, fun x c e => (J'.ok.exf b hb).2 x c e, fun p hp => absurd (show p ∈ ([] : List (Addr × Obj)) ++ [] from hp) (by simp)⟩
  have loop : codeAny (model X.prog X.w) X.A (.compLoop (.SetComp elt [⟨tg, iter, ifs, 0⟩] scope pos) 0 (.ref it) (.ref D) ce) (compPost (model X.prog X.w) X.A X.xe none Qf (.ref D) s3.heap.objs.size) s4 := by
    refine PpSet.compLoopS_any (fun n z => ∃ i G, Inv (X.blk s3 H3 scope ce fp) [] (wipe σ (own.map (·.2))) G z ∧ tn i z.heap ∧ (∀ b ∈ fp, G b = none) ∧ W i n G) (fun n s5 ⟨i, H5, I5, st5, n5, w5⟩ => ?_) m0 ⟨0, H3, I4, st4, nfp, w0⟩
    rcases turn i n H5 w5 with ⟨stop, qq⟩ | ⟨go, Nx, hNx, step⟩
    · refine thnF (T.done (X.blk s3 H3 scope ce fp) rfl rfl rfl hc i [] s5 _ H5 (fun _ _ => False) I5 (stat I5 n5) st5 stop) fun r s6 ⟨hr, I6⟩ => ?_
      subst hr
      have I7 : Inv X pins σ H5 s6 := I3.call' (ch := fp) I6.os I6.base I6.hok I6.bare fun b hb => let f := (f3 b hb).1; ⟨f.2.2.2.1, f.2.1, f.2.2.2.2.1, f.2.2.2.2.2⟩
      have nC : H5 s3.heap.objs.size = none := by have z : H5 ce.locals = none := I6.free; rwa [cL] at z
      obtain ⟨m, hn, _⟩ := I6.loc
      have hn2 : s6.heap.Ns ce.locals m := hn
      rw [cL] at hn2
      exact fin D s3.heap.objs.size s6 m H5 I7 qq hn2 (I3.fpOk (Nat.le_refl _) nC)
    · refine thnF (T.item (X.blk s3 H3 scope ce fp) rfl rfl rfl hc i [] s5 _ H5 (fun _ _ => False) I5 (stat I5 n5) st5 go) fun r s6 ⟨u, hr, h6⟩ => ?_
      subst hr
      refine thnF h6 fun _ s7 ⟨x, H7, I7, r7, y7, st7, n7⟩ => thnF (pg.run _ s7 _ H7 x u _ (I7.pinned (stat I7 n7) (T.obj _ _ st7)) r7 (step x H7 y7)) fun _ s8 ⟨σ8, H8, I8, hw8, q8⟩ => thnF (pt.run _ s8 σ8 H8 _ I8 q8) fun b s9 ⟨H9, I9, q9⟩ => ?_
      have close : ∀ {z : Shared} {G : Hp}, Inv (X.blk s3 H3 scope ce fp) ([] ++ pinsAt fp s7.heap) σ8 G z → Nx G → ∃ m, m < n ∧ ∃ i G, Inv (X.blk s3 H3 scope ce fp) [] (wipe σ (own.map (·.2))) G z ∧ tn i z.heap ∧ (∀ b ∈ fp, G b = none) ∧ W i m G := fun {z G} J' nx => by
        obtain ⟨m', hm, w'⟩ := hNx G nx
        have pin : ∀ b ∈ fp, ∀ o, s7.heap.get? b = some o → z.heap.get? b = some o ∧ G b = none := fun b hb o e => let y := J'.pin (b, o) (List.mem_append_right _ (List.mem_append_right _ (mem_pinsAt hb e))); ⟨y.1, y.2.1⟩
        refine ⟨m', hm, i + 1, G, (J'.unpinned (pins := [])).weak (by rw [← hw8, wipe_length]) (fun j v e => by rw [← hw8] at e; exact (wipe_some e).1), T.keep _ _ _ st7 fun b hb o e => (pin b hb o e).1, fun b hb => ?_, w'⟩
        obtain ⟨o, e, _⟩ := T.obj _ _ st7 b hb
        exact (pin b hb o e).2
      cases b with
      | false => simp only [Bool.false_eq_true, if_false] at q9 ⊢; exact close I9 q9
      | true =>
        simp only [if_true] at q9 ⊢
        refine thnF (pe.run _ s9 σ8 H9 _ I9 q9) fun z s10 ⟨yv, H10, I10, r10, zz, ks, ey, hD10, hz10, nx⟩ => ?_
        subst ey
        obtain ⟨tk, rfl⟩ := r10
        exact addT_ok (X := X.blk s3 H3 scope ce fp) I10 hD10 hz10 fun s11 I11 => close I11 nx
  exact PpSet.codeAny_compStart_set loop (T.self X.A 0 _ _ _ st4 loop)
theorem pe_scT {X : Cx} {elt tg iter : Expr} {ifs : List Expr} {scope : Scope} {own : List (Str × Nat)} {pos : Pos} {wi : TI} {g : TG} {tt : TT} {te : TE} (hc : X.calm = true) (hN : X.N.Nodup) (hi : PI X tg iter wi) (ok : BlkOk X.N X.env.scope scope own)
    (hg : ∀ (s : Shared) (H : Hp) (C : Addr) (cl : List (Str × Addr)) (fp : List Addr), PG (X.blk s H scope (compEnvC scope cl C X.env) fp) tg g) (ht : ∀ (s : Shared) (H : Hp) (C : Addr) (cl : List (Str × Addr)) (fp : List Addr), PTs (X.blk s H scope (compEnvC scope cl C X.env) fp) ifs tt)
    (he : ∀ (s : Shared) (H : Hp) (C : Addr) (cl : List (Str × Addr)) (fp : List Addr), PE (X.blk s H scope (compEnvC scope cl C X.env) fp) elt te) (hs : ∀ x, foldedSetIterable iter X.env x = pure x) : PE X (.SetComp elt [⟨tg, iter, ifs, 0⟩] scope pos) (tScT X.w wi g tt te (own.map (·.2))) := by
  refine ⟨fun pins s σ H Q I h => ?_⟩
  rw [PpSet.eval_SetComp]
  refine scT_core hc hN I hi ok hg ht he hs h fun D C z m H' I' q hn f => ⟨m, hn, fun h'' sb => ?_⟩
  have f' := f.2.2
  exact ⟨.ref D, H', I'.turned (t' := z.toks) (fun b o hb e => (sb.2 b hb).trans e) f.1 f.2.1 f'.2.1 f'.2.2.1 f'.2.2.2, rfl, q⟩
end Mir

set_option Elab.async false
set_option autoImplicit false
set_option linter.all false
set_option maxRecDepth 100000
set_option maxHeartbeats 4000000
/-! sorted({.. for ..}) of texts; len(set(xs)). -/
namespace Mir
open PySem PySem.Spec PyProof.Rows L2
def loopT (own : List Nat) (f : GM) (t : List Sl → Rs Bool) (m : EM) : List D → List (List Nat) → List Sl → Rs (List (List Nat))
  | [], acc, Γ => .ok acc Γ
  | d :: ds, acc, Γ => match f d Γ with
    | none => .no
    | some Γ1 => match t Γ1 with
      | .ok true Γ2 => (match m Γ2 with
        | .ok r Γ3 => (match r with
          | .va (.str x) => if acc.length + 1 < 4096 then loopT own f t m ds (acc ++ [x]) (wipeG Γ3 own) else .no
          | _ => .no)
        | _ => .no)
      | .ok false Γ2 => loopT own f t m ds acc (wipeG Γ2 own)
      | _ => .no
def mSortSc (own : List Nat) (mi : IM) (f : GM) (t : List Sl → Rs Bool) (m : EM) : EM := fun Γ => (mi Γ).bind fun p Γ1 =>
  if own.all (notHd Γ1) then (match loopT own f t m p.1 [] (wipeG (bor p.2 p.1 Γ1) own) with
    | .ok acc Γ2 => if okTx acc = true then .ok (.ow ((canonT acc).map .str)) (backG Γ1 (unb p.2 p.1 Γ2) own) else .no
    | _ => .no) else .no
section
variable {K : Fg} {XR : XRel} {W : WX} {T own : List Nat} {mi : IM} {f : GM} {t : List Sl → Rs Bool} {m : EM}
theorem sc_tE {w : World} (hT : ∀ i, i ∈ T → i ∈ own) {σ : L2.St} {H : Hp} {Q : VK} (h : tE K XR W (mSortSc own mi f t m) σ H Q) : tScT w (tI K XR W mi) (gM K [] T f) (tT K XR W0 t) (tE K XR W0 m) own σ H fun x H2 => rSortTx w [x] H2 Q := by
  obtain ⟨O, Γ, R, P⟩ := h
  refine ⟨O, Γ, R, (P.bind R).imp fun p Γ1 H1 O1 R1 S1 P1 hb J G WK hG D hD => ?_⟩
  obtain ⟨ds, b⟩ := p
  by_cases hn : own.all (notHd Γ1) = true
  · simp only [hn, if_true] at P1
    obtain ⟨ebw, hbw⟩ := bor_wipe hb hn
    rw [ebw] at P1
    -- the start: own names forgotten, the new list hidden
    have Rw : Rl K O1 (wipeG Γ1 own) (L2.wipe σ own) H1 := R1.wipe
    have sD : Same H1 (upd H1 D (SetTO w D [])) := same_up hD
    have Rh : Rl K (D :: O1) (wipeG Γ1 own) (L2.wipe σ own) (upd H1 D (SetTO w D [])) := Rw.hide sD hD (by rw [upd_same]; exact fun z => by cases z)
    obtain ⟨Rb, Sb⟩ := bor_rl Rh hbw
    have hlen : (wipeG Γ1 own).length = Γ1.length := wipeG_len _ _
    have hbl : (bor b ds (wipeG Γ1 own)).length = Γ1.length := by
      cases b with
      | none => exact hlen
      | some i => show ((wipeG Γ1 own).set i _).length = _; rw [List.length_set]; exact hlen
    have hown : ∀ i, i ∈ own → (bor b ds (wipeG Γ1 own))[i]? = some .no := fun i hi => by
      have hil : i < Γ1.length := by
        have := List.all_eq_true.mp hn i hi
        unfold notHd at this
        cases z : Γ1[i]? with
        | none => rw [z] at this; cases this
        | some s => exact (List.getElem?_eq_some_iff.mp z).1
      rw [← ebw]
      refine wipeG_in ?_ hi
      cases b with
      | none => exact hil
      | some j => show i < (Γ1.set j _).length; rw [List.length_set]; exact hil
    have nD : D ∉ O1 := fun z => R1.tr D z hD
    -- no slot of the start holds D
    have nh0 : ∀ (j : Nat) (s : Sl), (bor b ds (wipeG Γ1 own))[j]? = some s → s.hd = true → (L2.wipe σ own)[j]? ≠ some (some (.ref D)) := fun j s e hs z => by
      obtain ⟨Rb2, _⟩ := bor_rl Rw hbw
      obtain ⟨o, e1, q⟩ := Rb2.sl j s e
      rw [z] at e1; cases e1
      cases s with
      | owc es => obtain ⟨a, vs, e2, _, ha, _⟩ := q; cases e2; rw [hD] at ha; cases ha
      | bwc es => obtain ⟨a, vs, e2, _, ha, _⟩ := q; cases e2; rw [hD] at ha; cases ha
      | _ => cases hs
    have hG1 : G (D :: O1) (bor b ds (wipeG Γ1 own)) (L2.wipe σ own) (upd H1 D (SetTO w D [])) := by
      refine WK.stb O1 (bor b ds Γ1) σ H1 _ _ _ _ hG (off_mono (fun b o _ e => sD b o e) fun b h n => ?_) fun i es e => ?_
      · rcases List.mem_cons.mp h with z | z
        · rw [z]; exact hD
        · exact absurd z n
      · have hi : i ∉ own := fun z => by
          have := hown i z
          rw [← ebw, wipeG_in (by exact (List.getElem?_eq_some_iff.mp e).1) z] at this
          have h2 := List.all_eq_true.mp hn i z
          unfold notHd at h2
          cases b with
          | none =>
            have e' : Γ1[i]? = some (.bwc es) := e
            rw [e'] at h2; cases h2
          | some k =>
            have e' : (Γ1.set k (.bw ds))[i]? = some (.bwc es) := e
            by_cases hk : k = i
            · subst hk
              rw [hb k rfl] at h2; cases h2
            · rw [get_set_ne hk] at e'
              rw [e'] at h2; cases h2
        rw [← ebw, wipeG_out hi, wipe_out hi]
        exact ⟨e, rfl⟩
    refine ⟨fun i k H' => ∃ Ox Γ' rem acc, ds.drop i = rem ∧ k = rem.length ∧ i ≤ ds.length ∧ Rl K Ox Γ' (L2.wipe σ own) H' ∧ D ∈ Ox ∧ EStp (bor b ds (wipeG Γ1 own)) (L2.wipe σ own) (upd H1 D (SetTO w D [])) (D :: O1) Γ' (upd H' D (SetTO w D [])) Ox ∧
        G Ox Γ' (L2.wipe σ own) H' ∧ H' D = some (SetTO w D (putTs [] (acc.map toS))) ∧ loopT own f t m rem acc Γ' = loopT own f t m ds [] (bor b ds (wipeG Γ1 own)),
      ⟨ds.length, D :: O1, _, ds, [], rfl, rfl, Nat.zero_le _, Rb, List.mem_cons_self, ?_, hG1, upd_same, rfl⟩, ?_⟩
    · rw [upd_upd]; exact EStp.refl
    rintro i k H' ⟨Ox, Γ', rem, acc, e1, e2, hi, R', mD, S', g', eD, hl⟩
    have hlen' : Γ'.length = (bor b ds (wipeG Γ1 own)).length := by rw [R'.len, ← Rb.len]
    have nh' : ∀ (j : Nat) (s : Sl), Γ'[j]? = some s → s.hd = true → (L2.wipe σ own)[j]? ≠ some (some (.ref D)) := fun j s e hs => by
      obtain ⟨s0, e0, h0⟩ := S'.hdb hlen' e hs
      exact nh0 j s0 e0 h0
    have hno' : ∀ i, i ∈ own → Γ'[i]? = some .no := fun i hi => S'.oth i _ (hown i hi) fun _ z => by cases z
    cases rem with
    | nil =>
      have ei : i = ds.length := by
        have := congrArg List.length e1
        rw [List.length_drop] at this
        simp at this; omega
      subst ei
      refine .inl ⟨WK.stop Ox Γ' _ H' R' g', ?_⟩
      rw [← hl] at P1
      simp only [loopT] at P1
      -- what was lent is given back, the own names are as they were
      have Ru : Rl K Ox (unb b ds Γ') (L2.wipe σ own) H' := by
        refine unb_rl Rh hbw (fun a ma => S'.mu a ma) (fun i e => ?_) (fun i es e => ⟨S'.bwb i es e, rfl⟩) R'
        subst e
        exact ⟨S'.oth i _ (get_set_eq (hbw i rfl)) (fun _ z => by cases z), rfl⟩
      have eo : Same (off O1 H1) (off Ox H') := by
        have q1 : Same (off (D :: O1) (upd H1 D (SetTO w D []))) (off Ox (upd H' D (SetTO w D []))) := S'.toStp.same Rb
        intro b' o e
        obtain ⟨z1, z2⟩ := off_some.mp e
        have nb : b' ≠ D := fun z => by rw [z, hD] at z2; cases z2
        have q2 := q1 b' o (off_some.mpr ⟨fun z => (List.mem_cons.mp z).elim nb z1, by rw [upd_ne nb]; exact z2⟩)
        obtain ⟨z3, z4⟩ := off_some.mp q2
        rw [upd_ne nb] at z4
        exact off_some.mpr ⟨z3, z4⟩
      have Rf : Rl K Ox (backG Γ1 (unb b ds Γ') own) σ H' := R1.back hn eo Ru
      have hlu : (unb b ds Γ').length = Γ1.length := by
        cases b with
        | none => show Γ'.length = _; rw [hlen', hbl]
        | some i => show (Γ'.set i _).length = _; rw [List.length_set, hlen', hbl]
      have nhf : ∀ (j : Nat) (s : Sl), (backG Γ1 (unb b ds Γ') own)[j]? = some s → s.hd = true → σ[j]? ≠ some (some (.ref D)) := fun j s e hs z => by
        have hj : j ∉ own := fun hv => by
          have hjl : j < (unb b ds Γ').length := by rw [← backG_len Γ1 (unb b ds Γ') own]; exact (List.getElem?_eq_some_iff.mp e).1
          rw [backG_in (by rw [hlu]) hjl hv] at e
          have h2 := List.all_eq_true.mp hn j hv
          unfold notHd at h2
          rw [e] at h2
          simp [hs] at h2
        rw [backG_out hj] at e
        have zw : (L2.wipe σ own)[j]? = some (some (.ref D)) := by rw [wipe_out hj]; exact z
        cases b with
        | none => exact nh' j s e hs zw
        | some i =>
          have e' : (Γ'.set i (.ow ds))[j]? = some s := e
          by_cases hij : i = j
          · subst hij
            exact nh' i (.bwc ⟨.lst, ds⟩) (S'.oth i _ (get_set_eq (hbw i rfl)) (fun _ z => by cases z)) rfl zw
          · rw [get_set_ne hij] at e'; exact nh' j s e' hs zw
      have hO : ∀ b', b' ∈ Ox ↔ b' ∈ D :: Ox.filter fun c => decide (c ≠ D) := fun b' => by
        by_cases z : b' = D
        · subst z; exact ⟨fun _ => List.mem_cons_self, fun _ => mD⟩
        · exact ⟨fun h => List.mem_cons_of_mem _ (List.mem_filter.mpr ⟨h, decide_eq_true z⟩), fun h => (List.mem_cons.mp h).elim (fun q => absurd q z) fun q => (List.mem_filter.mp q).1⟩
      have Rc := Rl.congr hO Rf
      have Rs := Rc.show nhf
      -- the step, seen from the outside
      have inO1 : ∀ b', b' ∈ Ox.filter (fun c => decide (c ≠ D)) → b' ∈ O1 := fun b' h => by
        obtain ⟨h1, h2⟩ := List.mem_filter.mp h
        exact (List.mem_cons.mp (S'.sub b' h1)).resolve_left (by simpa using h2)
      have muw : ∀ b', Mu (bor b ds (wipeG Γ1 own)) (L2.wipe σ own) b' → Mu Γ1 σ b' := fun b' ⟨j, es, z1, z2⟩ => by
        obtain ⟨_, Sb2⟩ := bor_rl Rw hbw
        rcases Sb2.mu b' ⟨j, es, z1, z2⟩ with ⟨j', es', z3, z4⟩ | z
        · have hj : j' ∉ own := fun hv => by
            have hjl : j' < Γ1.length := by rw [← hlen]; exact (List.getElem?_eq_some_iff.mp z3).1
            rw [wipeG_in hjl hv] at z3; cases z3
          rw [wipeG_out hj] at z3; rw [wipe_out hj] at z4
          exact ⟨j', es', z3, z4⟩
        · obtain ⟨o, q1, a', vs', q2, _, q3, _⟩ := (bor_rl Rw hbw).1.sl j _ z1
          rw [z2] at q1; cases q1; cases q2
          rw [z] at q3; cases q3
      have ES : EStp Γ1 σ H1 O1 (backG Γ1 (unb b ds Γ') own) H' (Ox.filter fun c => decide (c ≠ D)) := by
        refine ⟨⟨fun b' o n e => ?_, fun b' ⟨j, es, z1, z2⟩ => ?_, fun b' e => ?_, fun b' m => .inl (inO1 b' m), fun b' h1 h2 => ?_⟩, inO1, fun j es e => ?_, fun j s e n => ?_, fun j es e => ?_⟩
        · have nb : b' ≠ D := fun z => by rw [z, hD] at e; cases e
          have := S'.keep b' o (fun mm => n (muw b' mm)) (by rw [upd_ne nb]; exact e)
          rw [upd_ne nb] at this; exact this
        · have hj : j ∉ own := fun hv => by
            have hjl : j < (unb b ds Γ').length := by rw [← backG_len Γ1 (unb b ds Γ') own]; exact (List.getElem?_eq_some_iff.mp z1).1
            rw [backG_in (by rw [hlu]) hjl hv] at z1
            have h2 := List.all_eq_true.mp hn j hv
            unfold notHd at h2
            rw [z1] at h2; cases h2
          rw [backG_out hj] at z1
          have zw : (L2.wipe σ own)[j]? = some (some (.ref b')) := by rw [wipe_out hj]; exact z2
          cases b with
          | none =>
            rcases S'.mu b' ⟨j, es, z1, zw⟩ with q | q
            · exact .inl (muw b' q)
            · by_cases nb : b' = D
              · subst nb; exact .inr hD
              · rw [upd_ne nb] at q; exact .inr q
          | some i =>
            have z1' : (Γ'.set i (.ow ds))[j]? = some (.owc es) := z1
            by_cases hij : i = j
            · subst hij; exact .inl ⟨i, ⟨.lst, ds⟩, hb i rfl, z2⟩
            · rw [get_set_ne hij] at z1'
              rcases S'.mu b' ⟨j, es, z1', zw⟩ with q | q
              · exact .inl (muw b' q)
              · by_cases nb : b' = D
                · subst nb; exact .inr hD
                · rw [upd_ne nb] at q; exact .inr q
        · have nb : b' ≠ D := fun z => by rw [z] at e; exact e hD
          have := S'.stay b' (by rw [upd_ne nb]; exact e)
          rw [upd_ne nb] at this; exact this
        · have nb : b' ≠ D := fun z => nD (z ▸ h1)
          exact muw b' (S'.lose b' (List.mem_cons_of_mem _ h1) fun z => h2 (List.mem_filter.mpr ⟨z, decide_eq_true nb⟩))
        · have hj : j ∉ own := fun hv => by
            have h2 := List.all_eq_true.mp hn j hv
            unfold notHd at h2
            rw [e] at h2; cases h2
          rw [backG_out hj]
          cases b with
          | none => exact S'.pres j es (by show (wipeG Γ1 own)[j]? = _; rw [wipeG_out hj]; exact e)
          | some i =>
            by_cases hij : i = j
            · subst hij
              exact .inl ⟨⟨.lst, ds⟩, get_set_eq (S'.oth i _ (get_set_eq (hbw i rfl)) (fun _ z => by cases z))⟩
            · show (∃ es, (Γ'.set i _)[j]? = _) ∨ ∃ es, (Γ'.set i _)[j]? = _
              rw [get_set_ne hij]
              exact S'.pres j es (by show ((wipeG Γ1 own).set i _)[j]? = _; rw [get_set_ne hij, wipeG_out hj]; exact e)
        · by_cases hj : j ∈ own
          · rw [backG_in (by rw [hlu]) (by rw [hlu]; exact (List.getElem?_eq_some_iff.mp e).1) hj]; exact e
          · rw [backG_out hj]
            cases b with
            | none => exact S'.oth j s (by show (wipeG Γ1 own)[j]? = _; rw [wipeG_out hj]; exact e) n
            | some i =>
              have hij : i ≠ j := fun z => by subst z; rw [hb i rfl] at e; cases e; exact n ⟨.lst, ds⟩ rfl
              show (Γ'.set i _)[j]? = _
              rw [get_set_ne hij]
              exact S'.oth j s (by show ((wipeG Γ1 own).set i _)[j]? = _; rw [get_set_ne hij, wipeG_out hj]; exact e) n
        · by_cases hj : j ∈ own
          · have hjl : j < (unb b ds Γ').length := by rw [← backG_len Γ1 (unb b ds Γ') own]; exact (List.getElem?_eq_some_iff.mp e).1
            rw [backG_in (by rw [hlu]) hjl hj] at e; exact e
          · rw [backG_out hj] at e
            cases b with
            | none =>
              have q := S'.bwb j es e
              have q' : (wipeG Γ1 own)[j]? = some (.bwc es) := q
              rw [wipeG_out hj] at q'; exact q'
            | some i =>
              have e' : (Γ'.set i (.ow ds))[j]? = some (.bwc es) := e
              by_cases hij : i = j
              · subst hij
                rw [get_set_eq (S'.oth i _ (get_set_eq (hbw i rfl)) (fun _ z => by cases z))] at e'; cases e'
              · rw [get_set_ne hij] at e'
                have q := S'.bwb j es e'
                have q' : ((wipeG Γ1 own).set i (.bw ds))[j]? = some (.bwc es) := q
                rw [get_set_ne hij, wipeG_out hj] at q'; exact q'
      split at P1
      · rename_i okx
        refine ⟨D, nubL acc, rfl, by rw [eD]; exact congrArg (fun z => some (SetTO w D z)) (putTs_map acc []), fun k hk => okTx_c okx k (mem_nubL.mp hk), fun r hr => ?_⟩
        have n1 : H1 r = none := none_back ES.toStp r hr
        have nr : r ∉ Ox.filter fun c => decide (c ≠ D) := fun z => Rs.tr r z hr
        have sr : Same H' (upd H' r (.lst (((canonT acc).map toS).map V.str))) := same_up hr
        refine P1 _ _ (Rs.same sr) (ES.trans R1 (EStp.of_same sr)) (.ref r) ⟨r, _, rfl, nr, none_back S1.toStp r n1, upd_same, AtL.strs _, Rs.hide sr hr (by rw [upd_same]; exact fun z => nomatch z)⟩
      · exact P1.elim
    | cons d rem =>
      have ed : ds[i]? = some d := by
        have := congrArg (·[0]?) e1
        simpa using this
      have e3 : ds.drop (i + 1) = rem := by
        have := congrArg List.tail e1
        simpa using this
      have hi2 : i < ds.length := (List.getElem?_eq_some_iff.mp ed).1
      refine .inr ⟨WK.go i Ox Γ' _ H' d ed R' g', fun H3 => ∃ O3 Γ3 acc3, Rl K O3 Γ3 (L2.wipe σ own) H3 ∧ D ∈ O3 ∧ EStp (bor b ds (wipeG Γ1 own)) (L2.wipe σ own) (upd H1 D (SetTO w D [])) (D :: O1) Γ3 (upd H3 D (SetTO w D [])) O3 ∧
        G O3 Γ3 (L2.wipe σ own) H3 ∧ H3 D = some (SetTO w D (putTs [] (acc3.map toS))) ∧ loopT own f t m rem acc3 Γ3 = loopT own f t m ds [] (bor b ds (wipeG Γ1 own)), ?_, ?_⟩
      · rintro H3 ⟨O3, Γ3, acc3, a1, a2, a3, a4, a5, a7⟩
        exact ⟨rem.length, by rw [e2]; simp, O3, Γ3, rem, acc3, e3, rfl, hi2, a1, a2, a3, a4, a5, a7⟩
      · intro x H2 hy
        obtain ⟨sm, hx2⟩ := WK.yld i Ox Γ' _ H' d x H2 ed R' g' hy
        have R2 := R'.same sm
        have eD2 : H2 D = some (SetTO w D (putTs [] (acc.map toS))) := sm D _ eD
        have hDn : H' D ≠ none := by rw [eD]; exact fun z => by cases z
        have ES1 : EStp Γ' (L2.wipe σ own) H' Ox Γ' H2 Ox := EStp.of_same sm
        have S2 : EStp (bor b ds (wipeG Γ1 own)) (L2.wipe σ own) (upd H1 D (SetTO w D [])) (D :: O1) Γ' (upd H2 D (SetTO w D [])) Ox := S'.trans Rb (ES1.shadow hDn)
        have g2 : G Ox Γ' (L2.wipe σ own) H2 := WK.stb Ox Γ' _ H' Ox Γ' _ H2 g' (ES1.toStp.same R') fun i es e => ⟨e, rfl⟩
        have hDn2 : H2 D ≠ none := by rw [eD2]; exact fun z => by cases z
        simp only [loopT] at hl
        cases ef : f d Γ' with
        | none => rw [ef] at hl; rw [← hl] at P1; exact P1.elim
        | some Γ3 =>
          rw [ef] at hl
          refine ⟨Ox, Γ', d, Γ3, R2, hx2, ef, fun σ3 R3 S3 tch => ?_⟩
          have hw3 : L2.wipe σ3 own = L2.wipe σ own := (turn_C R2 R3 hT hno' wipe_wipe tch S3 (EStp.refl) R3).1
          refine ⟨hw3, Ox, Γ3, R3, ?_⟩
          cases et : t Γ3 with
          | ex c pl Γ4 => simp only [et] at hl; rw [← hl] at P1; exact P1.elim
          | no => simp only [et] at hl; rw [← hl] at P1; exact P1.elim
          | ok k4 Γ4 =>
            intro H4 O4 R4 S4
            cases k4 with
            | false =>
              simp only [et] at hl
              obtain ⟨_, S5, R5⟩ := turn_C R2 R3 hT hno' wipe_wipe tch S3 S4 R4
              have mD4 : D ∈ O4 := Classical.byContradiction fun z => by
                obtain ⟨j, es, z1, z2⟩ := S5.lose D mD z
                exact nh' j _ z1 rfl z2
              have eD4 : H4 D = some (SetTO w D (putTs [] (acc.map toS))) := S5.keep D _ (fun ⟨j, es, z1, z2⟩ => nh' j _ z1 rfl z2) eD2
              exact iteF ⟨O4, wipeG Γ4 own, acc, R5, mD4, S2.trans Rb (S5.shadow hDn2), WK.stb Ox Γ' _ H2 O4 _ _ H4 g2 (S5.toStp.same R2) (fun i es e => ⟨S5.oth i _ e (fun _ z => by cases z), rfl⟩), eD4, hl⟩
            | true =>
              simp only [et] at hl
              refine iteT ⟨O4, Γ4, R4, ?_⟩
              cases em : m Γ4 with
              | ex c pl Γ5 => simp only [em] at hl; rw [← hl] at P1; exact P1.elim
              | no => simp only [em] at hl; rw [← hl] at P1; exact P1.elim
              | ok r Γ5 =>
                simp only [em] at hl
                intro H5 O5 R5 S5 v hv
                cases r with
                | va d5 =>
                  cases d5 with
                  | str x5 =>
                    simp only at hl
                    split at hl
                    · rename_i hz
                      obtain rfl : v = V.str (toS x5) := hv
                      obtain ⟨_, S7, R7⟩ := turn_C R2 R3 hT hno' wipe_wipe tch S3 (S4.trans R3 S5) R5
                      have mD6 : D ∈ O5 := Classical.byContradiction fun z => by
                        obtain ⟨j, es, z1, z2⟩ := S7.lose D mD z
                        exact nh' j _ z1 rfl z2
                      have eD6 : H5 D = some (SetTO w D (putTs [] (acc.map toS))) := S7.keep D _ (fun ⟨j, es, z1, z2⟩ => nh' j _ z1 rfl z2) eD2
                      have hl6 : (wipeG Γ5 own).length = Γ'.length := by rw [R7.len, R'.len]
                      have nh6 : ∀ (j : Nat) (s : Sl), (wipeG Γ5 own)[j]? = some s → s.hd = true → (L2.wipe σ own)[j]? ≠ some (some (.ref D)) := fun j s e hs => by
                        obtain ⟨s0, e0, h0⟩ := S7.hdb hl6 e hs
                        exact nh' j s0 e0 h0
                      obtain ⟨R8, eo8⟩ := R7.other (o := SetTO w D (putT (putTs [] (acc.map toS)) (toS x5))) mD6 nh6
                      have e9 : putTs [] ((acc ++ [x5]).map toS) = putT (putTs [] (acc.map toS)) (toS x5) := by rw [List.map_append]; unfold putTs; rw [List.foldl_append]; rfl
                      have ln : (putTs [] (acc.map toS)).length + 1 < scanBound := by
                        have := putTs_len (acc.map toS) []
                        rw [List.length_map] at this
                        simp only [List.length_nil] at this
                        unfold scanBound; omega
                      refine ⟨toS x5, _, rfl, eD6, ln, O5, wipeG Γ5 own, acc ++ [x5], R8, mD6, ?_, ?_, by rw [e9]; exact upd_same, hl⟩
                      · rw [upd_upd]; exact S2.trans Rb (S7.shadow hDn2)
                      · exact WK.stb O5 _ _ H5 O5 _ _ _ (WK.stb Ox Γ' _ H2 O5 _ _ H5 g2 (S7.toStp.same R2) (fun i es e => ⟨S7.oth i _ e (fun _ z => by cases z), rfl⟩)) eo8 fun i es e => ⟨e, rfl⟩
                    · rw [← hl] at P1; exact P1.elim
                  | _ => rw [← hl] at P1; exact P1.elim
                | _ => rw [← hl] at P1; exact P1.elim
  · simp only [hn] at P1
    exact P1.elim
end
section
variable {X : Cx} {XR : XRel} {W : WX} {T : List Nat} {elt tg iter : Expr} {ifs : List Expr} {scope : Scope} {own : List (Str × Nat)} {pos pos2 p : Pos} {mi : IM} {f : GM} {t : List Sl → Rs Bool} {m : EM}
theorem me_sortSc {k : Nat} (hr : Room k X.A) (hsn : Gl X "sorted") (hsm : X.mg "sorted" = none) (hc : X.calm = true) (hN : X.N.Nodup) (hi : MI X XR W tg iter mi) (ok : BlkOk X.N X.env.scope scope own) (hT : ∀ i, i ∈ T → i ∈ own.map (·.2))
    (hg : ∀ (s : Shared) (H : Hp) (C : Addr) (cl : List (Str × Addr)) (fp : List Addr), MG (X.blk s H scope (compEnvC scope cl C X.env) fp) [] T tg f) (ht : ∀ (s : Shared) (H : Hp) (C : Addr) (cl : List (Str × Addr)) (fp : List Addr), MTs (X.blk s H scope (compEnvC scope cl C X.env) fp) XR W0 ifs t)
    (he : ∀ (s : Shared) (H : Hp) (C : Addr) (cl : List (Str × Addr)) (fp : List Addr), ME (X.blk s H scope (compEnvC scope cl C X.env) fp) XR W0 elt m) (hs : ∀ x, foldedSetIterable iter X.env x = pure x := by intro _; rfl)
    (hs2 : starEach [.SetComp elt [⟨tg, iter, ifs, 0⟩] scope pos] X.env = (false, eval (.SetComp elt [⟨tg, iter, ifs, 0⟩] scope pos) X.env) :: starEach [] X.env := by rfl) :
    ME X XR W (.Call (.Name "sorted" p) [.SetComp elt [⟨tg, iter, ifs, 0⟩] scope pos] [] pos2) (mSortSc (own.map (·.2)) mi f t m) :=
  (pe_callB (cr_sortTx hr.hd (by have := hr.un; omega)) hsn hsm (by decide +kernel) (pa_cons (pe_scT (g := gM X.KW [] T f) (tt := tT X.KW XR W0 t) (te := tE X.KW XR W0 m) hc hN hi ok hg ht he hs) pa_nil hs2) (he := hs2)).imp fun σ H Q h => sc_tE hT h
end
/-! ### len(set(xs)) -/
section
variable {X : Cx}
variable {XR : XRel} {W : WX} {e : Expr} {m : EM} {p p2 pos pos2 : Pos}
end
end Mir

set_option Elab.async false
set_option autoImplicit false
set_option linter.all false
set_option maxRecDepth 100000
set_option maxHeartbeats 4000000
/-! comprehensions of two clauses, the second over what is not lent. -/
namespace Mir
open PySem PySem.Spec PyProof.Rows L2
def loopD (own : List Nat) (f : GM) (t : List Sl → Rs Bool) (mi1 : IM) (own1 : List Nat) (f1 : GM) (t1 : List Sl → Rs Bool) (m : EM) : List D → List D → List Sl → Rs (List D)
  | [], acc, Γ => .ok acc Γ
  | d :: ds, acc, Γ => match f d Γ with
    | none => .no
    | some Γ1 => match t Γ1 with
      | .ok true Γ2 => (match mi1 Γ2 with
        | .ok p Γ3 => (match p.2 with
          | none => if own.all (notHd Γ3) then (match loopC own1 f1 t1 m p.1 acc (wipeG Γ3 own1) with
            | .ok acc2 Γ4 => loopD own f t mi1 own1 f1 t1 m ds acc2 (wipeG Γ4 own)
            | _ => .no) else .no
          | some _ => .no)
        | _ => .no)
      | .ok false Γ2 => loopD own f t mi1 own1 f1 t1 m ds acc (wipeG Γ2 own)
      | _ => .no
def mLc2 (own : List Nat) (mi : IM) (f : GM) (t : List Sl → Rs Bool) (mi1 : IM) (own1 : List Nat) (f1 : GM) (t1 : List Sl → Rs Bool) (m : EM) : EM := fun Γ => (mi Γ).bind fun p Γ1 =>
  if own.all (notHd Γ1) then (match loopD own f t mi1 own1 f1 t1 m p.1 [] (wipeG (bor p.2 p.1 Γ1) own) with
    | .ok acc Γ2 => .ok (.ow acc) (backG Γ1 (unb p.2 p.1 Γ2) own)
    | _ => .no) else .no
theorem wipeG_ext {Γ Δ : List Sl} {vs : List Nat} (hl : Γ.length = Δ.length) (h : ∀ j, j ∉ vs → Γ[j]? = Δ[j]?) : wipeG Γ vs = wipeG Δ vs := by
  refine List.ext_getElem? fun j => ?_
  by_cases hv : j ∈ vs
  · by_cases hj : j < Γ.length
    · rw [wipeG_in hj hv, wipeG_in (by rw [← hl]; exact hj) hv]
    · rw [List.getElem?_eq_none (by rw [wipeG_len]; omega), List.getElem?_eq_none (by rw [wipeG_len]; omega)]
  · rw [wipeG_out hv, wipeG_out hv, h j hv]
/-- the names of a block forgotten on both sides of a step, where none of them held -/
theorem EStp.wipe {own : List Nat} {Γ Γ' : List Sl} {σ : L2.St} {H H' : Hp} {O O' : List Addr} (S : EStp Γ σ H O Γ' H' O') (hn : own.all (notHd Γ) = true) (hl : Γ'.length = Γ.length) : EStp (wipeG Γ own) (L2.wipe σ own) H O (wipeG Γ' own) H' O' := by
  have out : ∀ {j : Nat} {s : Sl}, Γ[j]? = some s → s.hd = true → j ∉ own := fun {j s} e hs hv => by
    have := List.all_eq_true.mp hn j hv
    unfold notHd at this
    rw [e] at this
    simp [hs] at this
  have out' : ∀ {Δ : List Sl} {j : Nat} {s : Sl}, (wipeG Δ own)[j]? = some s → s.hd = true → j ∉ own := fun {Δ j s} e hs hv => by
    rw [wipeG_in (by rw [← wipeG_len Δ own]; exact (List.getElem?_eq_some_iff.mp e).1) hv] at e
    cases e; cases hs
  have muw : ∀ b, Mu Γ σ b → Mu (wipeG Γ own) (L2.wipe σ own) b := fun b ⟨j, es, z1, z2⟩ =>
    ⟨j, es, by rw [wipeG_out (out z1 rfl)]; exact z1, by rw [wipe_out (out z1 rfl)]; exact z2⟩
  refine ⟨⟨fun b o n e => S.keep b o (fun z => n (muw b z)) e, fun b ⟨j, es, z1, z2⟩ => ?_, S.stay, S.grow, fun b h n => muw b (S.lose b h n)⟩, S.sub, fun j es e => ?_, fun j s e n => ?_, fun j es e => ?_⟩
  · have hj := out' z1 rfl
    rw [wipeG_out hj] at z1; rw [wipe_out hj] at z2
    exact (S.mu b ⟨j, es, z1, z2⟩).imp (muw b) id
  · have hj := out' e rfl
    rw [wipeG_out hj] at e ⊢
    exact S.pres j es e
  · by_cases hj : j ∈ own
    · have hjl : j < Γ.length := by rw [← wipeG_len Γ own]; exact (List.getElem?_eq_some_iff.mp e).1
      rw [wipeG_in hjl hj] at e; cases e
      exact wipeG_in (by rw [hl]; exact hjl) hj
    · rw [wipeG_out hj] at e ⊢; exact S.oth j s e n
  · have hj := out' e rfl
    rw [wipeG_out hj] at e ⊢; exact S.bwb j es e
section
variable {K : Fg} {XR : XRel} {W : WX} {T own T1 own1 : List Nat} {mi mi1 : IM} {f f1 : GM} {t t1 : List Sl → Rs Bool} {m : EM}
theorem inner2 (hT1 : ∀ i, i ∈ T1 → i ∈ own1) {σ3 : L2.St} {D : Addr} {H5 : Hp} {O5 : List Addr} {Γ5 ΓE : List Sl} {ds acc0 accE : List Mir.D} {accV0 : List V} {J : It} {G : List Addr → List Sl → L2.St → Hp → Prop} {Nx : Hp → Prop}
    (R5 : Rl K O5 Γ5 σ3 H5) (mD5 : D ∈ O5) (h1 : own1.all (notHd Γ5) = true) (nh5 : ∀ (j : Nat) (s : Sl), Γ5[j]? = some s → s.hd = true → σ3[j]? ≠ some (some (.ref D))) (eD5 : H5 D = some (.lst accV0)) (tD5 : AtL K (off O5 H5) acc0 accV0) (WK : Walk K J ds G) (hG : G O5 Γ5 σ3 H5)
    (res : loopC own1 f1 t1 m ds acc0 (wipeG Γ5 own1) = .ok accE ΓE)
    (fin : ∀ O' H' accV', Rl K O' ΓE (L2.wipe σ3 own1) H' → D ∈ O' → EStp (wipeG Γ5 own1) (L2.wipe σ3 own1) (upd H5 D (.lst [])) O5 ΓE (upd H' D (.lst [])) O' → H' D = some (.lst accV') → AtL K (off O' H') accE accV' → Nx H') :
    ∃ W1 : Nat → Nat → Hp → Prop, (∃ k, W1 0 k H5) ∧ ∀ i k H, W1 i k H → (J.stop i H ∧ Nx H) ∨ (J.go i H ∧ ∃ N1 : Hp → Prop, (∀ H', N1 H' → ∃ k', k' < k ∧ W1 (i + 1) k' H') ∧ ∀ x H', J.yld i H x H' → gM K [] T1 f1 x (L2.wipe σ3 own1) H' fun σ2 H2 => L2.wipe σ2 own1 = L2.wipe σ3 own1 ∧ tT K XR W0 t1 σ2 H2 fun b H3 =>
      if b = true then tE K XR W0 m σ2 H3 fun y H4 => ∃ acc, H4 D = some (.lst acc) ∧ acc.length < sizeLine ∧ N1 (upd H4 D (.lst (acc ++ [y]))) else N1 H3) := by
    have Rw : Rl K O5 (wipeG Γ5 own1) (L2.wipe σ3 own1) H5 := R5.wipe
    have nh0 : ∀ (j : Nat) (s : Sl), (wipeG Γ5 own1)[j]? = some s → s.hd = true → (L2.wipe σ3 own1)[j]? ≠ some (some (.ref D)) := fun j s e hs z => by
      by_cases hv : j ∈ own1
      · rw [wipeG_in (by rw [← wipeG_len Γ5 own1]; exact (List.getElem?_eq_some_iff.mp e).1) hv] at e; cases e; cases hs
      · rw [wipeG_out hv] at e; rw [wipe_out hv] at z; exact nh5 j s e hs z
    obtain ⟨Rb, _⟩ := Rw.other (o := .lst []) mD5 nh0
    have nhd : ∀ (j : Nat) (s : Sl), Γ5[j]? = some s → s.hd = true → j ∉ own1 := fun j s e hs hv => by
      have := List.all_eq_true.mp h1 j hv
      unfold notHd at this
      rw [e] at this
      simp [hs] at this
    have hown : ∀ i, i ∈ own1 → (wipeG Γ5 own1)[i]? = some .no := fun i hi => by
      refine wipeG_in ?_ hi
      have := List.all_eq_true.mp h1 i hi
      unfold notHd at this
      cases z : Γ5[i]? with
      | none => rw [z] at this; cases this
      | some s => exact (List.getElem?_eq_some_iff.mp z).1
    have hG1 : G O5 (wipeG Γ5 own1) (L2.wipe σ3 own1) H5 := WK.stb O5 Γ5 σ3 H5 _ _ _ _ hG (fun _ _ e => e) fun i es e => ⟨by rw [wipeG_out (nhd i _ e rfl)]; exact e, wipe_out (nhd i _ e rfl)⟩
    refine ⟨fun i k H' => ∃ Ox Γ' rem acc accV, ds.drop i = rem ∧ k = rem.length ∧ i ≤ ds.length ∧ Rl K Ox Γ' (L2.wipe σ3 own1) H' ∧ D ∈ Ox ∧ EStp (wipeG Γ5 own1) (L2.wipe σ3 own1) (upd H5 D (.lst [])) O5 Γ' (upd H' D (.lst [])) Ox ∧
        G Ox Γ' (L2.wipe σ3 own1) H' ∧ H' D = some (.lst accV) ∧ AtL K (off Ox H') acc accV ∧ loopC own1 f1 t1 m rem acc Γ' = .ok accE ΓE,
      ⟨ds.length, O5, _, ds, acc0, accV0, rfl, rfl, Nat.zero_le _, Rw, mD5, EStp.refl, hG1, eD5, tD5, res⟩, ?_⟩
    rintro i k H' ⟨Ox, Γ', rem, acc, accV, e1, e2, hi, R', mD, S', g', eD, tD, hl⟩
    have hlen' : Γ'.length = (wipeG Γ5 own1).length := by rw [R'.len, ← Rb.len]
    have nh' : ∀ (j : Nat) (s : Sl), Γ'[j]? = some s → s.hd = true → (L2.wipe σ3 own1)[j]? ≠ some (some (.ref D)) := fun j s e hs => by
      obtain ⟨s0, e0, h0⟩ := S'.hdb hlen' e hs
      exact nh0 j s0 e0 h0
    have hno' : ∀ i, i ∈ own1 → Γ'[i]? = some .no := fun i hi => S'.oth i _ (hown i hi) fun _ z => by cases z
    cases rem with
    | nil =>
      have ei : i = ds.length := by
        have := congrArg List.length e1
        rw [List.length_drop] at this
        simp at this; omega
      subst ei
      simp only [loopC] at hl
      cases hl
      exact .inl ⟨WK.stop _ _ _ H' R' g', fin _ H' accV R' mD S' eD tD⟩
    | cons d rem =>
      have ed : ds[i]? = some d := by
        have := congrArg (·[0]?) e1
        simpa using this
      have e3 : ds.drop (i + 1) = rem := by
        have := congrArg List.tail e1
        simpa using this
      have hi2 : i < ds.length := (List.getElem?_eq_some_iff.mp ed).1
      refine .inr ⟨WK.go i Ox Γ' _ H' d ed R' g', fun H3 => ∃ O3 Γ3 acc3 accV3, Rl K O3 Γ3 (L2.wipe σ3 own1) H3 ∧ D ∈ O3 ∧ EStp (wipeG Γ5 own1) (L2.wipe σ3 own1) (upd H5 D (.lst [])) O5 Γ3 (upd H3 D (.lst [])) O3 ∧
        G O3 Γ3 (L2.wipe σ3 own1) H3 ∧ H3 D = some (.lst accV3) ∧ AtL K (off O3 H3) acc3 accV3 ∧ loopC own1 f1 t1 m rem acc3 Γ3 = .ok accE ΓE, ?_, ?_⟩
      · rintro H3 ⟨O3, Γ3, acc3, accV3, a1, a2, a3, a4, a5, a6, a7⟩
        exact ⟨rem.length, by rw [e2]; simp, O3, Γ3, rem, acc3, accV3, e3, rfl, hi2, a1, a2, a3, a4, a5, a6, a7⟩
      · intro x H2 hy
        obtain ⟨sm, hx2⟩ := WK.yld i Ox Γ' _ H' d x H2 ed R' g' hy
        have R2 := R'.same sm
        have eD2 : H2 D = some (.lst accV) := sm D _ eD
        have hDn : H' D ≠ none := by rw [eD]; exact fun z => by cases z
        have ES1 : EStp Γ' (L2.wipe σ3 own1) H' Ox Γ' H2 Ox := EStp.of_same sm
        have S2 : EStp (wipeG Γ5 own1) (L2.wipe σ3 own1) (upd H5 D (.lst [])) O5 Γ' (upd H2 D (.lst [])) Ox := S'.trans Rb (ES1.shadow hDn)
        have g2 : G Ox Γ' (L2.wipe σ3 own1) H2 := WK.stb Ox Γ' _ H' Ox Γ' _ H2 g' (ES1.toStp.same R') fun i es e => ⟨e, rfl⟩
        have tD2 : AtL K (off Ox H2) acc accV := tD.mono (ES1.toStp.same R')
        have hDn2 : H2 D ≠ none := by rw [eD2]; exact fun z => by cases z
        simp only [loopC] at hl
        cases ef : f1 d Γ' with
        | none => rw [ef] at hl; cases hl
        | some Γ3 =>
          rw [ef] at hl
          refine ⟨Ox, Γ', d, Γ3, R2, hx2, ef, fun σ4 R3 S3 tch => ?_⟩
          have hw3 : L2.wipe σ4 own1 = L2.wipe σ3 own1 := (turn_C R2 R3 hT1 hno' wipe_wipe tch S3 (EStp.refl) R3).1
          refine ⟨hw3, Ox, Γ3, R3, ?_⟩
          cases et : t1 Γ3 with
          | ex c pl Γ4 => simp only [et] at hl; cases hl
          | no => simp only [et] at hl; cases hl
          | ok k4 Γ4 =>
            intro H4 O4 R4 S4
            cases k4 with
            | false =>
              simp only [et] at hl
              obtain ⟨_, S5, R5⟩ := turn_C R2 R3 hT1 hno' wipe_wipe tch S3 S4 R4
              have mD4 : D ∈ O4 := Classical.byContradiction fun z => by
                obtain ⟨j, es, z1, z2⟩ := S5.lose D mD z
                exact nh' j _ z1 rfl z2
              have eD4 : H4 D = some (.lst accV) := S5.keep D _ (fun ⟨j, es, z1, z2⟩ => nh' j _ z1 rfl z2) eD2
              exact iteF ⟨O4, wipeG Γ4 own1, acc, accV, R5, mD4, S2.trans Rb (S5.shadow hDn2), WK.stb Ox Γ' _ H2 O4 _ _ H4 g2 (S5.toStp.same R2) (fun i es e => ⟨S5.oth i _ e (fun _ z => by cases z), rfl⟩), eD4, tD2.mono (S5.toStp.same R2), hl⟩
            | true =>
              simp only [et] at hl
              refine iteT ⟨O4, Γ4, R4, ?_⟩
              cases em : m Γ4 with
              | ex c pl Γ5 => simp only [em] at hl; cases hl
              | no => simp only [em] at hl; cases hl
              | ok r Γ5 =>
                simp only [em] at hl
                intro H5 O5 R5 S5 v hv
                cases ee : esc Γ5 r with
                | none => simp only [ee] at hl; cases hl
                | some q =>
                  obtain ⟨d', Γ6⟩ := q
                  simp only [ee] at hl
                  obtain ⟨O6, R6, S6, q6⟩ := hv.esc R5 EStp.refl R5 ee
                  split at hl
                  · rename_i hz
                    obtain ⟨_, S7, R7⟩ := turn_C R2 R3 hT1 hno' wipe_wipe tch S3 ((S4.trans R3 S5).trans R3 S6) R6
                    have mD6 : D ∈ O6 := Classical.byContradiction fun z => by
                      obtain ⟨j, es, z1, z2⟩ := S7.lose D mD z
                      exact nh' j _ z1 rfl z2
                    have eD6 : H5 D = some (.lst accV) := S7.keep D _ (fun ⟨j, es, z1, z2⟩ => nh' j _ z1 rfl z2) eD2
                    have tD6 := tD2.mono (S7.toStp.same R2)
                    have hl6 : (wipeG Γ6 own1).length = Γ'.length := by rw [R7.len, R'.len]
                    have nh6 : ∀ (j : Nat) (s : Sl), (wipeG Γ6 own1)[j]? = some s → s.hd = true → (L2.wipe σ3 own1)[j]? ≠ some (some (.ref D)) := fun j s e hs => by
                      obtain ⟨s0, e0, h0⟩ := S7.hdb hl6 e hs
                      exact nh' j s0 e0 h0
                    obtain ⟨R8, eo8⟩ := R7.other (o := .lst (accV ++ [v])) mD6 nh6
                    refine ⟨accV, eD6, by rw [← tD6.length, big_eq]; exact hz, O6, wipeG Γ6 own1, acc ++ [d'], accV ++ [v], R8, mD6, ?_, ?_, upd_same, (tD6.append (AtL.cons q6 AtL.nil)).mono eo8, hl⟩
                    · rw [upd_upd]; exact S2.trans Rb (S7.shadow hDn2)
                    · exact WK.stb O6 _ _ H5 O6 _ _ _ (WK.stb Ox Γ' _ H2 O6 _ _ H5 g2 (S7.toStp.same R2) (fun i es e => ⟨S7.oth i _ e (fun _ z => by cases z), rfl⟩)) eo8 fun i es e => ⟨e, rfl⟩
                  · cases hl
theorem lc2_tE (hT : ∀ i, i ∈ T → i ∈ own) (hT1 : ∀ i, i ∈ T1 → i ∈ own1) (h1o : ∀ i, i ∈ own1 → i ∈ own) {σ : L2.St} {H : Hp} {Q : VK} (h : tE K XR W (mLc2 own mi f t mi1 own1 f1 t1 m) σ H Q) : tLc2 (tI K XR W mi) (gM K [] T f) (tT K XR W0 t) (tI K XR W0 mi1) (gM K [] T1 f1) (tT K XR W0 t1) (tE K XR W0 m) own own1 σ H Q := by
  obtain ⟨O, Γ, R, P⟩ := h
  refine ⟨O, Γ, R, (P.bind R).imp fun p Γ1 H1 O1 R1 S1 P1 hb J G WK hG D hD => ?_⟩
  obtain ⟨ds, b⟩ := p
  by_cases hn : own.all (notHd Γ1) = true
  · simp only [hn, if_true] at P1
    obtain ⟨ebw, hbw⟩ := bor_wipe hb hn
    rw [ebw] at P1
    -- the start: own names forgotten, the new list hidden
    have Rw : Rl K O1 (wipeG Γ1 own) (L2.wipe σ own) H1 := R1.wipe
    have sD : Same H1 (upd H1 D (.lst [])) := same_up hD
    have Rh : Rl K (D :: O1) (wipeG Γ1 own) (L2.wipe σ own) (upd H1 D (.lst [])) := Rw.hide sD hD (by rw [upd_same]; exact fun z => by cases z)
    obtain ⟨Rb, Sb⟩ := bor_rl Rh hbw
    have hlen : (wipeG Γ1 own).length = Γ1.length := wipeG_len _ _
    have hbl : (bor b ds (wipeG Γ1 own)).length = Γ1.length := by
      cases b with
      | none => exact hlen
      | some i => show ((wipeG Γ1 own).set i _).length = _; rw [List.length_set]; exact hlen
    have hown : ∀ i, i ∈ own → (bor b ds (wipeG Γ1 own))[i]? = some .no := fun i hi => by
      have hil : i < Γ1.length := by
        have := List.all_eq_true.mp hn i hi
        unfold notHd at this
        cases z : Γ1[i]? with
        | none => rw [z] at this; cases this
        | some s => exact (List.getElem?_eq_some_iff.mp z).1
      rw [← ebw]
      refine wipeG_in ?_ hi
      cases b with
      | none => exact hil
      | some j => show i < (Γ1.set j _).length; rw [List.length_set]; exact hil
    have nD : D ∉ O1 := fun z => R1.tr D z hD
    -- no slot of the start holds D
    have nh0 : ∀ (j : Nat) (s : Sl), (bor b ds (wipeG Γ1 own))[j]? = some s → s.hd = true → (L2.wipe σ own)[j]? ≠ some (some (.ref D)) := fun j s e hs z => by
      obtain ⟨Rb2, _⟩ := bor_rl Rw hbw
      obtain ⟨o, e1, q⟩ := Rb2.sl j s e
      rw [z] at e1; cases e1
      cases s with
      | owc es => obtain ⟨a, vs, e2, _, ha, _⟩ := q; cases e2; rw [hD] at ha; cases ha
      | bwc es => obtain ⟨a, vs, e2, _, ha, _⟩ := q; cases e2; rw [hD] at ha; cases ha
      | _ => cases hs
    have hG1 : G (D :: O1) (bor b ds (wipeG Γ1 own)) (L2.wipe σ own) (upd H1 D (.lst [])) := by
      refine WK.stb O1 (bor b ds Γ1) σ H1 _ _ _ _ hG (off_mono (fun b o _ e => sD b o e) fun b h n => ?_) fun i es e => ?_
      · rcases List.mem_cons.mp h with z | z
        · rw [z]; exact hD
        · exact absurd z n
      · have hi : i ∉ own := fun z => by
          have := hown i z
          rw [← ebw, wipeG_in (by exact (List.getElem?_eq_some_iff.mp e).1) z] at this
          have h2 := List.all_eq_true.mp hn i z
          unfold notHd at h2
          cases b with
          | none =>
            have e' : Γ1[i]? = some (.bwc es) := e
            rw [e'] at h2; cases h2
          | some k =>
            have e' : (Γ1.set k (.bw ds))[i]? = some (.bwc es) := e
            by_cases hk : k = i
            · subst hk
              rw [hb k rfl] at h2; cases h2
            · rw [get_set_ne hk] at e'
              rw [e'] at h2; cases h2
        rw [← ebw, wipeG_out hi, wipe_out hi]
        exact ⟨e, rfl⟩
    refine ⟨fun i k H' => ∃ Ox Γ' rem acc accV, ds.drop i = rem ∧ k = rem.length ∧ i ≤ ds.length ∧ Rl K Ox Γ' (L2.wipe σ own) H' ∧ D ∈ Ox ∧ EStp (bor b ds (wipeG Γ1 own)) (L2.wipe σ own) (upd H1 D (.lst [])) (D :: O1) Γ' (upd H' D (.lst [])) Ox ∧
        G Ox Γ' (L2.wipe σ own) H' ∧ H' D = some (.lst accV) ∧ AtL K (off Ox H') acc accV ∧ loopD own f t mi1 own1 f1 t1 m rem acc Γ' = loopD own f t mi1 own1 f1 t1 m ds [] (bor b ds (wipeG Γ1 own)),
      ⟨ds.length, D :: O1, _, ds, [], [], rfl, rfl, Nat.zero_le _, Rb, List.mem_cons_self, ?_, hG1, upd_same, rfl, rfl⟩, ?_⟩
    · rw [upd_upd]; exact EStp.refl
    rintro i k H' ⟨Ox, Γ', rem, acc, accV, e1, e2, hi, R', mD, S', g', eD, tD, hl⟩
    have hlen' : Γ'.length = (bor b ds (wipeG Γ1 own)).length := by rw [R'.len, ← Rb.len]
    have nh' : ∀ (j : Nat) (s : Sl), Γ'[j]? = some s → s.hd = true → (L2.wipe σ own)[j]? ≠ some (some (.ref D)) := fun j s e hs => by
      obtain ⟨s0, e0, h0⟩ := S'.hdb hlen' e hs
      exact nh0 j s0 e0 h0
    have hno' : ∀ i, i ∈ own → Γ'[i]? = some .no := fun i hi => S'.oth i _ (hown i hi) fun _ z => by cases z
    cases rem with
    | nil =>
      have ei : i = ds.length := by
        have := congrArg List.length e1
        rw [List.length_drop] at this
        simp at this; omega
      subst ei
      refine .inl ⟨WK.stop Ox Γ' _ H' R' g', ?_⟩
      rw [← hl] at P1
      simp only [loopD] at P1
      -- what was lent is given back, the own names are as they were
      have Ru : Rl K Ox (unb b ds Γ') (L2.wipe σ own) H' := by
        refine unb_rl Rh hbw (fun a ma => S'.mu a ma) (fun i e => ?_) (fun i es e => ⟨S'.bwb i es e, rfl⟩) R'
        subst e
        exact ⟨S'.oth i _ (get_set_eq (hbw i rfl)) (fun _ z => by cases z), rfl⟩
      have eo : Same (off O1 H1) (off Ox H') := by
        have q1 : Same (off (D :: O1) (upd H1 D (.lst []))) (off Ox (upd H' D (.lst []))) := S'.toStp.same Rb
        intro b' o e
        obtain ⟨z1, z2⟩ := off_some.mp e
        have nb : b' ≠ D := fun z => by rw [z, hD] at z2; cases z2
        have q2 := q1 b' o (off_some.mpr ⟨fun z => (List.mem_cons.mp z).elim nb z1, by rw [upd_ne nb]; exact z2⟩)
        obtain ⟨z3, z4⟩ := off_some.mp q2
        rw [upd_ne nb] at z4
        exact off_some.mpr ⟨z3, z4⟩
      have Rf : Rl K Ox (backG Γ1 (unb b ds Γ') own) σ H' := R1.back hn eo Ru
      have hlu : (unb b ds Γ').length = Γ1.length := by
        cases b with
        | none => show Γ'.length = _; rw [hlen', hbl]
        | some i => show (Γ'.set i _).length = _; rw [List.length_set, hlen', hbl]
      have nhf : ∀ (j : Nat) (s : Sl), (backG Γ1 (unb b ds Γ') own)[j]? = some s → s.hd = true → σ[j]? ≠ some (some (.ref D)) := fun j s e hs z => by
        have hj : j ∉ own := fun hv => by
          have hjl : j < (unb b ds Γ').length := by rw [← backG_len Γ1 (unb b ds Γ') own]; exact (List.getElem?_eq_some_iff.mp e).1
          rw [backG_in (by rw [hlu]) hjl hv] at e
          have h2 := List.all_eq_true.mp hn j hv
          unfold notHd at h2
          rw [e] at h2
          simp [hs] at h2
        rw [backG_out hj] at e
        have zw : (L2.wipe σ own)[j]? = some (some (.ref D)) := by rw [wipe_out hj]; exact z
        cases b with
        | none => exact nh' j s e hs zw
        | some i =>
          have e' : (Γ'.set i (.ow ds))[j]? = some s := e
          by_cases hij : i = j
          · subst hij
            exact nh' i (.bwc ⟨.lst, ds⟩) (S'.oth i _ (get_set_eq (hbw i rfl)) (fun _ z => by cases z)) rfl zw
          · rw [get_set_ne hij] at e'; exact nh' j s e' hs zw
      have hO : ∀ b', b' ∈ Ox ↔ b' ∈ D :: Ox.filter fun c => decide (c ≠ D) := fun b' => by
        by_cases z : b' = D
        · subst z; exact ⟨fun _ => List.mem_cons_self, fun _ => mD⟩
        · exact ⟨fun h => List.mem_cons_of_mem _ (List.mem_filter.mpr ⟨h, decide_eq_true z⟩), fun h => (List.mem_cons.mp h).elim (fun q => absurd q z) fun q => (List.mem_filter.mp q).1⟩
      have Rc := Rl.congr hO Rf
      have Rs := Rc.show nhf
      -- the step, seen from the outside
      have inO1 : ∀ b', b' ∈ Ox.filter (fun c => decide (c ≠ D)) → b' ∈ O1 := fun b' h => by
        obtain ⟨h1, h2⟩ := List.mem_filter.mp h
        exact (List.mem_cons.mp (S'.sub b' h1)).resolve_left (by simpa using h2)
      have muw : ∀ b', Mu (bor b ds (wipeG Γ1 own)) (L2.wipe σ own) b' → Mu Γ1 σ b' := fun b' ⟨j, es, z1, z2⟩ => by
        obtain ⟨_, Sb2⟩ := bor_rl Rw hbw
        rcases Sb2.mu b' ⟨j, es, z1, z2⟩ with ⟨j', es', z3, z4⟩ | z
        · have hj : j' ∉ own := fun hv => by
            have hjl : j' < Γ1.length := by rw [← hlen]; exact (List.getElem?_eq_some_iff.mp z3).1
            rw [wipeG_in hjl hv] at z3; cases z3
          rw [wipeG_out hj] at z3; rw [wipe_out hj] at z4
          exact ⟨j', es', z3, z4⟩
        · obtain ⟨o, q1, a', vs', q2, _, q3, _⟩ := (bor_rl Rw hbw).1.sl j _ z1
          rw [z2] at q1; cases q1; cases q2
          rw [z] at q3; cases q3
      have ES : EStp Γ1 σ H1 O1 (backG Γ1 (unb b ds Γ') own) H' (Ox.filter fun c => decide (c ≠ D)) := by
        refine ⟨⟨fun b' o n e => ?_, fun b' ⟨j, es, z1, z2⟩ => ?_, fun b' e => ?_, fun b' m => .inl (inO1 b' m), fun b' h1 h2 => ?_⟩, inO1, fun j es e => ?_, fun j s e n => ?_, fun j es e => ?_⟩
        · have nb : b' ≠ D := fun z => by rw [z, hD] at e; cases e
          have := S'.keep b' o (fun mm => n (muw b' mm)) (by rw [upd_ne nb]; exact e)
          rw [upd_ne nb] at this; exact this
        · have hj : j ∉ own := fun hv => by
            have hjl : j < (unb b ds Γ').length := by rw [← backG_len Γ1 (unb b ds Γ') own]; exact (List.getElem?_eq_some_iff.mp z1).1
            rw [backG_in (by rw [hlu]) hjl hv] at z1
            have h2 := List.all_eq_true.mp hn j hv
            unfold notHd at h2
            rw [z1] at h2; cases h2
          rw [backG_out hj] at z1
          have zw : (L2.wipe σ own)[j]? = some (some (.ref b')) := by rw [wipe_out hj]; exact z2
          cases b with
          | none =>
            rcases S'.mu b' ⟨j, es, z1, zw⟩ with q | q
            · exact .inl (muw b' q)
            · by_cases nb : b' = D
              · subst nb; exact .inr hD
              · rw [upd_ne nb] at q; exact .inr q
          | some i =>
            have z1' : (Γ'.set i (.ow ds))[j]? = some (.owc es) := z1
            by_cases hij : i = j
            · subst hij; exact .inl ⟨i, ⟨.lst, ds⟩, hb i rfl, z2⟩
            · rw [get_set_ne hij] at z1'
              rcases S'.mu b' ⟨j, es, z1', zw⟩ with q | q
              · exact .inl (muw b' q)
              · by_cases nb : b' = D
                · subst nb; exact .inr hD
                · rw [upd_ne nb] at q; exact .inr q
        · have nb : b' ≠ D := fun z => by rw [z] at e; exact e hD
          have := S'.stay b' (by rw [upd_ne nb]; exact e)
          rw [upd_ne nb] at this; exact this
        · have nb : b' ≠ D := fun z => nD (z ▸ h1)
          exact muw b' (S'.lose b' (List.mem_cons_of_mem _ h1) fun z => h2 (List.mem_filter.mpr ⟨z, decide_eq_true nb⟩))
        · have hj : j ∉ own := fun hv => by
            have h2 := List.all_eq_true.mp hn j hv
            unfold notHd at h2
            rw [e] at h2; cases h2
          rw [backG_out hj]
          cases b with
          | none => exact S'.pres j es (by show (wipeG Γ1 own)[j]? = _; rw [wipeG_out hj]; exact e)
          | some i =>
            by_cases hij : i = j
            · subst hij
              exact .inl ⟨⟨.lst, ds⟩, get_set_eq (S'.oth i _ (get_set_eq (hbw i rfl)) (fun _ z => by cases z))⟩
            · show (∃ es, (Γ'.set i _)[j]? = _) ∨ ∃ es, (Γ'.set i _)[j]? = _
              rw [get_set_ne hij]
              exact S'.pres j es (by show ((wipeG Γ1 own).set i _)[j]? = _; rw [get_set_ne hij, wipeG_out hj]; exact e)
        · by_cases hj : j ∈ own
          · rw [backG_in (by rw [hlu]) (by rw [hlu]; exact (List.getElem?_eq_some_iff.mp e).1) hj]; exact e
          · rw [backG_out hj]
            cases b with
            | none => exact S'.oth j s (by show (wipeG Γ1 own)[j]? = _; rw [wipeG_out hj]; exact e) n
            | some i =>
              have hij : i ≠ j := fun z => by subst z; rw [hb i rfl] at e; cases e; exact n ⟨.lst, ds⟩ rfl
              show (Γ'.set i _)[j]? = _
              rw [get_set_ne hij]
              exact S'.oth j s (by show ((wipeG Γ1 own).set i _)[j]? = _; rw [get_set_ne hij, wipeG_out hj]; exact e) n
        · by_cases hj : j ∈ own
          · have hjl : j < (unb b ds Γ').length := by rw [← backG_len Γ1 (unb b ds Γ') own]; exact (List.getElem?_eq_some_iff.mp e).1
            rw [backG_in (by rw [hlu]) hjl hj] at e; exact e
          · rw [backG_out hj] at e
            cases b with
            | none =>
              have q := S'.bwb j es e
              have q' : (wipeG Γ1 own)[j]? = some (.bwc es) := q
              rw [wipeG_out hj] at q'; exact q'
            | some i =>
              have e' : (Γ'.set i (.ow ds))[j]? = some (.bwc es) := e
              by_cases hij : i = j
              · subst hij
                rw [get_set_eq (S'.oth i _ (get_set_eq (hbw i rfl)) (fun _ z => by cases z))] at e'; cases e'
              · rw [get_set_ne hij] at e'
                have q := S'.bwb j es e'
                have q' : ((wipeG Γ1 own).set i (.bw ds))[j]? = some (.bwc es) := q
                rw [get_set_ne hij, wipeG_out hj] at q'; exact q'
      refine P1 H' _ Rs ES (.ref D) ⟨D, accV, rfl, fun z => by simpa using (List.mem_filter.mp z).2, none_back S1.toStp D hD, eD, ?_, Rc⟩
      refine tD.mono fun b' o e => ?_
      obtain ⟨z1, z2⟩ := off_some.mp e
      exact off_some.mpr ⟨fun z => z1 ((hO b').mpr z), z2⟩
    | cons d rem =>
      have ed : ds[i]? = some d := by
        have := congrArg (·[0]?) e1
        simpa using this
      have e3 : ds.drop (i + 1) = rem := by
        have := congrArg List.tail e1
        simpa using this
      have hi2 : i < ds.length := (List.getElem?_eq_some_iff.mp ed).1
      refine .inr ⟨WK.go i Ox Γ' _ H' d ed R' g', fun H3 => ∃ O3 Γ3 acc3 accV3, Rl K O3 Γ3 (L2.wipe σ own) H3 ∧ D ∈ O3 ∧ EStp (bor b ds (wipeG Γ1 own)) (L2.wipe σ own) (upd H1 D (.lst [])) (D :: O1) Γ3 (upd H3 D (.lst [])) O3 ∧
        G O3 Γ3 (L2.wipe σ own) H3 ∧ H3 D = some (.lst accV3) ∧ AtL K (off O3 H3) acc3 accV3 ∧ loopD own f t mi1 own1 f1 t1 m rem acc3 Γ3 = loopD own f t mi1 own1 f1 t1 m ds [] (bor b ds (wipeG Γ1 own)), ?_, ?_⟩
      · rintro H3 ⟨O3, Γ3, acc3, accV3, a1, a2, a3, a4, a5, a6, a7⟩
        exact ⟨rem.length, by rw [e2]; simp, O3, Γ3, rem, acc3, accV3, e3, rfl, hi2, a1, a2, a3, a4, a5, a6, a7⟩
      · intro x H2 hy
        obtain ⟨sm, hx2⟩ := WK.yld i Ox Γ' _ H' d x H2 ed R' g' hy
        have R2 := R'.same sm
        have eD2 : H2 D = some (.lst accV) := sm D _ eD
        have hDn : H' D ≠ none := by rw [eD]; exact fun z => by cases z
        have ES1 : EStp Γ' (L2.wipe σ own) H' Ox Γ' H2 Ox := EStp.of_same sm
        have S2 : EStp (bor b ds (wipeG Γ1 own)) (L2.wipe σ own) (upd H1 D (.lst [])) (D :: O1) Γ' (upd H2 D (.lst [])) Ox := S'.trans Rb (ES1.shadow hDn)
        have g2 : G Ox Γ' (L2.wipe σ own) H2 := WK.stb Ox Γ' _ H' Ox Γ' _ H2 g' (ES1.toStp.same R') fun i es e => ⟨e, rfl⟩
        have tD2 : AtL K (off Ox H2) acc accV := tD.mono (ES1.toStp.same R')
        have hDn2 : H2 D ≠ none := by rw [eD2]; exact fun z => by cases z
        simp only [loopD] at hl
        cases ef : f d Γ' with
        | none => rw [ef] at hl; rw [← hl] at P1; exact P1.elim
        | some Γ3 =>
          rw [ef] at hl
          refine ⟨Ox, Γ', d, Γ3, R2, hx2, ef, fun σ3 R3 S3 tch => ?_⟩
          have hw3 : L2.wipe σ3 own = L2.wipe σ own := (turn_C R2 R3 hT hno' wipe_wipe tch S3 (EStp.refl) R3).1
          refine ⟨hw3, Ox, Γ3, R3, ?_⟩
          cases et : t Γ3 with
          | ex c pl Γ4 => simp only [et] at hl; rw [← hl] at P1; exact P1.elim
          | no => simp only [et] at hl; rw [← hl] at P1; exact P1.elim
          | ok k4 Γ4 =>
            intro H4 O4 R4 S4
            cases k4 with
            | false =>
              simp only [et] at hl
              obtain ⟨_, S5, R5⟩ := turn_C R2 R3 hT hno' wipe_wipe tch S3 S4 R4
              have mD4 : D ∈ O4 := Classical.byContradiction fun z => by
                obtain ⟨j, es, z1, z2⟩ := S5.lose D mD z
                exact nh' j _ z1 rfl z2
              have eD4 : H4 D = some (.lst accV) := S5.keep D _ (fun ⟨j, es, z1, z2⟩ => nh' j _ z1 rfl z2) eD2
              exact iteF ⟨O4, wipeG Γ4 own, acc, accV, R5, mD4, S2.trans Rb (S5.shadow hDn2), WK.stb Ox Γ' _ H2 O4 _ _ H4 g2 (S5.toStp.same R2) (fun i es e => ⟨S5.oth i _ e (fun _ z => by cases z), rfl⟩), eD4, tD2.mono (S5.toStp.same R2), hl⟩
            | true =>
              simp only [et] at hl
              refine iteT ⟨O4, Γ4, R4, ?_⟩
              cases em : mi1 Γ4 with
              | ex c pl Γ5 => simp only [em] at hl; rw [← hl] at P1; exact P1.elim
              | no => simp only [em] at hl; rw [← hl] at P1; exact P1.elim
              | ok p5 Γ5 =>
                obtain ⟨ds1, b1⟩ := p5
                simp only [em] at hl
                cases b1 with
                | some _ => simp only at hl; rw [← hl] at P1; exact P1.elim
                | none =>
                simp only at hl
                intro H5 O5 R5 S5 hb1 J1 G1 WK1 hG1
                split at hl
                · rename_i hn5
                  cases e6 : loopC own1 f1 t1 m ds1 acc (wipeG Γ5 own1) with
                  | ex c pl Γ6 => simp only [e6] at hl; rw [← hl] at P1; exact P1.elim
                  | no => simp only [e6] at hl; rw [← hl] at P1; exact P1.elim
                  | ok acc6 Γ6 =>
                  simp only [e6] at hl
                  obtain ⟨_, S7, R7⟩ := turn_C R2 R3 hT hno' wipe_wipe tch S3 (S4.trans R3 S5) R5
                  have mD5 : D ∈ O5 := Classical.byContradiction fun z => by
                    obtain ⟨j, es, z1, z2⟩ := S7.lose D mD z
                    exact nh' j _ z1 rfl z2
                  have eD5 : H5 D = some (.lst accV) := S7.keep D _ (fun ⟨j, es, z1, z2⟩ => nh' j _ z1 rfl z2) eD2
                  have hl5 : (wipeG Γ5 own).length = Γ'.length := by rw [R7.len, R'.len]
                  have off5 : ∀ (j : Nat) (s : Sl), Γ5[j]? = some s → s.hd = true → j ∉ own := fun j s e hs hv => by
                    have := List.all_eq_true.mp hn5 j hv
                    unfold notHd at this
                    rw [e] at this
                    simp [hs] at this
                  have nh5 : ∀ (j : Nat) (s : Sl), Γ5[j]? = some s → s.hd = true → σ3[j]? ≠ some (some (.ref D)) := fun j s e hs z => by
                    have hj := off5 j s e hs
                    obtain ⟨s0, e0, h0⟩ := S7.hdb hl5 (by rw [wipeG_out hj]; exact e) hs
                    refine nh' j s0 e0 h0 ?_
                    rw [← hw3, wipe_out hj]; exact z
                  refine inner2 hT1 R5 mD5 (List.all_eq_true.mpr fun j hj => List.all_eq_true.mp hn5 j (h1o j hj)) nh5 eD5 (tD2.mono (S7.toStp.same R2)) WK1 hG1 e6 fun O' H'' accV' Rz mz Sz ez tz => ?_
                  have w2 : L2.wipe (L2.wipe σ3 own1) own = L2.wipe σ own := by
                    rw [← hw3]
                    exact wipe_ext (wipe_length _ _) fun j hj => wipe_out fun q => hj (h1o j q)
                  have g5 : wipeG (wipeG Γ5 own1) own = wipeG Γ5 own := wipeG_ext (wipeG_len _ _) fun j hj => wipeG_out fun q => hj (h1o j q)
                  have Rq := Rz.wipe (own := own)
                  rw [w2] at Rq
                  have Rb5 := (R5.wipe (own := own1)).other (o := .lst []) mD5 fun j s e hs z => by
                    by_cases hv : j ∈ own1
                    · rw [wipeG_in (by rw [← wipeG_len Γ5 own1]; exact (List.getElem?_eq_some_iff.mp e).1) hv] at e; cases e; cases hs
                    · rw [wipeG_out hv] at e; rw [wipe_out hv] at z; exact nh5 j s e hs z
                  have Sq := Sz.wipe (own := own) (List.all_eq_true.mpr fun j hj => by
                    unfold notHd
                    by_cases hv : j ∈ own1
                    · have hjl : j < Γ5.length := by
                        have := List.all_eq_true.mp hn5 j hj
                        unfold notHd at this
                        cases z : Γ5[j]? with
                        | none => rw [z] at this; cases this
                        | some s => exact (List.getElem?_eq_some_iff.mp z).1
                      rw [wipeG_in hjl hv]; rfl
                    · rw [wipeG_out hv]; exact List.all_eq_true.mp hn5 j hj) (by rw [Rz.len, Rb5.1.len])
                  rw [w2, g5] at Sq
                  have eoz : Same (off O5 H5) (off O' H'') := by
                    have q1 := Sz.toStp.same Rb5.1
                    intro b' o e
                    obtain ⟨z1, z2⟩ := off_some.mp e
                    have nb : b' ≠ D := fun z => z1 (z ▸ mD5)
                    have q2 := q1 b' o (off_some.mpr ⟨z1, by rw [upd_ne nb]; exact z2⟩)
                    obtain ⟨z3, z4⟩ := off_some.mp q2
                    rw [upd_ne nb] at z4
                    exact off_some.mpr ⟨z3, z4⟩
                  refine ⟨O', wipeG Γ6 own, acc6, accV', Rq, mz, (S2.trans Rb (S7.shadow hDn2)).trans Rb Sq, ?_, ez, tz, hl⟩
                  exact WK.stb O5 (wipeG Γ5 own) _ H5 O' _ _ H'' (WK.stb Ox Γ' _ H2 O5 _ _ H5 g2 (S7.toStp.same R2) (fun i es e => ⟨S7.oth i _ e (fun _ z => by cases z), rfl⟩)) eoz fun i es e => ⟨Sq.oth i _ e (fun _ z => by cases z), rfl⟩
                · rw [← hl] at P1; exact P1.elim
  · simp only [hn] at P1
    exact P1.elim
end
section
variable {X : Cx} {XR : XRel} {W : WX} {T T1 : List Nat} {elt tg iter tg1 iter1 : Expr} {ifs ifs1 : List Expr} {scope : Scope} {own : List (Str × Nat)} {vs1 : List Nat} {pos : Pos} {mi mi1 : IM} {f f1 : GM} {t t1 : List Sl → Rs Bool} {m : EM}
theorem me_lc2 (hc : X.calm = true) (hN : X.N.Nodup) (hi : MI X XR W tg iter mi) (ok : BlkOk X.N X.env.scope scope own) (hT : ∀ i, i ∈ T → i ∈ own.map (·.2)) (hT1 : ∀ i, i ∈ T1 → i ∈ vs1) (hv : ∀ i, i ∈ vs1 → i ∈ own.map (·.2))
    (hg : ∀ (s : Shared) (H : Hp) (C : Addr) (cl : List (Str × Addr)) (fp : List Addr), MG (X.blk s H scope (compEnvC scope cl C X.env) fp) [] T tg f) (ht : ∀ (s : Shared) (H : Hp) (C : Addr) (cl : List (Str × Addr)) (fp : List Addr), MTs (X.blk s H scope (compEnvC scope cl C X.env) fp) XR W0 ifs t)
    (hi1 : ∀ (s : Shared) (H : Hp) (C : Addr) (cl : List (Str × Addr)) (fp : List Addr), MI (X.blk s H scope (compEnvC scope cl C X.env) fp) XR W0 tg1 iter1 mi1)
    (hg1 : ∀ (s : Shared) (H : Hp) (C : Addr) (cl : List (Str × Addr)) (fp : List Addr), MG (X.blk s H scope (compEnvC scope cl C X.env) fp) [] T1 tg1 f1) (ht1 : ∀ (s : Shared) (H : Hp) (C : Addr) (cl : List (Str × Addr)) (fp : List Addr), MTs (X.blk s H scope (compEnvC scope cl C X.env) fp) XR W0 ifs1 t1)
    (he : ∀ (s : Shared) (H : Hp) (C : Addr) (cl : List (Str × Addr)) (fp : List Addr), ME (X.blk s H scope (compEnvC scope cl C X.env) fp) XR W0 elt m) (hs : ∀ x, foldedSetIterable iter X.env x = pure x := by intro _; rfl) (hs1 : ∀ env x, foldedSetIterable iter1 env x = pure x := by intro _ _; rfl) :
    ME X XR W (.ListComp elt [⟨tg, iter, ifs, 0⟩, ⟨tg1, iter1, ifs1, 0⟩] scope pos) (mLc2 (own.map (·.2)) mi f t mi1 vs1 f1 t1 m) :=
  (pe_lc2 (g := gM X.KW [] T f) (tt := tT X.KW XR W0 t) (te := tE X.KW XR W0 m) (wi1 := tI X.KW XR W0 mi1) (g1 := gM X.KW [] T1 f1) (tt1 := tT X.KW XR W0 t1) hc hN hi ok hv hg ht hi1 hg1 ht1 he hs hs1).imp fun σ H Q h => lc2_tE hT hT1 hv h
end
end Mir

set_option Elab.async false
set_option autoImplicit false
set_option linter.all false
set_option maxRecDepth 100000
set_option maxHeartbeats 4000000
/-! what comprehensions of texts and of two clauses answer. -/
namespace Mir
open PySem PySem.Spec PyProof.Rows L2
section
variable {own own1 : List Nat} {mi mi1 : IM} {f f1 : GM} {t t1 : List Sl → Rs Bool} {ma : EM} {Γ : List Sl} {E : Nat → List D → List Sl → Prop} {Qr : RV → List Sl → Prop}
theorem wp_sortSc : (mSortSc own mi f t ma Γ).wp Qr E = (mi Γ).wp (fun p Γ1 => if own.all (notHd Γ1) = true then (loopT own f t ma p.1 [] (wipeG (bor p.2 p.1 Γ1) own)).wp (fun acc Γ2 => if okTx acc = true then Qr (.ow ((canonT acc).map .str)) (backG Γ1 (unb p.2 p.1 Γ2) own) else False) (fun _ _ _ => False) else False) E := by
  unfold mSortSc; rw [wp_bind]; congr 1; funext p Γ1
  split
  · cases loopT own f t ma p.1 [] (wipeG (bor p.2 p.1 Γ1) own) with
    | ok acc Γ2 =>
      show (if okTx acc = true then _ else _ : Rs RV).wp Qr E = _
      simp only [wp_ok]
      split <;> rfl
    | _ => rfl
  · rfl
theorem wp_lc2 : (mLc2 own mi f t mi1 own1 f1 t1 ma Γ).wp Qr E = (mi Γ).wp (fun p Γ1 => if own.all (notHd Γ1) = true then (loopD own f t mi1 own1 f1 t1 ma p.1 [] (wipeG (bor p.2 p.1 Γ1) own)).wp (fun acc Γ2 => Qr (.ow acc) (backG Γ1 (unb p.2 p.1 Γ2) own)) (fun _ _ _ => False) else False) E := by
  unfold mLc2; rw [wp_bind]; congr 1; funext p Γ1
  split
  · cases loopD own f t mi1 own1 f1 t1 ma p.1 [] (wipeG (bor p.2 p.1 Γ1) own) <;> rfl
  · rfl
theorem sc_wp {Qa : List (List Nat) → List Sl → Prop} (I : List D → List (List Nat) → List Sl → Prop) {ds : List D} {acc : List (List Nat)} (h0 : I ds acc Γ)
    (step : ∀ d r acc Γ, I (d :: r) acc Γ → opt (f d Γ) fun Γ1 => (t Γ1).wp (fun b Γ2 => if b = true then (ma Γ2).wp (fun v Γ3 => ∃ x, v = .va (.str x) ∧ acc.length + 1 < 4096 ∧ I r (acc ++ [x]) (wipeG Γ3 own)) (fun _ _ _ => False) else I r acc (wipeG Γ2 own)) (fun _ _ _ => False))
    (done : ∀ acc Γ, I [] acc Γ → Qa acc Γ) : (loopT own f t ma ds acc Γ).wp Qa (fun _ _ _ => False) := by
  induction ds generalizing acc Γ with
  | nil => exact done acc Γ h0
  | cons d r ih =>
    have h := step d r acc Γ h0
    unfold loopT
    cases e : f d Γ with
    | none => rw [e] at h; exact h.elim
    | some Γ1 =>
      rw [e] at h
      simp only [opt] at h ⊢
      cases e2 : t Γ1 with
      | ok b Γ2 =>
        rw [e2] at h
        simp only [Rs.wp] at h
        cases b with
        | true =>
          simp only [if_true] at h
          simp only
          cases e3 : ma Γ2 with
          | ok v Γ3 =>
            rw [e3] at h
            simp only at h
            obtain ⟨x, rfl, hz, hi⟩ := h
            simp only [hz, if_true]
            exact ih hi
          | ex => rw [e3] at h; exact h.elim
          | no => rw [e3] at h; exact h.elim
        | false =>
          simp only [Bool.false_eq_true, if_false] at h
          exact ih h
      | ex => rw [e2] at h; exact h.elim
      | no => rw [e2] at h; exact h.elim
theorem lcd_wp {Qa : List D → List Sl → Prop} (I : List D → List D → List Sl → Prop) {ds acc : List D} (h0 : I ds acc Γ)
    (step : ∀ d r acc Γ, I (d :: r) acc Γ → opt (f d Γ) fun Γ1 => (t Γ1).wp (fun b Γ2 => if b = true then (mi1 Γ2).wp (fun p Γ3 => p.2 = none ∧ own.all (notHd Γ3) = true ∧ (loopC own1 f1 t1 ma p.1 acc (wipeG Γ3 own1)).wp (fun acc2 Γ4 => I r acc2 (wipeG Γ4 own)) (fun _ _ _ => False)) (fun _ _ _ => False) else I r acc (wipeG Γ2 own)) (fun _ _ _ => False))
    (done : ∀ acc Γ, I [] acc Γ → Qa acc Γ) : (loopD own f t mi1 own1 f1 t1 ma ds acc Γ).wp Qa (fun _ _ _ => False) := by
  induction ds generalizing acc Γ with
  | nil => exact done acc Γ h0
  | cons d r ih =>
    have h := step d r acc Γ h0
    unfold loopD
    cases e : f d Γ with
    | none => rw [e] at h; exact h.elim
    | some Γ1 =>
      rw [e] at h
      simp only [opt] at h ⊢
      cases e2 : t Γ1 with
      | ok b Γ2 =>
        rw [e2] at h
        simp only [Rs.wp] at h
        cases b with
        | true =>
          simp only [if_true] at h
          simp only
          cases e3 : mi1 Γ2 with
          | ok p Γ3 =>
            obtain ⟨ds1, b1⟩ := p
            rw [e3] at h
            simp only at h
            obtain ⟨rfl, hn, hi⟩ := h
            simp only [hn, if_true]
            cases e4 : loopC own1 f1 t1 ma ds1 acc (wipeG Γ3 own1) with
            | ok acc2 Γ4 => rw [e4] at hi; exact ih hi
            | ex => rw [e4] at hi; exact hi.elim
            | no => rw [e4] at hi; exact hi.elim
          | ex => rw [e3] at h; exact h.elim
          | no => rw [e3] at h; exact h.elim
        | false =>
          simp only [Bool.false_eq_true, if_false] at h
          exact ih h
      | ex => rw [e2] at h; exact h.elim
      | no => rw [e2] at h; exact h.elim
end
end Mir

set_option Elab.async false
set_option autoImplicit false
set_option linter.all false
set_option maxRecDepth 100000
set_option maxHeartbeats 4000000
/-! < and > of flat tuples: the first difference tells. -/
namespace Mir.So
open PySem PySem.W PySem.Calls PyProof.Rows PySem.SeqAt
section
variable {A : Around} {s : Shared} {k : Bool}
end
end Mir.So
namespace Mir
open PySem PySem.Spec PyProof.Rows L2
open PySem.SeqAt (EqAt RcLt RcOp)
section
variable {K : Fg} {H : Hp} {A : Around} {s : Shared}
end
section
variable {X : Cx}
end
end Mir

set_option Elab.async false
set_option autoImplicit false
set_option linter.all false
set_option maxRecDepth 100000
set_option maxHeartbeats 4000000
/-! t.index(u) of texts, where u is in t. -/
namespace Mir
open PySem PySem.Spec PyProof.Rows L2
section
variable {X : Cx} {XR : XRel} {W : WX} {ms : AM} {x : Str} {p apos pos : Pos}
end
section
variable {i : Nat} {ms : AM} {Γ : List Sl} {Q : RV → List Sl → Prop} {E : Nat → List D → List Sl → Prop}
end
end Mir

set_option Elab.async false
set_option autoImplicit false
set_option linter.all false
set_option maxRecDepth 100000
set_option maxHeartbeats 4000000
/-! Dicts: keys, look-ups, stores. -/
namespace Mir
open PySem PySem.Spec PyProof.Rows L2

/-! ### keys as data -/
mutual
theorem nk_eq : ∀ {d e : D} {a b : NestedKey}, nkD d = some a → nkD e = some b → eqD d e = decide (a = b)
  | .non, e, a, b, ha, hb => by
    cases ha
    cases e with
    | non => cases hb; simp [eqD]
    | int j => cases hb; simp [eqD]
    | str y => cases hb; simp [eqD]
    | tup ys => obtain ⟨ks, _, rfl⟩ := Option.map_eq_some_iff.mp (show (nkDs ys).map NestedKey.tup = some b from hb); simp [eqD]
    | _ => cases hb
  | .int i, e, a, b, ha, hb => by
    cases ha
    cases e with
    | non => cases hb; simp [eqD]
    | int j => cases hb; simp [eqD, Bool.beq_eq_decide_eq]
    | str y => cases hb; simp [eqD]
    | tup ys => obtain ⟨ks, _, rfl⟩ := Option.map_eq_some_iff.mp (show (nkDs ys).map NestedKey.tup = some b from hb); simp [eqD]
    | _ => cases hb
  | .str x, e, a, b, ha, hb => by
    cases ha
    cases e with
    | non => cases hb; simp [eqD]
    | int j => cases hb; simp [eqD]
    | str y => cases hb; simp [eqD, toS_inj, Bool.beq_eq_decide_eq]
    | tup ys => obtain ⟨ks, _, rfl⟩ := Option.map_eq_some_iff.mp (show (nkDs ys).map NestedKey.tup = some b from hb); simp [eqD]
    | _ => cases hb
  | .tup xs, e, a, b, ha, hb => by
    obtain ⟨ks, h1, rfl⟩ := Option.map_eq_some_iff.mp (show (nkDs xs).map NestedKey.tup = some a from ha)
    cases e with
    | non => cases hb; simp [eqD]
    | int j => cases hb; simp [eqD]
    | str y => cases hb; simp [eqD]
    | tup ys =>
      obtain ⟨ls, h2, rfl⟩ := Option.map_eq_some_iff.mp (show (nkDs ys).map NestedKey.tup = some b from hb)
      simp only [eqD, NestedKey.tup.injEq]
      exact nks_eq h1 h2
    | _ => cases hb
  | .bl _, _, _, _, ha, _ => by cases ha
  | .lst _, _, _, _, ha, _ => by cases ha
  | .dic _, _, _, _, ha, _ => by cases ha
  | .set _, _, _, _, ha, _ => by cases ha
theorem nks_eq : ∀ {ds es : List D} {a b : List NestedKey}, nkDs ds = some a → nkDs es = some b → eqDs ds es = decide (a = b)
  | [], [], a, b, ha, hb => by cases ha; cases hb; simp [eqDs]
  | [], e :: es, a, b, ha, hb => by
    cases ha
    unfold nkDs at hb
    split at hb
    · cases hb; simp [eqDs]
    · cases hb
  | d :: ds, [], a, b, ha, hb => by
    cases hb
    unfold nkDs at ha
    split at ha
    · cases ha; simp [eqDs]
    · cases ha
  | d :: ds, e :: es, a, b, ha, hb => by
    unfold nkDs at ha hb
    split at ha
    · rename_i k ks h1 h2
      split at hb
      · rename_i l ls h3 h4
        cases ha; cases hb
        simp only [eqDs, nk_eq h1 h3, nks_eq h2 h4, List.cons.injEq, Bool.decide_and]
      · cases hb
    · cases ha
end
theorem nkT_nk {d : D} {k : NestedKey} (h : nkT d = some k) : nkD d = some k ∧ k.depth ≤ 8 ∧ ∃ xs, d = .tup xs := by
  cases d with
  | tup xs =>
    obtain ⟨k', h1, h2⟩ := Option.bind_eq_some_iff.mp (show (nkD (.tup xs)).bind (fun k => if k.depth ≤ 8 then some k else none) = some k from h)
    split at h2
    · rename_i hd; cases h2; exact ⟨h1, hd, xs, rfl⟩
    · cases h2
  | _ => cases h
theorem nkT_eq {d e : D} {a b : NestedKey} (h : nkT d = some a) (h2 : nkT e = some b) : eqD d e = decide (a = b) := nk_eq (nkT_nk h).1 (nkT_nk h2).1
section
variable {X : Cx} {pins : List (Addr × Obj)} {σ : L2.St} {H : Hp} {s : Shared}
end

/-! ### look-ups and stores as data: keys and values by turns -/
section
variable {K : Fg} {H : Hp}
theorem AtL.two {k d : D} {r : List D} {vs : List V} (t : AtL K H (k :: d :: r) vs) : ∃ kv v vr, vs = kv :: v :: vr ∧ At K H k kv ∧ At K H d v ∧ AtL K H r vr := by
  obtain ⟨kv, t1, rfl, h1, v, vr, rfl, h2, h3⟩ := t
  exact ⟨kv, v, vr, rfl, h1, h2, h3⟩
end
/-! ### tuples as keys -/
section
theorem NM.nil {xs : List (NestedKey × Addr × Value)} (h : NM [] [] xs) : xs = [] := by cases xs with | nil => rfl | cons => exact h.elim
theorem NM.two {k d : D} {r : List D} {kv v : V} {vr : List V} {xs : List (NestedKey × Addr × Value)} (h : NM (k :: d :: r) (kv :: v :: vr) xs) : ∃ x xr, xs = x :: xr ∧ nkT k = some x.1 ∧ kv = .ref x.2.1 ∧ RelV v x.2.2 ∧ NM r vr xr := by
  cases xs with
  | nil => exact h.elim
  | cons x xr => exact ⟨x, xr, rfl, h⟩
variable {K : Fg} {H : Hp}
end
end Mir

set_option Elab.async false
set_option autoImplicit false
set_option linter.all false
set_option maxRecDepth 100000
set_option maxHeartbeats 4000000
/-! Dicts: the rules at the heap. -/
namespace Mir
open PySem PySem.Spec PyProof.Rows L2

section
variable {X : Cx} {pins : List (Addr × Obj)} {σ : L2.St} {H Hd : Hp} {s : Shared} {a : Addr} {ds : List D} {vs : List V}
variable {q d x : D} {y v z : V} {u r : Value} {A : Around} {E : Value → Shared → Prop}
end
end Mir

set_option Elab.async false
set_option autoImplicit false
set_option linter.all false
set_option maxRecDepth 100000
set_option maxHeartbeats 4000000
/-! Dicts: mirrors and their rules. -/
namespace Mir
open PySem PySem.Spec PyProof.Rows L2

/-- a new thing -/
theorem FPost.ct {K : Fg} {Hd H : Hp} {Q : VK} {t : Ct} {vs : List V} {p : Addr} (h : FPost K Hd H Q (.owc t)) (s : Same Hd H) (n : H p = none) (q : AtL K Hd t.ds vs) : Q (.ref p) (upd H p (t.ho K.w p vs)) := by
  have nd : Hd p = none := by
    cases e : Hd p with
    | none => rfl
    | some o => rw [s p o e] at n; cases n
  exact h p vs _ Hd (same_up n) (fun _ _ e => e) (fun b o e => by rw [upd_ne (ne_of_none (s b o e) n)]; exact s b o e) (fun b m => .inl m) n upd_same nd q
section
variable {X : Cx} {XR : XRel} {W : WX} {P : List Nat} {pos : Pos} {a b e : Expr} {ma mb me : EM}
/-! ### d[k] = x -/
end
end Mir

set_option Elab.async false
set_option autoImplicit false
set_option linter.all false
set_option maxRecDepth 100000
set_option maxHeartbeats 4000000
/-! Methods of dicts. -/
namespace Mir
open PySem PySem.Spec PyProof.Rows L2

section
variable {X : Cx} {o e : Expr} {es : List Expr} {to : TE} {t : TA} {name : Str} {apos cpos : Pos} {id : String} {r : V → List V → Hp → VK → Prop}
end
/-! ### d.get(k, x) -/
section
variable {X : Cx} {XR : XRel} {W : WX} {o e : Expr} {es : List Expr} {mo : EM} {ms : AM} {name : Str} {apos cpos : Pos} {id : String} {f : D → List D → FR}
theorem AtL.pair {K : Fg} {H : Hp} {d e : D} {xs : List V} (h : AtL K H [d, e] xs) : ∃ v u, xs = [v, u] ∧ At K H d v ∧ At K H e u := by
  obtain ⟨v, r, rfl, h1, u, r2, rfl, h2, h3⟩ := h
  cases h3
  exact ⟨v, u, rfl, h1, h2⟩
/-! ### d.setdefault(k, x), d an owned dict of the def -/
end
end Mir

set_option Elab.async false
set_option autoImplicit false
set_option linter.all false
set_option maxRecDepth 100000
set_option maxHeartbeats 4000000
/-! zip of two tuples, of two lists. -/
namespace Mir
open PySem PySem.Spec PyProof.Rows L2
theorem Same.seqL {K : Fg} {H H' : Hp} {a : Addr} {xs : List V} (e : Same H H') (h : SqL K H a xs) : SqL K H' a xs := e.seq h

section
variable {X : Cx} {XR : XRel} {W : WX} {e e2 : Expr} {m m2 : EM} {p p2 pos tpos : Pos} {elts : List Expr} {kk : Nat} {tg : Expr}
end
end Mir

set_option Elab.async false
set_option autoImplicit false
set_option linter.all false
set_option maxRecDepth 100000
set_option maxHeartbeats 4000000
/-! Dicts: the rules of the mathematics. -/
namespace Mir
open PySem
section
variable {Q : RV → List Sl → Prop} {E : Nat → List D → List Sl → Prop} {Γ : List Sl} {K : SK} {ma mb mo : EM} {ms : AM} {i : Nat} {ds : List D} {d e v : D} {F : RV → Prop}
end
/-! ### finding behind storing -/
end Mir

set_option Elab.async false
set_option autoImplicit false
set_option linter.all false
set_option maxRecDepth 100000
set_option maxHeartbeats 4000000
/-! try: .. except C as e: a suite of statements that ask what e is; lists times numbers. -/
namespace Mir
open PySem PySem.Spec PyProof.Rows L2
/-! ### a list times a number -/
/-! ### the exception stays in its slot -/
section
variable {X : Cx} {XR : XRel} {P : List Nat} {i : Nat} {a : Addr} {b : Bool} {x y c e : Expr} {rest : List Stmt} {ma mb me : EM} {m m2 : SM} {pos p px : Pos} {f : D → D → FR} {g : List D → FR}
end
section
variable {X : Cx} {W : WX} {P : List Nat} {xt : Nat → Option Addr} {x n : Str} {cv : Value} {i : Nat} {body suite : List Stmt} {b₀ : Stmt} {np pos pos' : Pos} {mb : SM} {h : Nat → Option SM}
end
end Mir

set_option Elab.async false
set_option autoImplicit false
set_option linter.all false
set_option maxRecDepth 100000
set_option maxHeartbeats 4000000
/-! l.index(x) of data. -/
namespace Mir
open PySem PySem.Spec PyProof.Rows L2
section
variable {X : Cx} {XR : XRel} {W : WX} {o e : Expr} {mo : EM} {ms : AM} {apos cpos : Pos}
end
section
variable {Q : RV → List Sl → Prop} {E : Nat → List D → List Sl → Prop} {Γ : List Sl} {mo : EM} {ms : AM} {F : RV → Prop}
end
end Mir

set_option Elab.async false
set_option autoImplicit false
set_option linter.all false
set_option maxRecDepth 100000
set_option maxHeartbeats 4000000
/-! {.. for .. for ..} of texts. -/
namespace Mir
open PySem PySem.Spec PyProof.Rows L2
/-- both clauses -/
abbrev S2 (elt t0 i0 t1 i1 : Expr) (ifs0 ifs1 : List Expr) (scope : Scope) (pos : Pos) : Expr := .SetComp elt [⟨t0, i0, ifs0, 0⟩, ⟨t1, i1, ifs1, 0⟩] scope pos
section
variable {prog : Program} {w : World} {A : Around} {R : Result → Shared → Prop} {s : Shared} {elt t0 i0 t1 i1 : Expr} {ifs0 ifs1 : List Expr} {scope : Scope} {pos : Pos} {it acc : Value} {env : Env}
end
end Mir

set_option Elab.async false
set_option autoImplicit false
set_option linter.all false
set_option maxRecDepth 100000
set_option maxHeartbeats 4000000
/-! sorted({.. for .. for ..}) of texts. -/
namespace Mir
open PySem PySem.Spec PyProof.Rows L2
section
variable {K : Fg} {XR : XRel} {W : WX} {T own T1 own1 : List Nat} {mi mi1 : IM} {f f1 : GM} {t t1 : List Sl → Rs Bool} {m : EM}
end
section
variable {X : Cx} {XR : XRel} {W : WX} {T T1 : List Nat} {elt tg iter tg1 iter1 : Expr} {ifs ifs1 : List Expr} {scope : Scope} {own : List (Str × Nat)} {vs1 : List Nat} {pos pos2 p : Pos} {mi mi1 : IM} {f f1 : GM} {t t1 : List Sl → Rs Bool} {m : EM}
end
section
variable {own own1 : List Nat} {mi mi1 : IM} {f f1 : GM} {t t1 : List Sl → Rs Bool} {ma : EM} {Γ : List Sl} {E : Nat → List D → List Sl → Prop} {Qr : RV → List Sl → Prop}
end
end Mir

set_option Elab.async false
set_option autoImplicit false
set_option linter.all false
set_option maxRecDepth 100000
set_option maxHeartbeats 4000000
/-! set(xs) of nested tuples, in of such a set: calls and mirrors. -/
namespace Mir
open PySem PySem.Spec PyProof.Rows L2
section
variable {P : Program} {w : World} {A : Around} {E : Value → Shared → Prop} {s : Shared}
end
end Mir

set_option Elab.async false
set_option autoImplicit false
set_option linter.all false
set_option maxRecDepth 100000
set_option maxHeartbeats 4000000
/-! set(xs) of nested tuples, in of such a set: mirrors. -/
namespace Mir
open PySem PySem.Spec PyProof.Rows L2
/-! ### as data -/
section
variable {K : Fg} {H : Hp}
theorem NS.keys : ∀ {ds : List D} {vs : List V} {M : List (Addr × NestedKey)}, NS ds vs M → ds.map nkT = M.map (fun x => some x.2) ∧ vs = M.map fun x => V.ref x.1
  | [], [], [], _ => ⟨rfl, rfl⟩
  | d :: ds, v :: vs, x :: xs, ⟨h1, h2, h3⟩ => by
    obtain ⟨a, b⟩ := NS.keys h3
    exact ⟨by rw [List.map_cons, List.map_cons, h1, a], by rw [List.map_cons, h2, b]⟩
  | [], [], _ :: _, h => h.elim
  | [], _ :: _, _, h => h.elim
  | _ :: _, [], _, h => h.elim
  | _ :: _, _ :: _, [], h => h.elim
theorem NS.has {ds : List D} {vs : List V} {M : List (Addr × NestedKey)} (h : NS ds vs M) {d : D} {k : NestedKey} (hd : nkT d = some k) : ds.any (fun y => eqD y d) = decide (k ∈ M.map (·.2)) := by
  have e := h.keys.1
  clear h
  induction ds generalizing M with
  | nil => cases M with
    | nil => simp
    | cons => cases e
  | cons c ds ih =>
    cases M with
    | nil => cases e
    | cons x M =>
      rw [List.map_cons, List.map_cons] at e
      have e1 := (List.cons.inj e).1
      rw [List.any_cons, ih (List.cons.inj e).2, nkT_eq e1 hd, List.map_cons]
      by_cases h : x.2 = k
      · simp [h]
      · have h' : ¬ k = x.2 := fun z => h z.symm
        simp [h, h', List.mem_cons]
theorem NS.append : ∀ {ds : List D} {vs : List V} {M : List (Addr × NestedKey)} {d : D} {v : V} {x : Addr × NestedKey}, NS ds vs M → nkT d = some x.2 → v = .ref x.1 → NS (ds ++ [d]) (vs ++ [v]) (M ++ [x])
  | [], [], [], _, _, _, _, h1, h2 => ⟨h1, h2, trivial⟩
  | _ :: _, _ :: _, _ :: _, _, _, _, ⟨a, b, c⟩, h1, h2 => ⟨a, b, c.append h1 h2⟩
  | [], [], _ :: _, _, _, _, h, _, _ => h.elim
  | [], _ :: _, _, _, _, _, h, _, _ => h.elim
  | _ :: _, [], _, _, _, _, h, _, _ => h.elim
  | _ :: _, _ :: _, [], _, _, _, h, _, _ => h.elim
end
section
variable {X : Cx} {pins : List (Addr × Obj)} {σ : L2.St} {H : Hp} {s : Shared}
end
section
variable {X : Cx} {XR : XRel} {W : WX} {e : Expr} {m : EM} {p pos : Pos}
/-! ### in -/
end
end Mir

set_option Elab.async false
set_option autoImplicit false
set_option linter.all false
set_option maxRecDepth 100000
set_option maxHeartbeats 4000000
/-! Sets of texts: set(xs), {.. for ..}, sorted and len of them. -/
namespace Mir
open PySem PySem.Spec PyProof.Rows L2

/-! ### the object -/
def txtZ (e : Int × Value) : Int := match e.2 with
  | .int x _ => x
  | _ => 0
def TxtEZ (w : World) (e : Int × Value) : Prop := ∃ x t, e = (hashInt x, Value.int x t)
/-- the set at a holds just the texts ks, and it can be walked -/
def SetTxZ (w : World) (h : Heap) (a : Addr) (ks : List Int) : Prop :=
  ∃ (o : Obj) (es : Array (Int × Value)) (ep : Nat) (t : SetTable), (h.get? a = some o ∧ o.ExactSet ∧ o.data = .set es ep t) ∧ (∀ e ∈ es.toList, TxtEZ w e) ∧
    ((es.toList.map txtZ).Perm ks ∧ ks.Nodup) ∧ (es.size < scanBound ∧ t.fits es.size = true) ∧ Ris t.place.toList ∧ (w.params.followText "set-order" = true ∨ t.led = true)
section
variable {P : Program} {w : World} {h h' : Heap} {a : Addr} {ks : List Int}
theorem SetTxZ.at (R : SetTxZ w h a ks) (k : ∀ o, h.get? a = some o → h'.get? a = some o) : SetTxZ w h' a ks := by
  obtain ⟨o, es, ep, t, ⟨h1, h2⟩, r⟩ := R
  exact ⟨o, es, ep, t, ⟨k o h1, h2⟩, r⟩
theorem SetTxZ.ob (R : SetTxZ w h a ks) : ∃ o, h.get? a = some o := by
  obtain ⟨o, es, ep, t, ⟨h1, h2⟩, r⟩ := R
  exact ⟨o, h1⟩
end

/-! ### add -/
section
variable {P : Program} {w : World} {A : Around} {E : Value → Shared → Prop} {s : Shared} {a : Addr} {ks : List Int}
end
/-! ### set(xs) -/
section
variable {P : Program} {w : World} {A : Around} {I S : Addr} {fp wr : List Addr} {G : Array GenState → Array GenState → Prop} {n : Nat} {Pv : Nat → Value → Prop} {St : Nat → Shared → Prop} {R : Result → Shared → Prop}
end
section
variable {P : Program} {w : World} {A : Around} {E : Value → Shared → Prop} {s : Shared}
set_option maxHeartbeats 3200000 in
end
end Mir

set_option Elab.async false
set_option autoImplicit false
set_option linter.all false
set_option maxRecDepth 100000
set_option maxHeartbeats 4000000
/-! sorted(set(xs)), len(set(xs)), sorted({.. for ..}) of texts. -/
namespace Mir
open PySem PySem.Spec PyProof.Rows L2
open PySem.W (EachIs sortVals)
/-! ### the data -/
/-! ### as tracked objects -/
section
variable {X : Cx} {pins : List (Addr × Obj)} {σ : L2.St} {H : Hp} {s : Shared}
end
end Mir

set_option Elab.async false
set_option autoImplicit false
set_option linter.all false
set_option maxRecDepth 100000
set_option maxHeartbeats 4000000
/-! sorted(set(xs)), len(set(xs)) of texts, as mirrors. -/
namespace Mir
open PySem PySem.Spec PyProof.Rows L2
section
variable {X : Cx} {XR : XRel} {W : WX} {e : Expr} {m : EM} {p p2 pos pos2 : Pos}
end
end Mir

set_option Elab.async false
set_option autoImplicit false
set_option linter.all false
set_option maxRecDepth 100000
set_option maxHeartbeats 4000000
/-! {.. for ..} of texts, as a tracked object. -/
namespace Mir
open PySem PySem.Spec PyProof.Rows L2
end Mir

set_option Elab.async false
set_option autoImplicit false
set_option linter.all false
set_option maxRecDepth 100000
set_option maxHeartbeats 4000000
/-! sorted({.. for ..}) of texts; len(set(xs)). -/
namespace Mir
open PySem PySem.Spec PyProof.Rows L2
section
variable {K : Fg} {XR : XRel} {W : WX} {T own : List Nat} {mi : IM} {f : GM} {t : List Sl → Rs Bool} {m : EM}
end
section
variable {X : Cx} {XR : XRel} {W : WX} {T : List Nat} {elt tg iter : Expr} {ifs : List Expr} {scope : Scope} {own : List (Str × Nat)} {pos pos2 p : Pos} {mi : IM} {f : GM} {t : List Sl → Rs Bool} {m : EM}
end
/-! ### len(set(xs)) -/
section
variable {X : Cx}
variable {XR : XRel} {W : WX} {e : Expr} {m : EM} {p p2 pos pos2 : Pos}
end
end Mir

set_option Elab.async false
set_option autoImplicit false
set_option linter.all false
set_option maxRecDepth 100000
set_option maxHeartbeats 4000000
/-! while; what sorted({.. for ..}) of ints answers. -/
namespace Mir
open PySem PySem.Spec PyProof.Rows L2
section
variable {X : Cx} {XR : XRel} {W : WX} {P : List Nat} {t : List Sl → Rs Bool} {m : SM}
end
section
variable {own own1 : List Nat} {mi mi1 : IM} {f f1 : GM} {t t1 : List Sl → Rs Bool} {ma : EM} {Γ : List Sl} {E : Nat → List D → List Sl → Prop} {Qr : RV → List Sl → Prop}
end
/-! ### xs.extend(ys), ys a list -/
section
variable {X : Cx} {XR : XRel} {W : WX} {P : List Nat} {pos : Pos}
variable {x : Str} {p apos : Pos} {es : List Expr} {ms : AM} {a : Expr}
end
end Mir

set_option Elab.async false
set_option autoImplicit false
set_option linter.all false
set_option maxRecDepth 100000
set_option maxHeartbeats 4000000
/-! sorted(d), d a dict whose keys are texts. -/
namespace Mir
open PySem PySem.Spec PyProof.Rows L2
section
variable {prog : Program} {w : World} {d : Addr} {es : Array DictEntry} {ep : Nat}
end
section
variable {X : Cx} {pins : List (Addr × Obj)} {σ : L2.St} {H : Hp} {s : Shared}
end
end Mir

set_option Elab.async false
set_option autoImplicit false
set_option linter.all false
set_option maxRecDepth 100000
set_option maxHeartbeats 4000000
/-! A set of ints that is owned: set(), in, add, len. -/
namespace Mir
open PySem PySem.Spec PyProof.Rows L2
section
variable {X : Cx} {pins : List (Addr × Obj)} {σ : L2.St} {H : Hp} {s : Shared}
end
section
variable {X : Cx} {XR : XRel} {W : WX} {x : Str} {p pos apos : Pos} {ms : AM}
end
/-! ### add -/
section
variable {X : Cx}
variable {o e : Expr} {es : List Expr} {to : TE} {t : TA} {apos cpos : Pos}
end
section
variable {X : Cx} {XR : XRel} {W : WX} {x : Str} {p pos apos : Pos} {ms : AM}
end
/-! ### their wp rules -/
/-! ### name = [.. for .. for ..] on one line -/
section
variable {X : Cx} {XR : XRel} {W : WX} {P T T1 vs1 : List Nat} {elt tg iter tg1 iter1 : Expr} {ifs ifs1 : List Expr} {scope : Scope} {own : List (Str × Nat)} {pos spos : Pos} {mi mi1 : IM} {f f1 : GM} {t t1 : List Sl → Rs Bool} {m : EM}
end
end Mir

set_option Elab.async false
set_option autoImplicit false
set_option linter.all false
set_option maxRecDepth 100000
set_option maxHeartbeats 4000000
/-! xs.extend(ys), ys a tuple. -/
namespace Mir
open PySem PySem.Spec PyProof.Rows L2
section
variable {X : Cx}
end
section
variable {X : Cx} {XR : XRel} {W : WX} {P : List Nat} {pos : Pos}
variable {x : Str} {p apos : Pos} {es : List Expr} {ms : AM} {a : Expr}
end
end Mir

set_option Elab.async false
set_option autoImplicit false
set_option linter.all false
set_option maxRecDepth 100000
set_option maxHeartbeats 4000000
/-! list(range(n)). -/
namespace Mir
open PySem PySem.Spec PyProof.Rows L2
section
variable {X : Cx} {XR : XRel} {W : WX} {a : Expr} {m : EM} {p p2 pos pos2 : Pos}
end
end Mir

set_option Elab.async false
set_option autoImplicit false
set_option linter.all false
set_option maxRecDepth 100000
set_option maxHeartbeats 4000000
/-! x is not True, x a bool. -/
namespace Mir
open PySem PySem.Spec PyProof.Rows L2
section
variable {X : Cx}
end
end Mir

set_option Elab.async false
set_option autoImplicit false
set_option linter.all false
set_option maxRecDepth 100000
set_option maxHeartbeats 4000000
/-! xs[::-1], and sep.join(xs) where sep is reckoned. -/
namespace Mir
open PySem PySem.Spec PyProof.Rows L2
section
variable {X : Cx} {XR : XRel} {W : WX} {a o e : Expr} {ma mo mb : EM} {pos apos p1 p2 p3 : Pos} {k : Nat}
end
section
variable {Qr : RV → List Sl → Prop} {E : Nat → List D → List Sl → Prop} {ma mb : EM} {Γ : List Sl}
end
end Mir

set_option Elab.async false
set_option autoImplicit false
set_option linter.all false
set_option maxRecDepth 100000
set_option maxHeartbeats 4000000
/-! {.. : .. for ..}, the dict as a tracked object. -/
namespace Mir
open PySem PySem.Spec PyProof.Rows L2
section
variable {X : Cx} {pins : List (Addr × Obj)} {σ : L2.St} {H Hd : Hp} {s : Shared} {a : Addr} {ds : List D} {vs : List V}
variable {q d x : D} {y v z : V} {u r : Value} {A : Around} {E : Value → Shared → Prop}
end
end Mir

set_option Elab.async false
set_option autoImplicit false
set_option linter.all false
set_option maxRecDepth 100000
set_option maxHeartbeats 4000000
/-! {.. : .. for ..}: the mirror. -/
namespace Mir
open PySem PySem.Spec PyProof.Rows L2
section
variable {K : Fg} {XR : XRel} {W : WX} {T own : List Nat} {mi : IM} {f : GM} {t : List Sl → Rs Bool} {m mv : EM}
variable {X : Cx} {kx vx tg iter : Expr} {ifs : List Expr} {scope : Scope} {own : List (Str × Nat)} {pos : Pos}
end
end Mir

set_option Elab.async false
set_option autoImplicit false
set_option linter.all false
set_option maxRecDepth 100000
set_option maxHeartbeats 4000000
/-! list(d) of a dict; the wp rule of a dict comprehension. -/
namespace Mir
open PySem PySem.Spec PyProof.Rows L2
section
variable {X : Cx} {pins : List (Addr × Obj)} {σ : L2.St} {H Hd : Hp} {s : Shared} {a : Addr} {ds : List D} {vs : List V}
end
section
variable {Γ : List Sl} {t : List Sl → Rs Bool} {ma mv : EM} {E : D → List D → List Sl → Prop} {Qr : RV → List Sl → Prop}
end
end Mir

set_option Elab.async false
set_option autoImplicit false
set_option linter.all false
set_option maxRecDepth 100000
set_option maxHeartbeats 4000000
/-! for k, x in d.items(): the iterator. -/
namespace Mir
open PySem PySem.Spec PyProof.Rows L2
section
variable {P : Program} {w : World} {K : PySem.W.Frag}
end
/-! ### walked -/
end Mir

set_option Elab.async false
set_option autoImplicit false
set_option linter.all false
set_option maxRecDepth 100000
set_option maxHeartbeats 4000000
/-! [.. for k, x in d.items() ..]: the mirror. -/
namespace Mir
open PySem PySem.Spec PyProof.Rows L2
section
variable {K : Fg} {XR : XRel} {W : WX} {T own : List Nat} {mi : IM} {f : GM} {t : List Sl → Rs Bool} {m : EM}
end
/-! ### a dict taken out of the slots while it is walked -/
section
variable {K : Fg} {H1 H2 H : Hp} {a : Addr} {o : Obj} {es : List D} {us : List V}
end
section
variable {K : Fg} {O O' O'' : List Addr} {Γ Γ' : List Sl} {σ : L2.St} {H H' H0 : Hp} {i : Nat} {a : Addr} {o : Obj} {ds : List D} {us : List V}
end
section
variable {X : Cx} {XR : XRel} {W : WX} {T : List Nat} {elt : Expr} {ifs : List Expr} {scope : Scope} {own : List (Str × Nat)} {pos apos cpos tpos : Pos} {elts : List Expr} {kk : Nat} {f : GM} {t : List Sl → Rs Bool} {m : EM}
end
section
variable {Γ : List Sl} {t : List Sl → Rs Bool} {ma : EM} {Qr : RV → List Sl → Prop} {E : Nat → List D → List Sl → Prop}
end
end Mir

set_option Elab.async false
set_option autoImplicit false
set_option linter.all false
set_option maxRecDepth 100000
set_option maxHeartbeats 4000000
/-! An own exception class whose __init__ keeps one thing under a name: raise C(x), except C as e: return [e.f]. -/
namespace Mir
open PySem PySem.Spec PyProof.Rows L2
section
variable {X : Cx} {e : Expr} {es : List Expr} {ta : TA} {p1 p2 pos : Pos}
/-- B.__init__(self, ..), B an own class over ValueError without an __init__ of its own -/
theorem pe_binit {pl : Sem Bool} {bn : Str} {CB : Addr} (hg : Gl X bn) (hm : X.mg bn = some (.ref CB)) (hga : PySem.W.specialIn X.K (.ref CB) "__getattribute__" = some (some (.builtin "type.__getattribute__"))) (hrd : PySem.W.readsIn X.K CB (.type "type") = true)
    (vV : PySem.W.findCls X.K (.ref CB) (.type "type") "__init__" = some (.val (.builtin "ValueError.__init__"))) (ha : PA X (e :: es) ta) (hdb : (bn == ("__debug__" : Str)) = false := by decide)
    (hc : eval (.Call (.Attribute (.Name bn p1) "__init__" p2) (e :: es) [] pos) X.env = (do
      let ov ← eval (.Name bn p1) X.env
      standAt p2.atName
      let (f, first) ← holding [ov] (getMethod ov "__init__" pl)
      callWith pos f first (backTo pos (starEach (e :: es) X.env)) (backToKw pos (keywordEach [] X.env))) := by rfl)
    (he : starEach (e :: es) X.env = (false, eval e X.env) :: starEach es X.env := by rfl) (hpl : (backTo pos (starEach es X.env)).any (·.1) = false := by rfl) :
    PE X (.Call (.Attribute (.Name bn p1) "__init__" p2) (e :: es) [] pos) (tVeI X.K ta) := by
  refine ⟨fun pins s σ H Q I h => ?_⟩
  refine PySem.W.methodCall_KW (ld_glob I hg hm ?_ hdb) hc
  refine PySem.W.method_cls I.kIn hga (PySem.W.cls_value I.kIn hrd vV (by decide +kernel) ?_)
  show wpAny _ _ (callWith pos (Value.builtin "ValueError.__init__") [] (backTo pos (starEach (e :: es) X.env)) []) _ _ _
  refine PyProof.Rows.callWith_method1 (thn (ha.run pos pins _ σ H _ (I.tok _) h) fun us s1 ⟨vs, H1, I1, r1, a, C, ws, ev, hl, T, ea, q⟩ => ?_) he hpl
  subst ev
  cases r1 with
  | @cons _ u0 _ ur ra rw' =>
    cases (show u0 = Value.ref a from ra)
    have hlen : ur.length ≤ sizeLine := Nat.le_trans (Nat.le_of_eq (Paired.length rw').symm) (Nat.le_trans hl (by decide))
    exact oinit_ok T I1 ea hlen fun s' J => ⟨.non, H1, J, rfl, q⟩
end
/-! ### the __init__ -/
/-- what the written part says of the class x at C, its __init__ at fI, the name f under which it keeps what it is given, its base bn at CB -/
structure OwnE (K : PySem.W.Frag) (mg : Str → Option Value) (x f bn : Str) (C CB fI : Addr) : Prop where
  gC : mg x = some (.ref C)
  gB : mg bn = some (.ref CB)
  ox : OexC K C
  xf : XfC K C
  no : PySem.W.findIn K (.ref C) f = some none
  iC : PySem.W.findIn K (.ref C) "__init__" = some (some (.ref fI))
  tI : PySem.W.typeIn K (.ref fI) = some (.type "function")
  ga : PySem.W.specialIn K (.ref CB) "__getattribute__" = some (some (.builtin "type.__getattribute__"))
  rd : PySem.W.readsIn K CB (.type "type") = true
  vI : PySem.W.findCls K (.ref CB) (.type "type") "__init__" = some (.val (.builtin "ValueError.__init__"))
  te : PySem.W.exmOne K (.ref C) (.ref C) = some true
/-- what __init__ does: self.f = v -/
def spI (K : PySem.W.Frag) (C : Addr) (f : Str) : Sp := fun vs H Q _ => ∃ (a : Addr) (v : V), vs = [.ref a, v] ∧ H a = some (exo a C none) ∧ ∀ dx, H dx = none → dx ≠ a → Q .non (upd (upd H dx (exd dx [(f, v)])) a (exo a C (some dx)))
theorem init_body {X : Cx} {x f bn mt : Str} {C CB fI : Addr} {j : Nat} {p1 p2 p3 p4 p5 p6 p7 p8 q1 q2 : Pos} (T : OwnE X.K X.mg x f bn C CB fI) (hg : Gl X bn) (h0 : PE X (.Name "self" p3) (tVar 0)) (h0' : PE X (.Name "self" p6) (tVar 0)) (h1 : PE X (.Name f p8) (tVar 1)) (hdb : (bn == ("__debug__" : Str)) = false)
    {pl : Sem Bool} (hc : eval (.Call (.Attribute (.Name bn p1) "__init__" p2) [.Name "self" p3, .Constant (.str mt) j p4] [] p5) X.env = (do
      let ov ← eval (.Name bn p1) X.env
      standAt p2.atName
      let (f, first) ← holding [ov] (getMethod ov "__init__" pl)
      callWith p5 f first (backTo p5 (starEach [.Name "self" p3, .Constant (.str mt) j p4] X.env)) (backToKw p5 (keywordEach [] X.env))))
    (he : starEach [.Name "self" p3, .Constant (.str mt) j p4] X.env = (false, eval (.Name "self" p3) X.env) :: starEach [.Constant (.str mt) j p4] X.env) (he2 : starEach [.Constant (.str mt) j p4] X.env = (false, eval (.Constant (.str mt) j p4) X.env) :: starEach [] X.env) (hpl : (backTo p5 (starEach [.Constant (.str mt) j p4] X.env)).any (·.1) = false)
    (hs1 : swapsWith (.Call (.Attribute (.Name bn p1) "__init__" p2) [.Name "self" p3, .Constant (.str mt) j p4] [] p5) none q1.line X.env = pure false) (hs2 : swapsWith (.Name f p8) (some (.Attribute (.Name "self" p6) f p7)) q2.line X.env = pure false)
    {σ : L2.St} {H : Hp} {D : Ends} {a : Addr} {v : V} (e0 : σ[0]? = some (some (.ref a))) (e1 : σ[1]? = some (some v)) (ha : H a = some (exo a C none)) (hD : ∀ dx, H dx = none → dx ≠ a → D.nx σ (upd (upd H dx (exd dx [(f, v)])) a (exo a C (some dx)))) :
    ∃ t, PSs X [.Expr (.Call (.Attribute (.Name bn p1) "__init__" p2) [.Name "self" p3, .Constant (.str mt) j p4] [] p5) q1, .Assign [.Attribute (.Name "self" p6) f p7] (.Name f p8) q2] t ∧ t D σ H := by
  refine ⟨_, pss_cons (ps_expr (pe_binit (pl := pl) hg T.gB T.ga T.rd T.vI (pa_cons h0 (pa_cons pe_str pa_nil he2) he) hdb hc he hpl) hs1) (pss_cons (ps_ost h0' h1 hs2) pss_nil), ?_⟩
  refine ⟨.ref a, e0, ?_⟩
  exact ⟨a, C, [.str mt], rfl, by simp, T.ox, ha, v, e1, .ref a, e0, a, C, rfl, T.ox, T.no, .inl ⟨ha, hD⟩⟩

/-! ### the class, from what is written -/
theorem refs_of : ∀ (l : List Value), PySem.W.excTail PySem.HandSPX.veTail l = true → PySem.HandSPX.refsVE l = true
  | [], e => by
    rcases PySem.W.excTail_cases [] e with ⟨c, r, q, _⟩ | q
    · cases q
    · exact absurd q (by decide)
  | v :: l, e => by
    rcases PySem.W.excTail_cases (v :: l) e with ⟨c, r, q, h⟩ | q
    · obtain ⟨rfl, rfl⟩ := List.cons.inj q
      exact refs_of l h
    · rw [q]
      decide +kernel
theorem oex_of {K : PySem.W.Frag} {C : Addr} (q : PySem.W.excInitIn K C [.type "ValueError", .type "Exception", .type "BaseException", .type "object"] "ValueError.__new__" = true) (hd : PySem.W.hasDictIn K C = true) (sa : PySem.W.findIn K (.ref C) "__setattr__" = some (some (.builtin "object.__setattr__")))
    (exC : PySem.W.subIn K (.ref C) (.type "BaseException") = some true) (tyC : PySem.W.typeIn K (.ref C) = some (.type "type")) (kC : PySem.W.keepIn K (.ref C) = true) : OexC K C := by
  refine ⟨?_, sa, exC, tyC, kC⟩
  unfold PySem.W.excInitIn at q
  split at q
  · rename_i dd cd sl ho
    split at q
    · rename_i C' bm k0 k1 k2 k3 n k5 hm hs
      simp only [Bool.and_eq_true, beq_iff_eq, Bool.not_eq_true'] at q
      obtain ⟨⟨⟨rfl, rfl⟩, hdel⟩, ht⟩ := q
      obtain ⟨nm, bs, mro, ns, qn, hdc, sn, sub, ab, col, del⟩ := cd
      dsimp only at hm hdel
      subst hm hdel
      have hsl : sl = #[k0, k1, k2, k3, some (.builtin "ValueError.__new__"), k5] := by
        obtain ⟨l⟩ := sl
        simp only at hs
        rw [hs]
      subst hsl
      have e : hdc = true := by
        unfold PySem.W.hasDictIn PySem.W.clsIn at hd
        rw [ho] at hd
        simpa using hd
      subst e
      exact ⟨nm, qn, ns, bs, bm, sn, sub, ab, col, dd, k0, k1, k2, k3, k5, ho, refs_of _ ht⟩
    · cases q
  · cases q
/-- the class and its __init__ -/
structure ExcP (Pr : Program) (w : World) (K : PySem.W.Frag) (mg : Str → Option Value) (base : Heap) (x f : Str) (C : Addr) (k : Nat) : Prop where
  ex : ∃ (bn : Str) (CB fI : Addr) (fd : FuncData), OwnE K mg x f bn C CB fI ∧ FnOk Pr w K mg base (L2.CX Pr w) k fI fd ["self", f] (spI K C f) ∧ Binds K fd ["self", f] []
/-! ### raise -/
/-- a thing that isn't at the heap -/
def scV : D → Option V
  | .non => some .non
  | .int n => some (.int n)
  | .bl b => some (.bl b)
  | .str x => some (.str (toS x))
  | _ => none
/-- what is kept -/
abbrev Flat (x : D) (v : V) : Prop := scV x = some v
theorem Flat.at {K : Fg} {H : Hp} {x : D} {v : V} (h : Flat x v) : At K H x v := by
  cases x <;> cases h <;> rfl
def XRp (C : Addr) (f : Str) : XRel := fun c pl H cls d => ∃ (x : D) (v : V) (dd : Addr), c = 0 ∧ pl = [x] ∧ Flat x v ∧ cls = .ref C ∧ d = some dd ∧ H dd = some (.xd [(f, v)])
def flatD (d : D) : Bool := (scV d).isSome
theorem Flat.of {K : Fg} {Hd H : Hp} {x : D} {v : V} (h : flatD x = true) (q : Opn K Hd H x v) : Flat x v := by
  rcases q with q | ⟨_, _, _, e, _⟩ | ⟨t, _, _, _, e, _⟩
  · cases x <;> first | exact congrArg some q.symm | cases h
  · subst e; cases h
  · obtain ⟨c, ds⟩ := t
    subst e
    cases c <;> cases h
/-- raise C(x) -/
def sRaiseP (m : EM) : SM := fun Γ => (m Γ).sr fun r Γ1 => match peek Γ1 r with
  | some d => if flatD d then .ex 0 [d] Γ1 else .no
  | none => .no
theorem made_heap {H : Hp} {a dx C : Addr} {f : Str} {v : V} (h1 : H a = none) (h2 : dx ≠ a) : upd (del (upd (upd (upd H a (exo a C none)) dx (exd dx [(f, v)])) a (exo a C (some dx))) a) dx (.xd [(f, v)]) = upd H dx (.xd [(f, v)]) := by
  funext b
  by_cases hb : b = dx
  · subst hb
    rw [upd_same, upd_same]
  · rw [upd_ne hb, upd_ne hb]
    by_cases ha : b = a
    · subst ha
      rw [del_same, h1]
    · rw [del_ne ha, upd_ne ha, upd_ne hb, upd_ne ha]
section
variable {X : Cx} {W : WX} {P : List Nat} {x f : Str} {C : Addr} {k : Nat} {e : Expr} {m : EM} {p pos pos2 : Pos}
theorem ms_raiseP (U : ExcP X.prog X.w X.K X.mg X.base x f C k) (hr : Room (k + 1) X.A) (hc : X.calm = true) (tk : Takes X W) (hg : Gl X x) (h : ME X (XRp C f) W e m) (hdb : (x == ("__debug__" : Str)) = false := by decide)
    (he : starEach [e] X.env = (false, eval e X.env) :: starEach [] X.env := by rfl) (hpl : (backTo pos (starEach [] X.env)).any (·.1) = false := by rfl) :
    MS X (XRp C f) W P (.Raise (some (.Call (.Name x p) [e] [] pos)) none pos2) (sRaiseP m) := by
  obtain ⟨bn, CB, fI, fd, T, F1, hb⟩ := U.ex
  refine (ps_raise hc tk (pmk_oex T.ox T.iC T.tI F1 hr hb .nil (passes_call tk fun _ _ _ _ z => z.elim) hg T.gC (pa_cons h pa_nil he) hdb he hpl)).imp fun D σ H ⟨O, Γ, R, q⟩ => ?_
  refine ⟨O, Γ, R, (SPost.sr R q).imp fun r Γ1 H1 O1 R1 S1 h2 v hv => ?_⟩
  cases hp : peek Γ1 r with
  | none => rw [hp] at h2; exact h2.elim
  | some d =>
    simp only [hp] at h2
    cases hf : flatD d with
    | false => rw [hf] at h2; exact h2.elim
    | true =>
      simp only [hf, if_true] at h2
      have hfl : Flat d v := Flat.of hf (RvAt.opn R1 hv EStp.refl R1 hp)
      refine ⟨by simp, fun a ha => ⟨a, v, rfl, upd_same, fun dx hdx hda => ⟨rfl, dx, [(f, v)], upd_same, ?_, ?_, ?_⟩⟩⟩
      · rw [upd_ne hda, upd_same]
      · rw [upd_ne hda] at hdx
        exact hdx
      · rw [upd_ne hda] at hdx
        rw [made_heap ha hda]
        have sm : Same H1 (upd H1 dx (.xd [(f, v)])) := same_up hdx
        exact h2 (.ref C) (some dx) σ _ O1 ⟨d, v, dx, rfl, rfl, hfl, rfl, rfl, upd_same⟩ (R1.same sm) (EStp.of_same sm).s
end
/-! ### try -/
/-- try: .. except C as e (slot i): return what g makes of what e keeps -/
def sTryP (mb : SM) (i : Nat) (g : D → FR) : SM := fun Γ => match mb Γ with
  | .ex _ pl Γ' => match pl, Γ'[i]? with
    | [x], some .no => match (g x).res Γ' with
      | .ok r Γ'' => .rt r Γ''
      | _ => .no
    | _, _ => .no
  | r => r
/-- what the suite may think of -/
def tSuP (K : Fg) (f : Str) (i : Nat) (g : D → FR) (a : Addr) (d : Option Addr) : TS := fun E σ H => σ[i]? = some (some (.ref a)) ∧ ∃ (x : D) (v : V) (dd : Addr) (Hd : Hp), Flat x v ∧ d = some dd ∧ H dd = some (.xd [(f, v)]) ∧ Same Hd H ∧ FPost K Hd H E.rt (g x)
def tsP (K : Fg) (C : Addr) (f : Str) (i : Nat) (g : D → FR) (a : Addr) (cls : Value) (d : Option Addr) : TS := fun D σ H => cls = .ref C ∧ tSuP K f i g a d D σ H
section
variable {X : Cx} {W : WX} {P : List Nat} {x n f : Str} {C : Addr} {i : Nat} {body suite : List Stmt} {b₀ : Stmt} {np pos pos' : Pos} {mb : SM} {g : D → FR} {kk : Nat}
theorem ms_tryP (U : ExcP X.prog X.w X.K X.mg X.base x f C kk) (hs : X.stack = X.env :: X.outer) (hf : X.env.frame = some X.env.locals) (hN : X.N.Nodup) (hi : X.N[i]? = some n) (hln : X.env.kindOf n = some .local) (hc : Names X x (.ref C)) (tk : Takes X W) (hp : i ∉ P)
    (hb : ∀ (W' : WX) (pn : List (Addr × Obj)) (xe : Value → Shared → Prop), Takes (X.tr pn xe) W' → PassesOwn (model X.prog X.w) X.A X.env xe → MSs (X.tr pn xe) (XRp C f) W' P body mb)
    (hsu : ∀ (bn : Str) (CB fI : Addr), OwnE X.K X.mg x f bn C CB fI → ∀ (a : Addr) (d : Option Addr) (oe : Obj) (pn : List (Addr × Obj)), Zc (.ref C) d oe → (∃ vs, oe.data = .fields vs) → PSs (X.suite a ((a, oe) :: pn)) (b₀ :: suite) (tSuP X.KW f i g a d)) :
    MS X (XRp C f) W P (.Try body [.ExceptHandler (some (.Name x np)) (some n) (b₀ :: suite) pos'] [] [] pos) (sTryP mb i g) := by
  obtain ⟨bn, CB, fI, fd, T, F1, hbi⟩ := U.ex
  refine PS.imp (ps_try_as (tb := fun W' => tS X.KW (XRp C f) W' P mb) (ts := tsP X.KW C f i g) hs hf hN hi hln hc tk hb (fun a oe cls d pn hz hd => ⟨fun pins s σ H D I ⟨e1, q⟩ => by
    subst e1
    exact (hsu bn CB fI T a d oe pn hz hd).run pins s σ H D I q⟩)) fun D σ H ⟨O, Γ, R, q⟩ => ?_
  refine ⟨O, Γ, R, ?_⟩
  unfold sTryP at q
  cases em : mb Γ with
  | ex c pl Γ' =>
    rw [em] at q
    intro cls d σ' H' O' xr R' S'
    obtain ⟨x, v, dd, rfl, rfl, hfl, rfl, rfl, hdd⟩ := xr
    refine ⟨true, T.te, fun _ a na => ?_, fun hb => by cases hb⟩
    cases hno : Γ'[i]? with
    | none => first | (simp only [hno] at q; done) | (simp only [hno] at q; exact q.elim)
    | some s =>
      cases s with
      | no =>
        simp only [hno] at q
        have hl : i < σ'.length := by rw [← R'.len]; exact (List.getElem?_eq_some_iff.mp hno).1
        refine ⟨rfl, List.getElem?_set_self hl, x, v, dd, off O' H', hfl, rfl, hdd, off_le, FPost.of (XR := XRp C f) (W := W) (R'.any (o := some (.ref a)) hno) (fun b h => h) ?_⟩
        cases hr : (g x).res Γ' with
        | ok r Γ'' =>
          rw [hr] at q
          intro H2 O2 R2 S2 u hu
          exact q (σ'.set i (some (.ref a))) H2 O2 R2 (S'.trans R ((sst_any (K := X.KW) hp hno).trans R' S2.s)) u (hu.older (none_back S'.toStp))
        | ex c pl Γ2 => rw [hr] at q; exact q.elim
        | no => rw [hr] at q; exact q.elim
      | _ => first | (simp only [hno] at q; done) | (simp only [hno] at q; exact q.elim)
  | _ => rw [em] at q; exact q
/-- a part of what is returned: h of what e keeps -/
def tEl (f : Str) (i : Nat) (a : Addr) (d : Option Addr) (h : D → D) : TE := fun σ H Q => σ[i]? = some (some (.ref a)) ∧ ∃ (x : D) (v : V) (dd : Addr) (u : V), Flat x v ∧ d = some dd ∧ H dd = some (.xd [(f, v)]) ∧ Flat (h x) u ∧ Q u H
def tEls (f : Str) (i : Nat) (a : Addr) (d : Option Addr) (hs : List (D → D)) : TA := fun σ H Q => σ[i]? = some (some (.ref a)) ∧ ∃ (x : D) (v : V) (dd : Addr) (us : List V), Flat x v ∧ d = some dd ∧ H dd = some (.xd [(f, v)]) ∧ Paired (fun u h => Flat (h x) u) us hs ∧ Q us H
section
variable {a : Addr} {d : Option Addr} {oe : Obj} {pn : List (Addr × Obj)} {bn : Str} {CB fI : Addr} {px pa pl pr p1 p2 : Pos} {h : D → D} {hs : List (D → D)} {es : List Expr} {e : Expr}
theorem el_nil : PA (X.suite a ((a, oe) :: pn)) [] (tEls f i a d []) := pa_nil.imp fun σ H Q ⟨_, x, v, dd, us, _, _, _, p, q⟩ => by
  cases p
  exact q
theorem el_cons (h1 : PE (X.suite a ((a, oe) :: pn)) e (tEl f i a d h)) (h2 : PA (X.suite a ((a, oe) :: pn)) es (tEls f i a d hs)) (he : starEach (e :: es) X.env = (false, eval e X.env) :: starEach es X.env := by rfl) : PA (X.suite a ((a, oe) :: pn)) (e :: es) (tEls f i a d (h :: hs)) :=
  (pa_cons h1 h2 he).imp fun σ H Q ⟨hσ, x, v, dd, us, hx, ed, hd, p, q⟩ => by
    cases p with
    | cons hu p => exact ⟨hσ, x, v, dd, _, hx, ed, hd, hu, hσ, x, v, dd, _, hx, ed, hd, p, q⟩
theorem el_attr (T : OwnE X.K X.mg x f bn C CB fI) (hz : Zc (.ref C) d oe) (hd : ∃ vs, oe.data = .fields vs) (hv : PE (X.suite a ((a, oe) :: pn)) (.Name n px) (tVar i)) (hb : attributeBase (.Name n px) f X.env (eval (.Name n px) X.env) = eval (.Name n px) X.env := by rfl) :
    PE (X.suite a ((a, oe) :: pn)) (.Attribute (.Name n px) f pa) (tEl f i a d (fun x => x)) := (pe_xf T.xf T.no hz hd hv hb).imp fun σ H Q ⟨hσ, x, v, dd, u, hx, ed, hdd, hu, q⟩ => by
  subst ed
  cases hx.symm.trans hu
  exact ⟨.ref a, hσ, rfl, rfl, dd, [(f, v)], v, rfl, hdd, by simp, q⟩
theorem el_str {m : List Nat} {j : Nat} : PE (X.suite a ((a, oe) :: pn)) (.Constant (.str (toS m)) j pa) (tEl f i a d (fun _ => .str m)) := pe_str.imp fun σ H Q ⟨hσ, x, v, dd, u, hx, ed, hdd, hu, q⟩ => by
  cases hu
  exact q
/-- what isinstance asks of an exception that has a dict -/
theorem kitx_own {K : PySem.W.Frag} {x D : Addr} {ox : Obj} {od : Option Obj} (C : ExcC K D) : PySem.W.KitX K (.ref x) (.ref D) (fun h => PySem.W.InstAt h x ox D od) := by
  have hs : (PySem.W.clsIn K D).isSome = true := by obtain ⟨cd, hc, _⟩ := PySem.W.any_some C.hd; rw [hc]; rfl
  refine ⟨fun _ _ _ I => I.type, fun M h X _ A' Q' E' s' k q => (PySem.W.mc_isType (s := { s' with heap := h }) X C.hd) A' Q' E' s' k q, fun h tp dd its n sl X htp => ?_, fun X I k => PySem.W.kx_classE X I C.hg C.hk C.hs (PySem.W.findObj_dataE hs C.ha C.hn C.ht) C.hm k⟩
  by_cases e : D = tp
  · exfalso
    obtain ⟨cd, hc⟩ := Option.isSome_iff_exists.mp hs
    unfold PySem.W.clsIn at hc
    split at hc
    · rename_i _ _ _ _ ho
      have z := htp
      rw [← e, X _ _ ho] at z
      nomatch z
    · nomatch hc
  · exact Bool.eq_false_iff.mpr fun q => e (Value.ref.inj (beq_iff_eq.mp q))
def rIsP (K : PySem.W.Frag) (C a : Addr) (d : Option Addr) : List V → Hp → VK → Prop := fun xs H Q => ∃ (c : V) (cv : Value) (b : Bool) (dd : Addr) (fs : List (Str × V)), xs = [.ref a, c] ∧ d = some dd ∧ H dd = some (.xd fs) ∧ (∀ u, RelV c u → u = cv) ∧ PySem.W.kitOne K (.ref C) cv = some b ∧ Q (.bl b) H
theorem call_isP {X : Cx} {a C : Addr} {d : Option Addr} {oe : Obj} {pn : List (Addr × Obj)} (T : ExcC X.K C) (hz : Zc (.ref C) d oe) (hf : ∃ vs, oe.data = .fields vs) : CallR (X.suite a ((a, oe) :: pn)) (.builtin "isinstance") (rIsP X.K C a d) := fun pins s σ H xs us Q I r h => by
  obtain ⟨c, cv, b, dd, fs, rfl, rfl, hdd, hcv, e, q⟩ := h
  match us, r with
  | [u1, u2], .cons r1 (.cons r2 .nil) =>
    cases (show u1 = Value.ref a from r1)
    cases (hcv _ r2 : u2 = cv)
    have ha := (I.pin (a, oe) (List.mem_append_left _ List.mem_cons_self)).1
    have hx : ObjOk X.prog X.w H s.heap dd (.xd fs) := I.hok dd _ hdd
    obtain ⟨mA, hns, _⟩ := hx
    obtain ⟨od, ho, _⟩ := lookIn_ns hns
    have hn : PySem.W.notCls oe = true := by obtain ⟨vs, hv⟩ := hf; unfold PySem.W.notCls; rw [hv] <;> rfl
    exact PySem.W.kia_one (kitx_own T) I.kIn (show PySem.W.InstAt s.heap a oe C (some od) from ⟨ha, hz.1, hn, by rw [hz.2]; exact ho⟩) e (fun z => nomatch z) fun tk => ⟨.bl b, H, I.tok tk, rfl, q⟩
theorem el_is {cv : V} {u : Value} {b : Bool} {c : Expr} (EC : ExcC X.KW C) (hz : Zc (.ref C) d oe) (hd : ∃ vs, oe.data = .fields vs) (hg : Gl X "isinstance") (hm : X.mg "isinstance" = none) (hv : PE (X.suite a ((a, oe) :: pn)) (.Name n px) (tVar i))
    (hc : PE (X.suite a ((a, oe) :: pn)) c (tC cv)) (k : ClsV cv u) (e : PySem.W.kitOne X.KW (.ref C) u = some b)
    (he : starEach [.Name n px, c] X.env = (false, eval (.Name n px) X.env) :: starEach [c] X.env := by rfl) (he2 : starEach [c] X.env = (false, eval c X.env) :: starEach [] X.env := by rfl) (hpl : (backTo p2 (starEach [c] X.env)).any (·.1) = false := by rfl) :
    PE (X.suite a ((a, oe) :: pn)) (.Call (.Name "isinstance" p1) [.Name n px, c] [] p2) (tEl f i a d (fun _ => .bl b)) :=
  (pe_callB (X := X.suite a ((a, oe) :: pn)) (call_isP EC hz hd) hg hm (by decide +kernel) (pa_cons hv (pa_cons hc pa_nil he2) he) (by decide) (by decide) he hpl).imp fun σ H Q ⟨hσ, x, v, dd, uu, hx, ed, hdd, hu, q⟩ => by
    cases hu
    exact ⟨.ref a, hσ, cv, u, b, dd, [(f, v)], rfl, ed, hdd, fun w r => k.eq r, e, q⟩
theorem els_of {x : D} : ∀ (hs : List (D → D)), (∀ h ∈ hs, flatD (h x) = true) → ∃ us : List V, Paired (fun u h => Flat (h x) u) us hs ∧ us.length = hs.length ∧ ∀ (K : Fg) (H : Hp), AtL K H (hs.map fun h => h x) us
  | [], _ => ⟨[], .nil, rfl, fun _ _ => AtL.nil⟩
  | h :: hs, hh => by
    obtain ⟨us, p, e, q⟩ := els_of hs fun g hg => hh g (List.mem_cons_of_mem _ hg)
    obtain ⟨u, hu⟩ := Option.isSome_iff_exists.mp (hh h List.mem_cons_self)
    exact ⟨u :: us, .cons hu p, by simp [e], fun K H => AtL.cons (Flat.at hu) (q K H)⟩
theorem psp_tup {k1 : Nat} (h : PA (X.suite a ((a, oe) :: pn)) es (tEls f i a d hs)) (hl : hs.length ≤ 1000) (hall : ∀ x, flatD x = true → ∀ h ∈ hs, flatD (h x) = true) : PSs (X.suite a ((a, oe) :: pn)) [.Return (some (.Tuple es k1 pl)) pr] (tSuP X.KW f i (fun x => .va (.tup (hs.map fun h => h x))) a d) :=
  (pss_one (ps_ret (pe_tup h))).imp fun E σ H ⟨hσ, x, v, dd, Hd, hfl, ed, hdd, sm, q⟩ => by
    obtain ⟨us, hp, hl2, ha⟩ := els_of (x := x) hs (hall x (by unfold flatD; rw [hfl]; rfl))
    refine ⟨hσ, x, v, dd, us, hfl, ed, hdd, hp, ?_⟩
    refine ⟨by show us.length ≤ sizeLine; rw [hl2]; exact Nat.le_trans hl (by decide), fun p hp => ?_⟩
    exact q.tup sm hp (ha _ _)
end
end
theorem wp_raiseP {K : SK} {m : EM} {Γ : List Sl} : (sRaiseP m Γ).wp K = (m Γ).wp (fun r Γ1 => opt (peek Γ1 r) fun d => if flatD d = true then K.ex 0 [d] Γ1 else False) K.ex := by
  unfold sRaiseP
  rw [wp_sr]
  congr 1
  funext r Γ1
  cases peek Γ1 r with
  | none => rfl
  | some d =>
    simp only [opt]
    split <;> rfl
theorem wp_tryP {K : SK} {mb : SM} {i : Nat} {g : D → FR} {Γ : List Sl} : (sTryP mb i g Γ).wp K = (mb Γ).wp { nx := K.nx, rt := K.rt, bk := K.bk, ct := K.ct, ex := fun _ pl Γ' => match pl, Γ'[i]? with
    | [x], some .no => ((g x).res Γ').wp K.rt (fun _ _ _ => False)
    | _, _ => False } := by
  unfold sTryP
  cases mb Γ with
  | ex c pl Γ' =>
    show SR.wp (match pl, Γ'[i]? with
      | [x], some .no => match (g x).res Γ' with
        | .ok r Γ'' => SR.rt r Γ''
        | _ => SR.no
      | _, _ => SR.no) K = (match pl, Γ'[i]? with
      | [x], some .no => ((g x).res Γ').wp K.rt (fun _ _ _ => False)
      | _, _ => False)
    cases pl with
    | nil => rfl
    | cons x pl =>
      cases pl with
      | cons y pl => rfl
      | nil =>
        cases Γ'[i]? with
        | none => rfl
        | some s =>
          cases s with
          | no =>
            simp only
            cases (g x).res Γ' <;> rfl
          | _ => rfl
  | _ => rfl
end Mir

set_option Elab.async false
set_option autoImplicit false
set_option linter.all false
set_option maxRecDepth 100000
set_option maxHeartbeats 4000000
namespace Law
open PySem PySem.Spec PyProof.Rows L2 Mir
def topS (i : Nat) : Stmt := PySem.Challenge.pw_rightchance_k16_faults_of_questions.main.body.getD i (.Pass ⟨0, 0, 0, 0⟩)
theorem sc_is_word : FnScope ["text", "sign"] ["text"] (defScope (topS 5)) := ⟨rfl, rfl, rfl, by decide +kernel, rfl, by decide +kernel, by decide +kernel⟩
def b_is_word : SM := (sRet (mAndV (mBin fNe (mVar 0) (mC (.str []))) (mFn fAll (mCons (mLc [1] (mSeq (mVar 0)) (gN 1) tYesM (mChain fLe fLe (mC (.str [97])) (mVar 1) (mC (.str [122])))) mNil))))
def m_is_word : DM := mDef 2 1 [0] b_is_word
theorem sc_is_value : FnScope ["value"] ["value"] (defScope (topS 6)) := ⟨rfl, rfl, rfl, by decide +kernel, rfl, by decide +kernel, by decide +kernel⟩
def b_is_value : SM := (sRet (mOrV (mIsi "int" (mVar 0)) (mCall m_is_word (mCons (mVar 0) mNil))))
def m_is_value : DM := mDef 1 1 [0] b_is_value
theorem sc_column_count : FnScope ["schema", "name", "table", "columns"] ["schema", "name"] (defScope (topS 8)) := ⟨rfl, rfl, rfl, by decide +kernel, rfl, by decide +kernel, by decide +kernel⟩
def b_column_count : SM := (sSeq (sFor (mSeq (mVar 0)) (gT 2 (gsCons (gN 2) (gsCons (gN 3) gsNil)))
  (sIf (mTE (mBin fEq (mVar 2) (mVar 1)))
  (sRet (mVar 3))
  sNil))
  (sRet (mC .non)))
def m_column_count : DM := mDef 4 2 [0, 1] b_column_count
theorem sc_variables_among : FnScope ["terms", "term"] ["terms"] (defScope (topS 17)) := ⟨rfl, rfl, rfl, by decide +kernel, rfl, by decide +kernel, by decide +kernel⟩
def b_variables_among : SM := (sRet (mFn fTuple (mCons (mSortSc [1] (mSeq (mVar 0)) (gN 1) (mTE (mBin fEq (mBin fIx (mVar 1) (mC (.int 0))) (mC (.str [118, 97, 114])))) (mBin fIx (mVar 1) (mC (.int 1)))) mNil)))
def m_variables_among : DM := mDef 2 1 [0] b_variables_among
theorem sc_are_valid_terms : FnScope ["terms", "term"] ["terms"] (defScope (topS 16)) := ⟨rfl, rfl, rfl, by decide +kernel, rfl, by decide +kernel, by decide +kernel⟩
def b_are_valid_terms : SM := (sRet (mFn fAll (mCons (mLc [1] (mSeq (mVar 0)) (gN 1) tYesM (mIf (mTE (mBin fEq (mBin fIx (mVar 1) (mC (.int 0))) (mC (.str [118, 97, 114])))) (mCall m_is_word (mCons (mBin fIx (mVar 1) (mC (.int 1))) mNil)) (mCall m_is_value (mCons (mBin fIx (mVar 1) (mC (.int 1))) mNil)))) mNil)))
def m_are_valid_terms : DM := mDef 2 1 [0] b_are_valid_terms
theorem sc_is_valid_atom : FnScope ["schema", "atom", "name", "terms"] ["schema", "atom"] (defScope (topS 15)) := ⟨rfl, rfl, rfl, by decide +kernel, rfl, by decide +kernel, by decide +kernel⟩
def b_is_valid_atom : SM := (sSeq (sAsg (gT 2 (gsCons (gN 2) (gsCons (gN 3) gsNil))) (mVar 1))
  (sRet (mAndV (mBin fEq (mCall m_column_count (mCons (mVar 0) (mCons (mVar 2) mNil))) (mFn fLen (mCons (mVar 3) mNil))) (mCall m_are_valid_terms (mCons (mVar 3) mNil)))))
def m_is_valid_atom : DM := mDef 4 2 [0, 1] b_is_valid_atom
theorem sc_is_valid_join : FnScope ["schema", "width", "join", "head", "body", "bound", "atom", "_", "terms", "term", "x"] ["schema", "width", "join"] (defScope (topS 14)) := ⟨rfl, rfl, rfl, by decide +kernel, rfl, by decide +kernel, by decide +kernel⟩
def b_is_valid_join : SM := (sSeq (sAsg (gT 2 (gsCons (gN 3) (gsCons (gN 4) gsNil))) (mVar 2))
  (sSeq (sIf (tOrM (mTE (mBin fNe (mFn fLen (mCons (mVar 3) mNil)) (mVar 1))) (mTE (mBin fGt (mFn fLen (mCons (mVar 4) mNil)) (mC (.int 8)))))
  (sRet (mC (.bl false)))
  sNil)
  (sSeq (sIf (tNotM (mTE (mFn fAll (mCons (mLc [6] (mSeq (mVar 4)) (gN 6) tYesM (mCall m_is_valid_atom (mCons (mVar 0) (mCons (mVar 6) mNil)))) mNil))))
  (sRet (mC (.bl false)))
  sNil)
  (sSeq (sSet 5 (mCall m_variables_among (mCons (mLc2 [7, 8, 9] (mSeq (mVar 4)) (gT 2 (gsCons (gN 7) (gsCons (gN 8) gsNil))) tYesM (mSeq (mVar 8)) [9] (gN 9) tYesM (mVar 9)) mNil)))
  (sRet (mAndV (mCall m_are_valid_terms (mCons (mVar 3) mNil)) (mFn fAll (mCons (mLc [10] (mSeq (mCall m_variables_among (mCons (mVar 3) mNil))) (gN 10) tYesM (mBin fInA (mVar 10) (mVar 5))) mNil))))))))
def m_is_valid_join : DM := mDef 11 3 [0, 1, 2] b_is_valid_join
theorem sc_check_question : FnScope ["schema", "question", "width", "joins", "index", "join"] ["schema", "question"] (defScope (topS 13)) := ⟨rfl, rfl, rfl, by decide +kernel, rfl, by decide +kernel, by decide +kernel⟩
def b_check_question : SM := (sSeq (sAsg (gT 2 (gsCons (gN 2) (gsCons (gN 3) gsNil))) (mVar 1))
  (sSeq (sIf (tOrM (mTE (mBin fLt (mVar 2) (mC (.int 0)))) (tOrM (mTE (mBin fGt (mVar 2) (mC (.int 8)))) (mTE (mBin fGt (mFn fLen (mCons (mVar 3) mNil)) (mC (.int 8))))))
  (sRaiseP (mC .non))
  sNil)
  (sFor (mEnum (mVar 3)) (gT 2 (gsCons (gN 4) (gsCons (gN 5) gsNil)))
  (sIf (tNotM (mTE (mCall m_is_valid_join (mCons (mVar 0) (mCons (mVar 2) (mCons (mVar 5) mNil))))))
  (sRaiseP (mVar 4))
  sNil))))
def m_check_question : DM := mDef 6 2 [0, 1] b_check_question
theorem sc__law_draws : FnScope ["script", "many", "cells", "rest", "draws", "k", "at", "mixed", "cell"] ["script", "many"] (defScope (topS 19)) := ⟨rfl, rfl, rfl, by decide +kernel, rfl, by decide +kernel, by decide +kernel⟩
def b__law_draws : SM := (sSeq (sSet 2 (mLc [8] (mSeq (mVar 0)) (gN 8) tYesM (mFn fInt (mCons (mVar 8) mNil))))
  (sSeq (sIf (mTE (mBin fEq (mFn fLen (mCons (mVar 2) mNil)) (mC (.int 0))))
  (sDrop (mMut 2 fAppend (mCons (mC (.int 0)) mNil)))
  sNil)
  (sSeq (sSet 3 (mFn fList (mCons (mVar 2) mNil)))
  (sSeq (sSet 4 (mLst mNil))
  (sSeq (sFor (mRng1 (mVar 1)) (gN 5)
  (sSeq (sSet 6 (mBin fMod (mVar 5) (mFn fLen (mCons (mVar 2) mNil))))
  (sIf (mTE (mBin fGe (mBin fIx (mVar 2) (mVar 6)) (mBin fPow (mC (.int 10)) (mC (.int 18)))))
  (sSeq (sDrop (mMut 4 fAppend (mCons (mBin fMod (mFn fInt (mCons (mBin fIx (mVar 3) (mVar 6)) mNil)) (mC (.int 1000))) mNil)))
  (sStore 3 (mBin fDiv (mBin fIx (mVar 3) (mVar 6)) (mC (.int 1000))) (mVar 6)))
  (sSeq (sSet 7 (mBin fMod (mFn fInt (mCons (mBinT fAdd (mBinT fAdd (mBin fMul (mBin fIx (mVar 2) (mVar 6)) (mC (.int 48271))) (mBin fMul (mVar 5) (mC (.int 69621)))) (mC (.int 11))) mNil)) (mC (.int 2147483647))))
  (sDrop (mMut 4 fAppend (mCons (mBin fMod (mFn fInt (mCons (mBinT fAdd (mBinT fAdd (mBin fMul (mVar 7) (mVar 7)) (mBin fMul (mC (.int 3)) (mVar 7))) (mVar 5)) mNil)) (mC (.int 1000003))) mNil)))))))
  (sSeq (sDrop (mMut 4 fReverse mNil))
  (sRet (mVar 4))))))))
def m__law_draws : DM := mDef 9 2 [0, 1] b__law_draws
theorem sc__law_take : FnScope ["draws", "many"] ["draws", "many"] (defScope (topS 20)) := ⟨rfl, rfl, rfl, by decide +kernel, rfl, by decide +kernel, by decide +kernel⟩
def b__law_take : SM := (sSeq (sIf (mTE (mBin fEq (mFn fLen (mCons (mVar 0) mNil)) (mC (.int 0))))
  (sRet (mC (.int 0)))
  sNil)
  (sRet (mBin fMod (mFn fInt (mCons (mPop 0) mNil)) (mVar 1))))
def m__law_take : DM := mDef 2 2 [0, 1] b__law_take
theorem sc__law_pick : FnScope ["draws", "row"] ["draws", "row"] (defScope (topS 21)) := ⟨rfl, rfl, rfl, by decide +kernel, rfl, by decide +kernel, by decide +kernel⟩
def b__law_pick : SM := (sRet (mBin fIx (mVar 1) (mCall m__law_take (mCons (mVar 0) (mCons (mFn fLen (mCons (mVar 1) mNil)) mNil)))))
def m__law_pick : DM := mDef 2 2 [0, 1] b__law_pick
theorem sc__law_same : FnScope ["actual", "due", "k"] ["actual", "due"] (defScope (topS 22)) := ⟨rfl, rfl, rfl, by decide +kernel, rfl, by decide +kernel, by decide +kernel⟩
def b__law_same (r : DM) : SM := (sSeq (sIf (mTE (mIsi2 "tuple" "list" (mVar 1)))
  (sSeq (sIf (tOrM (mTE (mBin fNe (mIsi "tuple" (mVar 0)) (mIsi "tuple" (mVar 1)))) (mTE (mBin fNe (mIsi "list" (mVar 0)) (mIsi "list" (mVar 1)))))
  (sRet (mC (.bl false)))
  sNil)
  (sSeq (sIf (mTE (mBin fNe (mFn fLen (mCons (mVar 0) mNil)) (mFn fLen (mCons (mVar 1) mNil))))
  (sRet (mC (.bl false)))
  sNil)
  (sRet (mBin fNotIn (mC (.bl false)) (mLc [2] (mRng1 (mFn fLen (mCons (mVar 1) mNil))) (gN 2) tYesM (mCall r (mCons (mBin fIx (mVar 0) (mVar 2)) (mCons (mBin fIx (mVar 1) (mVar 2)) mNil))))))))
  sNil)
  (sSeq (sIf (tOrM (mTE (mBin fNe (mIsi "bool" (mVar 0)) (mIsi "bool" (mVar 1)))) (mTE (mBin fNe (mIsi "int" (mVar 0)) (mIsi "int" (mVar 1)))))
  (sRet (mC (.bl false)))
  sNil)
  (sSeq (sIf (tOrM (mTE (mBin fNe (mIsi "str" (mVar 0)) (mIsi "str" (mVar 1)))) (mTE (mBin fNe (mBin fIs (mVar 0) (mC .non)) (mBin fIs (mVar 1) (mC .non)))))
  (sRet (mC (.bl false)))
  sNil)
  (sRet (mBin fEq (mVar 0) (mVar 1))))))
def m__law_same : Nat → DM
  | 0 => fun _ => .no
  | n + 1 => mDef 3 2 [0, 1] (b__law_same (m__law_same n))
theorem sc__law_pool : FnScope ["draws", "many", "pool", "k", "letters", "word", "j"] ["draws", "many"] (defScope (topS 23)) := ⟨rfl, rfl, rfl, by decide +kernel, rfl, by decide +kernel, by decide +kernel⟩
def b__law_pool : SM := (sSeq (sSet 2 (mLst mNil))
  (sSeq (sFor (mRng1 (mVar 1)) (gN 3)
  (sSeq (sSet 4 (mLc [6] (mRng1 (mBinT fAdd (mC (.int 1)) (mCall m__law_take (mCons (mVar 0) (mCons (mC (.int 3)) mNil))))) (gN 6) tYesM (mBin fIx (mC (.str [97, 98, 99, 100, 101, 102, 103, 104, 105, 106, 107, 108, 109, 110, 111, 112, 113, 114, 115, 116, 117, 118, 119, 120, 121, 122])) (mCall m__law_take (mCons (mVar 0) (mCons (mC (.int 26)) mNil))))))
  (sSeq (sSet 5 (mJoin [] (mVar 4)))
  (sSeq (sIf (mTE (mBin fIn (mVar 5) (mVar 2)))
  (sSet 5 (mBinT fAdd (mJoin [] (mVar 2)) (mC (.str [122]))))
  sNil)
  (sDrop (mMut 2 fAppend (mCons (mVar 5) mNil)))))))
  (sRet (mVar 2))))
def m__law_pool : DM := mDef 7 2 [0, 1] b__law_pool
theorem sc__law_values : FnScope ["draws", "words", "low", "values"] ["draws", "words"] (defScope (topS 24)) := ⟨rfl, rfl, rfl, by decide +kernel, rfl, by decide +kernel, by decide +kernel⟩
def b__law_values : SM := (sSeq (sSet 2 (mBin fSub (mCall m__law_take (mCons (mVar 0) (mCons (mC (.int 7)) mNil))) (mC (.int 3))))
  (sSeq (sSet 3 (mLst (mCons (mVar 2) (mCons (mBinT fAdd (mBinT fAdd (mVar 2) (mC (.int 1))) (mCall m__law_take (mCons (mVar 0) (mCons (mC (.int 5)) mNil)))) (mCons (mBin fIx (mVar 1) (mC (.int 0))) mNil)))))
  (sSeq (sIf (mTE (mBin fEq (mCall m__law_take (mCons (mVar 0) (mCons (mC (.int 3)) mNil))) (mC (.int 0))))
  (sStore 3 (mBin fIx (mVar 1) (mC (.int 1))) (mC (.int 1)))
  sNil)
  (sRet (mVar 3)))))
def m__law_values : DM := mDef 4 2 [0, 1] b__law_values
theorem sc__law_value : FnScope ["draws", "values"] ["draws", "values"] (defScope (topS 25)) := ⟨rfl, rfl, rfl, by decide +kernel, rfl, by decide +kernel, by decide +kernel⟩
def b__law_value : SM := (sRet (mBin fIx (mVar 1) (mBin fIx (mLst (mCons (mC (.int 0)) (mCons (mC (.int 1)) (mCons (mC (.int 0)) (mCons (mC (.int 2)) (mCons (mC (.int 1)) mNil)))))) (mCall m__law_take (mCons (mVar 0) (mCons (mC (.int 5)) mNil))))))
def m__law_value : DM := mDef 2 2 [0, 1] b__law_value
theorem sc__law_world : FnScope ["draws", "pool", "schema", "name"] ["draws"] (defScope (topS 26)) := ⟨rfl, rfl, rfl, by decide +kernel, rfl, by decide +kernel, by decide +kernel⟩
def b__law_world : SM := (sSeq (sSet 1 (mCall m__law_pool (mCons (mVar 0) (mCons (mC (.int 7)) mNil))))
  (sSeq (sSet 2 (mLst mNil))
  (sSeq (sFor (mSeq (mFn fSortedA (mCons (mSl (mVar 1) oNone (oSome (mBin fIx (mLst (mCons (mC (.int 3)) (mCons (mC (.int 2)) (mCons (mC (.int 3)) (mCons (mC (.int 4)) mNil))))) (mCall m__law_take (mCons (mVar 0) (mCons (mC (.int 4)) mNil)))))) mNil))) (gN 3)
  (sDrop (mMut 2 fAppend (mCons (mTup (mCons (mVar 3) (mCons (mBin fIx (mLst (mCons (mC (.int 2)) (mCons (mC (.int 1)) (mCons (mC (.int 2)) (mCons (mC (.int 1)) (mCons (mC (.int 2)) (mCons (mC (.int 0)) (mCons (mC (.int 1)) (mCons (mC (.int 3)) mNil))))))))) (mCall m__law_take (mCons (mVar 0) (mCons (mC (.int 8)) mNil)))) mNil))) mNil))))
  (sRet (mLst (mCons (mFn fTuple (mCons (mVar 2) mNil)) (mCons (mFn fSortedA (mCons (mSl (mVar 1) (oSome (mC (.int 4))) oNone) mNil)) (mCons (mCall m__law_values (mCons (mVar 0) (mCons (mVar 1) mNil))) mNil))))))))
def m__law_world : DM := mDef 4 1 [0] b__law_world
theorem sc__law_table : FnScope ["schema", "name", "table"] ["schema", "name"] (defScope (topS 27)) := ⟨rfl, rfl, rfl, by decide +kernel, rfl, by decide +kernel, by decide +kernel⟩
def b__law_table : SM := (sSeq (sFor (mSeq (mVar 0)) (gN 2)
  (sIf (mTE (mBin fEq (mBin fIx (mVar 2) (mC (.int 0))) (mVar 1)))
  (sRet (mVar 2))
  sNil))
  (sRet (mC .non)))
def m__law_table : DM := mDef 3 2 [0, 1] b__law_table
theorem sc__law_term : FnScope ["draws", "world"] ["draws", "world"] (defScope (topS 28)) := ⟨rfl, rfl, rfl, by decide +kernel, rfl, by decide +kernel, by decide +kernel⟩
def b__law_term : SM := (sSeq (sIf (mTE (mBin fEq (mCall m__law_take (mCons (mVar 0) (mCons (mC (.int 8)) mNil))) (mC (.int 0))))
  (sRet (mTup (mCons (mC (.str [118, 97, 108, 117, 101])) (mCons (mCall m__law_value (mCons (mVar 0) (mCons (mBin fIx (mVar 1) (mC (.int 2))) mNil))) mNil))))
  sNil)
  (sRet (mTup (mCons (mC (.str [118, 97, 114])) (mCons (mCall m__law_pick (mCons (mVar 0) (mCons (mBin fIx (mVar 1) (mC (.int 1))) mNil))) mNil)))))
def m__law_term : DM := mDef 2 2 [0, 1] b__law_term
theorem sc__law_atom : FnScope ["draws", "world", "table", "k"] ["draws", "world", "table"] (defScope (topS 29)) := ⟨rfl, rfl, rfl, by decide +kernel, rfl, by decide +kernel, by decide +kernel⟩
def b__law_atom : SM := (sRet (mTup (mCons (mBin fIx (mVar 2) (mC (.int 0))) (mCons (mFn fTuple (mCons (mLc [3] (mRng1 (mBin fIx (mVar 2) (mC (.int 1)))) (gN 3) tYesM (mCall m__law_term (mCons (mVar 0) (mCons (mVar 1) mNil)))) mNil)) mNil))))
def m__law_atom : DM := mDef 4 3 [0, 1, 2] b__law_atom
theorem sc__law_join : FnScope ["draws", "world", "width", "body", "k", "terms", "atom", "term"] ["draws", "world", "width"] (defScope (topS 30)) := ⟨rfl, rfl, rfl, by decide +kernel, rfl, by decide +kernel, by decide +kernel⟩
def b__law_join : SM := (sSeq (sSet 3 (mLst mNil))
  (sSeq (sFor (mRng1 (mBin fIx (mLst (mCons (mC (.int 1)) (mCons (mC (.int 2)) (mCons (mC (.int 2)) (mCons (mC (.int 3)) (mCons (mC (.int 1)) (mCons (mC (.int 2)) (mCons (mC (.int 0)) (mCons (mC (.int 2)) mNil))))))))) (mCall m__law_take (mCons (mVar 0) (mCons (mC (.int 8)) mNil))))) (gN 4)
  (sDrop (mMut 3 fAppend (mCons (mCall m__law_atom (mCons (mVar 0) (mCons (mVar 1) (mCons (mCall m__law_pick (mCons (mVar 0) (mCons (mBin fIx (mVar 1) (mC (.int 0))) mNil))) mNil)))) mNil))))
  (sSeq (sSet 5 (mLst (mCons (mTup (mCons (mC (.str [118, 97, 108, 117, 101])) (mCons (mCall m__law_value (mCons (mVar 0) (mCons (mBin fIx (mVar 1) (mC (.int 2))) mNil))) mNil))) mNil)))
  (sSeq (sFor (mSeq (mVar 3)) (gN 6)
  (sSet 5 (mBinT fAdd (mLc [7] (mSeq (mBin fIx (mVar 6) (mC (.int 1)))) (gN 7) (mTE (mBin fEq (mBin fIx (mVar 7) (mC (.int 0))) (mC (.str [118, 97, 114])))) (mVar 7)) (mVar 5))))
  (sRet (mTup (mCons (mFn fTuple (mCons (mLc [4] (mRng1 (mVar 2)) (gN 4) tYesM (mCall m__law_pick (mCons (mVar 0) (mCons (mVar 5) mNil)))) mNil)) (mCons (mFn fTuple (mCons (mVar 3) mNil)) mNil))))))))
def m__law_join : DM := mDef 8 3 [0, 1, 2] b__law_join
theorem sc__law_variables : FnScope ["join", "found", "atom", "term"] ["join"] (defScope (topS 31)) := ⟨rfl, rfl, rfl, by decide +kernel, rfl, by decide +kernel, by decide +kernel⟩
def b__law_variables : SM := (sSeq (sSet 1 (mLst mNil))
  (sSeq (sFor (mSeq (mBin fIx (mVar 0) (mC (.int 1)))) (gN 2)
  (sSet 1 (mBinT fAdd (mVar 1) (mLc [3] (mSeq (mBin fIx (mVar 2) (mC (.int 1)))) (gN 3) (mTE (mBin fEq (mBin fIx (mVar 3) (mC (.int 0))) (mC (.str [118, 97, 114])))) (mBin fIx (mVar 3) (mC (.int 1)))))))
  (sRet (mFn fSortSet (mCons (mVar 1) mNil)))))
def m__law_variables : DM := mDef 4 1 [0] b__law_variables
theorem sc__law_is_word : FnScope ["text", "char"] ["text"] (defScope (topS 32)) := ⟨rfl, rfl, rfl, by decide +kernel, rfl, by decide +kernel, by decide +kernel⟩
def b__law_is_word : SM := (sSeq (sIf (mTE (mBin fEq (mVar 0) (mC (.str []))))
  (sRet (mC (.bl false)))
  sNil)
  (sSeq (sFor (mSeq (mVar 0)) (gN 1)
  (sIf (mTE (mBin fNotIn (mVar 1) (mC (.str [97, 98, 99, 100, 101, 102, 103, 104, 105, 106, 107, 108, 109, 110, 111, 112, 113, 114, 115, 116, 117, 118, 119, 120, 121, 122]))))
  (sRet (mC (.bl false)))
  sNil))
  (sRet (mC (.bl true)))))
def m__law_is_word : DM := mDef 2 1 [0] b__law_is_word
theorem sc__law_great : FnScope ["draws", "number", "k"] ["draws"] (defScope (topS 33)) := ⟨rfl, rfl, rfl, by decide +kernel, rfl, by decide +kernel, by decide +kernel⟩
def b__law_great : SM := (sSeq (sSet 1 (mC (.int 0)))
  (sSeq (sFor (mRng1 (mBin fIx (mLst (mCons (mC (.int 1)) (mCons (mC (.int 2)) (mCons (mC (.int 6)) (mCons (mC (.int 19)) mNil))))) (mCall m__law_take (mCons (mVar 0) (mCons (mC (.int 4)) mNil))))) (gN 2)
  (sSet 1 (mBinT fAdd (mBin fMul (mVar 1) (mC (.int 1000))) (mCall m__law_take (mCons (mVar 0) (mCons (mC (.int 1000)) mNil))))))
  (sSeq (sIf (mTE (mBin fEq (mCall m__law_take (mCons (mVar 0) (mCons (mC (.int 3)) mNil))) (mC (.int 1))))
  (sRet (mBin fSub (mC (.int 0)) (mVar 1)))
  sNil)
  (sRet (mVar 1)))))
def m__law_great : DM := mDef 3 1 [0] b__law_great
theorem sc__law_text_world : FnScope ["draws", "world", "schema", "names", "values", "k", "name"] ["draws"] (defScope (topS 34)) := ⟨rfl, rfl, rfl, by decide +kernel, rfl, by decide +kernel, by decide +kernel⟩
def b__law_text_world : SM := (sSeq (sSet 1 (mCall m__law_world (mCons (mVar 0) mNil)))
  (sSeq (sSet 2 (mFn fList (mCons (mBin fIx (mVar 1) (mC (.int 0))) mNil)))
  (sSeq (sSet 3 (mFn fList (mCons (mBin fIx (mVar 1) (mC (.int 1))) mNil)))
  (sSeq (sSet 4 (mFn fList (mCons (mBin fIx (mVar 1) (mC (.int 2))) mNil)))
  (sSeq (sFor (mRng1 (mC (.int 3))) (gN 5)
  (sIf (mTE (mBin fGt (mFn fLen (mCons (mBin fIx (mVar 3) (mVar 5)) mNil)) (mC (.int 9))))
  (sStore 3 (mBinT fAdd (mC (.str [122, 122, 122, 122, 122, 122, 122])) (mBin fIx (mC (.str [97, 98, 99])) (mVar 5))) (mVar 5))
  sNil))
  (sSeq (sSet 6 (mBin fIx (mLst (mCons (mC (.str [116, 97, 98, 108, 101])) (mCons (mC (.str [])) (mCons (mC (.str [110, 111, 110, 101])) (mCons (mC (.str [])) mNil))))) (mCall m__law_take (mCons (mVar 0) (mCons (mC (.int 4)) mNil)))))
  (sSeq (sIf (mTE (mBin fNe (mVar 6) (mC (.str []))))
  (sStore 2 (mTup (mCons (mVar 6) (mCons (mBin fIx (mBin fIx (mVar 2) (mC (.int 0))) (mC (.int 1))) mNil))) (mC (.int 0)))
  sNil)
  (sSeq (sIf (mTE (mBin fEq (mCall m__law_take (mCons (mVar 0) (mCons (mC (.int 6)) mNil))) (mC (.int 1))))
  (sStore 2 (mTup (mCons (mBin fIx (mBin fIx (mVar 2) (mC (.int 0))) (mC (.int 0))) (mCons (mBin fIx (mLst (mCons (mC (.int 8)) (mCons (mC (.int 5)) mNil))) (mCall m__law_take (mCons (mVar 0) (mCons (mC (.int 2)) mNil)))) mNil))) (mC (.int 0)))
  sNil)
  (sSeq (sIf (mTE (mBin fEq (mCall m__law_take (mCons (mVar 0) (mCons (mC (.int 4)) mNil))) (mC (.int 1))))
  (sStore 3 (mBin fIx (mLst (mCons (mC (.str [110, 111, 110, 101])) (mCons (mC (.str [116, 97, 98, 108, 101])) mNil))) (mCall m__law_take (mCons (mVar 0) (mCons (mC (.int 2)) mNil)))) (mC (.int 0)))
  sNil)
  (sSeq (sIf (mTE (mBin fEq (mCall m__law_take (mCons (mVar 0) (mCons (mC (.int 3)) mNil))) (mC (.int 1))))
  (sStore 4 (mCall m__law_great (mCons (mVar 0) mNil)) (mC (.int 0)))
  sNil)
  (sSeq (sIf (mTE (mBin fEq (mCall m__law_take (mCons (mVar 0) (mCons (mC (.int 3)) mNil))) (mC (.int 1))))
  (sStore 4 (mBin fIx (mVar 3) (mC (.int 1))) (mC (.int 2)))
  sNil)
  (sRet (mLst (mCons (mFn fTuple (mCons (mFn fSortedA (mCons (mVar 2) mNil)) mNil)) (mCons (mFn fSortedA (mCons (mVar 3) mNil)) (mCons (mVar 4) mNil))))))))))))))))
def m__law_text_world : DM := mDef 7 1 [0] b__law_text_world
theorem sc__law_good_term : FnScope ["term"] ["term"] (defScope (topS 35)) := ⟨rfl, rfl, rfl, by decide +kernel, rfl, by decide +kernel, by decide +kernel⟩
def b__law_good_term : SM := (sSeq (sIf (tAndM (mTE (mBin fEq (mBin fIx (mVar 0) (mC (.int 0))) (mC (.str [118, 97, 108, 117, 101])))) (tNotM (mTE (mIsi "str" (mBin fIx (mVar 0) (mC (.int 1)))))))
  (sRet (mC (.bl true)))
  sNil)
  (sRet (mCall m__law_is_word (mCons (mBin fIx (mVar 0) (mC (.int 1))) mNil))))
def m__law_good_term : DM := mDef 1 1 [0] b__law_good_term
theorem sc__law_good_join : FnScope ["schema", "width", "join", "atom", "table", "names", "term"] ["schema", "width", "join"] (defScope (topS 36)) := ⟨rfl, rfl, rfl, by decide +kernel, rfl, by decide +kernel, by decide +kernel⟩
def b__law_good_join : SM := (sSeq (sIf (tOrM (mTE (mBin fNe (mFn fLen (mCons (mBin fIx (mVar 2) (mC (.int 0))) mNil)) (mVar 1))) (mTE (mBin fGt (mFn fLen (mCons (mBin fIx (mVar 2) (mC (.int 1))) mNil)) (mC (.int 8)))))
  (sRet (mC (.bl false)))
  sNil)
  (sSeq (sFor (mSeq (mBin fIx (mVar 2) (mC (.int 1)))) (gN 3)
  (sSeq (sSet 4 (mCall m__law_table (mCons (mVar 0) (mCons (mBin fIx (mVar 3) (mC (.int 0))) mNil))))
  (sSeq (sIf (tOrM (mTE (mBin fIs (mVar 4) (mC .non))) (mTE (mBin fNe (mBin fIx (mVar 4) (mC (.int 1))) (mFn fLen (mCons (mBin fIx (mVar 3) (mC (.int 1))) mNil)))))
  (sRet (mC (.bl false)))
  sNil)
  (sIf (mTE (mBin fIn (mC (.bl false)) (mLc [6] (mSeq (mBin fIx (mVar 3) (mC (.int 1)))) (gN 6) tYesM (mCall m__law_good_term (mCons (mVar 6) mNil)))))
  (sRet (mC (.bl false)))
  sNil))))
  (sSeq (sSet 5 (mCall m__law_variables (mCons (mVar 2) mNil)))
  (sSeq (sFor (mSeq (mBin fIx (mVar 2) (mC (.int 0)))) (gN 6)
  (sIf (tOrM (tNotM (mTE (mCall m__law_good_term (mCons (mVar 6) mNil)))) (tAndM (mTE (mBin fEq (mBin fIx (mVar 6) (mC (.int 0))) (mC (.str [118, 97, 114])))) (mTE (mBin fNotIn (mBin fIx (mVar 6) (mC (.int 1))) (mVar 5)))))
  (sRet (mC (.bl false)))
  sNil))
  (sRet (mC (.bl true)))))))
def m__law_good_join : DM := mDef 7 3 [0, 1, 2] b__law_good_join
theorem sc__law_faults : FnScope ["schema", "question", "k"] ["schema", "question"] (defScope (topS 37)) := ⟨rfl, rfl, rfl, by decide +kernel, rfl, by decide +kernel, by decide +kernel⟩
def b__law_faults : SM := (sSeq (sIf (tOrM (mTE (mBin fLt (mBin fIx (mVar 1) (mC (.int 0))) (mC (.int 0)))) (tOrM (mTE (mBin fGt (mBin fIx (mVar 1) (mC (.int 0))) (mC (.int 8)))) (mTE (mBin fGt (mFn fLen (mCons (mBin fIx (mVar 1) (mC (.int 1))) mNil)) (mC (.int 8))))))
  (sRet (mLst (mCons (mC .non) mNil)))
  sNil)
  (sSeq (sFor (mRng1 (mFn fLen (mCons (mBin fIx (mVar 1) (mC (.int 1))) mNil))) (gN 2)
  (sIf (tNotM (mTE (mCall m__law_good_join (mCons (mVar 0) (mCons (mBin fIx (mVar 1) (mC (.int 0))) (mCons (mBin fIx (mBin fIx (mVar 1) (mC (.int 1))) (mVar 2)) mNil))))))
  (sRet (mLst (mCons (mVar 2) mNil)))
  sNil))
  (sRet (mLst mNil))))
def m__law_faults : DM := mDef 3 2 [0, 1] b__law_faults
theorem sc__law_asked : FnScope ["schema", "question", "e"] ["schema", "question"] (defScope (topS 38)) := ⟨rfl, rfl, rfl, by decide +kernel, rfl, by decide +kernel, by decide +kernel⟩
def b__law_asked : SM := (sTryP (sRet (mTup (mCons (mC (.str [103, 111, 111, 100])) (mCons (mCall m_check_question (mCons (mVar 0) (mCons (mVar 1) mNil))) mNil)))) 2 (fun x => .va (.tup [ (.str [114, 101, 102, 117, 115, 101, 100]),  x,  (.bl true),  (.bl true),  (.bl false)])))
def m__law_asked : DM := mDef 3 2 [0, 1] b__law_asked
theorem sc__law_due : FnScope ["schema", "question", "fault"] ["schema", "question"] (defScope (topS 39)) := ⟨rfl, rfl, rfl, by decide +kernel, rfl, by decide +kernel, by decide +kernel⟩
def b__law_due : SM := (sSeq (sFor (mSeq (mCall m__law_faults (mCons (mVar 0) (mCons (mVar 1) mNil)))) (gN 2)
  (sRet (mTup (mCons (mC (.str [114, 101, 102, 117, 115, 101, 100])) (mCons (mVar 2) (mCons (mC (.bl true)) (mCons (mC (.bl true)) (mCons (mC (.bl false)) mNil))))))))
  (sRet (mTup (mCons (mC (.str [103, 111, 111, 100])) (mCons (mC .non) mNil)))))
def m__law_due : DM := mDef 3 2 [0, 1] b__law_due
theorem sc__law_renamed : FnScope ["terms", "name", "odd", "term"] ["terms", "name", "odd"] (defScope (topS 40)) := ⟨rfl, rfl, rfl, by decide +kernel, rfl, by decide +kernel, by decide +kernel⟩
def b__law_renamed : SM := (sRet (mFn fTuple (mCons (mLc [3] (mSeq (mVar 0)) (gN 3) tYesM (mBin fIx (mLst (mCons (mVar 3) (mCons (mTup (mCons (mC (.str [118, 97, 114])) (mCons (mVar 2) mNil))) mNil))) (mFn fInt (mCons (mBin fEq (mVar 3) (mTup (mCons (mC (.str [118, 97, 114])) (mCons (mVar 1) mNil)))) mNil)))) mNil)))
def m__law_renamed : DM := mDef 4 3 [0, 1, 2] b__law_renamed
theorem sc__law_changed_atom : FnScope ["draws", "world", "atom", "odd", "terms", "kind", "table"] ["draws", "world", "atom", "odd"] (defScope (topS 41)) := ⟨rfl, rfl, rfl, by decide +kernel, rfl, by decide +kernel, by decide +kernel⟩
def b__law_changed_atom : SM := (sSeq (sSet 4 (mFn fList (mCons (mBin fIx (mVar 2) (mC (.int 1))) mNil)))
  (sSeq (sSet 5 (mCall m__law_take (mCons (mVar 0) (mCons (mC (.int 4)) mNil))))
  (sSeq (sIf (mTE (mBin fEq (mVar 5) (mC (.int 0))))
  (sRet (mTup (mCons (mBin fIx (mLst (mCons (mVar 3) (mCons (mBinT fAdd (mJoin [] (mLc [6] (mSeq (mBin fIx (mVar 1) (mC (.int 0)))) (gN 6) tYesM (mBin fIx (mVar 6) (mC (.int 0))))) (mC (.str [113]))) mNil))) (mCall m__law_take (mCons (mVar 0) (mCons (mC (.int 2)) mNil)))) (mCons (mBin fIx (mVar 2) (mC (.int 1))) mNil))))
  sNil)
  (sSeq (sIf (tOrM (mTE (mBin fEq (mVar 5) (mC (.int 1)))) (mTE (mBin fEq (mFn fLen (mCons (mVar 4) mNil)) (mC (.int 0)))))
  (sDrop (mMut 4 fInsert (mCons (mCall m__law_take (mCons (mVar 0) (mCons (mBinT fAdd (mFn fLen (mCons (mVar 4) mNil)) (mC (.int 1))) mNil))) (mCons (mCall m__law_term (mCons (mVar 0) (mCons (mVar 1) mNil))) mNil))))
  (sIf (mTE (mBin fEq (mVar 5) (mC (.int 2))))
  (sDrop (mPopAt 4 (mCons (mCall m__law_take (mCons (mVar 0) (mCons (mFn fLen (mCons (mVar 4) mNil)) mNil))) mNil)))
  (sStore 4 (mBin fIx (mLst (mCons (mTup (mCons (mC (.str [118, 97, 108, 117, 101])) (mCons (mVar 3) mNil))) (mCons (mTup (mCons (mC (.str [118, 97, 114])) (mCons (mVar 3) mNil))) mNil))) (mCall m__law_take (mCons (mVar 0) (mCons (mC (.int 2)) mNil)))) (mCall m__law_take (mCons (mVar 0) (mCons (mFn fLen (mCons (mVar 4) mNil)) mNil))))))
  (sRet (mTup (mCons (mBin fIx (mVar 2) (mC (.int 0))) (mCons (mFn fTuple (mCons (mVar 4) mNil)) mNil))))))))
def m__law_changed_atom : DM := mDef 7 4 [0, 1, 2, 3] b__law_changed_atom
theorem sc__law_changed : FnScope ["draws", "world", "join", "odd", "head", "body", "kind", "names", "atom", "name", "at", "k"] ["draws", "world", "join"] (defScope (topS 42)) := ⟨rfl, rfl, rfl, by decide +kernel, rfl, by decide +kernel, by decide +kernel⟩
def b__law_changed : SM := (sSeq (sSet 3 (mBin fIx (mLst (mCons (mC (.str [65])) (mCons (mC (.str [97, 32, 98])) (mCons (mC (.str [])) (mCons (mC (.str [97, 49])) (mCons (mC (.str [45])) (mCons (mC (.str [97, 98, 10])) (mCons (mC (.str [122, 95])) mNil)))))))) (mCall m__law_take (mCons (mVar 0) (mCons (mC (.int 7)) mNil)))))
  (sSeq (sSet 4 (mFn fList (mCons (mBin fIx (mVar 2) (mC (.int 0))) mNil)))
  (sSeq (sSet 5 (mFn fList (mCons (mBin fIx (mVar 2) (mC (.int 1))) mNil)))
  (sSeq (sSet 6 (mCall m__law_take (mCons (mVar 0) (mCons (mC (.int 9)) mNil))))
  (sSeq (sIf (mTE (mBin fEq (mVar 6) (mC (.int 0))))
  (sDrop (mMut 4 fInsert (mCons (mCall m__law_take (mCons (mVar 0) (mCons (mBinT fAdd (mFn fLen (mCons (mVar 4) mNil)) (mC (.int 1))) mNil))) (mCons (mTup (mCons (mC (.str [118, 97, 108, 117, 101])) (mCons (mCall m__law_value (mCons (mVar 0) (mCons (mBin fIx (mVar 1) (mC (.int 2))) mNil))) mNil))) mNil))))
  (sIf (tAndM (mTE (mBin fEq (mVar 6) (mC (.int 1)))) (mTE (mBin fGt (mFn fLen (mCons (mVar 4) mNil)) (mC (.int 0)))))
  (sDrop (mPopAt 4 (mCons (mCall m__law_take (mCons (mVar 0) (mCons (mFn fLen (mCons (mVar 4) mNil)) mNil))) mNil)))
  (sIf (tAndM (mTE (mBin fEq (mVar 6) (mC (.int 2)))) (mTE (mBin fGt (mFn fLen (mCons (mVar 4) mNil)) (mC (.int 0)))))
  (sSeq (sSet 7 (mLst (mCons (mBinT fAdd (mJoin [] (mBin fIx (mVar 1) (mC (.int 1)))) (mC (.str [113]))) (mCons (mCall m__law_pick (mCons (mVar 0) (mCons (mBin fIx (mVar 1) (mC (.int 1))) mNil))) mNil))))
  (sStore 4 (mTup (mCons (mC (.str [118, 97, 114])) (mCons (mCall m__law_pick (mCons (mVar 0) (mCons (mVar 7) mNil))) mNil))) (mCall m__law_take (mCons (mVar 0) (mCons (mFn fLen (mCons (mVar 4) mNil)) mNil)))))
  (sIf (tAndM (mTE (mBin fEq (mVar 6) (mC (.int 3)))) (mTE (mBin fGt (mFn fLen (mCons (mVar 4) mNil)) (mC (.int 0)))))
  (sStore 4 (mBin fIx (mLst (mCons (mTup (mCons (mC (.str [118, 97, 108, 117, 101])) (mCons (mVar 3) mNil))) (mCons (mTup (mCons (mC (.str [118, 97, 114])) (mCons (mVar 3) mNil))) mNil))) (mCall m__law_take (mCons (mVar 0) (mCons (mC (.int 2)) mNil)))) (mCall m__law_take (mCons (mVar 0) (mCons (mFn fLen (mCons (mVar 4) mNil)) mNil))))
  (sIf (tAndM (mTE (mBin fEq (mVar 6) (mC (.int 4)))) (mTE (mBin fGt (mFn fLen (mCons (mVar 5) mNil)) (mC (.int 0)))))
  (sSeq (sSet 8 (mCall m__law_pick (mCons (mVar 0) (mCons (mVar 5) mNil))))
  (sSet 5 (mBinT fAdd (mVar 5) (mLc [11] (mRng1 (mBin fSub (mC (.int 9)) (mFn fLen (mCons (mVar 5) mNil)))) (gN 11) tYesM (mVar 8)))))
  (sIf (tAndM (mTE (mBin fEq (mVar 6) (mC (.int 5)))) (mTE (mBin fGt (mFn fLen (mCons (mCall m__law_variables (mCons (mVar 2) mNil)) mNil)) (mC (.int 0)))))
  (sSeq (sSet 9 (mCall m__law_pick (mCons (mVar 0) (mCons (mCall m__law_variables (mCons (mVar 2) mNil)) mNil))))
  (sSeq (sSet 4 (mFn fList (mCons (mCall m__law_renamed (mCons (mVar 4) (mCons (mVar 9) (mCons (mVar 3) mNil)))) mNil)))
  (sSet 5 (mLc [8] (mSeq (mVar 5)) (gN 8) tYesM (mTup (mCons (mBin fIx (mVar 8) (mC (.int 0))) (mCons (mCall m__law_renamed (mCons (mBin fIx (mVar 8) (mC (.int 1))) (mCons (mVar 9) (mCons (mVar 3) mNil)))) mNil)))))))
  (sIf (mTE (mBin fGt (mFn fLen (mCons (mVar 5) mNil)) (mC (.int 0))))
  (sSeq (sSet 10 (mCall m__law_take (mCons (mVar 0) (mCons (mFn fLen (mCons (mVar 5) mNil)) mNil))))
  (sStore 5 (mCall m__law_changed_atom (mCons (mVar 0) (mCons (mVar 1) (mCons (mBin fIx (mVar 5) (mVar 10)) (mCons (mVar 3) mNil))))) (mVar 10)))
  sNil)))))))
  (sRet (mTup (mCons (mFn fTuple (mCons (mVar 4) mNil)) (mCons (mFn fTuple (mCons (mVar 5) mNil)) mNil)))))))))
def m__law_changed : DM := mDef 12 3 [0, 1, 2] b__law_changed
theorem sc_law : FnScope ["script", "draws", "world", "width", "joins", "changed", "join", "tables", "at", "table", "good", "question", "schema", "asked", "k"] ["script"] (defScope (topS 43)) := ⟨rfl, rfl, rfl, by decide +kernel, rfl, by decide +kernel, by decide +kernel⟩
def b_law : SM := (sSeq (sSet 1 (mCall m__law_draws (mCons (mVar 0) (mCons (mC (.int 160)) mNil))))
  (sSeq (sSet 2 (mCall m__law_text_world (mCons (mVar 1) mNil)))
  (sSeq (sSet 3 (mBin fIx (mLst (mCons (mC (.int 1)) (mCons (mC (.int 0)) (mCons (mC (.int 2)) (mCons (mC (.int 3)) (mCons (mC (.int 8)) mNil)))))) (mCall m__law_take (mCons (mVar 1) (mCons (mC (.int 5)) mNil)))))
  (sSeq (sSet 4 (mLc [14] (mRng1 (mBinT fAdd (mC (.int 1)) (mCall m__law_take (mCons (mVar 1) (mCons (mC (.int 4)) mNil))))) (gN 14) tYesM (mCall m__law_join (mCons (mVar 1) (mCons (mVar 2) (mCons (mVar 3) mNil))))))
  (sSeq (sSet 5 (mLst mNil))
  (sSeq (sFor (mSeq (mVar 4)) (gN 6)
  (sSeq (sIf (mTE (mBin fEq (mCall m__law_take (mCons (mVar 1) (mCons (mC (.int 2)) mNil))) (mC (.int 0))))
  (sSet 6 (mCall m__law_changed (mCons (mVar 1) (mCons (mVar 2) (mCons (mVar 6) mNil)))))
  sNil)
  (sDrop (mMut 5 fAppend (mCons (mVar 6) mNil)))))
  (sSeq (sSet 7 (mFn fList (mCons (mBin fIx (mVar 2) (mC (.int 0))) mNil)))
  (sSeq (sSet 8 (mCall m__law_take (mCons (mVar 1) (mCons (mFn fLen (mCons (mVar 7) mNil)) mNil))))
  (sSeq (sSet 9 (mPopAt 7 (mCons (mVar 8) mNil)))
  (sSeq (sIf (tAndM (mTE (mBin fLt (mBin fIx (mVar 9) (mC (.int 1))) (mC (.int 8)))) (mTE (mBin fEq (mCall m__law_take (mCons (mVar 1) (mCons (mC (.int 2)) mNil))) (mC (.int 0)))))
  (sDrop (mMut 7 fInsert (mCons (mVar 8) (mCons (mTup (mCons (mBin fIx (mVar 9) (mC (.int 0))) (mCons (mBinT fAdd (mBin fIx (mVar 9) (mC (.int 1))) (mC (.int 1))) mNil))) mNil))))
  sNil)
  (sSeq (sSet 10 (mTup (mCons (mVar 3) (mCons (mFn fTuple (mCons (mVar 4) mNil)) mNil))))
  (sSeq (sSet 11 (mTup (mCons (mVar 3) (mCons (mFn fTuple (mCons (mVar 5) mNil)) mNil))))
  (sSeq (sFor (mSeq (mLst (mCons (mBin fIx (mVar 2) (mC (.int 0))) (mCons (mFn fTuple (mCons (mVar 7) mNil)) mNil)))) (gN 12)
  (sFor (mSeq (mLst (mCons (mVar 10) (mCons (mVar 11) (mCons (mVar 10) mNil))))) (gN 13)
  (sIf (tNotM (mTE (mCall (m__law_same 12) (mCons (mCall m__law_asked (mCons (mVar 12) (mCons (mVar 13) mNil))) (mCons (mCall m__law_due (mCons (mVar 12) (mCons (mVar 13) mNil))) mNil)))))
  (sRet (mC (.bl false)))
  sNil)))
  (sRet (mC (.bl true))))))))))))))))
def m_law : DM := mDef 15 1 [0] b_law
def initS : Stmt := match topS 2 with
  | .ClassDef _ _ _ (s :: _) _ _ _ _ _ _ _ => s
  | s => s
theorem sc_init : FnScope ["self", "join"] ["self", "join"] (defScope initS) := ⟨rfl, rfl, rfl, by decide +kernel, rfl, by decide +kernel, by decide +kernel⟩
theorem ok_init {Pr : Program} {w : World} {K : PySem.W.Frag} {mg : Str → Option Value} {base : Heap} {C CB fI : Addr} {fd : FuncData} (T : OwnE K mg "NoQuestion" "join" "ChanceError" C CB fI) (F : Fun K "__init__" "NoQuestion.__init__" initS fI fd) : FnOk Pr w K mg base (L2.CX Pr w) 1 fI fd ["self", "join"] (spI K C "join") :=
  Fun.okX (k := 0) F sc_init (fun vs H Q E h => by obtain ⟨a, v, e, _⟩ := h; rw [e]; rfl) fun cdv A outer s H vs Q E hr h => by
    obtain ⟨a, v, e, ha, hq⟩ := h
    subst e
    exact init_body (X := cxOf (L2.CX Pr w) Pr w K mg base ["self", "join"] "NoQuestion.__init__" (defScope initS) fI cdv A outer s H E) T (by rfl) (pe_var rfl (by first | exact .inl rfl | exact .inr rfl)) (pe_var rfl (by first | exact .inl rfl | exact .inr rfl)) (pe_var rfl (by first | exact .inl rfl | exact .inr rfl)) (by decide) (by rfl) (by rfl) (by rfl) (by rfl) (by rfl) (by rfl) rfl rfl ha hq

section
variable {Pr : Program} {w : World} {K : PySem.W.Frag} {mg : Str → Option Value} {base : Heap} {C_NoQuestion : Addr}
theorem ok_is_word  {f : Addr} {fd : FuncData} (F : Fun K "is_word" "is_word" (topS 5) f fd) (z_all : mg "all" = none) : FnOk Pr w K mg base (L2.CX Pr w) 1 f fd ["text"] (spM ⟨K, w⟩ (XRp C_NoQuestion "join") m_is_word 1) :=
  fun_mir (k := 0) (P := [0]) F sc_is_word (by decide) fun cdv A outer s H E hr => by
    have tk := takes_of (X := cxOf (L2.CX Pr w) Pr w K mg base ["text", "sign"] "is_word" (defScope (topS 5)) f cdv A outer s H E) (E := E) rfl rfl rfl rfl
    exact (mss_one (ms_ret (me_and (me_cmp (od_ne hr) (me_var (pv 0)) (me_str []) (nomark _)) (me_one (me_callB (cd_all rfl) (by rfl) z_all (by decide +kernel) (ma_cons (me_lc (own := [("sign", 1)]) (T := [1]) rfl sc_is_word.nd (mi_seq (me_var (pv 0))) (blkOk_by (by first | rfl | kernel_rfl)) (by decide) (fun _ _ _ _ _ => (mg_name (i := 1) sc_is_word.nd rfl (by first | exact .inl rfl | exact .inr rfl))) (fun _ _ _ _ _ => mts_nil) (fun _ _ _ _ _ => (me_chain od_le od_le (me_str [97]) (me_var (pv 1)) (me_str [122])))) ma_nil))))))
theorem ok_is_value  {f : Addr} {fd : FuncData} (F : Fun K "is_value" "is_value" (topS 6) f fd) (z_isinstance : mg "isinstance" = none) (z_int : mg "int" = none) (u_is_word : Use Pr w K mg base (XRp C_NoQuestion "join") "is_word" ["text"] 1 m_is_word) : FnOk Pr w K mg base (L2.CX Pr w) 2 f fd ["value"] (spM ⟨K, w⟩ (XRp C_NoQuestion "join") m_is_value 1) :=
  fun_mir (k := 1) (P := [0]) F sc_is_value (by decide) fun cdv A outer s H E hr => by
    have tk := takes_of (X := cxOf (L2.CX Pr w) Pr w K mg base ["value"] "is_value" (defScope (topS 6)) f cdv A outer s H E) (E := E) rfl rfl rfl rfl
    exact (mss_one (ms_ret (me_or (me_isi (T := "int") (by decide) (by rfl) z_isinstance (me_var (pv 0)) (pe_bltn (v := .ty "int") (by rfl) z_int (by decide +kernel) rfl)) (me_one (me_use u_is_word (hr.mono (by first | decide | omega)) (by rfl) tk (argN_cons argN_nil) (ma_cons (me_var (pv 0)) ma_nil))))))
theorem ok_column_count  {f : Addr} {fd : FuncData} (F : Fun K "column_count" "column_count" (topS 8) f fd)  : FnOk Pr w K mg base (L2.CX Pr w) 1 f fd ["schema", "name"] (spM ⟨K, w⟩ (XRp C_NoQuestion "join") m_column_count 2) :=
  fun_mir (k := 0) (P := [0, 1]) F sc_column_count (by decide) fun cdv A outer s H E hr => by
    have tk := takes_of (X := cxOf (L2.CX Pr w) Pr w K mg base ["schema", "name", "table", "columns"] "column_count" (defScope (topS 8)) f cdv A outer s H E) (E := E) rfl rfl rfl rfl
    exact (mss_cons (ms_for (passes_of rfl) rfl (mi_seq (me_var (pv 0))) (mg_tup rfl (mgs_cons (mg_name (i := 2) sc_column_count.nd rfl (by first | exact .inl rfl | exact .inr rfl)) (mgs_cons (mg_name (i := 3) sc_column_count.nd rfl (by first | exact .inl rfl | exact .inr rfl)) mgs_nil)))
  (mss_one (ms_if (mt_cmp (od_eq hr) (me_var (pv 2)) (me_var (pv 1)) (nomark _))
  (mss_one (ms_ret (me_var (pv 3))))
  mss_nil)))
  (mss_one (ms_ret me_non)))
theorem ok_variables_among  {f : Addr} {fd : FuncData} (F : Fun K "variables_among" "variables_among" (topS 17) f fd) (z_sorted : mg "sorted" = none) (z_tuple : mg "tuple" = none) : FnOk Pr w K mg base (L2.CX Pr w) 1 f fd ["terms"] (spM ⟨K, w⟩ (XRp C_NoQuestion "join") m_variables_among 1) :=
  fun_mir (k := 0) (P := [0]) F sc_variables_among (by decide) fun cdv A outer s H E hr => by
    have tk := takes_of (X := cxOf (L2.CX Pr w) Pr w K mg base ["terms", "term"] "variables_among" (defScope (topS 17)) f cdv A outer s H E) (E := E) rfl rfl rfl rfl
    exact (mss_one (ms_ret (me_callTy cd_tuple (by rfl) z_tuple (by decide +kernel) (ma_cons (me_sortSc hr (by rfl) z_sorted (own := [("term", 1)]) (T := [1]) rfl sc_variables_among.nd (mi_seq (me_var (pv 0))) (blkOk_by (by first | rfl | kernel_rfl)) (by decide) (fun _ _ _ _ _ => (mg_name (i := 1) sc_variables_among.nd rfl (by first | exact .inl rfl | exact .inr rfl))) (fun _ _ _ _ _ => (mts_one (mt_cmp (od_eq hr) (me_ix (me_var (pv 1)) me_int) (me_str [118, 97, 114]) (nomark _)))) (fun _ _ _ _ _ => (me_ix (me_var (pv 1)) me_int))) ma_nil))))
theorem ok_are_valid_terms  {f : Addr} {fd : FuncData} (F : Fun K "are_valid_terms" "are_valid_terms" (topS 16) f fd) (z_all : mg "all" = none) (u_is_word : Use Pr w K mg base (XRp C_NoQuestion "join") "is_word" ["text"] 1 m_is_word) (u_is_value : Use Pr w K mg base (XRp C_NoQuestion "join") "is_value" ["value"] 2 m_is_value) : FnOk Pr w K mg base (L2.CX Pr w) 3 f fd ["terms"] (spM ⟨K, w⟩ (XRp C_NoQuestion "join") m_are_valid_terms 1) :=
  fun_mir (k := 2) (P := [0]) F sc_are_valid_terms (by decide) fun cdv A outer s H E hr => by
    have tk := takes_of (X := cxOf (L2.CX Pr w) Pr w K mg base ["terms", "term"] "are_valid_terms" (defScope (topS 16)) f cdv A outer s H E) (E := E) rfl rfl rfl rfl
    exact (mss_one (ms_ret (me_callB (cd_all rfl) (by rfl) z_all (by decide +kernel) (ma_cons (me_lc (own := [("term", 1)]) (T := [1]) rfl sc_are_valid_terms.nd (mi_seq (me_var (pv 0))) (blkOk_by (by first | rfl | kernel_rfl)) (by decide) (fun _ _ _ _ _ => (mg_name (i := 1) sc_are_valid_terms.nd rfl (by first | exact .inl rfl | exact .inr rfl))) (fun _ _ _ _ _ => mts_nil) (fun _ _ _ _ _ => (me_if (mt_cmp (od_eq hr) (me_ix (me_var (pv 1)) me_int) (me_str [118, 97, 114]) (nomark _)) (me_use u_is_word (hr.mono (by first | decide | omega)) (by rfl) takes0 (argN_cons argN_nil) (ma_cons (me_ix (me_var (pv 1)) me_int) ma_nil)) (me_use u_is_value (hr.mono (by first | decide | omega)) (by rfl) takes0 (argN_cons argN_nil) (ma_cons (me_ix (me_var (pv 1)) me_int) ma_nil))))) ma_nil))))
theorem ok_is_valid_atom  {f : Addr} {fd : FuncData} (F : Fun K "is_valid_atom" "is_valid_atom" (topS 15) f fd) (z_len : mg "len" = none) (u_column_count : Use Pr w K mg base (XRp C_NoQuestion "join") "column_count" ["schema", "name"] 1 m_column_count) (u_are_valid_terms : Use Pr w K mg base (XRp C_NoQuestion "join") "are_valid_terms" ["terms"] 3 m_are_valid_terms) : FnOk Pr w K mg base (L2.CX Pr w) 4 f fd ["schema", "atom"] (spM ⟨K, w⟩ (XRp C_NoQuestion "join") m_is_valid_atom 2) :=
  fun_mir (k := 3) (P := [0, 1]) F sc_is_valid_atom (by decide) fun cdv A outer s H E hr => by
    have tk := takes_of (X := cxOf (L2.CX Pr w) Pr w K mg base ["schema", "atom", "name", "terms"] "is_valid_atom" (defScope (topS 15)) f cdv A outer s H E) (E := E) rfl rfl rfl rfl
    exact (mss_cons (ms_asg (me_var (pv 1)) (mg_tup rfl (mgs_cons (mg_name (i := 2) sc_is_valid_atom.nd rfl (by first | exact .inl rfl | exact .inr rfl)) (mgs_cons (mg_name (i := 3) sc_is_valid_atom.nd rfl (by first | exact .inl rfl | exact .inr rfl)) mgs_nil))))
  (mss_one (ms_ret (me_and (me_cmp (od_eq hr) (me_use u_column_count (hr.mono (by first | decide | omega)) (by rfl) tk (argN_cons (argN_cons argN_nil)) (ma_cons (me_var (pv 0)) (ma_cons (me_var (pv 2)) ma_nil))) (me_callB cd_len (by rfl) z_len (by decide +kernel) (ma_cons (me_var (pv 3)) ma_nil)) (nomark _)) (me_one (me_use u_are_valid_terms (hr.mono (by first | decide | omega)) (by rfl) tk (argN_cons argN_nil) (ma_cons (me_var (pv 3)) ma_nil)))))))
theorem ok_is_valid_join  {f : Addr} {fd : FuncData} (F : Fun K "is_valid_join" "is_valid_join" (topS 14) f fd) (z_len : mg "len" = none) (z_all : mg "all" = none) (g_MOST_ATOMS : GlD ⟨K, w⟩ mg "MOST_ATOMS" (.int 8)) (u_is_valid_atom : Use Pr w K mg base (XRp C_NoQuestion "join") "is_valid_atom" ["schema", "atom"] 4 m_is_valid_atom) (u_variables_among : Use Pr w K mg base (XRp C_NoQuestion "join") "variables_among" ["terms"] 1 m_variables_among) (u_are_valid_terms : Use Pr w K mg base (XRp C_NoQuestion "join") "are_valid_terms" ["terms"] 3 m_are_valid_terms) : FnOk Pr w K mg base (L2.CX Pr w) 5 f fd ["schema", "width", "join"] (spM ⟨K, w⟩ (XRp C_NoQuestion "join") m_is_valid_join 3) :=
  fun_mir (k := 4) (P := [0, 1, 2]) F sc_is_valid_join (by decide) fun cdv A outer s H E hr => by
    have tk := takes_of (X := cxOf (L2.CX Pr w) Pr w K mg base ["schema", "width", "join", "head", "body", "bound", "atom", "_", "terms", "term", "x"] "is_valid_join" (defScope (topS 14)) f cdv A outer s H E) (E := E) rfl rfl rfl rfl
    exact (mss_cons (ms_asg (me_var (pv 2)) (mg_tup rfl (mgs_cons (mg_name (i := 3) sc_is_valid_join.nd rfl (by first | exact .inl rfl | exact .inr rfl)) (mgs_cons (mg_name (i := 4) sc_is_valid_join.nd rfl (by first | exact .inl rfl | exact .inr rfl)) mgs_nil))))
  (mss_cons (ms_if (MW.mt (mw_or (mt_cmp (od_ne hr) (me_callB cd_len (by rfl) z_len (by decide +kernel) (ma_cons (me_var (pv 3)) ma_nil)) (me_var (pv 1)) (nomark _)) (mw_or1 (mt_cmp od_gt (me_callB cd_len (by rfl) z_len (by decide +kernel) (ma_cons (me_var (pv 4)) ma_nil)) (me_glob g_MOST_ATOMS (by rfl)) (nomark _)))))
  (mss_one (ms_ret me_bl))
  mss_nil)
  (mss_cons (ms_if (mt_not (mt_val (me_callB (cd_all rfl) (by rfl) z_all (by decide +kernel) (ma_cons (me_lc (own := [("atom", 6)]) (T := [6]) rfl sc_is_valid_join.nd (mi_seq (me_var (pv 4))) (blkOk_by (by first | rfl | kernel_rfl)) (by decide) (fun _ _ _ _ _ => (mg_name (i := 6) sc_is_valid_join.nd rfl (by first | exact .inl rfl | exact .inr rfl))) (fun _ _ _ _ _ => mts_nil) (fun _ _ _ _ _ => (me_use u_is_valid_atom (hr.mono (by first | decide | omega)) (by rfl) takes0 (argN_cons (argN_cons argN_nil)) (ma_cons (me_var (pv 0)) (ma_cons (me_var (pv 6)) ma_nil))))) ma_nil))))
  (mss_one (ms_ret me_bl))
  mss_nil)
  (mss_cons (ms_set (i := 5) sc_is_valid_join.nd rfl (by first | exact .inl rfl | exact .inr rfl) (me_use u_variables_among (hr.mono (by first | decide | omega)) (by rfl) tk (argN_cons argN_nil) (ma_cons (me_lc2 (own := [("_", 7), ("terms", 8), ("term", 9)]) (vs1 := [9]) (T := [7, 8]) (T1 := [9]) rfl sc_is_valid_join.nd (mi_seq (me_var (pv 4))) (blkOk_by (by first | rfl | kernel_rfl)) (by decide) (by decide) (by decide) (fun _ _ _ _ _ => (mg_tup rfl (mgs_cons (mg_name (i := 7) sc_is_valid_join.nd rfl (by first | exact .inl rfl | exact .inr rfl)) (mgs_cons (mg_name (i := 8) sc_is_valid_join.nd rfl (by first | exact .inl rfl | exact .inr rfl)) mgs_nil)))) (fun _ _ _ _ _ => mts_nil) (fun _ _ _ _ _ => (mi_seq (me_var (pv 8)))) (fun _ _ _ _ _ => (mg_name (i := 9) sc_is_valid_join.nd rfl (by first | exact .inl rfl | exact .inr rfl))) (fun _ _ _ _ _ => mts_nil) (fun _ _ _ _ _ => (me_var (pv 9)))) ma_nil)))
  (mss_one (ms_ret (me_and (me_use u_are_valid_terms (hr.mono (by first | decide | omega)) (by rfl) tk (argN_cons argN_nil) (ma_cons (me_var (pv 3)) ma_nil)) (me_one (me_callB (cd_all rfl) (by rfl) z_all (by decide +kernel) (ma_cons (me_lc (own := [("x", 10)]) (T := [10]) rfl sc_is_valid_join.nd (mi_seq (me_use u_variables_among (hr.mono (by first | decide | omega)) (by rfl) tk (argN_cons argN_nil) (ma_cons (me_var (pv 3)) ma_nil))) (blkOk_by (by first | rfl | kernel_rfl)) (by decide) (fun _ _ _ _ _ => (mg_name (i := 10) sc_is_valid_join.nd rfl (by first | exact .inl rfl | exact .inr rfl))) (fun _ _ _ _ _ => mts_nil) (fun _ _ _ _ _ => (me_cmp (od_inA hr) (me_var (pv 10)) (me_var (pv 5)) (by rfl)))) ma_nil))))))))))
theorem ok_check_question  {f : Addr} {fd : FuncData} (F : Fun K "check_question" "check_question" (topS 13) f fd) (z_len : mg "len" = none) (z_enumerate : mg "enumerate" = none) (g_MOST_WIDTH : GlD ⟨K, w⟩ mg "MOST_WIDTH" (.int 8)) (g_MOST_JOINS : GlD ⟨K, w⟩ mg "MOST_JOINS" (.int 8)) (u_is_valid_join : Use Pr w K mg base (XRp C_NoQuestion "join") "is_valid_join" ["schema", "width", "join"] 5 m_is_valid_join) (xp : ExcP Pr w K mg base "NoQuestion" "join" C_NoQuestion 1) : FnOk Pr w K mg base (L2.CX Pr w) 6 f fd ["schema", "question"] (spM ⟨K, w⟩ (XRp C_NoQuestion "join") m_check_question 2) :=
  fun_mir (k := 5) (P := [0, 1]) F sc_check_question (by decide) fun cdv A outer s H E hr => by
    have tk := takes_of (X := cxOf (L2.CX Pr w) Pr w K mg base ["schema", "question", "width", "joins", "index", "join"] "check_question" (defScope (topS 13)) f cdv A outer s H E) (E := E) rfl rfl rfl rfl
    exact (mss_cons (ms_asg (me_var (pv 1)) (mg_tup rfl (mgs_cons (mg_name (i := 2) sc_check_question.nd rfl (by first | exact .inl rfl | exact .inr rfl)) (mgs_cons (mg_name (i := 3) sc_check_question.nd rfl (by first | exact .inl rfl | exact .inr rfl)) mgs_nil))))
  (mss_cons (ms_if (MW.mt (mw_or (mt_cmp od_lt (me_var (pv 2)) me_int (nomark _)) (mw_or (mt_cmp od_gt (me_var (pv 2)) (me_glob g_MOST_WIDTH (by rfl)) (nomark _)) (mw_or1 (mt_cmp od_gt (me_callB cd_len (by rfl) z_len (by decide +kernel) (ma_cons (me_var (pv 3)) ma_nil)) (me_glob g_MOST_JOINS (by rfl)) (nomark _))))))
  (mss_one (ms_raiseP xp (hr.mono (by first | decide | omega)) rfl tk (by rfl) me_non))
  mss_nil)
  (mss_one (ms_for (passes_of rfl) rfl (mi_enum (by rfl) z_enumerate (me_var (pv 3))) (mg_tup rfl (mgs_cons (mg_name (i := 4) sc_check_question.nd rfl (by first | exact .inl rfl | exact .inr rfl)) (mgs_cons (mg_name (i := 5) sc_check_question.nd rfl (by first | exact .inl rfl | exact .inr rfl)) mgs_nil)))
  (mss_one (ms_if (mt_not (mt_val (me_use u_is_valid_join (hr.mono (by first | decide | omega)) (by rfl) tk (argN_cons (argN_cons (argN_cons argN_nil))) (ma_cons (me_var (pv 0)) (ma_cons (me_var (pv 2)) (ma_cons (me_var (pv 5)) ma_nil))))))
  (mss_one (ms_raiseP xp (hr.mono (by first | decide | omega)) rfl tk (by rfl) (me_var (pv 4))))
  mss_nil))))))
theorem ok__law_draws  {f : Addr} {fd : FuncData} (F : Fun K "_law_draws" "_law_draws" (topS 19) f fd) (z_int : mg "int" = none) (z_len : mg "len" = none) (z_list : mg "list" = none) (z_range : mg "range" = none) : FnOk Pr w K mg base (L2.CX Pr w) 1 f fd ["script", "many"] (spM ⟨K, w⟩ (XRp C_NoQuestion "join") m__law_draws 2) :=
  fun_mir (k := 0) (P := [0, 1]) F sc__law_draws (by decide) fun cdv A outer s H E hr => by
    have tk := takes_of (X := cxOf (L2.CX Pr w) Pr w K mg base ["script", "many", "cells", "rest", "draws", "k", "at", "mixed", "cell"] "_law_draws" (defScope (topS 19)) f cdv A outer s H E) (E := E) rfl rfl rfl rfl
    exact (mss_cons (ms_setLc (i := 2) rfl sc__law_draws.nd rfl (by rfl) (by rfl) (own := [("cell", 8)]) (T := [8]) (mi_seq (me_var (pv 0))) (blkOk_by (by first | rfl | kernel_rfl)) (by decide) (fun _ _ _ _ _ => (mg_name (i := 8) sc__law_draws.nd rfl (by first | exact .inl rfl | exact .inr rfl))) (fun _ _ _ _ _ => mts_nil) (fun _ _ _ _ _ => (me_callTy cd_int (by rfl) z_int (by decide +kernel) (ma_cons (me_var (pv 8)) ma_nil))))
  (mss_cons (ms_if (mt_cmp (od_eq hr) (me_callB cd_len (by rfl) z_len (by decide +kernel) (ma_cons (me_var (pv 2)) ma_nil)) me_int (nomark _))
  (mss_one (ms_expr (me_append (pv 2) (ma_cons me_int ma_nil))))
  mss_nil)
  (mss_cons (ms_set (i := 3) sc__law_draws.nd rfl (by first | exact .inl rfl | exact .inr rfl) (me_callTy cd_list (by rfl) z_list (by decide +kernel) (ma_cons (me_var (pv 2)) ma_nil)))
  (mss_cons (ms_set (i := 4) sc__law_draws.nd rfl (by first | exact .inl rfl | exact .inr rfl) (me_lst ma_nil))
  (mss_cons (ms_for (passes_of rfl) rfl (mi_rng1 (by rfl) z_range (me_var (pv 1))) (mg_name (i := 5) sc__law_draws.nd rfl (by first | exact .inl rfl | exact .inr rfl))
  (mss_cons (ms_set (i := 6) sc__law_draws.nd rfl (by first | exact .inl rfl | exact .inr rfl) (me_bin od_mod (me_var (pv 5)) (me_callB cd_len (by rfl) z_len (by decide +kernel) (ma_cons (me_var (pv 2)) ma_nil))))
  (mss_one (ms_if (mt_cmp od_ge (me_ix (me_var (pv 2)) (me_var (pv 6))) (me_bin od_pow me_int me_int) (nomark _))
  (mss_cons (ms_expr (me_append (pv 4) (ma_cons (me_bin od_mod (me_callTy cd_int (by rfl) z_int (by decide +kernel) (ma_cons (me_ix (me_var (pv 3)) (me_var (pv 6))) ma_nil)) me_int) ma_nil)))
  (mss_one (ms_store (i := 3) (pv 3) (me_bin od_div (me_ix (me_var (pv 3)) (me_var (pv 6))) me_int) (me_var (pv 6)))))
  (mss_cons (ms_set (i := 7) sc__law_draws.nd rfl (by first | exact .inl rfl | exact .inr rfl) (me_bin od_mod (me_callTy cd_int (by rfl) z_int (by decide +kernel) (ma_cons (me_binT od_add (me_binT od_add (me_bin od_mul (me_ix (me_var (pv 2)) (me_var (pv 6))) me_int) (me_bin od_mul (me_var (pv 5)) me_int)) me_int) ma_nil)) me_int))
  (mss_one (ms_expr (me_append (pv 4) (ma_cons (me_bin od_mod (me_callTy cd_int (by rfl) z_int (by decide +kernel) (ma_cons (me_binT od_add (me_binT od_add (me_bin od_mul (me_var (pv 7)) (me_var (pv 7))) (me_bin od_mul me_int (me_var (pv 7)))) (me_var (pv 5))) ma_nil)) me_int) ma_nil)))))))))
  (mss_cons (ms_expr (me_reverse (pv 4)))
  (mss_one (ms_ret (me_var (pv 4))))))))))
theorem ok__law_take  {f : Addr} {fd : FuncData} (F : Fun K "_law_take" "_law_take" (topS 20) f fd) (z_len : mg "len" = none) (z_int : mg "int" = none) : FnOk Pr w K mg base (L2.CX Pr w) 1 f fd ["draws", "many"] (spM ⟨K, w⟩ (XRp C_NoQuestion "join") m__law_take 2) :=
  fun_mir (k := 0) (P := [0, 1]) F sc__law_take (by decide) fun cdv A outer s H E hr => by
    have tk := takes_of (X := cxOf (L2.CX Pr w) Pr w K mg base ["draws", "many"] "_law_take" (defScope (topS 20)) f cdv A outer s H E) (E := E) rfl rfl rfl rfl
    exact (mss_cons (ms_if (mt_cmp (od_eq hr) (me_callB cd_len (by rfl) z_len (by decide +kernel) (ma_cons (me_var (pv 0)) ma_nil)) me_int (nomark _))
  (mss_one (ms_ret me_int))
  mss_nil)
  (mss_one (ms_ret (me_bin od_mod (me_callTy cd_int (by rfl) z_int (by decide +kernel) (ma_cons (me_pop (pv 0)) ma_nil)) (me_var (pv 1))))))
theorem ok__law_pick  {f : Addr} {fd : FuncData} (F : Fun K "_law_pick" "_law_pick" (topS 21) f fd) (z_len : mg "len" = none) (u__law_take : Use Pr w K mg base (XRp C_NoQuestion "join") "_law_take" ["draws", "many"] 1 m__law_take) : FnOk Pr w K mg base (L2.CX Pr w) 2 f fd ["draws", "row"] (spM ⟨K, w⟩ (XRp C_NoQuestion "join") m__law_pick 2) :=
  fun_mir (k := 1) (P := [0, 1]) F sc__law_pick (by decide) fun cdv A outer s H E hr => by
    have tk := takes_of (X := cxOf (L2.CX Pr w) Pr w K mg base ["draws", "row"] "_law_pick" (defScope (topS 21)) f cdv A outer s H E) (E := E) rfl rfl rfl rfl
    exact (mss_one (ms_ret (me_ix (me_var (pv 1)) (me_use u__law_take (hr.mono (by first | decide | omega)) (by rfl) tk (argN_cons (argN_cons argN_nil)) (ma_cons (me_var (pv 0)) (ma_cons (me_callB cd_len (by rfl) z_len (by decide +kernel) (ma_cons (me_var (pv 1)) ma_nil)) ma_nil))))))
theorem ok__law_same  {f : Addr} {fd : FuncData} (F : Fun K "_law_same" "_law_same" (topS 22) f fd) (gf : mg "_law_same" = some (.ref f)) (hb : Binds K fd ["actual", "due"] []) (z_isinstance : mg "isinstance" = none) (z_tuple : mg "tuple" = none) (z_list : mg "list" = none) (z_len : mg "len" = none) (z_range : mg "range" = none) (z_bool : mg "bool" = none) (z_int : mg "int" = none) (z_str : mg "str" = none) : ∀ n : Nat, FnOk Pr w K mg base (L2.CX Pr w) (1 + n) f fd ["actual", "due"] (spM ⟨K, w⟩ (XRp C_NoQuestion "join") (m__law_same n) 2)
  | 0 => fnOk_no (k := 1) (ps := ["actual", "due"])
  | n + 1 => by
    have ih := ok__law_same F gf hb z_isinstance z_tuple z_list z_len z_range z_bool z_int z_str n
    have u__law_same : Use Pr w K mg base (XRp C_NoQuestion "join") "_law_same" ["actual", "due"] (1 + n) (m__law_same n) := .mk' ih gf F.kp hb
    exact fun_mir (k := 1 + n) (P := [0, 1]) F sc__law_same (by decide) fun cdv A outer s H E hr => by
      have tk := takes_of (X := cxOf (L2.CX Pr w) Pr w K mg base ["actual", "due", "k"] "_law_same" (defScope (topS 22)) f cdv A outer s H E) (E := E) rfl rfl rfl rfl
      exact (mss_cons (ms_if (mt_val (me_isi2 (T := "tuple") (T' := "list") (by decide) (by decide) (by rfl) z_isinstance (me_var (pv 1)) (pe_bltn (v := .ty "tuple") (by rfl) z_tuple (by decide +kernel) rfl) (pe_bltn (v := .ty "list") (by rfl) z_list (by decide +kernel) rfl)))
  (mss_cons (ms_if (MW.mt (mw_or (mt_cmp (od_ne hr) (me_isi (T := "tuple") (by decide) (by rfl) z_isinstance (me_var (pv 0)) (pe_bltn (v := .ty "tuple") (by rfl) z_tuple (by decide +kernel) rfl)) (me_isi (T := "tuple") (by decide) (by rfl) z_isinstance (me_var (pv 1)) (pe_bltn (v := .ty "tuple") (by rfl) z_tuple (by decide +kernel) rfl)) (nomark _)) (mw_or1 (mt_cmp (od_ne hr) (me_isi (T := "list") (by decide) (by rfl) z_isinstance (me_var (pv 0)) (pe_bltn (v := .ty "list") (by rfl) z_list (by decide +kernel) rfl)) (me_isi (T := "list") (by decide) (by rfl) z_isinstance (me_var (pv 1)) (pe_bltn (v := .ty "list") (by rfl) z_list (by decide +kernel) rfl)) (nomark _)))))
  (mss_one (ms_ret me_bl))
  mss_nil)
  (mss_cons (ms_if (mt_cmp (od_ne hr) (me_callB cd_len (by rfl) z_len (by decide +kernel) (ma_cons (me_var (pv 0)) ma_nil)) (me_callB cd_len (by rfl) z_len (by decide +kernel) (ma_cons (me_var (pv 1)) ma_nil)) (nomark _))
  (mss_one (ms_ret me_bl))
  mss_nil)
  (mss_one (ms_ret (me_cmp (od_notin hr) me_bl (me_lc (own := [("k", 2)]) (T := [2]) rfl sc__law_same.nd (mi_rng1 (by rfl) z_range (me_callB cd_len (by rfl) z_len (by decide +kernel) (ma_cons (me_var (pv 1)) ma_nil))) (blkOk_by (by first | rfl | kernel_rfl)) (by decide) (fun _ _ _ _ _ => (mg_name (i := 2) sc__law_same.nd rfl (by first | exact .inl rfl | exact .inr rfl))) (fun _ _ _ _ _ => mts_nil) (fun _ _ _ _ _ => (me_use u__law_same hr (by rfl) takes0 (argN_cons (argN_cons argN_nil)) (ma_cons (me_ix (me_var (pv 0)) (me_var (pv 2))) (ma_cons (me_ix (me_var (pv 1)) (me_var (pv 2))) ma_nil))))) (by rfl))))))
  mss_nil)
  (mss_cons (ms_if (MW.mt (mw_or (mt_cmp (od_ne hr) (me_isi (T := "bool") (by decide) (by rfl) z_isinstance (me_var (pv 0)) (pe_bltn (v := .ty "bool") (by rfl) z_bool (by decide +kernel) rfl)) (me_isi (T := "bool") (by decide) (by rfl) z_isinstance (me_var (pv 1)) (pe_bltn (v := .ty "bool") (by rfl) z_bool (by decide +kernel) rfl)) (nomark _)) (mw_or1 (mt_cmp (od_ne hr) (me_isi (T := "int") (by decide) (by rfl) z_isinstance (me_var (pv 0)) (pe_bltn (v := .ty "int") (by rfl) z_int (by decide +kernel) rfl)) (me_isi (T := "int") (by decide) (by rfl) z_isinstance (me_var (pv 1)) (pe_bltn (v := .ty "int") (by rfl) z_int (by decide +kernel) rfl)) (nomark _)))))
  (mss_one (ms_ret me_bl))
  mss_nil)
  (mss_cons (ms_if (MW.mt (mw_or (mt_cmp (od_ne hr) (me_isi (T := "str") (by decide) (by rfl) z_isinstance (me_var (pv 0)) (pe_bltn (v := .ty "str") (by rfl) z_str (by decide +kernel) rfl)) (me_isi (T := "str") (by decide) (by rfl) z_isinstance (me_var (pv 1)) (pe_bltn (v := .ty "str") (by rfl) z_str (by decide +kernel) rfl)) (nomark _)) (mw_or1 (mt_cmp (od_ne hr) (me_cmp od_is (me_var (pv 0)) me_non (nomark _)) (me_cmp od_is (me_var (pv 1)) me_non (nomark _)) (nomark _)))))
  (mss_one (ms_ret me_bl))
  mss_nil)
  (mss_one (ms_ret (me_cmp (od_eq hr) (me_var (pv 0)) (me_var (pv 1)) (nomark _)))))))
theorem ok__law_pool  {f : Addr} {fd : FuncData} (F : Fun K "_law_pool" "_law_pool" (topS 23) f fd) (z_range : mg "range" = none) (u__law_take : Use Pr w K mg base (XRp C_NoQuestion "join") "_law_take" ["draws", "many"] 1 m__law_take) : FnOk Pr w K mg base (L2.CX Pr w) 2 f fd ["draws", "many"] (spM ⟨K, w⟩ (XRp C_NoQuestion "join") m__law_pool 2) :=
  fun_mir (k := 1) (P := [0, 1]) F sc__law_pool (by decide) fun cdv A outer s H E hr => by
    have tk := takes_of (X := cxOf (L2.CX Pr w) Pr w K mg base ["draws", "many", "pool", "k", "letters", "word", "j"] "_law_pool" (defScope (topS 23)) f cdv A outer s H E) (E := E) rfl rfl rfl rfl
    exact (mss_cons (ms_set (i := 2) sc__law_pool.nd rfl (by first | exact .inl rfl | exact .inr rfl) (me_lst ma_nil))
  (mss_cons (ms_for (passes_of rfl) rfl (mi_rng1 (by rfl) z_range (me_var (pv 1))) (mg_name (i := 3) sc__law_pool.nd rfl (by first | exact .inl rfl | exact .inr rfl))
  (mss_cons (ms_setLc (i := 4) rfl sc__law_pool.nd rfl (by rfl) (by rfl) (own := [("j", 6)]) (T := [6]) (mi_rng1 (by rfl) z_range (me_binT od_add me_int (me_use u__law_take (hr.mono (by first | decide | omega)) (by rfl) tk (argN_cons (argN_cons argN_nil)) (ma_cons (me_var (pv 0)) (ma_cons me_int ma_nil))))) (blkOk_by (by first | rfl | kernel_rfl)) (by decide) (fun _ _ _ _ _ => (mg_name (i := 6) sc__law_pool.nd rfl (by first | exact .inl rfl | exact .inr rfl))) (fun _ _ _ _ _ => mts_nil) (fun _ _ _ _ _ => (me_ix (me_str [97, 98, 99, 100, 101, 102, 103, 104, 105, 106, 107, 108, 109, 110, 111, 112, 113, 114, 115, 116, 117, 118, 119, 120, 121, 122]) (me_use u__law_take (hr.mono (by first | decide | omega)) (by rfl) takes0 (argN_cons (argN_cons argN_nil)) (ma_cons (me_var (pv 0)) (ma_cons me_int ma_nil))))))
  (mss_cons (ms_set (i := 5) sc__law_pool.nd rfl (by first | exact .inl rfl | exact .inr rfl) (me_join (S := []) (me_var (pv 4))))
  (mss_cons (ms_if (mt_cmp (od_in hr) (me_var (pv 5)) (me_var (pv 2)) (by rfl))
  (mss_one (ms_set (i := 5) sc__law_pool.nd rfl (by first | exact .inl rfl | exact .inr rfl) (me_binT od_add (me_join (S := []) (me_var (pv 2))) (me_str [122]))))
  mss_nil)
  (mss_one (ms_expr (me_append (pv 2) (ma_cons (me_var (pv 5)) ma_nil))))))))
  (mss_one (ms_ret (me_var (pv 2))))))
theorem ok__law_values  {f : Addr} {fd : FuncData} (F : Fun K "_law_values" "_law_values" (topS 24) f fd) (u__law_take : Use Pr w K mg base (XRp C_NoQuestion "join") "_law_take" ["draws", "many"] 1 m__law_take) : FnOk Pr w K mg base (L2.CX Pr w) 2 f fd ["draws", "words"] (spM ⟨K, w⟩ (XRp C_NoQuestion "join") m__law_values 2) :=
  fun_mir (k := 1) (P := [0, 1]) F sc__law_values (by decide) fun cdv A outer s H E hr => by
    have tk := takes_of (X := cxOf (L2.CX Pr w) Pr w K mg base ["draws", "words", "low", "values"] "_law_values" (defScope (topS 24)) f cdv A outer s H E) (E := E) rfl rfl rfl rfl
    exact (mss_cons (ms_set (i := 2) sc__law_values.nd rfl (by first | exact .inl rfl | exact .inr rfl) (me_bin od_sub (me_use u__law_take (hr.mono (by first | decide | omega)) (by rfl) tk (argN_cons (argN_cons argN_nil)) (ma_cons (me_var (pv 0)) (ma_cons me_int ma_nil))) me_int))
  (mss_cons (ms_set (i := 3) sc__law_values.nd rfl (by first | exact .inl rfl | exact .inr rfl) (me_lst (ma_cons (me_var (pv 2)) (ma_cons (me_binT od_add (me_binT od_add (me_var (pv 2)) me_int) (me_use u__law_take (hr.mono (by first | decide | omega)) (by rfl) tk (argN_cons (argN_cons argN_nil)) (ma_cons (me_var (pv 0)) (ma_cons me_int ma_nil)))) (ma_cons (me_ix (me_var (pv 1)) me_int) ma_nil)))))
  (mss_cons (ms_if (mt_cmp (od_eq hr) (me_use u__law_take (hr.mono (by first | decide | omega)) (by rfl) tk (argN_cons (argN_cons argN_nil)) (ma_cons (me_var (pv 0)) (ma_cons me_int ma_nil))) me_int (nomark _))
  (mss_one (ms_store (i := 3) (pv 3) (me_ix (me_var (pv 1)) me_int) me_int))
  mss_nil)
  (mss_one (ms_ret (me_var (pv 3)))))))
theorem ok__law_value  {f : Addr} {fd : FuncData} (F : Fun K "_law_value" "_law_value" (topS 25) f fd) (u__law_take : Use Pr w K mg base (XRp C_NoQuestion "join") "_law_take" ["draws", "many"] 1 m__law_take) : FnOk Pr w K mg base (L2.CX Pr w) 2 f fd ["draws", "values"] (spM ⟨K, w⟩ (XRp C_NoQuestion "join") m__law_value 2) :=
  fun_mir (k := 1) (P := [0, 1]) F sc__law_value (by decide) fun cdv A outer s H E hr => by
    have tk := takes_of (X := cxOf (L2.CX Pr w) Pr w K mg base ["draws", "values"] "_law_value" (defScope (topS 25)) f cdv A outer s H E) (E := E) rfl rfl rfl rfl
    exact (mss_one (ms_ret (me_ix (me_var (pv 1)) (me_ix (me_lst (ma_cons me_int (ma_cons me_int (ma_cons me_int (ma_cons me_int (ma_cons me_int ma_nil)))))) (me_use u__law_take (hr.mono (by first | decide | omega)) (by rfl) tk (argN_cons (argN_cons argN_nil)) (ma_cons (me_var (pv 0)) (ma_cons me_int ma_nil)))))))
theorem ok__law_world  {f : Addr} {fd : FuncData} (F : Fun K "_law_world" "_law_world" (topS 26) f fd) (z_sorted : mg "sorted" = none) (z_tuple : mg "tuple" = none) (u__law_pool : Use Pr w K mg base (XRp C_NoQuestion "join") "_law_pool" ["draws", "many"] 2 m__law_pool) (u__law_take : Use Pr w K mg base (XRp C_NoQuestion "join") "_law_take" ["draws", "many"] 1 m__law_take) (u__law_values : Use Pr w K mg base (XRp C_NoQuestion "join") "_law_values" ["draws", "words"] 2 m__law_values) : FnOk Pr w K mg base (L2.CX Pr w) 3 f fd ["draws"] (spM ⟨K, w⟩ (XRp C_NoQuestion "join") m__law_world 1) :=
  fun_mir (k := 2) (P := [0]) F sc__law_world (by decide) fun cdv A outer s H E hr => by
    have tk := takes_of (X := cxOf (L2.CX Pr w) Pr w K mg base ["draws", "pool", "schema", "name"] "_law_world" (defScope (topS 26)) f cdv A outer s H E) (E := E) rfl rfl rfl rfl
    exact (mss_cons (ms_set (i := 1) sc__law_world.nd rfl (by first | exact .inl rfl | exact .inr rfl) (me_use u__law_pool (hr.mono (by first | decide | omega)) (by rfl) tk (argN_cons (argN_cons argN_nil)) (ma_cons (me_var (pv 0)) (ma_cons me_int ma_nil))))
  (mss_cons (ms_set (i := 2) sc__law_world.nd rfl (by first | exact .inl rfl | exact .inr rfl) (me_lst ma_nil))
  (mss_cons (ms_for (passes_of rfl) rfl (mi_seq (me_callB (cd_sortedA hr) (by rfl) z_sorted (by decide +kernel) (ma_cons (me_sl (me_var (pv 1)) mo_none (mo_some (me_ix (me_lst (ma_cons me_int (ma_cons me_int (ma_cons me_int (ma_cons me_int ma_nil))))) (me_use u__law_take (hr.mono (by first | decide | omega)) (by rfl) tk (argN_cons (argN_cons argN_nil)) (ma_cons (me_var (pv 0)) (ma_cons me_int ma_nil)))))) ma_nil))) (mg_name (i := 3) sc__law_world.nd rfl (by first | exact .inl rfl | exact .inr rfl))
  (mss_one (ms_expr (me_append (pv 2) (ma_cons (me_tup (ma_cons (me_var (pv 3)) (ma_cons (me_ix (me_lst (ma_cons me_int (ma_cons me_int (ma_cons me_int (ma_cons me_int (ma_cons me_int (ma_cons me_int (ma_cons me_int (ma_cons me_int ma_nil))))))))) (me_use u__law_take (hr.mono (by first | decide | omega)) (by rfl) tk (argN_cons (argN_cons argN_nil)) (ma_cons (me_var (pv 0)) (ma_cons me_int ma_nil)))) ma_nil))) ma_nil)))))
  (mss_one (ms_ret (me_lst (ma_cons (me_callTy cd_tuple (by rfl) z_tuple (by decide +kernel) (ma_cons (me_var (pv 2)) ma_nil)) (ma_cons (me_callB (cd_sortedA hr) (by rfl) z_sorted (by decide +kernel) (ma_cons (me_sl (me_var (pv 1)) (mo_some me_int) mo_none) ma_nil)) (ma_cons (me_use u__law_values (hr.mono (by first | decide | omega)) (by rfl) tk (argN_cons (argN_cons argN_nil)) (ma_cons (me_var (pv 0)) (ma_cons (me_var (pv 1)) ma_nil))) ma_nil)))))))))
theorem ok__law_table  {f : Addr} {fd : FuncData} (F : Fun K "_law_table" "_law_table" (topS 27) f fd)  : FnOk Pr w K mg base (L2.CX Pr w) 1 f fd ["schema", "name"] (spM ⟨K, w⟩ (XRp C_NoQuestion "join") m__law_table 2) :=
  fun_mir (k := 0) (P := [0, 1]) F sc__law_table (by decide) fun cdv A outer s H E hr => by
    have tk := takes_of (X := cxOf (L2.CX Pr w) Pr w K mg base ["schema", "name", "table"] "_law_table" (defScope (topS 27)) f cdv A outer s H E) (E := E) rfl rfl rfl rfl
    exact (mss_cons (ms_for (passes_of rfl) rfl (mi_seq (me_var (pv 0))) (mg_name (i := 2) sc__law_table.nd rfl (by first | exact .inl rfl | exact .inr rfl))
  (mss_one (ms_if (mt_cmp (od_eq hr) (me_ix (me_var (pv 2)) me_int) (me_var (pv 1)) (nomark _))
  (mss_one (ms_ret (me_var (pv 2))))
  mss_nil)))
  (mss_one (ms_ret me_non)))
theorem ok__law_term  {f : Addr} {fd : FuncData} (F : Fun K "_law_term" "_law_term" (topS 28) f fd) (u__law_take : Use Pr w K mg base (XRp C_NoQuestion "join") "_law_take" ["draws", "many"] 1 m__law_take) (u__law_value : Use Pr w K mg base (XRp C_NoQuestion "join") "_law_value" ["draws", "values"] 2 m__law_value) (u__law_pick : Use Pr w K mg base (XRp C_NoQuestion "join") "_law_pick" ["draws", "row"] 2 m__law_pick) : FnOk Pr w K mg base (L2.CX Pr w) 3 f fd ["draws", "world"] (spM ⟨K, w⟩ (XRp C_NoQuestion "join") m__law_term 2) :=
  fun_mir (k := 2) (P := [0, 1]) F sc__law_term (by decide) fun cdv A outer s H E hr => by
    have tk := takes_of (X := cxOf (L2.CX Pr w) Pr w K mg base ["draws", "world"] "_law_term" (defScope (topS 28)) f cdv A outer s H E) (E := E) rfl rfl rfl rfl
    exact (mss_cons (ms_if (mt_cmp (od_eq hr) (me_use u__law_take (hr.mono (by first | decide | omega)) (by rfl) tk (argN_cons (argN_cons argN_nil)) (ma_cons (me_var (pv 0)) (ma_cons me_int ma_nil))) me_int (nomark _))
  (mss_one (ms_ret (me_tup (ma_cons (me_str [118, 97, 108, 117, 101]) (ma_cons (me_use u__law_value (hr.mono (by first | decide | omega)) (by rfl) tk (argN_cons (argN_cons argN_nil)) (ma_cons (me_var (pv 0)) (ma_cons (me_ix (me_var (pv 1)) me_int) ma_nil))) ma_nil)))))
  mss_nil)
  (mss_one (ms_ret (me_tup (ma_cons (me_str [118, 97, 114]) (ma_cons (me_use u__law_pick (hr.mono (by first | decide | omega)) (by rfl) tk (argN_cons (argN_cons argN_nil)) (ma_cons (me_var (pv 0)) (ma_cons (me_ix (me_var (pv 1)) me_int) ma_nil))) ma_nil))))))
theorem ok__law_atom  {f : Addr} {fd : FuncData} (F : Fun K "_law_atom" "_law_atom" (topS 29) f fd) (z_range : mg "range" = none) (z_tuple : mg "tuple" = none) (u__law_term : Use Pr w K mg base (XRp C_NoQuestion "join") "_law_term" ["draws", "world"] 3 m__law_term) : FnOk Pr w K mg base (L2.CX Pr w) 4 f fd ["draws", "world", "table"] (spM ⟨K, w⟩ (XRp C_NoQuestion "join") m__law_atom 3) :=
  fun_mir (k := 3) (P := [0, 1, 2]) F sc__law_atom (by decide) fun cdv A outer s H E hr => by
    have tk := takes_of (X := cxOf (L2.CX Pr w) Pr w K mg base ["draws", "world", "table", "k"] "_law_atom" (defScope (topS 29)) f cdv A outer s H E) (E := E) rfl rfl rfl rfl
    exact (mss_one (ms_ret (me_tup (ma_cons (me_ix (me_var (pv 2)) me_int) (ma_cons (me_callTy cd_tuple (by rfl) z_tuple (by decide +kernel) (ma_cons (me_lc (own := [("k", 3)]) (T := [3]) rfl sc__law_atom.nd (mi_rng1 (by rfl) z_range (me_ix (me_var (pv 2)) me_int)) (blkOk_by (by first | rfl | kernel_rfl)) (by decide) (fun _ _ _ _ _ => (mg_name (i := 3) sc__law_atom.nd rfl (by first | exact .inl rfl | exact .inr rfl))) (fun _ _ _ _ _ => mts_nil) (fun _ _ _ _ _ => (me_use u__law_term (hr.mono (by first | decide | omega)) (by rfl) takes0 (argN_cons (argN_cons argN_nil)) (ma_cons (me_var (pv 0)) (ma_cons (me_var (pv 1)) ma_nil))))) ma_nil)) ma_nil)))))
theorem ok__law_join  {f : Addr} {fd : FuncData} (F : Fun K "_law_join" "_law_join" (topS 30) f fd) (z_range : mg "range" = none) (z_tuple : mg "tuple" = none) (u__law_take : Use Pr w K mg base (XRp C_NoQuestion "join") "_law_take" ["draws", "many"] 1 m__law_take) (u__law_atom : Use Pr w K mg base (XRp C_NoQuestion "join") "_law_atom" ["draws", "world", "table"] 4 m__law_atom) (u__law_pick : Use Pr w K mg base (XRp C_NoQuestion "join") "_law_pick" ["draws", "row"] 2 m__law_pick) (u__law_value : Use Pr w K mg base (XRp C_NoQuestion "join") "_law_value" ["draws", "values"] 2 m__law_value) : FnOk Pr w K mg base (L2.CX Pr w) 5 f fd ["draws", "world", "width"] (spM ⟨K, w⟩ (XRp C_NoQuestion "join") m__law_join 3) :=
  fun_mir (k := 4) (P := [0, 1, 2]) F sc__law_join (by decide) fun cdv A outer s H E hr => by
    have tk := takes_of (X := cxOf (L2.CX Pr w) Pr w K mg base ["draws", "world", "width", "body", "k", "terms", "atom", "term"] "_law_join" (defScope (topS 30)) f cdv A outer s H E) (E := E) rfl rfl rfl rfl
    exact (mss_cons (ms_set (i := 3) sc__law_join.nd rfl (by first | exact .inl rfl | exact .inr rfl) (me_lst ma_nil))
  (mss_cons (ms_for (passes_of rfl) rfl (mi_rng1 (by rfl) z_range (me_ix (me_lst (ma_cons me_int (ma_cons me_int (ma_cons me_int (ma_cons me_int (ma_cons me_int (ma_cons me_int (ma_cons me_int (ma_cons me_int ma_nil))))))))) (me_use u__law_take (hr.mono (by first | decide | omega)) (by rfl) tk (argN_cons (argN_cons argN_nil)) (ma_cons (me_var (pv 0)) (ma_cons me_int ma_nil))))) (mg_name (i := 4) sc__law_join.nd rfl (by first | exact .inl rfl | exact .inr rfl))
  (mss_one (ms_expr (me_append (pv 3) (ma_cons (me_use u__law_atom (hr.mono (by first | decide | omega)) (by rfl) tk (argN_cons (argN_cons (argN_cons argN_nil))) (ma_cons (me_var (pv 0)) (ma_cons (me_var (pv 1)) (ma_cons (me_use u__law_pick (hr.mono (by first | decide | omega)) (by rfl) tk (argN_cons (argN_cons argN_nil)) (ma_cons (me_var (pv 0)) (ma_cons (me_ix (me_var (pv 1)) me_int) ma_nil))) ma_nil)))) ma_nil)))))
  (mss_cons (ms_set (i := 5) sc__law_join.nd rfl (by first | exact .inl rfl | exact .inr rfl) (me_lst (ma_cons (me_tup (ma_cons (me_str [118, 97, 108, 117, 101]) (ma_cons (me_use u__law_value (hr.mono (by first | decide | omega)) (by rfl) tk (argN_cons (argN_cons argN_nil)) (ma_cons (me_var (pv 0)) (ma_cons (me_ix (me_var (pv 1)) me_int) ma_nil))) ma_nil))) ma_nil)))
  (mss_cons (ms_for (passes_of rfl) rfl (mi_seq (me_var (pv 3))) (mg_name (i := 6) sc__law_join.nd rfl (by first | exact .inl rfl | exact .inr rfl))
  (mss_one (ms_set (i := 5) sc__law_join.nd rfl (by first | exact .inl rfl | exact .inr rfl) (me_binT od_add (me_lc (own := [("term", 7)]) (T := [7]) rfl sc__law_join.nd (mi_seq (me_ix (me_var (pv 6)) me_int)) (blkOk_by (by first | rfl | kernel_rfl)) (by decide) (fun _ _ _ _ _ => (mg_name (i := 7) sc__law_join.nd rfl (by first | exact .inl rfl | exact .inr rfl))) (fun _ _ _ _ _ => (mts_one (mt_cmp (od_eq hr) (me_ix (me_var (pv 7)) me_int) (me_str [118, 97, 114]) (nomark _)))) (fun _ _ _ _ _ => (me_var (pv 7)))) (me_var (pv 5))))))
  (mss_one (ms_ret (me_tup (ma_cons (me_callTy cd_tuple (by rfl) z_tuple (by decide +kernel) (ma_cons (me_lc (own := [("k", 4)]) (T := [4]) rfl sc__law_join.nd (mi_rng1 (by rfl) z_range (me_var (pv 2))) (blkOk_by (by first | rfl | kernel_rfl)) (by decide) (fun _ _ _ _ _ => (mg_name (i := 4) sc__law_join.nd rfl (by first | exact .inl rfl | exact .inr rfl))) (fun _ _ _ _ _ => mts_nil) (fun _ _ _ _ _ => (me_use u__law_pick (hr.mono (by first | decide | omega)) (by rfl) takes0 (argN_cons (argN_cons argN_nil)) (ma_cons (me_var (pv 0)) (ma_cons (me_var (pv 5)) ma_nil))))) ma_nil)) (ma_cons (me_callTy cd_tuple (by rfl) z_tuple (by decide +kernel) (ma_cons (me_var (pv 3)) ma_nil)) ma_nil)))))))))
theorem ok__law_variables  {f : Addr} {fd : FuncData} (F : Fun K "_law_variables" "_law_variables" (topS 31) f fd) (z_sorted : mg "sorted" = none) (z_set : mg "set" = none) : FnOk Pr w K mg base (L2.CX Pr w) 1 f fd ["join"] (spM ⟨K, w⟩ (XRp C_NoQuestion "join") m__law_variables 1) :=
  fun_mir (k := 0) (P := [0]) F sc__law_variables (by decide) fun cdv A outer s H E hr => by
    have tk := takes_of (X := cxOf (L2.CX Pr w) Pr w K mg base ["join", "found", "atom", "term"] "_law_variables" (defScope (topS 31)) f cdv A outer s H E) (E := E) rfl rfl rfl rfl
    exact (mss_cons (ms_set (i := 1) sc__law_variables.nd rfl (by first | exact .inl rfl | exact .inr rfl) (me_lst ma_nil))
  (mss_cons (ms_for (passes_of rfl) rfl (mi_seq (me_ix (me_var (pv 0)) me_int)) (mg_name (i := 2) sc__law_variables.nd rfl (by first | exact .inl rfl | exact .inr rfl))
  (mss_one (ms_set (i := 1) sc__law_variables.nd rfl (by first | exact .inl rfl | exact .inr rfl) (me_binT od_add (me_var (pv 1)) (me_lc (own := [("term", 3)]) (T := [3]) rfl sc__law_variables.nd (mi_seq (me_ix (me_var (pv 2)) me_int)) (blkOk_by (by first | rfl | kernel_rfl)) (by decide) (fun _ _ _ _ _ => (mg_name (i := 3) sc__law_variables.nd rfl (by first | exact .inl rfl | exact .inr rfl))) (fun _ _ _ _ _ => (mts_one (mt_cmp (od_eq hr) (me_ix (me_var (pv 3)) me_int) (me_str [118, 97, 114]) (nomark _)))) (fun _ _ _ _ _ => (me_ix (me_var (pv 3)) me_int)))))))
  (mss_one (ms_ret (me_sortSet hr (by rfl) z_sorted (by rfl) z_set (me_var (pv 1)))))))
theorem ok__law_is_word  {f : Addr} {fd : FuncData} (F : Fun K "_law_is_word" "_law_is_word" (topS 32) f fd)  : FnOk Pr w K mg base (L2.CX Pr w) 1 f fd ["text"] (spM ⟨K, w⟩ (XRp C_NoQuestion "join") m__law_is_word 1) :=
  fun_mir (k := 0) (P := [0]) F sc__law_is_word (by decide) fun cdv A outer s H E hr => by
    have tk := takes_of (X := cxOf (L2.CX Pr w) Pr w K mg base ["text", "char"] "_law_is_word" (defScope (topS 32)) f cdv A outer s H E) (E := E) rfl rfl rfl rfl
    exact (mss_cons (ms_if (mt_cmp (od_eq hr) (me_var (pv 0)) (me_str []) (nomark _))
  (mss_one (ms_ret me_bl))
  mss_nil)
  (mss_cons (ms_for (passes_of rfl) rfl (mi_seq (me_var (pv 0))) (mg_name (i := 1) sc__law_is_word.nd rfl (by first | exact .inl rfl | exact .inr rfl))
  (mss_one (ms_if (mt_cmp (od_notin hr) (me_var (pv 1)) (me_str [97, 98, 99, 100, 101, 102, 103, 104, 105, 106, 107, 108, 109, 110, 111, 112, 113, 114, 115, 116, 117, 118, 119, 120, 121, 122]) (by rfl))
  (mss_one (ms_ret me_bl))
  mss_nil)))
  (mss_one (ms_ret me_bl))))
theorem ok__law_great  {f : Addr} {fd : FuncData} (F : Fun K "_law_great" "_law_great" (topS 33) f fd) (z_range : mg "range" = none) (u__law_take : Use Pr w K mg base (XRp C_NoQuestion "join") "_law_take" ["draws", "many"] 1 m__law_take) : FnOk Pr w K mg base (L2.CX Pr w) 2 f fd ["draws"] (spM ⟨K, w⟩ (XRp C_NoQuestion "join") m__law_great 1) :=
  fun_mir (k := 1) (P := [0]) F sc__law_great (by decide) fun cdv A outer s H E hr => by
    have tk := takes_of (X := cxOf (L2.CX Pr w) Pr w K mg base ["draws", "number", "k"] "_law_great" (defScope (topS 33)) f cdv A outer s H E) (E := E) rfl rfl rfl rfl
    exact (mss_cons (ms_set (i := 1) sc__law_great.nd rfl (by first | exact .inl rfl | exact .inr rfl) me_int)
  (mss_cons (ms_for (passes_of rfl) rfl (mi_rng1 (by rfl) z_range (me_ix (me_lst (ma_cons me_int (ma_cons me_int (ma_cons me_int (ma_cons me_int ma_nil))))) (me_use u__law_take (hr.mono (by first | decide | omega)) (by rfl) tk (argN_cons (argN_cons argN_nil)) (ma_cons (me_var (pv 0)) (ma_cons me_int ma_nil))))) (mg_name (i := 2) sc__law_great.nd rfl (by first | exact .inl rfl | exact .inr rfl))
  (mss_one (ms_set (i := 1) sc__law_great.nd rfl (by first | exact .inl rfl | exact .inr rfl) (me_binT od_add (me_bin od_mul (me_var (pv 1)) me_int) (me_use u__law_take (hr.mono (by first | decide | omega)) (by rfl) tk (argN_cons (argN_cons argN_nil)) (ma_cons (me_var (pv 0)) (ma_cons me_int ma_nil)))))))
  (mss_cons (ms_if (mt_cmp (od_eq hr) (me_use u__law_take (hr.mono (by first | decide | omega)) (by rfl) tk (argN_cons (argN_cons argN_nil)) (ma_cons (me_var (pv 0)) (ma_cons me_int ma_nil))) me_int (nomark _))
  (mss_one (ms_ret (me_bin od_sub me_int (me_var (pv 1)))))
  mss_nil)
  (mss_one (ms_ret (me_var (pv 1)))))))
theorem ok__law_text_world  {f : Addr} {fd : FuncData} (F : Fun K "_law_text_world" "_law_text_world" (topS 34) f fd) (z_list : mg "list" = none) (z_range : mg "range" = none) (z_len : mg "len" = none) (z_sorted : mg "sorted" = none) (z_tuple : mg "tuple" = none) (u__law_world : Use Pr w K mg base (XRp C_NoQuestion "join") "_law_world" ["draws"] 3 m__law_world) (u__law_take : Use Pr w K mg base (XRp C_NoQuestion "join") "_law_take" ["draws", "many"] 1 m__law_take) (u__law_great : Use Pr w K mg base (XRp C_NoQuestion "join") "_law_great" ["draws"] 2 m__law_great) : FnOk Pr w K mg base (L2.CX Pr w) 4 f fd ["draws"] (spM ⟨K, w⟩ (XRp C_NoQuestion "join") m__law_text_world 1) :=
  fun_mir (k := 3) (P := [0]) F sc__law_text_world (by decide) fun cdv A outer s H E hr => by
    have tk := takes_of (X := cxOf (L2.CX Pr w) Pr w K mg base ["draws", "world", "schema", "names", "values", "k", "name"] "_law_text_world" (defScope (topS 34)) f cdv A outer s H E) (E := E) rfl rfl rfl rfl
    exact (mss_cons (ms_set (i := 1) sc__law_text_world.nd rfl (by first | exact .inl rfl | exact .inr rfl) (me_use u__law_world (hr.mono (by first | decide | omega)) (by rfl) tk (argN_cons argN_nil) (ma_cons (me_var (pv 0)) ma_nil)))
  (mss_cons (ms_set (i := 2) sc__law_text_world.nd rfl (by first | exact .inl rfl | exact .inr rfl) (me_callTy cd_list (by rfl) z_list (by decide +kernel) (ma_cons (me_ix (me_var (pv 1)) me_int) ma_nil)))
  (mss_cons (ms_set (i := 3) sc__law_text_world.nd rfl (by first | exact .inl rfl | exact .inr rfl) (me_callTy cd_list (by rfl) z_list (by decide +kernel) (ma_cons (me_ix (me_var (pv 1)) me_int) ma_nil)))
  (mss_cons (ms_set (i := 4) sc__law_text_world.nd rfl (by first | exact .inl rfl | exact .inr rfl) (me_callTy cd_list (by rfl) z_list (by decide +kernel) (ma_cons (me_ix (me_var (pv 1)) me_int) ma_nil)))
  (mss_cons (ms_for (passes_of rfl) rfl (mi_rng1 (by rfl) z_range me_int) (mg_name (i := 5) sc__law_text_world.nd rfl (by first | exact .inl rfl | exact .inr rfl))
  (mss_one (ms_if (mt_cmp od_gt (me_callB cd_len (by rfl) z_len (by decide +kernel) (ma_cons (me_ix (me_var (pv 3)) (me_var (pv 5))) ma_nil)) me_int (nomark _))
  (mss_one (ms_store (i := 3) (pv 3) (me_binT od_add (me_str [122, 122, 122, 122, 122, 122, 122]) (me_ix (me_str [97, 98, 99]) (me_var (pv 5)))) (me_var (pv 5))))
  mss_nil)))
  (mss_cons (ms_set (i := 6) sc__law_text_world.nd rfl (by first | exact .inl rfl | exact .inr rfl) (me_ix (me_lst (ma_cons (me_str [116, 97, 98, 108, 101]) (ma_cons (me_str []) (ma_cons (me_str [110, 111, 110, 101]) (ma_cons (me_str []) ma_nil))))) (me_use u__law_take (hr.mono (by first | decide | omega)) (by rfl) tk (argN_cons (argN_cons argN_nil)) (ma_cons (me_var (pv 0)) (ma_cons me_int ma_nil)))))
  (mss_cons (ms_if (mt_cmp (od_ne hr) (me_var (pv 6)) (me_str []) (nomark _))
  (mss_one (ms_store (i := 2) (pv 2) (me_tup (ma_cons (me_var (pv 6)) (ma_cons (me_ix (me_ix (me_var (pv 2)) me_int) me_int) ma_nil))) me_int))
  mss_nil)
  (mss_cons (ms_if (mt_cmp (od_eq hr) (me_use u__law_take (hr.mono (by first | decide | omega)) (by rfl) tk (argN_cons (argN_cons argN_nil)) (ma_cons (me_var (pv 0)) (ma_cons me_int ma_nil))) me_int (nomark _))
  (mss_one (ms_store (i := 2) (pv 2) (me_tup (ma_cons (me_ix (me_ix (me_var (pv 2)) me_int) me_int) (ma_cons (me_ix (me_lst (ma_cons me_int (ma_cons me_int ma_nil))) (me_use u__law_take (hr.mono (by first | decide | omega)) (by rfl) tk (argN_cons (argN_cons argN_nil)) (ma_cons (me_var (pv 0)) (ma_cons me_int ma_nil)))) ma_nil))) me_int))
  mss_nil)
  (mss_cons (ms_if (mt_cmp (od_eq hr) (me_use u__law_take (hr.mono (by first | decide | omega)) (by rfl) tk (argN_cons (argN_cons argN_nil)) (ma_cons (me_var (pv 0)) (ma_cons me_int ma_nil))) me_int (nomark _))
  (mss_one (ms_store (i := 3) (pv 3) (me_ix (me_lst (ma_cons (me_str [110, 111, 110, 101]) (ma_cons (me_str [116, 97, 98, 108, 101]) ma_nil))) (me_use u__law_take (hr.mono (by first | decide | omega)) (by rfl) tk (argN_cons (argN_cons argN_nil)) (ma_cons (me_var (pv 0)) (ma_cons me_int ma_nil)))) me_int))
  mss_nil)
  (mss_cons (ms_if (mt_cmp (od_eq hr) (me_use u__law_take (hr.mono (by first | decide | omega)) (by rfl) tk (argN_cons (argN_cons argN_nil)) (ma_cons (me_var (pv 0)) (ma_cons me_int ma_nil))) me_int (nomark _))
  (mss_one (ms_store (i := 4) (pv 4) (me_use u__law_great (hr.mono (by first | decide | omega)) (by rfl) tk (argN_cons argN_nil) (ma_cons (me_var (pv 0)) ma_nil)) me_int))
  mss_nil)
  (mss_cons (ms_if (mt_cmp (od_eq hr) (me_use u__law_take (hr.mono (by first | decide | omega)) (by rfl) tk (argN_cons (argN_cons argN_nil)) (ma_cons (me_var (pv 0)) (ma_cons me_int ma_nil))) me_int (nomark _))
  (mss_one (ms_store (i := 4) (pv 4) (me_ix (me_var (pv 3)) me_int) me_int))
  mss_nil)
  (mss_one (ms_ret (me_lst (ma_cons (me_callTy cd_tuple (by rfl) z_tuple (by decide +kernel) (ma_cons (me_callB (cd_sortedA hr) (by rfl) z_sorted (by decide +kernel) (ma_cons (me_var (pv 2)) ma_nil)) ma_nil)) (ma_cons (me_callB (cd_sortedA hr) (by rfl) z_sorted (by decide +kernel) (ma_cons (me_var (pv 3)) ma_nil)) (ma_cons (me_var (pv 4)) ma_nil)))))))))))))))))
theorem ok__law_good_term  {f : Addr} {fd : FuncData} (F : Fun K "_law_good_term" "_law_good_term" (topS 35) f fd) (z_isinstance : mg "isinstance" = none) (z_str : mg "str" = none) (u__law_is_word : Use Pr w K mg base (XRp C_NoQuestion "join") "_law_is_word" ["text"] 1 m__law_is_word) : FnOk Pr w K mg base (L2.CX Pr w) 2 f fd ["term"] (spM ⟨K, w⟩ (XRp C_NoQuestion "join") m__law_good_term 1) :=
  fun_mir (k := 1) (P := [0]) F sc__law_good_term (by decide) fun cdv A outer s H E hr => by
    have tk := takes_of (X := cxOf (L2.CX Pr w) Pr w K mg base ["term"] "_law_good_term" (defScope (topS 35)) f cdv A outer s H E) (E := E) rfl rfl rfl rfl
    exact (mss_cons (ms_if (MW.mt (mw_and (mt_cmp (od_eq hr) (me_ix (me_var (pv 0)) me_int) (me_str [118, 97, 108, 117, 101]) (nomark _)) (mw_and1 (mt_not (mt_val (me_isi (T := "str") (by decide) (by rfl) z_isinstance (me_ix (me_var (pv 0)) me_int) (pe_bltn (v := .ty "str") (by rfl) z_str (by decide +kernel) rfl)))))))
  (mss_one (ms_ret me_bl))
  mss_nil)
  (mss_one (ms_ret (me_use u__law_is_word (hr.mono (by first | decide | omega)) (by rfl) tk (argN_cons argN_nil) (ma_cons (me_ix (me_var (pv 0)) me_int) ma_nil)))))
theorem ok__law_good_join  {f : Addr} {fd : FuncData} (F : Fun K "_law_good_join" "_law_good_join" (topS 36) f fd) (z_len : mg "len" = none) (u__law_table : Use Pr w K mg base (XRp C_NoQuestion "join") "_law_table" ["schema", "name"] 1 m__law_table) (u__law_good_term : Use Pr w K mg base (XRp C_NoQuestion "join") "_law_good_term" ["term"] 2 m__law_good_term) (u__law_variables : Use Pr w K mg base (XRp C_NoQuestion "join") "_law_variables" ["join"] 1 m__law_variables) : FnOk Pr w K mg base (L2.CX Pr w) 3 f fd ["schema", "width", "join"] (spM ⟨K, w⟩ (XRp C_NoQuestion "join") m__law_good_join 3) :=
  fun_mir (k := 2) (P := [0, 1, 2]) F sc__law_good_join (by decide) fun cdv A outer s H E hr => by
    have tk := takes_of (X := cxOf (L2.CX Pr w) Pr w K mg base ["schema", "width", "join", "atom", "table", "names", "term"] "_law_good_join" (defScope (topS 36)) f cdv A outer s H E) (E := E) rfl rfl rfl rfl
    exact (mss_cons (ms_if (MW.mt (mw_or (mt_cmp (od_ne hr) (me_callB cd_len (by rfl) z_len (by decide +kernel) (ma_cons (me_ix (me_var (pv 2)) me_int) ma_nil)) (me_var (pv 1)) (nomark _)) (mw_or1 (mt_cmp od_gt (me_callB cd_len (by rfl) z_len (by decide +kernel) (ma_cons (me_ix (me_var (pv 2)) me_int) ma_nil)) me_int (nomark _)))))
  (mss_one (ms_ret me_bl))
  mss_nil)
  (mss_cons (ms_for (passes_of rfl) rfl (mi_seq (me_ix (me_var (pv 2)) me_int)) (mg_name (i := 3) sc__law_good_join.nd rfl (by first | exact .inl rfl | exact .inr rfl))
  (mss_cons (ms_set (i := 4) sc__law_good_join.nd rfl (by first | exact .inl rfl | exact .inr rfl) (me_use u__law_table (hr.mono (by first | decide | omega)) (by rfl) tk (argN_cons (argN_cons argN_nil)) (ma_cons (me_var (pv 0)) (ma_cons (me_ix (me_var (pv 3)) me_int) ma_nil))))
  (mss_cons (ms_if (MW.mt (mw_or (mt_cmp od_is (me_var (pv 4)) me_non (nomark _)) (mw_or1 (mt_cmp (od_ne hr) (me_ix (me_var (pv 4)) me_int) (me_callB cd_len (by rfl) z_len (by decide +kernel) (ma_cons (me_ix (me_var (pv 3)) me_int) ma_nil)) (nomark _)))))
  (mss_one (ms_ret me_bl))
  mss_nil)
  (mss_one (ms_if (mt_cmp (od_in hr) me_bl (me_lc (own := [("term", 6)]) (T := [6]) rfl sc__law_good_join.nd (mi_seq (me_ix (me_var (pv 3)) me_int)) (blkOk_by (by first | rfl | kernel_rfl)) (by decide) (fun _ _ _ _ _ => (mg_name (i := 6) sc__law_good_join.nd rfl (by first | exact .inl rfl | exact .inr rfl))) (fun _ _ _ _ _ => mts_nil) (fun _ _ _ _ _ => (me_use u__law_good_term (hr.mono (by first | decide | omega)) (by rfl) takes0 (argN_cons argN_nil) (ma_cons (me_var (pv 6)) ma_nil)))) (by rfl))
  (mss_one (ms_ret me_bl))
  mss_nil)))))
  (mss_cons (ms_set (i := 5) sc__law_good_join.nd rfl (by first | exact .inl rfl | exact .inr rfl) (me_use u__law_variables (hr.mono (by first | decide | omega)) (by rfl) tk (argN_cons argN_nil) (ma_cons (me_var (pv 2)) ma_nil)))
  (mss_cons (ms_for (passes_of rfl) rfl (mi_seq (me_ix (me_var (pv 2)) me_int)) (mg_name (i := 6) sc__law_good_join.nd rfl (by first | exact .inl rfl | exact .inr rfl))
  (mss_one (ms_if (MW.mt (mw_or (mt_not (mt_val (me_use u__law_good_term (hr.mono (by first | decide | omega)) (by rfl) tk (argN_cons argN_nil) (ma_cons (me_var (pv 6)) ma_nil)))) (mw_or1 (MW.mt (mw_and (mt_cmp (od_eq hr) (me_ix (me_var (pv 6)) me_int) (me_str [118, 97, 114]) (nomark _)) (mw_and1 (mt_cmp (od_notin hr) (me_ix (me_var (pv 6)) me_int) (me_var (pv 5)) (by rfl))))))))
  (mss_one (ms_ret me_bl))
  mss_nil)))
  (mss_one (ms_ret me_bl))))))
theorem ok__law_faults  {f : Addr} {fd : FuncData} (F : Fun K "_law_faults" "_law_faults" (topS 37) f fd) (z_len : mg "len" = none) (z_range : mg "range" = none) (u__law_good_join : Use Pr w K mg base (XRp C_NoQuestion "join") "_law_good_join" ["schema", "width", "join"] 3 m__law_good_join) : FnOk Pr w K mg base (L2.CX Pr w) 4 f fd ["schema", "question"] (spM ⟨K, w⟩ (XRp C_NoQuestion "join") m__law_faults 2) :=
  fun_mir (k := 3) (P := [0, 1]) F sc__law_faults (by decide) fun cdv A outer s H E hr => by
    have tk := takes_of (X := cxOf (L2.CX Pr w) Pr w K mg base ["schema", "question", "k"] "_law_faults" (defScope (topS 37)) f cdv A outer s H E) (E := E) rfl rfl rfl rfl
    exact (mss_cons (ms_if (MW.mt (mw_or (mt_cmp od_lt (me_ix (me_var (pv 1)) me_int) me_int (nomark _)) (mw_or (mt_cmp od_gt (me_ix (me_var (pv 1)) me_int) me_int (nomark _)) (mw_or1 (mt_cmp od_gt (me_callB cd_len (by rfl) z_len (by decide +kernel) (ma_cons (me_ix (me_var (pv 1)) me_int) ma_nil)) me_int (nomark _))))))
  (mss_one (ms_ret (me_lst (ma_cons me_non ma_nil))))
  mss_nil)
  (mss_cons (ms_for (passes_of rfl) rfl (mi_rng1 (by rfl) z_range (me_callB cd_len (by rfl) z_len (by decide +kernel) (ma_cons (me_ix (me_var (pv 1)) me_int) ma_nil))) (mg_name (i := 2) sc__law_faults.nd rfl (by first | exact .inl rfl | exact .inr rfl))
  (mss_one (ms_if (mt_not (mt_val (me_use u__law_good_join (hr.mono (by first | decide | omega)) (by rfl) tk (argN_cons (argN_cons (argN_cons argN_nil))) (ma_cons (me_var (pv 0)) (ma_cons (me_ix (me_var (pv 1)) me_int) (ma_cons (me_ix (me_ix (me_var (pv 1)) me_int) (me_var (pv 2))) ma_nil))))))
  (mss_one (ms_ret (me_lst (ma_cons (me_var (pv 2)) ma_nil))))
  mss_nil)))
  (mss_one (ms_ret (me_lst ma_nil)))))
theorem ok__law_asked {C_BadText : Addr} {C_ChanceError : Addr} {f : Addr} {fd : FuncData} (F : Fun K "_law_asked" "_law_asked" (topS 38) f fd) (z_isinstance : mg "isinstance" = none) (z_ValueError : mg "ValueError" = none) (gC_NoQuestion : mg "NoQuestion" = some (.ref C_NoQuestion)) (gC_BadText : mg "BadText" = some (.ref C_BadText)) (gC_ChanceError : mg "ChanceError" = some (.ref C_ChanceError)) (EC_NoQuestion : ExcC K C_NoQuestion) (fo_NoQuestion_BadText : PySem.W.kitOne K (.ref C_NoQuestion) (.ref C_BadText) = some false) (fo_NoQuestion_ValueError : PySem.W.kitOne K (.ref C_NoQuestion) (.type "ValueError") = some true) (fo_NoQuestion_ChanceError : PySem.W.kitOne K (.ref C_NoQuestion) (.ref C_ChanceError) = some true) (u_check_question : Use Pr w K mg base (XRp C_NoQuestion "join") "check_question" ["schema", "question"] 6 m_check_question) (xp : ExcP Pr w K mg base "NoQuestion" "join" C_NoQuestion 1) : FnOk Pr w K mg base (L2.CX Pr w) 7 f fd ["schema", "question"] (spM ⟨K, w⟩ (XRp C_NoQuestion "join") m__law_asked 2) :=
  fun_mir (k := 6) (P := [0, 1]) F sc__law_asked (by decide) fun cdv A outer s H E hr => by
    have tk := takes_of (X := cxOf (L2.CX Pr w) Pr w K mg base ["schema", "question", "e"] "_law_asked" (defScope (topS 38)) f cdv A outer s H E) (E := E) rfl rfl rfl rfl
    exact (mss_one (ms_tryP xp (i := 2) (mb := (sRet (mTup (mCons (mC (.str [103, 111, 111, 100])) (mCons (mCall m_check_question (mCons (mVar 0) (mCons (mVar 1) mNil))) mNil))))) (g := (fun x => .va (.tup [ (.str [114, 101, 102, 117, 115, 101, 100]),  x,  (.bl true),  (.bl true),  (.bl false)]))) rfl rfl sc__law_asked.nd rfl (by rfl) ⟨by rfl, by decide, .inl gC_NoQuestion⟩ tk (by decide) (fun W1 pn xe tk hpo => (mss_one (ms_ret (me_tup (ma_cons (me_str [103, 111, 111, 100]) (ma_cons (me_use u_check_question (hr.mono (by first | decide | omega)) (by rfl) tk (argN_cons (argN_cons argN_nil)) (ma_cons (me_var (pv 0)) (ma_cons (me_var (pv 1)) ma_nil))) ma_nil))))))
    (fun bn CB fI T a d oe pn hz hd => psp_tup (hs := [(fun x => (.str [114, 101, 102, 117, 115, 101, 100])), (fun x => x), (fun x => (.bl true)), (fun x => (.bl true)), (fun x => (.bl false))]) (el_cons el_str (el_cons (el_attr T hz hd (pv 2)) (el_cons (el_is (cv := (.ref C_ChanceError)) (u := (.ref C_ChanceError)) EC_NoQuestion hz hd (by rfl) z_isinstance (pv 2) (pe_glob (v := .ref C_ChanceError) (u := .ref C_ChanceError) (by rfl) gC_ChanceError rfl) (.own _) fo_NoQuestion_ChanceError) (el_cons (el_is (cv := (.ty "ValueError")) (u := (.type "ValueError")) EC_NoQuestion hz hd (by rfl) z_isinstance (pv 2) (pe_bltn (v := .ty "ValueError") (by rfl) z_ValueError (by decide +kernel) rfl) (.ty _) fo_NoQuestion_ValueError) (el_cons (el_is (cv := (.ref C_BadText)) (u := (.ref C_BadText)) EC_NoQuestion hz hd (by rfl) z_isinstance (pv 2) (pe_glob (v := .ref C_BadText) (u := .ref C_BadText) (by rfl) gC_BadText rfl) (.own _) fo_NoQuestion_BadText) el_nil))))) (by decide) (by intro x hx; simp [flatD, scV] at hx ⊢; first | exact hx | done))))
theorem ok__law_due  {f : Addr} {fd : FuncData} (F : Fun K "_law_due" "_law_due" (topS 39) f fd) (u__law_faults : Use Pr w K mg base (XRp C_NoQuestion "join") "_law_faults" ["schema", "question"] 4 m__law_faults) : FnOk Pr w K mg base (L2.CX Pr w) 5 f fd ["schema", "question"] (spM ⟨K, w⟩ (XRp C_NoQuestion "join") m__law_due 2) :=
  fun_mir (k := 4) (P := [0, 1]) F sc__law_due (by decide) fun cdv A outer s H E hr => by
    have tk := takes_of (X := cxOf (L2.CX Pr w) Pr w K mg base ["schema", "question", "fault"] "_law_due" (defScope (topS 39)) f cdv A outer s H E) (E := E) rfl rfl rfl rfl
    exact (mss_cons (ms_for (passes_of rfl) rfl (mi_seq (me_use u__law_faults (hr.mono (by first | decide | omega)) (by rfl) tk (argN_cons (argN_cons argN_nil)) (ma_cons (me_var (pv 0)) (ma_cons (me_var (pv 1)) ma_nil)))) (mg_name (i := 2) sc__law_due.nd rfl (by first | exact .inl rfl | exact .inr rfl))
  (mss_one (ms_ret (me_tup (ma_cons (me_str [114, 101, 102, 117, 115, 101, 100]) (ma_cons (me_var (pv 2)) (ma_cons me_bl (ma_cons me_bl (ma_cons me_bl ma_nil)))))))))
  (mss_one (ms_ret (me_tup (ma_cons (me_str [103, 111, 111, 100]) (ma_cons me_non ma_nil))))))
theorem ok__law_renamed  {f : Addr} {fd : FuncData} (F : Fun K "_law_renamed" "_law_renamed" (topS 40) f fd) (z_int : mg "int" = none) (z_tuple : mg "tuple" = none) : FnOk Pr w K mg base (L2.CX Pr w) 1 f fd ["terms", "name", "odd"] (spM ⟨K, w⟩ (XRp C_NoQuestion "join") m__law_renamed 3) :=
  fun_mir (k := 0) (P := [0, 1, 2]) F sc__law_renamed (by decide) fun cdv A outer s H E hr => by
    have tk := takes_of (X := cxOf (L2.CX Pr w) Pr w K mg base ["terms", "name", "odd", "term"] "_law_renamed" (defScope (topS 40)) f cdv A outer s H E) (E := E) rfl rfl rfl rfl
    exact (mss_one (ms_ret (me_callTy cd_tuple (by rfl) z_tuple (by decide +kernel) (ma_cons (me_lc (own := [("term", 3)]) (T := [3]) rfl sc__law_renamed.nd (mi_seq (me_var (pv 0))) (blkOk_by (by first | rfl | kernel_rfl)) (by decide) (fun _ _ _ _ _ => (mg_name (i := 3) sc__law_renamed.nd rfl (by first | exact .inl rfl | exact .inr rfl))) (fun _ _ _ _ _ => mts_nil) (fun _ _ _ _ _ => (me_ix (me_lst (ma_cons (me_var (pv 3)) (ma_cons (me_tup (ma_cons (me_str [118, 97, 114]) (ma_cons (me_var (pv 2)) ma_nil))) ma_nil))) (me_callTy cd_int (by rfl) z_int (by decide +kernel) (ma_cons (me_cmp (od_eq hr) (me_var (pv 3)) (me_tup (ma_cons (me_str [118, 97, 114]) (ma_cons (me_var (pv 1)) ma_nil))) (nomark _)) ma_nil))))) ma_nil))))
theorem ok__law_changed_atom  {f : Addr} {fd : FuncData} (F : Fun K "_law_changed_atom" "_law_changed_atom" (topS 41) f fd) (z_list : mg "list" = none) (z_len : mg "len" = none) (z_tuple : mg "tuple" = none) (u__law_take : Use Pr w K mg base (XRp C_NoQuestion "join") "_law_take" ["draws", "many"] 1 m__law_take) (u__law_term : Use Pr w K mg base (XRp C_NoQuestion "join") "_law_term" ["draws", "world"] 3 m__law_term) : FnOk Pr w K mg base (L2.CX Pr w) 4 f fd ["draws", "world", "atom", "odd"] (spM ⟨K, w⟩ (XRp C_NoQuestion "join") m__law_changed_atom 4) :=
  fun_mir (k := 3) (P := [0, 1, 2, 3]) F sc__law_changed_atom (by decide) fun cdv A outer s H E hr => by
    have tk := takes_of (X := cxOf (L2.CX Pr w) Pr w K mg base ["draws", "world", "atom", "odd", "terms", "kind", "table"] "_law_changed_atom" (defScope (topS 41)) f cdv A outer s H E) (E := E) rfl rfl rfl rfl
    exact (mss_cons (ms_set (i := 4) sc__law_changed_atom.nd rfl (by first | exact .inl rfl | exact .inr rfl) (me_callTy cd_list (by rfl) z_list (by decide +kernel) (ma_cons (me_ix (me_var (pv 2)) me_int) ma_nil)))
  (mss_cons (ms_set (i := 5) sc__law_changed_atom.nd rfl (by first | exact .inl rfl | exact .inr rfl) (me_use u__law_take (hr.mono (by first | decide | omega)) (by rfl) tk (argN_cons (argN_cons argN_nil)) (ma_cons (me_var (pv 0)) (ma_cons me_int ma_nil))))
  (mss_cons (ms_if (mt_cmp (od_eq hr) (me_var (pv 5)) me_int (nomark _))
  (mss_one (ms_ret (me_tup (ma_cons (me_ix (me_lst (ma_cons (me_var (pv 3)) (ma_cons (me_binT od_add (me_join (S := []) (me_lc (own := [("table", 6)]) (T := [6]) rfl sc__law_changed_atom.nd (mi_seq (me_ix (me_var (pv 1)) me_int)) (blkOk_by (by first | rfl | kernel_rfl)) (by decide) (fun _ _ _ _ _ => (mg_name (i := 6) sc__law_changed_atom.nd rfl (by first | exact .inl rfl | exact .inr rfl))) (fun _ _ _ _ _ => mts_nil) (fun _ _ _ _ _ => (me_ix (me_var (pv 6)) me_int)))) (me_str [113])) ma_nil))) (me_use u__law_take (hr.mono (by first | decide | omega)) (by rfl) tk (argN_cons (argN_cons argN_nil)) (ma_cons (me_var (pv 0)) (ma_cons me_int ma_nil)))) (ma_cons (me_ix (me_var (pv 2)) me_int) ma_nil)))))
  mss_nil)
  (mss_cons (ms_if (MW.mt (mw_or (mt_cmp (od_eq hr) (me_var (pv 5)) me_int (nomark _)) (mw_or1 (mt_cmp (od_eq hr) (me_callB cd_len (by rfl) z_len (by decide +kernel) (ma_cons (me_var (pv 4)) ma_nil)) me_int (nomark _)))))
  (mss_one (ms_expr (me_insert (pv 4) (ma_cons (me_use u__law_take (hr.mono (by first | decide | omega)) (by rfl) tk (argN_cons (argN_cons argN_nil)) (ma_cons (me_var (pv 0)) (ma_cons (me_binT od_add (me_callB cd_len (by rfl) z_len (by decide +kernel) (ma_cons (me_var (pv 4)) ma_nil)) me_int) ma_nil))) (ma_cons (me_use u__law_term (hr.mono (by first | decide | omega)) (by rfl) tk (argN_cons (argN_cons argN_nil)) (ma_cons (me_var (pv 0)) (ma_cons (me_var (pv 1)) ma_nil))) ma_nil)))))
  (mss_one (ms_if (mt_cmp (od_eq hr) (me_var (pv 5)) me_int (nomark _))
  (mss_one (ms_expr (me_popAt (pv 4) (ma_cons (me_use u__law_take (hr.mono (by first | decide | omega)) (by rfl) tk (argN_cons (argN_cons argN_nil)) (ma_cons (me_var (pv 0)) (ma_cons (me_callB cd_len (by rfl) z_len (by decide +kernel) (ma_cons (me_var (pv 4)) ma_nil)) ma_nil))) ma_nil))))
  (mss_one (ms_store (i := 4) (pv 4) (me_ix (me_lst (ma_cons (me_tup (ma_cons (me_str [118, 97, 108, 117, 101]) (ma_cons (me_var (pv 3)) ma_nil))) (ma_cons (me_tup (ma_cons (me_str [118, 97, 114]) (ma_cons (me_var (pv 3)) ma_nil))) ma_nil))) (me_use u__law_take (hr.mono (by first | decide | omega)) (by rfl) tk (argN_cons (argN_cons argN_nil)) (ma_cons (me_var (pv 0)) (ma_cons me_int ma_nil)))) (me_use u__law_take (hr.mono (by first | decide | omega)) (by rfl) tk (argN_cons (argN_cons argN_nil)) (ma_cons (me_var (pv 0)) (ma_cons (me_callB cd_len (by rfl) z_len (by decide +kernel) (ma_cons (me_var (pv 4)) ma_nil)) ma_nil))))))))
  (mss_one (ms_ret (me_tup (ma_cons (me_ix (me_var (pv 2)) me_int) (ma_cons (me_callTy cd_tuple (by rfl) z_tuple (by decide +kernel) (ma_cons (me_var (pv 4)) ma_nil)) ma_nil)))))))))
theorem ok__law_changed  {f : Addr} {fd : FuncData} (F : Fun K "_law_changed" "_law_changed" (topS 42) f fd) (z_list : mg "list" = none) (z_len : mg "len" = none) (z_range : mg "range" = none) (z_tuple : mg "tuple" = none) (u__law_take : Use Pr w K mg base (XRp C_NoQuestion "join") "_law_take" ["draws", "many"] 1 m__law_take) (u__law_value : Use Pr w K mg base (XRp C_NoQuestion "join") "_law_value" ["draws", "values"] 2 m__law_value) (u__law_pick : Use Pr w K mg base (XRp C_NoQuestion "join") "_law_pick" ["draws", "row"] 2 m__law_pick) (u__law_variables : Use Pr w K mg base (XRp C_NoQuestion "join") "_law_variables" ["join"] 1 m__law_variables) (u__law_renamed : Use Pr w K mg base (XRp C_NoQuestion "join") "_law_renamed" ["terms", "name", "odd"] 1 m__law_renamed) (u__law_changed_atom : Use Pr w K mg base (XRp C_NoQuestion "join") "_law_changed_atom" ["draws", "world", "atom", "odd"] 4 m__law_changed_atom) : FnOk Pr w K mg base (L2.CX Pr w) 5 f fd ["draws", "world", "join"] (spM ⟨K, w⟩ (XRp C_NoQuestion "join") m__law_changed 3) :=
  fun_mir (k := 4) (P := [0, 1, 2]) F sc__law_changed (by decide) fun cdv A outer s H E hr => by
    have tk := takes_of (X := cxOf (L2.CX Pr w) Pr w K mg base ["draws", "world", "join", "odd", "head", "body", "kind", "names", "atom", "name", "at", "k"] "_law_changed" (defScope (topS 42)) f cdv A outer s H E) (E := E) rfl rfl rfl rfl
    exact (mss_cons (ms_set (i := 3) sc__law_changed.nd rfl (by first | exact .inl rfl | exact .inr rfl) (me_ix (me_lst (ma_cons (me_str [65]) (ma_cons (me_str [97, 32, 98]) (ma_cons (me_str []) (ma_cons (me_str [97, 49]) (ma_cons (me_str [45]) (ma_cons (me_str [97, 98, 10]) (ma_cons (me_str [122, 95]) ma_nil)))))))) (me_use u__law_take (hr.mono (by first | decide | omega)) (by rfl) tk (argN_cons (argN_cons argN_nil)) (ma_cons (me_var (pv 0)) (ma_cons me_int ma_nil)))))
  (mss_cons (ms_set (i := 4) sc__law_changed.nd rfl (by first | exact .inl rfl | exact .inr rfl) (me_callTy cd_list (by rfl) z_list (by decide +kernel) (ma_cons (me_ix (me_var (pv 2)) me_int) ma_nil)))
  (mss_cons (ms_set (i := 5) sc__law_changed.nd rfl (by first | exact .inl rfl | exact .inr rfl) (me_callTy cd_list (by rfl) z_list (by decide +kernel) (ma_cons (me_ix (me_var (pv 2)) me_int) ma_nil)))
  (mss_cons (ms_set (i := 6) sc__law_changed.nd rfl (by first | exact .inl rfl | exact .inr rfl) (me_use u__law_take (hr.mono (by first | decide | omega)) (by rfl) tk (argN_cons (argN_cons argN_nil)) (ma_cons (me_var (pv 0)) (ma_cons me_int ma_nil))))
  (mss_cons (ms_if (mt_cmp (od_eq hr) (me_var (pv 6)) me_int (nomark _))
  (mss_one (ms_expr (me_insert (pv 4) (ma_cons (me_use u__law_take (hr.mono (by first | decide | omega)) (by rfl) tk (argN_cons (argN_cons argN_nil)) (ma_cons (me_var (pv 0)) (ma_cons (me_binT od_add (me_callB cd_len (by rfl) z_len (by decide +kernel) (ma_cons (me_var (pv 4)) ma_nil)) me_int) ma_nil))) (ma_cons (me_tup (ma_cons (me_str [118, 97, 108, 117, 101]) (ma_cons (me_use u__law_value (hr.mono (by first | decide | omega)) (by rfl) tk (argN_cons (argN_cons argN_nil)) (ma_cons (me_var (pv 0)) (ma_cons (me_ix (me_var (pv 1)) me_int) ma_nil))) ma_nil))) ma_nil)))))
  (mss_one (ms_if (MW.mt (mw_and (mt_cmp (od_eq hr) (me_var (pv 6)) me_int (nomark _)) (mw_and1 (mt_cmp od_gt (me_callB cd_len (by rfl) z_len (by decide +kernel) (ma_cons (me_var (pv 4)) ma_nil)) me_int (nomark _)))))
  (mss_one (ms_expr (me_popAt (pv 4) (ma_cons (me_use u__law_take (hr.mono (by first | decide | omega)) (by rfl) tk (argN_cons (argN_cons argN_nil)) (ma_cons (me_var (pv 0)) (ma_cons (me_callB cd_len (by rfl) z_len (by decide +kernel) (ma_cons (me_var (pv 4)) ma_nil)) ma_nil))) ma_nil))))
  (mss_one (ms_if (MW.mt (mw_and (mt_cmp (od_eq hr) (me_var (pv 6)) me_int (nomark _)) (mw_and1 (mt_cmp od_gt (me_callB cd_len (by rfl) z_len (by decide +kernel) (ma_cons (me_var (pv 4)) ma_nil)) me_int (nomark _)))))
  (mss_cons (ms_set (i := 7) sc__law_changed.nd rfl (by first | exact .inl rfl | exact .inr rfl) (me_lst (ma_cons (me_binT od_add (me_join (S := []) (me_ix (me_var (pv 1)) me_int)) (me_str [113])) (ma_cons (me_use u__law_pick (hr.mono (by first | decide | omega)) (by rfl) tk (argN_cons (argN_cons argN_nil)) (ma_cons (me_var (pv 0)) (ma_cons (me_ix (me_var (pv 1)) me_int) ma_nil))) ma_nil))))
  (mss_one (ms_store (i := 4) (pv 4) (me_tup (ma_cons (me_str [118, 97, 114]) (ma_cons (me_use u__law_pick (hr.mono (by first | decide | omega)) (by rfl) tk (argN_cons (argN_cons argN_nil)) (ma_cons (me_var (pv 0)) (ma_cons (me_var (pv 7)) ma_nil))) ma_nil))) (me_use u__law_take (hr.mono (by first | decide | omega)) (by rfl) tk (argN_cons (argN_cons argN_nil)) (ma_cons (me_var (pv 0)) (ma_cons (me_callB cd_len (by rfl) z_len (by decide +kernel) (ma_cons (me_var (pv 4)) ma_nil)) ma_nil))))))
  (mss_one (ms_if (MW.mt (mw_and (mt_cmp (od_eq hr) (me_var (pv 6)) me_int (nomark _)) (mw_and1 (mt_cmp od_gt (me_callB cd_len (by rfl) z_len (by decide +kernel) (ma_cons (me_var (pv 4)) ma_nil)) me_int (nomark _)))))
  (mss_one (ms_store (i := 4) (pv 4) (me_ix (me_lst (ma_cons (me_tup (ma_cons (me_str [118, 97, 108, 117, 101]) (ma_cons (me_var (pv 3)) ma_nil))) (ma_cons (me_tup (ma_cons (me_str [118, 97, 114]) (ma_cons (me_var (pv 3)) ma_nil))) ma_nil))) (me_use u__law_take (hr.mono (by first | decide | omega)) (by rfl) tk (argN_cons (argN_cons argN_nil)) (ma_cons (me_var (pv 0)) (ma_cons me_int ma_nil)))) (me_use u__law_take (hr.mono (by first | decide | omega)) (by rfl) tk (argN_cons (argN_cons argN_nil)) (ma_cons (me_var (pv 0)) (ma_cons (me_callB cd_len (by rfl) z_len (by decide +kernel) (ma_cons (me_var (pv 4)) ma_nil)) ma_nil)))))
  (mss_one (ms_if (MW.mt (mw_and (mt_cmp (od_eq hr) (me_var (pv 6)) me_int (nomark _)) (mw_and1 (mt_cmp od_gt (me_callB cd_len (by rfl) z_len (by decide +kernel) (ma_cons (me_var (pv 5)) ma_nil)) me_int (nomark _)))))
  (mss_cons (ms_set (i := 8) sc__law_changed.nd rfl (by first | exact .inl rfl | exact .inr rfl) (me_use u__law_pick (hr.mono (by first | decide | omega)) (by rfl) tk (argN_cons (argN_cons argN_nil)) (ma_cons (me_var (pv 0)) (ma_cons (me_var (pv 5)) ma_nil))))
  (mss_one (ms_set (i := 5) sc__law_changed.nd rfl (by first | exact .inl rfl | exact .inr rfl) (me_binT od_add (me_var (pv 5)) (me_lc (own := [("k", 11)]) (T := [11]) rfl sc__law_changed.nd (mi_rng1 (by rfl) z_range (me_bin od_sub me_int (me_callB cd_len (by rfl) z_len (by decide +kernel) (ma_cons (me_var (pv 5)) ma_nil)))) (blkOk_by (by first | rfl | kernel_rfl)) (by decide) (fun _ _ _ _ _ => (mg_name (i := 11) sc__law_changed.nd rfl (by first | exact .inl rfl | exact .inr rfl))) (fun _ _ _ _ _ => mts_nil) (fun _ _ _ _ _ => (me_var (pv 8))))))))
  (mss_one (ms_if (MW.mt (mw_and (mt_cmp (od_eq hr) (me_var (pv 6)) me_int (nomark _)) (mw_and1 (mt_cmp od_gt (me_callB cd_len (by rfl) z_len (by decide +kernel) (ma_cons (me_use u__law_variables (hr.mono (by first | decide | omega)) (by rfl) tk (argN_cons argN_nil) (ma_cons (me_var (pv 2)) ma_nil)) ma_nil)) me_int (nomark _)))))
  (mss_cons (ms_set (i := 9) sc__law_changed.nd rfl (by first | exact .inl rfl | exact .inr rfl) (me_use u__law_pick (hr.mono (by first | decide | omega)) (by rfl) tk (argN_cons (argN_cons argN_nil)) (ma_cons (me_var (pv 0)) (ma_cons (me_use u__law_variables (hr.mono (by first | decide | omega)) (by rfl) tk (argN_cons argN_nil) (ma_cons (me_var (pv 2)) ma_nil)) ma_nil))))
  (mss_cons (ms_set (i := 4) sc__law_changed.nd rfl (by first | exact .inl rfl | exact .inr rfl) (me_callTy cd_list (by rfl) z_list (by decide +kernel) (ma_cons (me_use u__law_renamed (hr.mono (by first | decide | omega)) (by rfl) tk (argN_cons (argN_cons (argN_cons argN_nil))) (ma_cons (me_var (pv 4)) (ma_cons (me_var (pv 9)) (ma_cons (me_var (pv 3)) ma_nil)))) ma_nil)))
  (mss_one (ms_setLc (i := 5) rfl sc__law_changed.nd rfl (by rfl) (by rfl) (own := [("atom", 8)]) (T := [8]) (mi_seq (me_var (pv 5))) (blkOk_by (by first | rfl | kernel_rfl)) (by decide) (fun _ _ _ _ _ => (mg_name (i := 8) sc__law_changed.nd rfl (by first | exact .inl rfl | exact .inr rfl))) (fun _ _ _ _ _ => mts_nil) (fun _ _ _ _ _ => (me_tup (ma_cons (me_ix (me_var (pv 8)) me_int) (ma_cons (me_use u__law_renamed (hr.mono (by first | decide | omega)) (by rfl) takes0 (argN_cons (argN_cons (argN_cons argN_nil))) (ma_cons (me_ix (me_var (pv 8)) me_int) (ma_cons (me_var (pv 9)) (ma_cons (me_var (pv 3)) ma_nil)))) ma_nil))))))))
  (mss_one (ms_if (mt_cmp od_gt (me_callB cd_len (by rfl) z_len (by decide +kernel) (ma_cons (me_var (pv 5)) ma_nil)) me_int (nomark _))
  (mss_cons (ms_set (i := 10) sc__law_changed.nd rfl (by first | exact .inl rfl | exact .inr rfl) (me_use u__law_take (hr.mono (by first | decide | omega)) (by rfl) tk (argN_cons (argN_cons argN_nil)) (ma_cons (me_var (pv 0)) (ma_cons (me_callB cd_len (by rfl) z_len (by decide +kernel) (ma_cons (me_var (pv 5)) ma_nil)) ma_nil))))
  (mss_one (ms_store (i := 5) (pv 5) (me_use u__law_changed_atom (hr.mono (by first | decide | omega)) (by rfl) tk (argN_cons (argN_cons (argN_cons (argN_cons argN_nil)))) (ma_cons (me_var (pv 0)) (ma_cons (me_var (pv 1)) (ma_cons (me_ix (me_var (pv 5)) (me_var (pv 10))) (ma_cons (me_var (pv 3)) ma_nil))))) (me_var (pv 10)))))
  mss_nil)))))))))))))
  (mss_one (ms_ret (me_tup (ma_cons (me_callTy cd_tuple (by rfl) z_tuple (by decide +kernel) (ma_cons (me_var (pv 4)) ma_nil)) (ma_cons (me_callTy cd_tuple (by rfl) z_tuple (by decide +kernel) (ma_cons (me_var (pv 5)) ma_nil)) ma_nil))))))))))
theorem ok_law  {f : Addr} {fd : FuncData} (F : Fun K "law" "law" (topS 43) f fd) (z_range : mg "range" = none) (z_list : mg "list" = none) (z_len : mg "len" = none) (z_tuple : mg "tuple" = none) (u__law_draws : Use Pr w K mg base (XRp C_NoQuestion "join") "_law_draws" ["script", "many"] 1 m__law_draws) (u__law_text_world : Use Pr w K mg base (XRp C_NoQuestion "join") "_law_text_world" ["draws"] 4 m__law_text_world) (u__law_take : Use Pr w K mg base (XRp C_NoQuestion "join") "_law_take" ["draws", "many"] 1 m__law_take) (u__law_join : Use Pr w K mg base (XRp C_NoQuestion "join") "_law_join" ["draws", "world", "width"] 5 m__law_join) (u__law_changed : Use Pr w K mg base (XRp C_NoQuestion "join") "_law_changed" ["draws", "world", "join"] 5 m__law_changed) (u__law_same : Use Pr w K mg base (XRp C_NoQuestion "join") "_law_same" ["actual", "due"] 13 (m__law_same 12)) (u__law_due : Use Pr w K mg base (XRp C_NoQuestion "join") "_law_due" ["schema", "question"] 5 m__law_due) (u__law_asked : Use Pr w K mg base (XRp C_NoQuestion "join") "_law_asked" ["schema", "question"] 7 m__law_asked) : FnOk Pr w K mg base (L2.CX Pr w) 14 f fd ["script"] (spM ⟨K, w⟩ (XRp C_NoQuestion "join") m_law 1) :=
  fun_mir (k := 13) (P := [0]) F sc_law (by decide) fun cdv A outer s H E hr => by
    have tk := takes_of (X := cxOf (L2.CX Pr w) Pr w K mg base ["script", "draws", "world", "width", "joins", "changed", "join", "tables", "at", "table", "good", "question", "schema", "asked", "k"] "law" (defScope (topS 43)) f cdv A outer s H E) (E := E) rfl rfl rfl rfl
    exact (mss_cons (ms_set (i := 1) sc_law.nd rfl (by first | exact .inl rfl | exact .inr rfl) (me_use u__law_draws (hr.mono (by first | decide | omega)) (by rfl) tk (argN_cons (argN_cons argN_nil)) (ma_cons (me_var (pv 0)) (ma_cons me_int ma_nil))))
  (mss_cons (ms_set (i := 2) sc_law.nd rfl (by first | exact .inl rfl | exact .inr rfl) (me_use u__law_text_world (hr.mono (by first | decide | omega)) (by rfl) tk (argN_cons argN_nil) (ma_cons (me_var (pv 1)) ma_nil)))
  (mss_cons (ms_set (i := 3) sc_law.nd rfl (by first | exact .inl rfl | exact .inr rfl) (me_ix (me_lst (ma_cons me_int (ma_cons me_int (ma_cons me_int (ma_cons me_int (ma_cons me_int ma_nil)))))) (me_use u__law_take (hr.mono (by first | decide | omega)) (by rfl) tk (argN_cons (argN_cons argN_nil)) (ma_cons (me_var (pv 1)) (ma_cons me_int ma_nil)))))
  (mss_cons (ms_setLc (i := 4) rfl sc_law.nd rfl (by rfl) (by rfl) (own := [("k", 14)]) (T := [14]) (mi_rng1 (by rfl) z_range (me_binT od_add me_int (me_use u__law_take (hr.mono (by first | decide | omega)) (by rfl) tk (argN_cons (argN_cons argN_nil)) (ma_cons (me_var (pv 1)) (ma_cons me_int ma_nil))))) (blkOk_by (by first | rfl | kernel_rfl)) (by decide) (fun _ _ _ _ _ => (mg_name (i := 14) sc_law.nd rfl (by first | exact .inl rfl | exact .inr rfl))) (fun _ _ _ _ _ => mts_nil) (fun _ _ _ _ _ => (me_use u__law_join (hr.mono (by first | decide | omega)) (by rfl) takes0 (argN_cons (argN_cons (argN_cons argN_nil))) (ma_cons (me_var (pv 1)) (ma_cons (me_var (pv 2)) (ma_cons (me_var (pv 3)) ma_nil))))))
  (mss_cons (ms_set (i := 5) sc_law.nd rfl (by first | exact .inl rfl | exact .inr rfl) (me_lst ma_nil))
  (mss_cons (ms_for (passes_of rfl) rfl (mi_seq (me_var (pv 4))) (mg_name (i := 6) sc_law.nd rfl (by first | exact .inl rfl | exact .inr rfl))
  (mss_cons (ms_if (mt_cmp (od_eq hr) (me_use u__law_take (hr.mono (by first | decide | omega)) (by rfl) tk (argN_cons (argN_cons argN_nil)) (ma_cons (me_var (pv 1)) (ma_cons me_int ma_nil))) me_int (nomark _))
  (mss_one (ms_set (i := 6) sc_law.nd rfl (by first | exact .inl rfl | exact .inr rfl) (me_use u__law_changed (hr.mono (by first | decide | omega)) (by rfl) tk (argN_cons (argN_cons (argN_cons argN_nil))) (ma_cons (me_var (pv 1)) (ma_cons (me_var (pv 2)) (ma_cons (me_var (pv 6)) ma_nil))))))
  mss_nil)
  (mss_one (ms_expr (me_append (pv 5) (ma_cons (me_var (pv 6)) ma_nil))))))
  (mss_cons (ms_set (i := 7) sc_law.nd rfl (by first | exact .inl rfl | exact .inr rfl) (me_callTy cd_list (by rfl) z_list (by decide +kernel) (ma_cons (me_ix (me_var (pv 2)) me_int) ma_nil)))
  (mss_cons (ms_set (i := 8) sc_law.nd rfl (by first | exact .inl rfl | exact .inr rfl) (me_use u__law_take (hr.mono (by first | decide | omega)) (by rfl) tk (argN_cons (argN_cons argN_nil)) (ma_cons (me_var (pv 1)) (ma_cons (me_callB cd_len (by rfl) z_len (by decide +kernel) (ma_cons (me_var (pv 7)) ma_nil)) ma_nil))))
  (mss_cons (ms_set (i := 9) sc_law.nd rfl (by first | exact .inl rfl | exact .inr rfl) (me_popAt (pv 7) (ma_cons (me_var (pv 8)) ma_nil)))
  (mss_cons (ms_if (MW.mt (mw_and (mt_cmp od_lt (me_ix (me_var (pv 9)) me_int) me_int (nomark _)) (mw_and1 (mt_cmp (od_eq hr) (me_use u__law_take (hr.mono (by first | decide | omega)) (by rfl) tk (argN_cons (argN_cons argN_nil)) (ma_cons (me_var (pv 1)) (ma_cons me_int ma_nil))) me_int (nomark _)))))
  (mss_one (ms_expr (me_insert (pv 7) (ma_cons (me_var (pv 8)) (ma_cons (me_tup (ma_cons (me_ix (me_var (pv 9)) me_int) (ma_cons (me_binT od_add (me_ix (me_var (pv 9)) me_int) me_int) ma_nil))) ma_nil)))))
  mss_nil)
  (mss_cons (ms_set (i := 10) sc_law.nd rfl (by first | exact .inl rfl | exact .inr rfl) (me_tup (ma_cons (me_var (pv 3)) (ma_cons (me_callTy cd_tuple (by rfl) z_tuple (by decide +kernel) (ma_cons (me_var (pv 4)) ma_nil)) ma_nil))))
  (mss_cons (ms_set (i := 11) sc_law.nd rfl (by first | exact .inl rfl | exact .inr rfl) (me_tup (ma_cons (me_var (pv 3)) (ma_cons (me_callTy cd_tuple (by rfl) z_tuple (by decide +kernel) (ma_cons (me_var (pv 5)) ma_nil)) ma_nil))))
  (mss_cons (ms_for (passes_of rfl) rfl (mi_seq (me_lst (ma_cons (me_ix (me_var (pv 2)) me_int) (ma_cons (me_callTy cd_tuple (by rfl) z_tuple (by decide +kernel) (ma_cons (me_var (pv 7)) ma_nil)) ma_nil)))) (mg_name (i := 12) sc_law.nd rfl (by first | exact .inl rfl | exact .inr rfl))
  (mss_one (ms_for (passes_of rfl) rfl (mi_seq (me_lst (ma_cons (me_var (pv 10)) (ma_cons (me_var (pv 11)) (ma_cons (me_var (pv 10)) ma_nil))))) (mg_name (i := 13) sc_law.nd rfl (by first | exact .inl rfl | exact .inr rfl))
  (mss_one (ms_if (mt_not (mt_val (me_use u__law_same (hr.mono (by first | decide | omega)) (by rfl) tk (argN_cons (argN_cons argN_nil)) (ma_cons (me_use u__law_asked (hr.mono (by first | decide | omega)) (by rfl) tk (argN_cons (argN_cons argN_nil)) (ma_cons (me_var (pv 12)) (ma_cons (me_var (pv 13)) ma_nil))) (ma_cons (me_use u__law_due (hr.mono (by first | decide | omega)) (by rfl) tk (argN_cons (argN_cons argN_nil)) (ma_cons (me_var (pv 12)) (ma_cons (me_var (pv 13)) ma_nil))) ma_nil)))))
  (mss_one (ms_ret me_bl))
  mss_nil)))))
  (mss_one (ms_ret me_bl)))))))))))))))
end
theorem all_mk {l : PySem.W.OpenLaw} {w : World} {K : PySem.W.Frag} {h : Heap} {mg : Str → Option Value} {fa f5 f6 f8 f17 f16 f15 f14 f13 f19 f20 f21 f22 f23 f24 f25 f26 f27 f28 f29 f30 f31 f32 f33 f34 f35 f36 f37 f38 f39 f40 f41 f42 f43 C_NoQuestion C_BadText C_ChanceError : Addr} (X : K.In h) (G : h.Ns mainGlobals mg) (hfa : mg "law" = some (.ref fa))
    {od5 an5 od6 an6 od8 an8 od17 an17 od16 an16 od15 an15 od14 an14 od13 an13 od19 an19 od20 an20 od21 an21 od22 an22 od23 an23 od24 an24 od25 an25 od26 an26 od27 an27 od28 an28 od29 an29 od30 an30 od31 an31 od32 an32 od33 an33 od34 an34 od35 an35 od36 an36 od37 an37 od38 an38 od39 an39 od40 an40 od41 an41 od42 an42 od43 an43 : Option Addr} {sl5 sl6 sl8 sl17 sl16 sl15 sl14 sl13 sl19 sl20 sl21 sl22 sl23 sl24 sl25 sl26 sl27 sl28 sl29 sl30 sl31 sl32 sl33 sl34 sl35 sl36 sl37 sl38 sl39 sl40 sl41 sl42 sl43 : Array (Option Value)} {oc5 kV5 dc5 pm5 cd5 ct5 oc6 kV6 dc6 pm6 cd6 ct6 oc8 kV8 dc8 pm8 cd8 ct8 oc17 kV17 dc17 pm17 cd17 ct17 oc16 kV16 dc16 pm16 cd16 ct16 oc15 kV15 dc15 pm15 cd15 ct15 oc14 kV14 dc14 pm14 cd14 ct14 oc13 kV13 dc13 pm13 cd13 ct13 oc19 kV19 dc19 pm19 cd19 ct19 oc20 kV20 dc20 pm20 cd20 ct20 oc21 kV21 dc21 pm21 cd21 ct21 oc22 kV22 dc22 pm22 cd22 ct22 oc23 kV23 dc23 pm23 cd23 ct23 oc24 kV24 dc24 pm24 cd24 ct24 oc25 kV25 dc25 pm25 cd25 ct25 oc26 kV26 dc26 pm26 cd26 ct26 oc27 kV27 dc27 pm27 cd27 ct27 oc28 kV28 dc28 pm28 cd28 ct28 oc29 kV29 dc29 pm29 cd29 ct29 oc30 kV30 dc30 pm30 cd30 ct30 oc31 kV31 dc31 pm31 cd31 ct31 oc32 kV32 dc32 pm32 cd32 ct32 oc33 kV33 dc33 pm33 cd33 ct33 oc34 kV34 dc34 pm34 cd34 ct34 oc35 kV35 dc35 pm35 cd35 ct35 oc36 kV36 dc36 pm36 cd36 ct36 oc37 kV37 dc37 pm37 cd37 ct37 oc38 kV38 dc38 pm38 cd38 ct38 oc39 kV39 dc39 pm39 cd39 ct39 oc40 kV40 dc40 pm40 cd40 ct40 oc41 kV41 dc41 pm41 cd41 ct41 oc42 kV42 dc42 pm42 cd42 ct42 oc43 kV43 dc43 pm43 cd43 ct43 : Value}
    (a5 : PySem.W.nsIn K mainGlobals "is_word" = some (some (.ref f5))) (l5 : K.lookup f5 = some ⟨oc5, od5, .func (PySem.W.fnOf "is_word" "is_word" (defArgs (topS 5)) (defBody (topS 5)) (defScope (topS 5)) .none kV5 dc5 pm5 an5 cd5 ct5), sl5⟩) (c5 : PySem.W.codeIn K cd5 "is_word" = true) (k5 : PySem.W.keepIn K (.ref f5) = true)
    (a6 : PySem.W.nsIn K mainGlobals "is_value" = some (some (.ref f6))) (l6 : K.lookup f6 = some ⟨oc6, od6, .func (PySem.W.fnOf "is_value" "is_value" (defArgs (topS 6)) (defBody (topS 6)) (defScope (topS 6)) .none kV6 dc6 pm6 an6 cd6 ct6), sl6⟩) (c6 : PySem.W.codeIn K cd6 "is_value" = true) (k6 : PySem.W.keepIn K (.ref f6) = true)
    (a8 : PySem.W.nsIn K mainGlobals "column_count" = some (some (.ref f8))) (l8 : K.lookup f8 = some ⟨oc8, od8, .func (PySem.W.fnOf "column_count" "column_count" (defArgs (topS 8)) (defBody (topS 8)) (defScope (topS 8)) .none kV8 dc8 pm8 an8 cd8 ct8), sl8⟩) (c8 : PySem.W.codeIn K cd8 "column_count" = true) (k8 : PySem.W.keepIn K (.ref f8) = true)
    (a17 : PySem.W.nsIn K mainGlobals "variables_among" = some (some (.ref f17))) (l17 : K.lookup f17 = some ⟨oc17, od17, .func (PySem.W.fnOf "variables_among" "variables_among" (defArgs (topS 17)) (defBody (topS 17)) (defScope (topS 17)) .none kV17 dc17 pm17 an17 cd17 ct17), sl17⟩) (c17 : PySem.W.codeIn K cd17 "variables_among" = true) (k17 : PySem.W.keepIn K (.ref f17) = true)
    (a16 : PySem.W.nsIn K mainGlobals "are_valid_terms" = some (some (.ref f16))) (l16 : K.lookup f16 = some ⟨oc16, od16, .func (PySem.W.fnOf "are_valid_terms" "are_valid_terms" (defArgs (topS 16)) (defBody (topS 16)) (defScope (topS 16)) .none kV16 dc16 pm16 an16 cd16 ct16), sl16⟩) (c16 : PySem.W.codeIn K cd16 "are_valid_terms" = true) (k16 : PySem.W.keepIn K (.ref f16) = true)
    (a15 : PySem.W.nsIn K mainGlobals "is_valid_atom" = some (some (.ref f15))) (l15 : K.lookup f15 = some ⟨oc15, od15, .func (PySem.W.fnOf "is_valid_atom" "is_valid_atom" (defArgs (topS 15)) (defBody (topS 15)) (defScope (topS 15)) .none kV15 dc15 pm15 an15 cd15 ct15), sl15⟩) (c15 : PySem.W.codeIn K cd15 "is_valid_atom" = true) (k15 : PySem.W.keepIn K (.ref f15) = true)
    (a14 : PySem.W.nsIn K mainGlobals "is_valid_join" = some (some (.ref f14))) (l14 : K.lookup f14 = some ⟨oc14, od14, .func (PySem.W.fnOf "is_valid_join" "is_valid_join" (defArgs (topS 14)) (defBody (topS 14)) (defScope (topS 14)) .none kV14 dc14 pm14 an14 cd14 ct14), sl14⟩) (c14 : PySem.W.codeIn K cd14 "is_valid_join" = true) (k14 : PySem.W.keepIn K (.ref f14) = true)
    (a13 : PySem.W.nsIn K mainGlobals "check_question" = some (some (.ref f13))) (l13 : K.lookup f13 = some ⟨oc13, od13, .func (PySem.W.fnOf "check_question" "check_question" (defArgs (topS 13)) (defBody (topS 13)) (defScope (topS 13)) .none kV13 dc13 pm13 an13 cd13 ct13), sl13⟩) (c13 : PySem.W.codeIn K cd13 "check_question" = true) (k13 : PySem.W.keepIn K (.ref f13) = true)
    (a19 : PySem.W.nsIn K mainGlobals "_law_draws" = some (some (.ref f19))) (l19 : K.lookup f19 = some ⟨oc19, od19, .func (PySem.W.fnOf "_law_draws" "_law_draws" (defArgs (topS 19)) (defBody (topS 19)) (defScope (topS 19)) .none kV19 dc19 pm19 an19 cd19 ct19), sl19⟩) (c19 : PySem.W.codeIn K cd19 "_law_draws" = true) (k19 : PySem.W.keepIn K (.ref f19) = true)
    (a20 : PySem.W.nsIn K mainGlobals "_law_take" = some (some (.ref f20))) (l20 : K.lookup f20 = some ⟨oc20, od20, .func (PySem.W.fnOf "_law_take" "_law_take" (defArgs (topS 20)) (defBody (topS 20)) (defScope (topS 20)) .none kV20 dc20 pm20 an20 cd20 ct20), sl20⟩) (c20 : PySem.W.codeIn K cd20 "_law_take" = true) (k20 : PySem.W.keepIn K (.ref f20) = true)
    (a21 : PySem.W.nsIn K mainGlobals "_law_pick" = some (some (.ref f21))) (l21 : K.lookup f21 = some ⟨oc21, od21, .func (PySem.W.fnOf "_law_pick" "_law_pick" (defArgs (topS 21)) (defBody (topS 21)) (defScope (topS 21)) .none kV21 dc21 pm21 an21 cd21 ct21), sl21⟩) (c21 : PySem.W.codeIn K cd21 "_law_pick" = true) (k21 : PySem.W.keepIn K (.ref f21) = true)
    (a22 : PySem.W.nsIn K mainGlobals "_law_same" = some (some (.ref f22))) (l22 : K.lookup f22 = some ⟨oc22, od22, .func (PySem.W.fnOf "_law_same" "_law_same" (defArgs (topS 22)) (defBody (topS 22)) (defScope (topS 22)) .none kV22 dc22 pm22 an22 cd22 ct22), sl22⟩) (c22 : PySem.W.codeIn K cd22 "_law_same" = true) (k22 : PySem.W.keepIn K (.ref f22) = true)
    (a23 : PySem.W.nsIn K mainGlobals "_law_pool" = some (some (.ref f23))) (l23 : K.lookup f23 = some ⟨oc23, od23, .func (PySem.W.fnOf "_law_pool" "_law_pool" (defArgs (topS 23)) (defBody (topS 23)) (defScope (topS 23)) .none kV23 dc23 pm23 an23 cd23 ct23), sl23⟩) (c23 : PySem.W.codeIn K cd23 "_law_pool" = true) (k23 : PySem.W.keepIn K (.ref f23) = true)
    (a24 : PySem.W.nsIn K mainGlobals "_law_values" = some (some (.ref f24))) (l24 : K.lookup f24 = some ⟨oc24, od24, .func (PySem.W.fnOf "_law_values" "_law_values" (defArgs (topS 24)) (defBody (topS 24)) (defScope (topS 24)) .none kV24 dc24 pm24 an24 cd24 ct24), sl24⟩) (c24 : PySem.W.codeIn K cd24 "_law_values" = true) (k24 : PySem.W.keepIn K (.ref f24) = true)
    (a25 : PySem.W.nsIn K mainGlobals "_law_value" = some (some (.ref f25))) (l25 : K.lookup f25 = some ⟨oc25, od25, .func (PySem.W.fnOf "_law_value" "_law_value" (defArgs (topS 25)) (defBody (topS 25)) (defScope (topS 25)) .none kV25 dc25 pm25 an25 cd25 ct25), sl25⟩) (c25 : PySem.W.codeIn K cd25 "_law_value" = true) (k25 : PySem.W.keepIn K (.ref f25) = true)
    (a26 : PySem.W.nsIn K mainGlobals "_law_world" = some (some (.ref f26))) (l26 : K.lookup f26 = some ⟨oc26, od26, .func (PySem.W.fnOf "_law_world" "_law_world" (defArgs (topS 26)) (defBody (topS 26)) (defScope (topS 26)) .none kV26 dc26 pm26 an26 cd26 ct26), sl26⟩) (c26 : PySem.W.codeIn K cd26 "_law_world" = true) (k26 : PySem.W.keepIn K (.ref f26) = true)
    (a27 : PySem.W.nsIn K mainGlobals "_law_table" = some (some (.ref f27))) (l27 : K.lookup f27 = some ⟨oc27, od27, .func (PySem.W.fnOf "_law_table" "_law_table" (defArgs (topS 27)) (defBody (topS 27)) (defScope (topS 27)) .none kV27 dc27 pm27 an27 cd27 ct27), sl27⟩) (c27 : PySem.W.codeIn K cd27 "_law_table" = true) (k27 : PySem.W.keepIn K (.ref f27) = true)
    (a28 : PySem.W.nsIn K mainGlobals "_law_term" = some (some (.ref f28))) (l28 : K.lookup f28 = some ⟨oc28, od28, .func (PySem.W.fnOf "_law_term" "_law_term" (defArgs (topS 28)) (defBody (topS 28)) (defScope (topS 28)) .none kV28 dc28 pm28 an28 cd28 ct28), sl28⟩) (c28 : PySem.W.codeIn K cd28 "_law_term" = true) (k28 : PySem.W.keepIn K (.ref f28) = true)
    (a29 : PySem.W.nsIn K mainGlobals "_law_atom" = some (some (.ref f29))) (l29 : K.lookup f29 = some ⟨oc29, od29, .func (PySem.W.fnOf "_law_atom" "_law_atom" (defArgs (topS 29)) (defBody (topS 29)) (defScope (topS 29)) .none kV29 dc29 pm29 an29 cd29 ct29), sl29⟩) (c29 : PySem.W.codeIn K cd29 "_law_atom" = true) (k29 : PySem.W.keepIn K (.ref f29) = true)
    (a30 : PySem.W.nsIn K mainGlobals "_law_join" = some (some (.ref f30))) (l30 : K.lookup f30 = some ⟨oc30, od30, .func (PySem.W.fnOf "_law_join" "_law_join" (defArgs (topS 30)) (defBody (topS 30)) (defScope (topS 30)) .none kV30 dc30 pm30 an30 cd30 ct30), sl30⟩) (c30 : PySem.W.codeIn K cd30 "_law_join" = true) (k30 : PySem.W.keepIn K (.ref f30) = true)
    (a31 : PySem.W.nsIn K mainGlobals "_law_variables" = some (some (.ref f31))) (l31 : K.lookup f31 = some ⟨oc31, od31, .func (PySem.W.fnOf "_law_variables" "_law_variables" (defArgs (topS 31)) (defBody (topS 31)) (defScope (topS 31)) .none kV31 dc31 pm31 an31 cd31 ct31), sl31⟩) (c31 : PySem.W.codeIn K cd31 "_law_variables" = true) (k31 : PySem.W.keepIn K (.ref f31) = true)
    (a32 : PySem.W.nsIn K mainGlobals "_law_is_word" = some (some (.ref f32))) (l32 : K.lookup f32 = some ⟨oc32, od32, .func (PySem.W.fnOf "_law_is_word" "_law_is_word" (defArgs (topS 32)) (defBody (topS 32)) (defScope (topS 32)) .none kV32 dc32 pm32 an32 cd32 ct32), sl32⟩) (c32 : PySem.W.codeIn K cd32 "_law_is_word" = true) (k32 : PySem.W.keepIn K (.ref f32) = true)
    (a33 : PySem.W.nsIn K mainGlobals "_law_great" = some (some (.ref f33))) (l33 : K.lookup f33 = some ⟨oc33, od33, .func (PySem.W.fnOf "_law_great" "_law_great" (defArgs (topS 33)) (defBody (topS 33)) (defScope (topS 33)) .none kV33 dc33 pm33 an33 cd33 ct33), sl33⟩) (c33 : PySem.W.codeIn K cd33 "_law_great" = true) (k33 : PySem.W.keepIn K (.ref f33) = true)
    (a34 : PySem.W.nsIn K mainGlobals "_law_text_world" = some (some (.ref f34))) (l34 : K.lookup f34 = some ⟨oc34, od34, .func (PySem.W.fnOf "_law_text_world" "_law_text_world" (defArgs (topS 34)) (defBody (topS 34)) (defScope (topS 34)) .none kV34 dc34 pm34 an34 cd34 ct34), sl34⟩) (c34 : PySem.W.codeIn K cd34 "_law_text_world" = true) (k34 : PySem.W.keepIn K (.ref f34) = true)
    (a35 : PySem.W.nsIn K mainGlobals "_law_good_term" = some (some (.ref f35))) (l35 : K.lookup f35 = some ⟨oc35, od35, .func (PySem.W.fnOf "_law_good_term" "_law_good_term" (defArgs (topS 35)) (defBody (topS 35)) (defScope (topS 35)) .none kV35 dc35 pm35 an35 cd35 ct35), sl35⟩) (c35 : PySem.W.codeIn K cd35 "_law_good_term" = true) (k35 : PySem.W.keepIn K (.ref f35) = true)
    (a36 : PySem.W.nsIn K mainGlobals "_law_good_join" = some (some (.ref f36))) (l36 : K.lookup f36 = some ⟨oc36, od36, .func (PySem.W.fnOf "_law_good_join" "_law_good_join" (defArgs (topS 36)) (defBody (topS 36)) (defScope (topS 36)) .none kV36 dc36 pm36 an36 cd36 ct36), sl36⟩) (c36 : PySem.W.codeIn K cd36 "_law_good_join" = true) (k36 : PySem.W.keepIn K (.ref f36) = true)
    (a37 : PySem.W.nsIn K mainGlobals "_law_faults" = some (some (.ref f37))) (l37 : K.lookup f37 = some ⟨oc37, od37, .func (PySem.W.fnOf "_law_faults" "_law_faults" (defArgs (topS 37)) (defBody (topS 37)) (defScope (topS 37)) .none kV37 dc37 pm37 an37 cd37 ct37), sl37⟩) (c37 : PySem.W.codeIn K cd37 "_law_faults" = true) (k37 : PySem.W.keepIn K (.ref f37) = true)
    (a38 : PySem.W.nsIn K mainGlobals "_law_asked" = some (some (.ref f38))) (l38 : K.lookup f38 = some ⟨oc38, od38, .func (PySem.W.fnOf "_law_asked" "_law_asked" (defArgs (topS 38)) (defBody (topS 38)) (defScope (topS 38)) .none kV38 dc38 pm38 an38 cd38 ct38), sl38⟩) (c38 : PySem.W.codeIn K cd38 "_law_asked" = true) (k38 : PySem.W.keepIn K (.ref f38) = true)
    (a39 : PySem.W.nsIn K mainGlobals "_law_due" = some (some (.ref f39))) (l39 : K.lookup f39 = some ⟨oc39, od39, .func (PySem.W.fnOf "_law_due" "_law_due" (defArgs (topS 39)) (defBody (topS 39)) (defScope (topS 39)) .none kV39 dc39 pm39 an39 cd39 ct39), sl39⟩) (c39 : PySem.W.codeIn K cd39 "_law_due" = true) (k39 : PySem.W.keepIn K (.ref f39) = true)
    (a40 : PySem.W.nsIn K mainGlobals "_law_renamed" = some (some (.ref f40))) (l40 : K.lookup f40 = some ⟨oc40, od40, .func (PySem.W.fnOf "_law_renamed" "_law_renamed" (defArgs (topS 40)) (defBody (topS 40)) (defScope (topS 40)) .none kV40 dc40 pm40 an40 cd40 ct40), sl40⟩) (c40 : PySem.W.codeIn K cd40 "_law_renamed" = true) (k40 : PySem.W.keepIn K (.ref f40) = true)
    (a41 : PySem.W.nsIn K mainGlobals "_law_changed_atom" = some (some (.ref f41))) (l41 : K.lookup f41 = some ⟨oc41, od41, .func (PySem.W.fnOf "_law_changed_atom" "_law_changed_atom" (defArgs (topS 41)) (defBody (topS 41)) (defScope (topS 41)) .none kV41 dc41 pm41 an41 cd41 ct41), sl41⟩) (c41 : PySem.W.codeIn K cd41 "_law_changed_atom" = true) (k41 : PySem.W.keepIn K (.ref f41) = true)
    (a42 : PySem.W.nsIn K mainGlobals "_law_changed" = some (some (.ref f42))) (l42 : K.lookup f42 = some ⟨oc42, od42, .func (PySem.W.fnOf "_law_changed" "_law_changed" (defArgs (topS 42)) (defBody (topS 42)) (defScope (topS 42)) .none kV42 dc42 pm42 an42 cd42 ct42), sl42⟩) (c42 : PySem.W.codeIn K cd42 "_law_changed" = true) (k42 : PySem.W.keepIn K (.ref f42) = true)
    (a43 : PySem.W.nsIn K mainGlobals "law" = some (some (.ref f43))) (l43 : K.lookup f43 = some ⟨oc43, od43, .func (PySem.W.fnOf "law" "law" (defArgs (topS 43)) (defBody (topS 43)) (defScope (topS 43)) .none kV43 dc43 pm43 an43 cd43 ct43), sl43⟩) (c43 : PySem.W.codeIn K cd43 "law" = true) (k43 : PySem.W.keepIn K (.ref f43) = true)
    (z_all : PySem.W.nsIn K mainGlobals "all" = some none)
    (z_isinstance : PySem.W.nsIn K mainGlobals "isinstance" = some none)
    (z_int : PySem.W.nsIn K mainGlobals "int" = some none)
    (z_sorted : PySem.W.nsIn K mainGlobals "sorted" = some none)
    (z_tuple : PySem.W.nsIn K mainGlobals "tuple" = some none)
    (z_len : PySem.W.nsIn K mainGlobals "len" = some none)
    (z_enumerate : PySem.W.nsIn K mainGlobals "enumerate" = some none)
    (z_list : PySem.W.nsIn K mainGlobals "list" = some none)
    (z_range : PySem.W.nsIn K mainGlobals "range" = some none)
    (z_bool : PySem.W.nsIn K mainGlobals "bool" = some none)
    (z_str : PySem.W.nsIn K mainGlobals "str" = some none)
    (z_set : PySem.W.nsIn K mainGlobals "set" = some none)
    (z_ValueError : PySem.W.nsIn K mainGlobals "ValueError" = some none)
    {t_MOST_ATOMS : Tok} (g_MOST_ATOMS : PySem.W.nsIn K mainGlobals "MOST_ATOMS" = some (some (.int 8 t_MOST_ATOMS)))
    {t_MOST_WIDTH : Tok} (g_MOST_WIDTH : PySem.W.nsIn K mainGlobals "MOST_WIDTH" = some (some (.int 8 t_MOST_WIDTH)))
    {t_MOST_JOINS : Tok} (g_MOST_JOINS : PySem.W.nsIn K mainGlobals "MOST_JOINS" = some (some (.int 8 t_MOST_JOINS)))
    (aC_NoQuestion : PySem.W.nsIn K mainGlobals "NoQuestion" = some (some (.ref C_NoQuestion)))
    (aC_BadText : PySem.W.nsIn K mainGlobals "BadText" = some (some (.ref C_BadText)))
    (aC_ChanceError : PySem.W.nsIn K mainGlobals "ChanceError" = some (some (.ref C_ChanceError)))
    (p_q : PySem.W.excInitIn K C_NoQuestion [.type "ValueError", .type "Exception", .type "BaseException", .type "object"] "ValueError.__new__" = true)
    (p_hd : PySem.W.hasDictIn K C_NoQuestion = true)
    (p_sa : PySem.W.findIn K (.ref C_NoQuestion) "__setattr__" = some (some (.builtin "object.__setattr__")))
    (p_ex : PySem.W.subIn K (.ref C_NoQuestion) (.type "BaseException") = some true)
    (p_ty : PySem.W.typeIn K (.ref C_NoQuestion) = some (.type "type"))
    (p_kc : PySem.W.keepIn K (.ref C_NoQuestion) = true)
    (p_ga : PySem.W.findIn K (.ref C_NoQuestion) "__getattribute__" = some (some (.builtin "BaseException.__getattribute__")))
    (p_gg : PySem.W.findIn K (.ref C_NoQuestion) "__getattr__" = some none)
    (p_no : PySem.W.findIn K (.ref C_NoQuestion) "join" = some none)
    (p_bg : PySem.W.specialIn K (.ref C_ChanceError) "__getattribute__" = some (some (.builtin "type.__getattribute__")))
    (p_br : PySem.W.readsIn K C_ChanceError (.type "type") = true)
    (p_bi : PySem.W.findCls K (.ref C_ChanceError) (.type "type") "__init__" = some (.val (.builtin "ValueError.__init__")))
    (p_te : PySem.W.exmOne K (.ref C_NoQuestion) (.ref C_NoQuestion) = some true)
    {fI : Addr} {odI anI : Option Addr} {slI : Array (Option Value)} {ocI kVI dcI pmI cdI ctI : Value} (p_i : PySem.W.findIn K (.ref C_NoQuestion) "__init__" = some (some (.ref fI))) (p_l : K.lookup fI = some ⟨ocI, odI, .func (PySem.W.fnOf "__init__" "NoQuestion.__init__" (defArgs initS) (defBody initS) (defScope initS) .none kVI dcI pmI anI cdI ctI), slI⟩) (p_c : PySem.W.codeIn K cdI "NoQuestion.__init__" = true) (p_k : PySem.W.keepIn K (.ref fI) = true) (p_t : PySem.W.typeIn K (.ref fI) = some (.type "function"))
    (ec_NoQuestion_hg : PySem.W.findIn K (.ref C_NoQuestion) "__getattribute__" = some (some (.builtin "BaseException.__getattribute__")))
    (ec_NoQuestion_hk : PySem.W.findIn K (.ref C_NoQuestion) "__getattr__" = some none)
    (ec_NoQuestion_hs : PySem.W.subIn K (.ref C_NoQuestion) (.type "BaseException") = some true)
    (ec_NoQuestion_hd : PySem.W.hasDictIn K C_NoQuestion = true)
    (ec_NoQuestion_ha : PySem.W.findIn K (.ref C_NoQuestion) "__class__" = some (some (.builtin "object.__class__")))
    (ec_NoQuestion_hn : PySem.W.specialIn K (.builtin "object.__class__") "__get__" = some (some (.builtin "getset_descriptor.__get__")))
    (ec_NoQuestion_ht : PySem.W.takesIn K (.builtin "object.__class__") = some true)
    (ec_NoQuestion_hm : PySem.W.mroIn K C_NoQuestion (.type "object") = some true)
    (fo_NoQuestion_BadText : PySem.W.kitOne K (.ref C_NoQuestion) (.ref C_BadText) = some false)
    (fo_NoQuestion_ValueError : PySem.W.kitOne K (.ref C_NoQuestion) (.type "ValueError") = some true)
    (fo_NoQuestion_ChanceError : PySem.W.kitOne K (.ref C_NoQuestion) (.ref C_ChanceError) = some true) :
    ∃ fd : FuncData, (∀ (s : Shared) (v : Value), BindsTo s fd ⟨[v], []⟩ [("script", v)]) ∧ ∀ base : Heap, K.In base → base.Ns mainGlobals mg → FnOk l.prog w K mg base (L2.CX l.prog w) 14 fa fd ["script"] (spT ⟨K, w⟩ m_law 1) := by
  have e := hfa.symm.trans (PySem.W.mg_of X G a43)
  cases e
  let xt : Nat → Option Addr := fun c => ([] : List Addr)[c]?
  have z_all := PySem.W.mg_none_of X G z_all
  have z_isinstance := PySem.W.mg_none_of X G z_isinstance
  have z_int := PySem.W.mg_none_of X G z_int
  have z_sorted := PySem.W.mg_none_of X G z_sorted
  have z_tuple := PySem.W.mg_none_of X G z_tuple
  have z_len := PySem.W.mg_none_of X G z_len
  have z_enumerate := PySem.W.mg_none_of X G z_enumerate
  have z_list := PySem.W.mg_none_of X G z_list
  have z_range := PySem.W.mg_none_of X G z_range
  have z_bool := PySem.W.mg_none_of X G z_bool
  have z_str := PySem.W.mg_none_of X G z_str
  have z_set := PySem.W.mg_none_of X G z_set
  have z_ValueError := PySem.W.mg_none_of X G z_ValueError
  have g_MOST_ATOMS := glD_int (K := ⟨K, w⟩) (PySem.W.mg_of X G g_MOST_ATOMS)
  have g_MOST_WIDTH := glD_int (K := ⟨K, w⟩) (PySem.W.mg_of X G g_MOST_WIDTH)
  have g_MOST_JOINS := glD_int (K := ⟨K, w⟩) (PySem.W.mg_of X G g_MOST_JOINS)
  have gC_NoQuestion := PySem.W.mg_of X G aC_NoQuestion
  have gC_BadText := PySem.W.mg_of X G aC_BadText
  have gC_ChanceError := PySem.W.mg_of X G aC_ChanceError
  have EC_NoQuestion : ExcC K C_NoQuestion := ⟨ec_NoQuestion_hg, ec_NoQuestion_hk, ec_NoQuestion_hs, ec_NoQuestion_hd, ec_NoQuestion_ha, ec_NoQuestion_hn, ec_NoQuestion_ht, ec_NoQuestion_hm⟩
  have F5 := fun_mk (st := topS 5) l5 c5 k5
  have b5 := F5.binds (ps := ["text"]) fun _ _ _ _ _ _ us hl => match us, hl with | [_], _ => rfl
  have F6 := fun_mk (st := topS 6) l6 c6 k6
  have b6 := F6.binds (ps := ["value"]) fun _ _ _ _ _ _ us hl => match us, hl with | [_], _ => rfl
  have F8 := fun_mk (st := topS 8) l8 c8 k8
  have b8 := F8.binds (ps := ["schema", "name"]) fun _ _ _ _ _ _ us hl => match us, hl with | [_, _], _ => rfl
  have F17 := fun_mk (st := topS 17) l17 c17 k17
  have b17 := F17.binds (ps := ["terms"]) fun _ _ _ _ _ _ us hl => match us, hl with | [_], _ => rfl
  have F16 := fun_mk (st := topS 16) l16 c16 k16
  have b16 := F16.binds (ps := ["terms"]) fun _ _ _ _ _ _ us hl => match us, hl with | [_], _ => rfl
  have F15 := fun_mk (st := topS 15) l15 c15 k15
  have b15 := F15.binds (ps := ["schema", "atom"]) fun _ _ _ _ _ _ us hl => match us, hl with | [_, _], _ => rfl
  have F14 := fun_mk (st := topS 14) l14 c14 k14
  have b14 := F14.binds (ps := ["schema", "width", "join"]) fun _ _ _ _ _ _ us hl => match us, hl with | [_, _, _], _ => rfl
  have F13 := fun_mk (st := topS 13) l13 c13 k13
  have b13 := F13.binds (ps := ["schema", "question"]) fun _ _ _ _ _ _ us hl => match us, hl with | [_, _], _ => rfl
  have F19 := fun_mk (st := topS 19) l19 c19 k19
  have b19 := F19.binds (ps := ["script", "many"]) fun _ _ _ _ _ _ us hl => match us, hl with | [_, _], _ => rfl
  have F20 := fun_mk (st := topS 20) l20 c20 k20
  have b20 := F20.binds (ps := ["draws", "many"]) fun _ _ _ _ _ _ us hl => match us, hl with | [_, _], _ => rfl
  have F21 := fun_mk (st := topS 21) l21 c21 k21
  have b21 := F21.binds (ps := ["draws", "row"]) fun _ _ _ _ _ _ us hl => match us, hl with | [_, _], _ => rfl
  have F22 := fun_mk (st := topS 22) l22 c22 k22
  have b22 := F22.binds (ps := ["actual", "due"]) fun _ _ _ _ _ _ us hl => match us, hl with | [_, _], _ => rfl
  have F23 := fun_mk (st := topS 23) l23 c23 k23
  have b23 := F23.binds (ps := ["draws", "many"]) fun _ _ _ _ _ _ us hl => match us, hl with | [_, _], _ => rfl
  have F24 := fun_mk (st := topS 24) l24 c24 k24
  have b24 := F24.binds (ps := ["draws", "words"]) fun _ _ _ _ _ _ us hl => match us, hl with | [_, _], _ => rfl
  have F25 := fun_mk (st := topS 25) l25 c25 k25
  have b25 := F25.binds (ps := ["draws", "values"]) fun _ _ _ _ _ _ us hl => match us, hl with | [_, _], _ => rfl
  have F26 := fun_mk (st := topS 26) l26 c26 k26
  have b26 := F26.binds (ps := ["draws"]) fun _ _ _ _ _ _ us hl => match us, hl with | [_], _ => rfl
  have F27 := fun_mk (st := topS 27) l27 c27 k27
  have b27 := F27.binds (ps := ["schema", "name"]) fun _ _ _ _ _ _ us hl => match us, hl with | [_, _], _ => rfl
  have F28 := fun_mk (st := topS 28) l28 c28 k28
  have b28 := F28.binds (ps := ["draws", "world"]) fun _ _ _ _ _ _ us hl => match us, hl with | [_, _], _ => rfl
  have F29 := fun_mk (st := topS 29) l29 c29 k29
  have b29 := F29.binds (ps := ["draws", "world", "table"]) fun _ _ _ _ _ _ us hl => match us, hl with | [_, _, _], _ => rfl
  have F30 := fun_mk (st := topS 30) l30 c30 k30
  have b30 := F30.binds (ps := ["draws", "world", "width"]) fun _ _ _ _ _ _ us hl => match us, hl with | [_, _, _], _ => rfl
  have F31 := fun_mk (st := topS 31) l31 c31 k31
  have b31 := F31.binds (ps := ["join"]) fun _ _ _ _ _ _ us hl => match us, hl with | [_], _ => rfl
  have F32 := fun_mk (st := topS 32) l32 c32 k32
  have b32 := F32.binds (ps := ["text"]) fun _ _ _ _ _ _ us hl => match us, hl with | [_], _ => rfl
  have F33 := fun_mk (st := topS 33) l33 c33 k33
  have b33 := F33.binds (ps := ["draws"]) fun _ _ _ _ _ _ us hl => match us, hl with | [_], _ => rfl
  have F34 := fun_mk (st := topS 34) l34 c34 k34
  have b34 := F34.binds (ps := ["draws"]) fun _ _ _ _ _ _ us hl => match us, hl with | [_], _ => rfl
  have F35 := fun_mk (st := topS 35) l35 c35 k35
  have b35 := F35.binds (ps := ["term"]) fun _ _ _ _ _ _ us hl => match us, hl with | [_], _ => rfl
  have F36 := fun_mk (st := topS 36) l36 c36 k36
  have b36 := F36.binds (ps := ["schema", "width", "join"]) fun _ _ _ _ _ _ us hl => match us, hl with | [_, _, _], _ => rfl
  have F37 := fun_mk (st := topS 37) l37 c37 k37
  have b37 := F37.binds (ps := ["schema", "question"]) fun _ _ _ _ _ _ us hl => match us, hl with | [_, _], _ => rfl
  have F38 := fun_mk (st := topS 38) l38 c38 k38
  have b38 := F38.binds (ps := ["schema", "question"]) fun _ _ _ _ _ _ us hl => match us, hl with | [_, _], _ => rfl
  have F39 := fun_mk (st := topS 39) l39 c39 k39
  have b39 := F39.binds (ps := ["schema", "question"]) fun _ _ _ _ _ _ us hl => match us, hl with | [_, _], _ => rfl
  have F40 := fun_mk (st := topS 40) l40 c40 k40
  have b40 := F40.binds (ps := ["terms", "name", "odd"]) fun _ _ _ _ _ _ us hl => match us, hl with | [_, _, _], _ => rfl
  have F41 := fun_mk (st := topS 41) l41 c41 k41
  have b41 := F41.binds (ps := ["draws", "world", "atom", "odd"]) fun _ _ _ _ _ _ us hl => match us, hl with | [_, _, _, _], _ => rfl
  have F42 := fun_mk (st := topS 42) l42 c42 k42
  have b42 := F42.binds (ps := ["draws", "world", "join"]) fun _ _ _ _ _ _ us hl => match us, hl with | [_, _, _], _ => rfl
  have F43 := fun_mk (st := topS 43) l43 c43 k43
  have b43 := F43.binds (ps := ["script"]) fun _ _ _ _ _ _ us hl => match us, hl with | [_], _ => rfl
  refine ⟨PySem.W.fnOf "law" "law" (defArgs (topS 43)) (defBody (topS 43)) (defScope (topS 43)) .none kV43 dc43 pm43 an43 cd43 ct43, fun s v => .of_eq rfl, fun base _ _ => ?_⟩
  have FI := fun_mk (st := initS) p_l p_c p_k
  have bI := FI.binds (ps := ["self", "join"]) fun _ _ _ _ _ _ us hl => match us, hl with | [_, _], _ => rfl
  have TI : OwnE K mg "NoQuestion" "join" "ChanceError" C_NoQuestion C_ChanceError fI := ⟨gC_NoQuestion, gC_ChanceError, oex_of p_q p_hd p_sa p_ex p_ty p_kc, ⟨p_ga, p_gg, p_ex, p_hd⟩, p_no, p_i, p_t, p_bg, p_br, p_bi, p_te⟩
  have xp : ExcP l.prog w K mg base "NoQuestion" "join" C_NoQuestion 1 := ⟨"ChanceError", C_ChanceError, fI, _, TI, ok_init TI FI, bI⟩
  have u_is_word : Use l.prog w K mg base (XRp C_NoQuestion "join") "is_word" ["text"] 1 m_is_word := .mk' (ok_is_word F5 z_all) (PySem.W.mg_of X G a5) F5.kp b5
  have u_is_value : Use l.prog w K mg base (XRp C_NoQuestion "join") "is_value" ["value"] 2 m_is_value := .mk' (ok_is_value F6 z_isinstance z_int u_is_word) (PySem.W.mg_of X G a6) F6.kp b6
  have u_column_count : Use l.prog w K mg base (XRp C_NoQuestion "join") "column_count" ["schema", "name"] 1 m_column_count := .mk' (ok_column_count F8 ) (PySem.W.mg_of X G a8) F8.kp b8
  have u_variables_among : Use l.prog w K mg base (XRp C_NoQuestion "join") "variables_among" ["terms"] 1 m_variables_among := .mk' (ok_variables_among F17 z_sorted z_tuple) (PySem.W.mg_of X G a17) F17.kp b17
  have u_are_valid_terms : Use l.prog w K mg base (XRp C_NoQuestion "join") "are_valid_terms" ["terms"] 3 m_are_valid_terms := .mk' (ok_are_valid_terms F16 z_all u_is_word u_is_value) (PySem.W.mg_of X G a16) F16.kp b16
  have u_is_valid_atom : Use l.prog w K mg base (XRp C_NoQuestion "join") "is_valid_atom" ["schema", "atom"] 4 m_is_valid_atom := .mk' (ok_is_valid_atom F15 z_len u_column_count u_are_valid_terms) (PySem.W.mg_of X G a15) F15.kp b15
  have u_is_valid_join : Use l.prog w K mg base (XRp C_NoQuestion "join") "is_valid_join" ["schema", "width", "join"] 5 m_is_valid_join := .mk' (ok_is_valid_join F14 z_len z_all g_MOST_ATOMS u_is_valid_atom u_variables_among u_are_valid_terms) (PySem.W.mg_of X G a14) F14.kp b14
  have u_check_question : Use l.prog w K mg base (XRp C_NoQuestion "join") "check_question" ["schema", "question"] 6 m_check_question := .mk' (ok_check_question F13 z_len z_enumerate g_MOST_WIDTH g_MOST_JOINS u_is_valid_join xp) (PySem.W.mg_of X G a13) F13.kp b13
  have u__law_draws : Use l.prog w K mg base (XRp C_NoQuestion "join") "_law_draws" ["script", "many"] 1 m__law_draws := .mk' (ok__law_draws F19 z_int z_len z_list z_range) (PySem.W.mg_of X G a19) F19.kp b19
  have u__law_take : Use l.prog w K mg base (XRp C_NoQuestion "join") "_law_take" ["draws", "many"] 1 m__law_take := .mk' (ok__law_take F20 z_len z_int) (PySem.W.mg_of X G a20) F20.kp b20
  have u__law_pick : Use l.prog w K mg base (XRp C_NoQuestion "join") "_law_pick" ["draws", "row"] 2 m__law_pick := .mk' (ok__law_pick F21 z_len u__law_take) (PySem.W.mg_of X G a21) F21.kp b21
  have u__law_same : Use l.prog w K mg base (XRp C_NoQuestion "join") "_law_same" ["actual", "due"] 13 (m__law_same 12) := .mk' (ok__law_same F22 (PySem.W.mg_of X G a22) b22 z_isinstance z_tuple z_list z_len z_range z_bool z_int z_str 12) (PySem.W.mg_of X G a22) F22.kp b22
  have u__law_pool : Use l.prog w K mg base (XRp C_NoQuestion "join") "_law_pool" ["draws", "many"] 2 m__law_pool := .mk' (ok__law_pool F23 z_range u__law_take) (PySem.W.mg_of X G a23) F23.kp b23
  have u__law_values : Use l.prog w K mg base (XRp C_NoQuestion "join") "_law_values" ["draws", "words"] 2 m__law_values := .mk' (ok__law_values F24 u__law_take) (PySem.W.mg_of X G a24) F24.kp b24
  have u__law_value : Use l.prog w K mg base (XRp C_NoQuestion "join") "_law_value" ["draws", "values"] 2 m__law_value := .mk' (ok__law_value F25 u__law_take) (PySem.W.mg_of X G a25) F25.kp b25
  have u__law_world : Use l.prog w K mg base (XRp C_NoQuestion "join") "_law_world" ["draws"] 3 m__law_world := .mk' (ok__law_world F26 z_sorted z_tuple u__law_pool u__law_take u__law_values) (PySem.W.mg_of X G a26) F26.kp b26
  have u__law_table : Use l.prog w K mg base (XRp C_NoQuestion "join") "_law_table" ["schema", "name"] 1 m__law_table := .mk' (ok__law_table F27 ) (PySem.W.mg_of X G a27) F27.kp b27
  have u__law_term : Use l.prog w K mg base (XRp C_NoQuestion "join") "_law_term" ["draws", "world"] 3 m__law_term := .mk' (ok__law_term F28 u__law_take u__law_value u__law_pick) (PySem.W.mg_of X G a28) F28.kp b28
  have u__law_atom : Use l.prog w K mg base (XRp C_NoQuestion "join") "_law_atom" ["draws", "world", "table"] 4 m__law_atom := .mk' (ok__law_atom F29 z_range z_tuple u__law_term) (PySem.W.mg_of X G a29) F29.kp b29
  have u__law_join : Use l.prog w K mg base (XRp C_NoQuestion "join") "_law_join" ["draws", "world", "width"] 5 m__law_join := .mk' (ok__law_join F30 z_range z_tuple u__law_take u__law_atom u__law_pick u__law_value) (PySem.W.mg_of X G a30) F30.kp b30
  have u__law_variables : Use l.prog w K mg base (XRp C_NoQuestion "join") "_law_variables" ["join"] 1 m__law_variables := .mk' (ok__law_variables F31 z_sorted z_set) (PySem.W.mg_of X G a31) F31.kp b31
  have u__law_is_word : Use l.prog w K mg base (XRp C_NoQuestion "join") "_law_is_word" ["text"] 1 m__law_is_word := .mk' (ok__law_is_word F32 ) (PySem.W.mg_of X G a32) F32.kp b32
  have u__law_great : Use l.prog w K mg base (XRp C_NoQuestion "join") "_law_great" ["draws"] 2 m__law_great := .mk' (ok__law_great F33 z_range u__law_take) (PySem.W.mg_of X G a33) F33.kp b33
  have u__law_text_world : Use l.prog w K mg base (XRp C_NoQuestion "join") "_law_text_world" ["draws"] 4 m__law_text_world := .mk' (ok__law_text_world F34 z_list z_range z_len z_sorted z_tuple u__law_world u__law_take u__law_great) (PySem.W.mg_of X G a34) F34.kp b34
  have u__law_good_term : Use l.prog w K mg base (XRp C_NoQuestion "join") "_law_good_term" ["term"] 2 m__law_good_term := .mk' (ok__law_good_term F35 z_isinstance z_str u__law_is_word) (PySem.W.mg_of X G a35) F35.kp b35
  have u__law_good_join : Use l.prog w K mg base (XRp C_NoQuestion "join") "_law_good_join" ["schema", "width", "join"] 3 m__law_good_join := .mk' (ok__law_good_join F36 z_len u__law_table u__law_good_term u__law_variables) (PySem.W.mg_of X G a36) F36.kp b36
  have u__law_faults : Use l.prog w K mg base (XRp C_NoQuestion "join") "_law_faults" ["schema", "question"] 4 m__law_faults := .mk' (ok__law_faults F37 z_len z_range u__law_good_join) (PySem.W.mg_of X G a37) F37.kp b37
  have u__law_asked : Use l.prog w K mg base (XRp C_NoQuestion "join") "_law_asked" ["schema", "question"] 7 m__law_asked := .mk' (ok__law_asked F38 z_isinstance z_ValueError gC_NoQuestion gC_BadText gC_ChanceError EC_NoQuestion fo_NoQuestion_BadText fo_NoQuestion_ValueError fo_NoQuestion_ChanceError u_check_question xp) (PySem.W.mg_of X G a38) F38.kp b38
  have u__law_due : Use l.prog w K mg base (XRp C_NoQuestion "join") "_law_due" ["schema", "question"] 5 m__law_due := .mk' (ok__law_due F39 u__law_faults) (PySem.W.mg_of X G a39) F39.kp b39
  have u__law_renamed : Use l.prog w K mg base (XRp C_NoQuestion "join") "_law_renamed" ["terms", "name", "odd"] 1 m__law_renamed := .mk' (ok__law_renamed F40 z_int z_tuple) (PySem.W.mg_of X G a40) F40.kp b40
  have u__law_changed_atom : Use l.prog w K mg base (XRp C_NoQuestion "join") "_law_changed_atom" ["draws", "world", "atom", "odd"] 4 m__law_changed_atom := .mk' (ok__law_changed_atom F41 z_list z_len z_tuple u__law_take u__law_term) (PySem.W.mg_of X G a41) F41.kp b41
  have u__law_changed : Use l.prog w K mg base (XRp C_NoQuestion "join") "_law_changed" ["draws", "world", "join"] 5 m__law_changed := .mk' (ok__law_changed F42 z_list z_len z_range z_tuple u__law_take u__law_value u__law_pick u__law_variables u__law_renamed u__law_changed_atom) (PySem.W.mg_of X G a42) F42.kp b42
  exact fnOk_T (XR := XRp C_NoQuestion "join") (ok_law F43 z_range z_list z_len z_tuple u__law_draws u__law_text_world u__law_take u__law_join u__law_changed u__law_same u__law_due u__law_asked)
end Law

set_option Elab.async false
set_option autoImplicit false
set_option linter.all false
set_option maxRecDepth 100000
set_option maxHeartbeats 4000000
namespace Law
open PySem Mir
local macro_rules | `(tactic| simp only [evA, $ts,*]) => `(tactic| simp (maxSteps := 100000000) only [$ts,*, big, wp_ok, wp_ex, wp_no, wp_bind, wp_sr, swp_nx, swp_rt, swp_bk, swp_ct, swp_ex, swp_no, wp_if, wp_nil, wp_break, wp_cont, wp_drop, wp_ret, wp_retN, wp_raise, wp_set, wp_asg, wp_par, wp_aug, wp_store, wp_call, wp_mte, wp_mtru, wp_tnot, wp_tand, wp_tor, wp_andV, wp_orV, wp_notV, wp_neg, wp_mif, wp_res, wp_bin, wp_binT, wp_cons, wp_mnil, wp_c, wp_var, wp_fn, wp_tup, wp_lst, wp_bits, wp_pop, wp_mut, wp_sl, wp_onone, wp_osome, wp_isi, wp_isi2, wp_chain, wp_seqI, wp_rng1, wp_for, wp_lc, wp_tyes, opt_some, opt_none, add_int, addI_int, sub_int, mul_int, div_int, mod_int, pow_int, eq_int, ne_int, eq_bl, ne_bl, eq_str, ne_str, lt_int, le_int, gt_int, ge_int, is_non, isnot_non, ix_lst, ix_tup, len_lst, len_tup, int_int, abs_int, list_lst, list_tup, tuple_lst, tuple_tup, gcd_int, nb_no, nb_va, nb_ow, nb_sc, stOk_eq, append_one, reverse_nil, peek, peekT, peeks, esc, escs, stV, put, argSl, argsSl, uniqBo, isBo, posBo, wb, wb1_eq, wb2, bor, unb, gN, gT, gsCons, gsNil, finD, wipeG, backG, notHd, Sl.hd, endK, List.getElem?_cons_zero, List.getElem?_cons_succ, List.set_cons_zero, List.set_cons_succ, List.all_cons, List.all_nil, List.any_cons, List.any_nil, List.length_cons, List.length_nil, Nat.reduceAdd, Nat.reduceLeDiff, Nat.reduceBEq, Nat.reduceEqDiff, Bool.false_eq_true, Bool.not_true, Bool.not_false, Bool.and_true, Bool.true_and, Bool.or_false, Bool.and_self, Bool.or_self, Bool.and_false, Bool.false_and, Bool.or_true, Bool.true_or, ↓reduceIte, if_true, if_false, decide_eq_true_eq, decide_true, decide_false, Bool.not_eq_true', decide_eq_false_iff_not, Option.map_some, Option.map_none, Option.bind_some, List.getD_cons_zero, List.getD_cons_succ, List.contains_cons, List.contains_nil, List.elem_cons, List.elem_nil, beq_self_eq_true, Option.getD_some, true_and, and_true, Int.reduceLT, Int.reduceLE, Int.reduceNeg, isi_non_int, isi_non_str, isi_non_bool, isi_non_tuple, isi_non_list, isi_bl_int, isi_bl_str, isi_bl_bool, isi_bl_tuple, isi_bl_list, isi_int_int, isi_int_str, isi_int_bool, isi_int_tuple, isi_int_list, isi_str_int, isi_str_str, isi_str_bool, isi_str_tuple, isi_str_list, isi_tup_int, isi_tup_str, isi_tup_bool, isi_tup_tuple, isi_tup_list, isi_lst_int, isi_lst_str, isi_lst_bool, isi_lst_tuple, isi_lst_list, isN_non, isN_bl, isN_int, isN_str, isN_tup, isN_lst, eq_non, ne_eq, not_true_eq_false, not_false_eq_true, atI_0, atI_1, atI_2, backK_va, backK_ow, isPl_non, isPl_bl, isPl_int, isPl_str, isPl_tup, isPl_lst, backK_owc, nb_owc, Ct.data])
local macro_rules | `(tactic| simp only [evA]) => `(tactic| simp (maxSteps := 100000000) only [big, wp_ok, wp_ex, wp_no, wp_bind, wp_sr, swp_nx, swp_rt, swp_bk, swp_ct, swp_ex, swp_no, wp_if, wp_nil, wp_break, wp_cont, wp_drop, wp_ret, wp_retN, wp_raise, wp_set, wp_asg, wp_par, wp_aug, wp_store, wp_call, wp_mte, wp_mtru, wp_tnot, wp_tand, wp_tor, wp_andV, wp_orV, wp_notV, wp_neg, wp_mif, wp_res, wp_bin, wp_binT, wp_cons, wp_mnil, wp_c, wp_var, wp_fn, wp_tup, wp_lst, wp_bits, wp_pop, wp_mut, wp_sl, wp_onone, wp_osome, wp_isi, wp_isi2, wp_chain, wp_seqI, wp_rng1, wp_for, wp_lc, wp_tyes, opt_some, opt_none, add_int, addI_int, sub_int, mul_int, div_int, mod_int, pow_int, eq_int, ne_int, eq_bl, ne_bl, eq_str, ne_str, lt_int, le_int, gt_int, ge_int, is_non, isnot_non, ix_lst, ix_tup, len_lst, len_tup, int_int, abs_int, list_lst, list_tup, tuple_lst, tuple_tup, gcd_int, nb_no, nb_va, nb_ow, nb_sc, stOk_eq, append_one, reverse_nil, peek, peekT, peeks, esc, escs, stV, put, argSl, argsSl, uniqBo, isBo, posBo, wb, wb1_eq, wb2, bor, unb, gN, gT, gsCons, gsNil, finD, wipeG, backG, notHd, Sl.hd, endK, List.getElem?_cons_zero, List.getElem?_cons_succ, List.set_cons_zero, List.set_cons_succ, List.all_cons, List.all_nil, List.any_cons, List.any_nil, List.length_cons, List.length_nil, Nat.reduceAdd, Nat.reduceLeDiff, Nat.reduceBEq, Nat.reduceEqDiff, Bool.false_eq_true, Bool.not_true, Bool.not_false, Bool.and_true, Bool.true_and, Bool.or_false, Bool.and_self, Bool.or_self, Bool.and_false, Bool.false_and, Bool.or_true, Bool.true_or, ↓reduceIte, if_true, if_false, decide_eq_true_eq, decide_true, decide_false, Bool.not_eq_true', decide_eq_false_iff_not, Option.map_some, Option.map_none, Option.bind_some, List.getD_cons_zero, List.getD_cons_succ, List.contains_cons, List.contains_nil, List.elem_cons, List.elem_nil, beq_self_eq_true, Option.getD_some, true_and, and_true, Int.reduceLT, Int.reduceLE, Int.reduceNeg, isi_non_int, isi_non_str, isi_non_bool, isi_non_tuple, isi_non_list, isi_bl_int, isi_bl_str, isi_bl_bool, isi_bl_tuple, isi_bl_list, isi_int_int, isi_int_str, isi_int_bool, isi_int_tuple, isi_int_list, isi_str_int, isi_str_str, isi_str_bool, isi_str_tuple, isi_str_list, isi_tup_int, isi_tup_str, isi_tup_bool, isi_tup_tuple, isi_tup_list, isi_lst_int, isi_lst_str, isi_lst_bool, isi_lst_tuple, isi_lst_list, isN_non, isN_bl, isN_int, isN_str, isN_tup, isN_lst, eq_non, ne_eq, not_true_eq_false, not_false_eq_true, atI_0, atI_1, atI_2, backK_va, backK_ow, isPl_non, isPl_bl, isPl_int, isPl_str, isPl_tup, isPl_lst, backK_owc, nb_owc, Ct.data])
local macro_rules | `(tactic| simp only [evB, $ts,*]) => `(tactic| simp (maxSteps := 100000000) only [$ts,*, big, wp_ok, wp_ex, wp_no, wp_bind, wp_sr, swp_nx, swp_rt, swp_bk, swp_ct, swp_ex, swp_no, wp_if, wp_nil, wp_break, wp_cont, wp_drop, wp_ret, wp_retN, wp_set, wp_asg, wp_call, wp_mte, wp_mtru, wp_tnot, wp_tand, wp_tor, wp_andV, wp_orV, wp_notV, wp_neg, wp_bin, wp_binT, wp_cons, wp_mnil, wp_c, wp_var, wp_fn, wp_tup, wp_lst, wp_pop, wp_mut, wp_sl, wp_onone, wp_osome, wp_seqI, wp_rng1, wp_for, wp_lc, wp_tyes, opt_some, opt_none, add_int, addI_int, sub_int, eq_int, ne_int, eq_str, ne_str, lt_int, le_int, gt_int, ge_int, is_non, isnot_non, ix_lst, ix_tup, len_lst, len_tup, list_lst, list_tup, tuple_lst, tuple_tup, nb_no, nb_va, nb_ow, nb_sc, stOk_eq, append_one, peek, peekT, peeks, esc, escs, stV, put, argSl, argsSl, uniqBo, isBo, posBo, wb, wb1_eq, wb2, bor, unb, gN, gT, gsCons, gsNil, finD, wipeG, backG, notHd, Sl.hd, endK, List.getElem?_cons_zero, List.getElem?_cons_succ, List.set_cons_zero, List.set_cons_succ, List.all_cons, List.all_nil, List.any_cons, List.any_nil, List.length_cons, List.length_nil, Nat.reduceAdd, Nat.reduceLeDiff, Nat.reduceBEq, Nat.reduceEqDiff, Bool.false_eq_true, Bool.not_true, Bool.not_false, Bool.and_true, Bool.true_and, Bool.or_false, Bool.and_self, Bool.or_self, Bool.and_false, Bool.false_and, Bool.or_true, Bool.true_or, ↓reduceIte, if_true, if_false, decide_eq_true_eq, decide_true, decide_false, Bool.not_eq_true', decide_eq_false_iff_not, Option.map_some, Option.map_none, Option.bind_some, List.getD_cons_zero, List.getD_cons_succ, List.contains_cons, List.contains_nil, List.elem_cons, List.elem_nil, beq_self_eq_true, Option.getD_some, true_and, and_true, Int.reduceLT, Int.reduceLE, Int.reduceNeg, isN_non, isN_bl, isN_int, isN_str, isN_tup, isN_lst, eq_non, ne_eq, not_true_eq_false, not_false_eq_true, atI_0, atI_1, atI_2, backK_va, backK_ow, isPl_non, isPl_bl, isPl_int, isPl_str, isPl_tup, isPl_lst, backK_owc, nb_owc, Ct.data, reverse_nil, wp_mif])
local macro_rules | `(tactic| simp only [evB]) => `(tactic| simp (maxSteps := 100000000) only [big, wp_ok, wp_ex, wp_no, wp_bind, wp_sr, swp_nx, swp_rt, swp_bk, swp_ct, swp_ex, swp_no, wp_if, wp_nil, wp_break, wp_cont, wp_drop, wp_ret, wp_retN, wp_set, wp_asg, wp_call, wp_mte, wp_mtru, wp_tnot, wp_tand, wp_tor, wp_andV, wp_orV, wp_notV, wp_neg, wp_bin, wp_binT, wp_cons, wp_mnil, wp_c, wp_var, wp_fn, wp_tup, wp_lst, wp_pop, wp_mut, wp_sl, wp_onone, wp_osome, wp_seqI, wp_rng1, wp_for, wp_lc, wp_tyes, opt_some, opt_none, add_int, addI_int, sub_int, eq_int, ne_int, eq_str, ne_str, lt_int, le_int, gt_int, ge_int, is_non, isnot_non, ix_lst, ix_tup, len_lst, len_tup, list_lst, list_tup, tuple_lst, tuple_tup, nb_no, nb_va, nb_ow, nb_sc, stOk_eq, append_one, peek, peekT, peeks, esc, escs, stV, put, argSl, argsSl, uniqBo, isBo, posBo, wb, wb1_eq, wb2, bor, unb, gN, gT, gsCons, gsNil, finD, wipeG, backG, notHd, Sl.hd, endK, List.getElem?_cons_zero, List.getElem?_cons_succ, List.set_cons_zero, List.set_cons_succ, List.all_cons, List.all_nil, List.any_cons, List.any_nil, List.length_cons, List.length_nil, Nat.reduceAdd, Nat.reduceLeDiff, Nat.reduceBEq, Nat.reduceEqDiff, Bool.false_eq_true, Bool.not_true, Bool.not_false, Bool.and_true, Bool.true_and, Bool.or_false, Bool.and_self, Bool.or_self, Bool.and_false, Bool.false_and, Bool.or_true, Bool.true_or, ↓reduceIte, if_true, if_false, decide_eq_true_eq, decide_true, decide_false, Bool.not_eq_true', decide_eq_false_iff_not, Option.map_some, Option.map_none, Option.bind_some, List.getD_cons_zero, List.getD_cons_succ, List.contains_cons, List.contains_nil, List.elem_cons, List.elem_nil, beq_self_eq_true, Option.getD_some, true_and, and_true, Int.reduceLT, Int.reduceLE, Int.reduceNeg, isN_non, isN_bl, isN_int, isN_str, isN_tup, isN_lst, eq_non, ne_eq, not_true_eq_false, not_false_eq_true, atI_0, atI_1, atI_2, backK_va, backK_ow, isPl_non, isPl_bl, isPl_int, isPl_str, isPl_tup, isPl_lst, backK_owc, nb_owc, Ct.data, reverse_nil, wp_mif])
local macro_rules | `(tactic| simp only [evC, $ts,*]) => `(tactic| simp (maxSteps := 100000000) only [$ts,*, big, wp_ok, wp_ex, wp_no, wp_bind, wp_sr, swp_nx, swp_rt, swp_bk, swp_ct, swp_ex, swp_no, wp_if, wp_nil, wp_break, wp_cont, wp_drop, wp_ret, wp_retN, wp_set, wp_asg, wp_call, wp_mte, wp_mtru, wp_tnot, wp_tand, wp_tor, wp_andV, wp_orV, wp_notV, wp_neg, wp_bin, wp_binT, wp_cons, wp_mnil, wp_c, wp_var, wp_fn, wp_tup, wp_lst, wp_pop, wp_mut, wp_sl, wp_onone, wp_osome, wp_seqI, wp_rng1, wp_for, wp_lc, wp_tyes, opt_some, opt_none, add_int, addI_int, sub_int, eq_int, ne_int, eq_str, ne_str, lt_int, le_int, gt_int, ge_int, is_non, isnot_non, ix_lst, ix_tup, len_lst, len_tup, list_lst, list_tup, tuple_lst, tuple_tup, nb_no, nb_va, nb_ow, nb_sc, stOk_eq, append_one, peek, peekT, peeks, esc, escs, stV, put, argSl, argsSl, uniqBo, isBo, posBo, wb, wb1_eq, wb2, bor, unb, gN, gT, gsCons, gsNil, finD, wipeG, backG, notHd, Sl.hd, endK, List.getElem?_cons_zero, List.getElem?_cons_succ, List.set_cons_zero, List.set_cons_succ, List.all_cons, List.all_nil, List.any_cons, List.any_nil, List.length_cons, List.length_nil, Nat.reduceAdd, Nat.reduceLeDiff, Nat.reduceBEq, Nat.reduceEqDiff, Bool.false_eq_true, Bool.not_true, Bool.not_false, Bool.and_true, Bool.true_and, Bool.or_false, Bool.and_self, Bool.or_self, Bool.and_false, Bool.false_and, Bool.or_true, Bool.true_or, ↓reduceIte, if_true, if_false, decide_eq_true_eq, decide_true, decide_false, Bool.not_eq_true', decide_eq_false_iff_not, Option.map_some, Option.map_none, Option.bind_some, List.getD_cons_zero, List.getD_cons_succ, List.contains_cons, List.contains_nil, List.elem_cons, List.elem_nil, beq_self_eq_true, Option.getD_some, true_and, and_true, Int.reduceLT, Int.reduceLE, Int.reduceNeg, isN_non, isN_bl, isN_int, isN_str, isN_tup, isN_lst, eq_non, ne_eq, not_true_eq_false, not_false_eq_true, atI_0, atI_1, atI_2, backK_va, backK_ow, isPl_non, isPl_bl, isPl_int, isPl_str, isPl_tup, isPl_lst, backK_owc, nb_owc, Ct.data, reverse_nil, wp_mif, wp_store])
local macro_rules | `(tactic| simp only [evC]) => `(tactic| simp (maxSteps := 100000000) only [big, wp_ok, wp_ex, wp_no, wp_bind, wp_sr, swp_nx, swp_rt, swp_bk, swp_ct, swp_ex, swp_no, wp_if, wp_nil, wp_break, wp_cont, wp_drop, wp_ret, wp_retN, wp_set, wp_asg, wp_call, wp_mte, wp_mtru, wp_tnot, wp_tand, wp_tor, wp_andV, wp_orV, wp_notV, wp_neg, wp_bin, wp_binT, wp_cons, wp_mnil, wp_c, wp_var, wp_fn, wp_tup, wp_lst, wp_pop, wp_mut, wp_sl, wp_onone, wp_osome, wp_seqI, wp_rng1, wp_for, wp_lc, wp_tyes, opt_some, opt_none, add_int, addI_int, sub_int, eq_int, ne_int, eq_str, ne_str, lt_int, le_int, gt_int, ge_int, is_non, isnot_non, ix_lst, ix_tup, len_lst, len_tup, list_lst, list_tup, tuple_lst, tuple_tup, nb_no, nb_va, nb_ow, nb_sc, stOk_eq, append_one, peek, peekT, peeks, esc, escs, stV, put, argSl, argsSl, uniqBo, isBo, posBo, wb, wb1_eq, wb2, bor, unb, gN, gT, gsCons, gsNil, finD, wipeG, backG, notHd, Sl.hd, endK, List.getElem?_cons_zero, List.getElem?_cons_succ, List.set_cons_zero, List.set_cons_succ, List.all_cons, List.all_nil, List.any_cons, List.any_nil, List.length_cons, List.length_nil, Nat.reduceAdd, Nat.reduceLeDiff, Nat.reduceBEq, Nat.reduceEqDiff, Bool.false_eq_true, Bool.not_true, Bool.not_false, Bool.and_true, Bool.true_and, Bool.or_false, Bool.and_self, Bool.or_self, Bool.and_false, Bool.false_and, Bool.or_true, Bool.true_or, ↓reduceIte, if_true, if_false, decide_eq_true_eq, decide_true, decide_false, Bool.not_eq_true', decide_eq_false_iff_not, Option.map_some, Option.map_none, Option.bind_some, List.getD_cons_zero, List.getD_cons_succ, List.contains_cons, List.contains_nil, List.elem_cons, List.elem_nil, beq_self_eq_true, Option.getD_some, true_and, and_true, Int.reduceLT, Int.reduceLE, Int.reduceNeg, isN_non, isN_bl, isN_int, isN_str, isN_tup, isN_lst, eq_non, ne_eq, not_true_eq_false, not_false_eq_true, atI_0, atI_1, atI_2, backK_va, backK_ow, isPl_non, isPl_bl, isPl_int, isPl_str, isPl_tup, isPl_lst, backK_owc, nb_owc, Ct.data, reverse_nil, wp_mif, wp_store])
/-- draws: ints from 0 -/
def Dr (ds : List D) : Prop := ∀ d ∈ ds, ∃ n : Nat, d = .int n
theorem take_wp {ds : List D} {many : Int} {Q : RV → List Sl → Prop} {E : Nat → List D → List Sl → Prop} (hD : Dr ds) (hm : 0 < many) (k : ∀ (r : Int) (es : List D), 0 ≤ r → r < many → Dr es → Q (.va (.int r)) [.ow es, .va (.int many)]) :
    (m__law_take [.ow ds, .va (.int many)]).wp Q E := by
  refine def_wp rfl ?_
  show (b__law_take [.ow ds, .va (.int many)]).wp _
  unfold b__law_take
  refine seq_wp fun R hR => ?_; simp only [evA]
  split
  · exact k 0 ds (by decide) hm hD
  · rename_i hne
    refine hR _ ?_; clear hR R
    simp only [evA]
    have hne' : ds ≠ [] := fun z => hne (by rw [z]; rfl)
    rw [List.getLast?_eq_some_getLast hne']
    obtain ⟨n, en⟩ := hD _ (List.getLast_mem hne')
    rw [en]
    simp only [evA]
    exact ⟨hm, k _ _ (Int.emod_nonneg _ (by omega)) (Int.emod_lt_of_pos _ hm) fun d hd => hD d (List.dropLast_subset _ hd)⟩
theorem mapI {cs : List Int} {i : Int} (h0 : 0 ≤ i) (h1 : i < cs.length) : ∃ z ∈ cs, L2.atI (cs.map D.int) i = some (.int z) := by
  obtain ⟨n, rfl⟩ := Int.eq_ofNat_of_zero_le h0
  have hn : n < cs.length := by omega
  refine ⟨cs[n], List.getElem_mem hn, L2.atI_nat ?_⟩
  rw [List.getElem?_map, List.getElem?_eq_getElem hn]
  rfl
theorem Dr.app {ds : List D} {z : Int} (h : Dr ds) (hz : 0 ≤ z) : Dr (ds ++ [.int z]) := fun d hd => by
  rcases List.mem_append.mp hd with hd | hd
  · exact h d hd
  · obtain ⟨n, rfl⟩ := Int.eq_ofNat_of_zero_le hz
    exact ⟨n, List.mem_singleton.mp hd⟩
theorem Dr.rev {ds : List D} (h : Dr ds) : Dr ds.reverse := fun d hd => h d (List.mem_reverse.mp hd)
theorem draws_wp {ns : List Int} {many : Int} {Q : RV → List Sl → Prop} {E : Nat → List D → List Sl → Prop} (hl : ns.length ≤ 63) (hb : ∀ z ∈ ns, PySem.Builtin.Int.intBits z ≤ 1048576) (h0 : 0 ≤ many) (h1 : many ≤ 1000)
    (k : ∀ es, Dr es → Q (.ow es) [.sc ns, .va (.int many)]) : (m__law_draws [.sc ns, .va (.int many)]).wp Q E := by
  refine def_wp rfl ?_
  show (b__law_draws [.sc ns, .va (.int many), .no, .no, .no, .no, .no, .no, .no]).wp _
  unfold b__law_draws
  refine seq_wp fun R hR => ?_; simp only [evA]
  refine lc_wp (fun rest acc Γ => Γ = [.sc ns, .va (.int many), .no, .no, .no, .no, .no, .no, .no] ∧ ∃ dn rem : List Int, acc = dn.map D.int ∧ rest = rem.map D.int ∧ dn ++ rem = ns) ⟨rfl, [], ns, rfl, rfl, rfl⟩ ?_ ?_
  · rintro d rest _ _ ⟨rfl, dn, rem, rfl, h, e⟩
    cases rem with
    | nil => cases h
    | cons z rem =>
      cases h
      simp only [evA]
      refine ⟨?_, dn ++ [z], rem, by simp, rfl, by simp [e]⟩
      have : (dn ++ z :: rem).length ≤ 63 := by rw [e]; exact hl
      rw [List.length_append, List.length_cons] at this
      rw [List.length_map]
      show dn.length < 16777216
      omega
  rintro _ _ ⟨rfl, dn, rem, rfl, h, e⟩
  cases rem with
  | cons => cases h
  | nil =>
  rw [List.append_nil] at e
  subst e
  simp only [evA]
  refine hR _ ?_; clear hR R
  -- at least one cell
  refine seq_wp fun R hR => ?_
  have hR : ∀ cs : List Int, cs ≠ [] → cs.length ≤ 63 → (∀ z ∈ cs, PySem.Builtin.Int.intBits z ≤ 1048576) → R [.sc dn, .va (.int many), .ow (cs.map .int), .no, .no, .no, .no, .no, .no] := fun cs c0 c1 c2 => by
    refine hR _ ?_
    clear hR R
    refine seq_wp fun R hR => ?_; simp only [evA]
    refine hR _ ?_; clear hR R
    refine seq_wp fun R hR => ?_; simp only [evA]
    refine hR _ ?_; clear hR R
    refine seq_wp fun R hR => ?_
    simp only [wp_for, wp_rng1, wp_var, List.getElem?_cons_zero, List.getElem?_cons_succ, opt_some]
    refine ⟨by omega, ?_⟩
    have pl : 0 < (cs.length : Int) := by
      cases cs with
      | nil => exact absurd rfl c0
      | cons => simp only [List.length_cons]; omega
    refine loop_wp (fun (rest : List D) Γ => ∃ (rs : List Int) (ds : List D) (s5 s6 s7 : Sl), Γ = [.sc dn, .va (.int many), .ow (cs.map .int), .ow (rs.map .int), .ow ds, s5, s6, s7, .no] ∧ nb s5 = true ∧ nb s6 = true ∧ nb s7 = true ∧ rs.length = cs.length ∧ Dr ds ∧
        (∀ d ∈ rest, ∃ k : Int, d = .int k ∧ 0 ≤ k ∧ k < 1000) ∧ ds.length + rest.length ≤ 1000) ⟨cs, [], _, _, _, rfl, rfl, rfl, rfl, rfl, fun d hd => (nomatch hd), fun d hd => ?_, ?_⟩ ?_ ?_
    · obtain ⟨j, hj, rfl⟩ := List.mem_map.mp hd
      have := List.mem_range.mp hj
      exact ⟨_, rfl, by omega, by omega⟩
    · rw [rngD, List.length_map, List.length_range, List.length_nil]
      omega
    · rintro d rest _ ⟨rs, ds, s5, s6, s7, rfl, n5, n6, n7, hrs, hD, hr, hlen⟩
      obtain ⟨k, rfl, k0, k1⟩ := hr d List.mem_cons_self
      rw [List.length_cons] at hlen
      have hr' : ∀ d ∈ rest, ∃ k : Int, d = .int k ∧ 0 ≤ k ∧ k < 1000 := fun d hd => hr d (List.mem_cons_of_mem _ hd)
      simp (maxSteps := 100000000) only [big, wp_ok, wp_ex, wp_no, wp_bind, wp_sr, swp_nx, swp_rt, swp_bk, swp_ct, swp_ex, swp_no, wp_if, wp_nil, wp_break, wp_cont, wp_drop, wp_ret, wp_retN, wp_raise, wp_set, wp_asg, wp_par, wp_aug, wp_store, wp_call, wp_mte, wp_mtru, wp_tnot, wp_tand, wp_tor, wp_andV, wp_orV, wp_notV, wp_neg, wp_mif, wp_res, wp_bin, wp_binT, wp_cons, wp_mnil, wp_c, wp_var, wp_fn, wp_tup, wp_lst, wp_bits, wp_pop, wp_mut, wp_sl, wp_onone, wp_osome, wp_isi, wp_isi2, wp_chain, wp_seqI, wp_rng1, wp_for, wp_lc, wp_tyes, opt_some, opt_none, add_int, addI_int, sub_int, mul_int, div_int, mod_int, pow_int, eq_int, ne_int, eq_bl, ne_bl, eq_str, ne_str, lt_int, le_int, gt_int, ge_int, is_non, isnot_non, ix_lst, ix_tup, len_lst, len_tup, int_int, abs_int, list_lst, list_tup, tuple_lst, tuple_tup, gcd_int, nb_no, nb_va, nb_ow, nb_sc, stOk_eq, append_one, reverse_nil, peek, peekT, peeks, esc, escs, stV, put, argSl, argsSl, uniqBo, isBo, posBo, wb, wb1_eq, wb2, bor, unb, gN, gT, gsCons, gsNil, finD, wipeG, backG, notHd, Sl.hd, endK, List.getElem?_cons_zero, List.getElem?_cons_succ, List.set_cons_zero, List.set_cons_succ, List.all_cons, List.all_nil, List.any_cons, List.any_nil, List.length_cons, List.length_nil, Nat.reduceAdd, Nat.reduceLeDiff, Nat.reduceBEq, Nat.reduceEqDiff, Bool.false_eq_true, Bool.not_true, Bool.not_false, Bool.and_true, Bool.true_and, Bool.or_false, Bool.and_self, Bool.or_self, Bool.and_false, Bool.false_and, Bool.or_true, Bool.true_or, ↓reduceIte, if_true, if_false, decide_eq_true_eq, decide_true, decide_false, Bool.not_eq_true', decide_eq_false_iff_not, Option.map_some, Option.map_none, Option.bind_some, List.getD_cons_zero, List.getD_cons_succ, List.contains_cons, List.contains_nil, List.elem_cons, List.elem_nil, beq_self_eq_true, Option.getD_some, true_and, and_true, Int.reduceLT, Int.reduceLE, Int.reduceNeg, isi_non_int, isi_non_str, isi_non_bool, isi_non_tuple, isi_non_list, isi_bl_int, isi_bl_str, isi_bl_bool, isi_bl_tuple, isi_bl_list, isi_int_int, isi_int_str, isi_int_bool, isi_int_tuple, isi_int_list, isi_str_int, isi_str_str, isi_str_bool, isi_str_tuple, isi_str_list, isi_tup_int, isi_tup_str, isi_tup_bool, isi_tup_tuple, isi_tup_list, isi_lst_int, isi_lst_str, isi_lst_bool, isi_lst_tuple, isi_lst_list, isN_non, isN_bl, isN_int, isN_str, isN_tup, isN_lst, eq_non, ne_eq, not_true_eq_false, not_false_eq_true, atI_0, atI_1, atI_2, backK_va, backK_ow, isPl_non, isPl_bl, isPl_int, isPl_str, isPl_tup, isPl_lst, backK_owc, nb_owc, Ct.data, n5]
      refine seq_wp fun R hR => ?_; simp only [evA]
      simp only [evA, List.length_map, n6]
      refine ⟨pl, hR _ ?_⟩
      clear hR R
      have a0 : 0 ≤ k % cs.length := Int.emod_nonneg _ (by omega)
      have a1 : k % cs.length < cs.length := Int.emod_lt_of_pos _ pl
      obtain ⟨c, hc, ec⟩ := mapI a0 a1
      obtain ⟨z, hz, ez⟩ := mapI (cs := rs) a0 (by omega)
      simp (maxSteps := 100000000) only [big, wp_ok, wp_ex, wp_no, wp_bind, wp_sr, swp_nx, swp_rt, swp_bk, swp_ct, swp_ex, swp_no, wp_if, wp_nil, wp_break, wp_cont, wp_drop, wp_ret, wp_retN, wp_raise, wp_set, wp_asg, wp_par, wp_aug, wp_store, wp_call, wp_mte, wp_mtru, wp_tnot, wp_tand, wp_tor, wp_andV, wp_orV, wp_notV, wp_neg, wp_mif, wp_res, wp_bin, wp_binT, wp_cons, wp_mnil, wp_c, wp_var, wp_fn, wp_tup, wp_lst, wp_bits, wp_pop, wp_mut, wp_sl, wp_onone, wp_osome, wp_isi, wp_isi2, wp_chain, wp_seqI, wp_rng1, wp_for, wp_lc, wp_tyes, opt_some, opt_none, add_int, addI_int, sub_int, mul_int, div_int, mod_int, pow_int, eq_int, ne_int, eq_bl, ne_bl, eq_str, ne_str, lt_int, le_int, gt_int, ge_int, is_non, isnot_non, ix_lst, ix_tup, len_lst, len_tup, int_int, abs_int, list_lst, list_tup, tuple_lst, tuple_tup, gcd_int, nb_no, nb_va, nb_ow, nb_sc, stOk_eq, append_one, reverse_nil, peek, peekT, peeks, esc, escs, stV, put, argSl, argsSl, uniqBo, isBo, posBo, wb, wb1_eq, wb2, bor, unb, gN, gT, gsCons, gsNil, finD, wipeG, backG, notHd, Sl.hd, endK, List.getElem?_cons_zero, List.getElem?_cons_succ, List.set_cons_zero, List.set_cons_succ, List.all_cons, List.all_nil, List.any_cons, List.any_nil, List.length_cons, List.length_nil, Nat.reduceAdd, Nat.reduceLeDiff, Nat.reduceBEq, Nat.reduceEqDiff, Bool.false_eq_true, Bool.not_true, Bool.not_false, Bool.and_true, Bool.true_and, Bool.or_false, Bool.and_self, Bool.or_self, Bool.and_false, Bool.false_and, Bool.or_true, Bool.true_or, ↓reduceIte, if_true, if_false, decide_eq_true_eq, decide_true, decide_false, Bool.not_eq_true', decide_eq_false_iff_not, Option.map_some, Option.map_none, Option.bind_some, List.getD_cons_zero, List.getD_cons_succ, List.contains_cons, List.contains_nil, List.elem_cons, List.elem_nil, beq_self_eq_true, Option.getD_some, true_and, and_true, Int.reduceLT, Int.reduceLE, Int.reduceNeg, isi_non_int, isi_non_str, isi_non_bool, isi_non_tuple, isi_non_list, isi_bl_int, isi_bl_str, isi_bl_bool, isi_bl_tuple, isi_bl_list, isi_int_int, isi_int_str, isi_int_bool, isi_int_tuple, isi_int_list, isi_str_int, isi_str_str, isi_str_bool, isi_str_tuple, isi_str_list, isi_tup_int, isi_tup_str, isi_tup_bool, isi_tup_tuple, isi_tup_list, isi_lst_int, isi_lst_str, isi_lst_bool, isi_lst_tuple, isi_lst_list, isN_non, isN_bl, isN_int, isN_str, isN_tup, isN_lst, eq_non, ne_eq, not_true_eq_false, not_false_eq_true, atI_0, atI_1, atI_2, backK_va, backK_ow, isPl_non, isPl_bl, isPl_int, isPl_str, isPl_tup, isPl_lst, backK_owc, nb_owc, Ct.data, ec]
      refine ⟨by decide, ?_⟩
      split
      · refine seq_wp fun R hR => ?_; simp only [evA]
        simp only [evA, ez]
        refine ⟨by omega, ?_⟩
        refine hR _ ?_; clear hR R
        simp (maxSteps := 100000000) only [big, wp_ok, wp_ex, wp_no, wp_bind, wp_sr, swp_nx, swp_rt, swp_bk, swp_ct, swp_ex, swp_no, wp_if, wp_nil, wp_break, wp_cont, wp_drop, wp_ret, wp_retN, wp_raise, wp_set, wp_asg, wp_par, wp_aug, wp_store, wp_call, wp_mte, wp_mtru, wp_tnot, wp_tand, wp_tor, wp_andV, wp_orV, wp_notV, wp_neg, wp_mif, wp_res, wp_bin, wp_binT, wp_cons, wp_mnil, wp_c, wp_var, wp_fn, wp_tup, wp_lst, wp_bits, wp_pop, wp_mut, wp_sl, wp_onone, wp_osome, wp_isi, wp_isi2, wp_chain, wp_seqI, wp_rng1, wp_for, wp_lc, wp_tyes, opt_some, opt_none, add_int, addI_int, sub_int, mul_int, div_int, mod_int, pow_int, eq_int, ne_int, eq_bl, ne_bl, eq_str, ne_str, lt_int, le_int, gt_int, ge_int, is_non, isnot_non, ix_lst, ix_tup, len_lst, len_tup, int_int, abs_int, list_lst, list_tup, tuple_lst, tuple_tup, gcd_int, nb_no, nb_va, nb_ow, nb_sc, stOk_eq, append_one, reverse_nil, peek, peekT, peeks, esc, escs, stV, put, argSl, argsSl, uniqBo, isBo, posBo, wb, wb1_eq, wb2, bor, unb, gN, gT, gsCons, gsNil, finD, wipeG, backG, notHd, Sl.hd, endK, List.getElem?_cons_zero, List.getElem?_cons_succ, List.set_cons_zero, List.set_cons_succ, List.all_cons, List.all_nil, List.any_cons, List.any_nil, List.length_cons, List.length_nil, Nat.reduceAdd, Nat.reduceLeDiff, Nat.reduceBEq, Nat.reduceEqDiff, Bool.false_eq_true, Bool.not_true, Bool.not_false, Bool.and_true, Bool.true_and, Bool.or_false, Bool.and_self, Bool.or_self, Bool.and_false, Bool.false_and, Bool.or_true, Bool.true_or, ↓reduceIte, if_true, if_false, decide_eq_true_eq, decide_true, decide_false, Bool.not_eq_true', decide_eq_false_iff_not, Option.map_some, Option.map_none, Option.bind_some, List.getD_cons_zero, List.getD_cons_succ, List.contains_cons, List.contains_nil, List.elem_cons, List.elem_nil, beq_self_eq_true, Option.getD_some, true_and, and_true, Int.reduceLT, Int.reduceLE, Int.reduceNeg, isi_non_int, isi_non_str, isi_non_bool, isi_non_tuple, isi_non_list, isi_bl_int, isi_bl_str, isi_bl_bool, isi_bl_tuple, isi_bl_list, isi_int_int, isi_int_str, isi_int_bool, isi_int_tuple, isi_int_list, isi_str_int, isi_str_str, isi_str_bool, isi_str_tuple, isi_str_list, isi_tup_int, isi_tup_str, isi_tup_bool, isi_tup_tuple, isi_tup_list, isi_lst_int, isi_lst_str, isi_lst_bool, isi_lst_tuple, isi_lst_list, isN_non, isN_bl, isN_int, isN_str, isN_tup, isN_lst, eq_non, ne_eq, not_true_eq_false, not_false_eq_true, atI_0, atI_1, atI_2, backK_va, backK_ow, isPl_non, isPl_bl, isPl_int, isPl_str, isPl_tup, isPl_lst, backK_owc, nb_owc, Ct.data, ez]
        refine ⟨nopy (by decide), ?_⟩
        rw [ixN_of a0 (by rw [List.length_map]; omega)]
        simp only [← List.map_set]
        exact ⟨_, _, _, _, _, rfl, rfl, rfl, n7, by rw [List.length_set]; exact hrs, hD.app (Int.emod_nonneg _ (by decide)), hr', by rw [List.length_append]; simp only [List.length_cons, List.length_nil]; omega⟩
      · refine seq_wp fun R hR => ?_; simp only [evA]
        simp only [evA, ec, n7]
        have b1 := c2 c hc
        have b2 := bits_lt (z := k) (m := 10) (by omega) (by omega)
        have e1 : PySem.Builtin.Int.intBits 48271 = 16 := by decide
        have e2 : PySem.Builtin.Int.intBits 69621 = 17 := by decide
        refine ⟨by omega, by omega, ?_⟩
        refine hR _ ?_; clear hR R
        generalize hm : (c * 48271 + k * 69621 + 11) % 2147483647 = mx
        have m0 : 0 ≤ mx := by omega
        have m1 : mx < 2147483647 := by omega
        have b3 := bits_lt (z := mx) (m := 31) (by omega) (by omega)
        have e3 : PySem.Builtin.Int.intBits 3 = 2 := by decide
        simp only [evA]
        refine ⟨by omega, by omega, by omega, ?_⟩
        exact ⟨_, _, _, _, _, rfl, rfl, rfl, rfl, hrs, hD.app (Int.emod_nonneg _ (by decide)), hr', by rw [List.length_append]; simp only [List.length_cons, List.length_nil]; omega⟩
    · rintro _ ⟨rs, ds, s5, s6, s7, rfl, n5, n6, n7, hrs, hD, hr, hlen⟩
      simp only [evA]
      refine hR _ ?_
      clear hR R
      refine seq_wp fun R hR => ?_; simp only [evA]
      refine hR _ ?_; clear hR R
      simp only [evA]
      exact k _ hD.rev
  simp (maxSteps := 100000000) only [big, wp_ok, wp_ex, wp_no, wp_bind, wp_sr, swp_nx, swp_rt, swp_bk, swp_ct, swp_ex, swp_no, wp_if, wp_nil, wp_break, wp_cont, wp_drop, wp_ret, wp_retN, wp_raise, wp_set, wp_asg, wp_par, wp_aug, wp_store, wp_call, wp_mte, wp_mtru, wp_tnot, wp_tand, wp_tor, wp_andV, wp_orV, wp_notV, wp_neg, wp_mif, wp_res, wp_bin, wp_binT, wp_cons, wp_mnil, wp_c, wp_var, wp_fn, wp_tup, wp_lst, wp_bits, wp_pop, wp_mut, wp_sl, wp_onone, wp_osome, wp_isi, wp_isi2, wp_chain, wp_seqI, wp_rng1, wp_for, wp_lc, wp_tyes, opt_some, opt_none, add_int, addI_int, sub_int, mul_int, div_int, mod_int, pow_int, eq_int, ne_int, eq_bl, ne_bl, eq_str, ne_str, lt_int, le_int, gt_int, ge_int, is_non, isnot_non, ix_lst, ix_tup, len_lst, len_tup, int_int, abs_int, list_lst, list_tup, tuple_lst, tuple_tup, gcd_int, nb_no, nb_va, nb_ow, nb_sc, stOk_eq, append_one, reverse_nil, peek, peekT, peeks, esc, escs, stV, put, argSl, argsSl, uniqBo, isBo, posBo, wb, wb1_eq, wb2, bor, unb, gN, gT, gsCons, gsNil, finD, wipeG, backG, notHd, Sl.hd, endK, List.getElem?_cons_zero, List.getElem?_cons_succ, List.set_cons_zero, List.set_cons_succ, List.all_cons, List.all_nil, List.any_cons, List.any_nil, List.length_cons, List.length_nil, Nat.reduceAdd, Nat.reduceLeDiff, Nat.reduceBEq, Nat.reduceEqDiff, Bool.false_eq_true, Bool.not_true, Bool.not_false, Bool.and_true, Bool.true_and, Bool.or_false, Bool.and_self, Bool.or_self, Bool.and_false, Bool.false_and, Bool.or_true, Bool.true_or, ↓reduceIte, if_true, if_false, decide_eq_true_eq, decide_true, decide_false, Bool.not_eq_true', decide_eq_false_iff_not, Option.map_some, Option.map_none, Option.bind_some, List.getD_cons_zero, List.getD_cons_succ, List.contains_cons, List.contains_nil, List.elem_cons, List.elem_nil, beq_self_eq_true, Option.getD_some, true_and, and_true, Int.reduceLT, Int.reduceLE, Int.reduceNeg, isi_non_int, isi_non_str, isi_non_bool, isi_non_tuple, isi_non_list, isi_bl_int, isi_bl_str, isi_bl_bool, isi_bl_tuple, isi_bl_list, isi_int_int, isi_int_str, isi_int_bool, isi_int_tuple, isi_int_list, isi_str_int, isi_str_str, isi_str_bool, isi_str_tuple, isi_str_list, isi_tup_int, isi_tup_str, isi_tup_bool, isi_tup_tuple, isi_tup_list, isi_lst_int, isi_lst_str, isi_lst_bool, isi_lst_tuple, isi_lst_list, isN_non, isN_bl, isN_int, isN_str, isN_tup, isN_lst, eq_non, ne_eq, not_true_eq_false, not_false_eq_true, atI_0, atI_1, atI_2, backK_va, backK_ow, isPl_non, isPl_bl, isPl_int, isPl_str, isPl_tup, isPl_lst, backK_owc, nb_owc, Ct.data, List.length_map]
  split
  · rename_i hz
    have : dn = [] := by
      cases dn with
      | nil => rfl
      | cons => simp only [List.length_cons] at hz; omega
    subst this
    simp only [List.map_nil, List.length_nil, List.nil_append]
    exact ⟨by decide, hR [0] (by simp) (by decide) fun z hz => by simp only [List.mem_singleton] at hz; subst hz; decide⟩
  · rename_i hz
    exact hR dn (fun z => hz (by rw [z]; rfl)) hl hb
/-! ### _law_same of a thing and itself -/
mutual
/-- plain data: depth at most n, few items -/
def pl : Nat → D → Bool
  | n, .tup xs => match n with
    | 0 => false
    | n + 1 => decide (xs.length ≤ 1000000) && pls n xs
  | n, .lst xs => match n with
    | 0 => false
    | n + 1 => decide (xs.length ≤ 1000000) && pls n xs
  | _, .dic _ => false
  | _, .set _ => false
  | _, _ => true
def pls : Nat → List D → Bool
  | _, [] => true
  | n, d :: ds => pl n d && pls n ds
end
theorem pls_mem {n : Nat} : ∀ {ds : List D} {d : D}, pls n ds = true → d ∈ ds → pl n d = true
  | x :: ds, d, h, m => by
    simp only [pls, Bool.and_eq_true] at h
    rcases List.mem_cons.mp m with m | m
    · rw [m]; exact h.1
    · exact pls_mem h.2 m
theorem gds_bl : ∀ {acc : List D}, (∀ x ∈ acc, x = .bl true) → gds 60 acc = true
  | [], _ => rfl
  | x :: acc, h => by
    have e := h x List.mem_cons_self
    subst e
    simp only [gds, Bool.and_eq_true]
    exact ⟨rfl, gds_bl fun y hy => h y (List.mem_cons_of_mem _ hy)⟩
theorem any_bl : ∀ {acc : List D}, (∀ x ∈ acc, x = .bl true) → (acc.any fun z => eqD z (.bl false)) = false
  | [], _ => rfl
  | x :: acc, h => by
    have e := h x List.mem_cons_self
    subst e
    rw [List.any_cons, any_bl fun y hy => h y (List.mem_cons_of_mem _ hy)]
    rfl
theorem same_refl : ∀ (n : Nat) (d : D), pl n d = true → ∀ (Q : RV → List Sl → Prop) (E : Nat → List D → List Sl → Prop), Q (.va (.bl true)) [.va d, .va d] → (m__law_same (n + 1) [.va d, .va d]).wp Q E
  | n, .tup ds, h, Q, E, k => by
    cases n with
    | zero => cases h
    | succ m =>
    refine def_wp rfl ?_
    refine (show (b__law_same (m__law_same (m + 1)) [.va (.tup ds), .va (.tup ds), .no]).wp _ from ?_)
    change (decide (ds.length ≤ 1000000) && pls m ds) = true at h
    have hlen : ds.length ≤ 1000000 := of_decide_eq_true (Bool.and_eq_true _ _ ▸ h).1
    have hpl : pls m ds = true := (Bool.and_eq_true _ _ ▸ h).2
    unfold b__law_same
    refine seq_wp fun R hR => ?_
    clear hR
    simp only [evA]
    refine seq_wp fun R hR => ?_; simp only [evA]
    refine hR _ ?_; clear hR R
    refine seq_wp fun R hR => ?_; simp only [evA]
    refine hR _ ?_; clear hR R
    simp only [evA]
    refine ⟨by omega, ?_⟩
    refine lc_wp (fun rest acc Γ => Γ = [.va _, .va _, .no] ∧ (∀ x ∈ acc, x = D.bl true) ∧ (∀ d ∈ rest, ∃ k : Int, d = .int k ∧ 0 ≤ k ∧ k < ds.length) ∧ acc.length + rest.length ≤ 1000000) ⟨rfl, fun x hx => (nomatch hx), fun d hd => ?_, ?_⟩ ?_ ?_
    · obtain ⟨j, hj, rfl⟩ := List.mem_map.mp hd
      have := List.mem_range.mp hj
      exact ⟨_, rfl, by omega, by omega⟩
    · rw [rngD, List.length_map, List.length_range, List.length_nil]
      omega
    · rintro d rest acc _ ⟨rfl, ha, hr, hl⟩
      obtain ⟨j, rfl, j0, j1⟩ := hr d List.mem_cons_self
      obtain ⟨x, ex, hx⟩ := atI_of j0 j1
      simp (maxSteps := 100000000) only [big, wp_ok, wp_ex, wp_no, wp_bind, wp_sr, swp_nx, swp_rt, swp_bk, swp_ct, swp_ex, swp_no, wp_if, wp_nil, wp_break, wp_cont, wp_drop, wp_ret, wp_retN, wp_raise, wp_set, wp_asg, wp_par, wp_aug, wp_store, wp_call, wp_mte, wp_mtru, wp_tnot, wp_tand, wp_tor, wp_andV, wp_orV, wp_notV, wp_neg, wp_mif, wp_res, wp_bin, wp_binT, wp_cons, wp_mnil, wp_c, wp_var, wp_fn, wp_tup, wp_lst, wp_bits, wp_pop, wp_mut, wp_sl, wp_onone, wp_osome, wp_isi, wp_isi2, wp_chain, wp_seqI, wp_rng1, wp_for, wp_lc, wp_tyes, opt_some, opt_none, add_int, addI_int, sub_int, mul_int, div_int, mod_int, pow_int, eq_int, ne_int, eq_bl, ne_bl, eq_str, ne_str, lt_int, le_int, gt_int, ge_int, is_non, isnot_non, ix_lst, ix_tup, len_lst, len_tup, int_int, abs_int, list_lst, list_tup, tuple_lst, tuple_tup, gcd_int, nb_no, nb_va, nb_ow, nb_sc, stOk_eq, append_one, reverse_nil, peek, peekT, peeks, esc, escs, stV, put, argSl, argsSl, uniqBo, isBo, posBo, wb, wb1_eq, wb2, bor, unb, gN, gT, gsCons, gsNil, finD, wipeG, backG, notHd, Sl.hd, endK, List.getElem?_cons_zero, List.getElem?_cons_succ, List.set_cons_zero, List.set_cons_succ, List.all_cons, List.all_nil, List.any_cons, List.any_nil, List.length_cons, List.length_nil, Nat.reduceAdd, Nat.reduceLeDiff, Nat.reduceBEq, Nat.reduceEqDiff, Bool.false_eq_true, Bool.not_true, Bool.not_false, Bool.and_true, Bool.true_and, Bool.or_false, Bool.and_self, Bool.or_self, Bool.and_false, Bool.false_and, Bool.or_true, Bool.true_or, ↓reduceIte, if_true, if_false, decide_eq_true_eq, decide_true, decide_false, Bool.not_eq_true', decide_eq_false_iff_not, Option.map_some, Option.map_none, Option.bind_some, List.getD_cons_zero, List.getD_cons_succ, List.contains_cons, List.contains_nil, List.elem_cons, List.elem_nil, beq_self_eq_true, Option.getD_some, true_and, and_true, Int.reduceLT, Int.reduceLE, Int.reduceNeg, isi_non_int, isi_non_str, isi_non_bool, isi_non_tuple, isi_non_list, isi_bl_int, isi_bl_str, isi_bl_bool, isi_bl_tuple, isi_bl_list, isi_int_int, isi_int_str, isi_int_bool, isi_int_tuple, isi_int_list, isi_str_int, isi_str_str, isi_str_bool, isi_str_tuple, isi_str_list, isi_tup_int, isi_tup_str, isi_tup_bool, isi_tup_tuple, isi_tup_list, isi_lst_int, isi_lst_str, isi_lst_bool, isi_lst_tuple, isi_lst_list, isN_non, isN_bl, isN_int, isN_str, isN_tup, isN_lst, eq_non, ne_eq, not_true_eq_false, not_false_eq_true, atI_0, atI_1, atI_2, backK_va, backK_ow, isPl_non, isPl_bl, isPl_int, isPl_str, isPl_tup, isPl_lst, backK_owc, nb_owc, Ct.data, ex]
      refine same_refl m x (pls_mem hpl hx) _ _ ?_
      simp only [evA]
      rw [List.length_cons] at hl
      refine ⟨by omega, fun y hy => ?_, fun d hd => hr d (List.mem_cons_of_mem _ hd), by rw [List.length_append, List.length_cons, List.length_nil]; omega⟩
      rcases List.mem_append.mp hy with hy | hy
      · exact ha y hy
      · exact List.mem_singleton.mp hy
    · rintro acc _ ⟨rfl, ha, _, _⟩
      simp only [evA]
      rw [notin_lst rfl (gds_bl ha), any_bl ha]
      simp only [evA]
      exact k
  | n, .lst ds, h, Q, E, k => by
    cases n with
    | zero => cases h
    | succ m =>
    refine def_wp rfl ?_
    refine (show (b__law_same (m__law_same (m + 1)) [.va (.lst ds), .va (.lst ds), .no]).wp _ from ?_)
    change (decide (ds.length ≤ 1000000) && pls m ds) = true at h
    have hlen : ds.length ≤ 1000000 := of_decide_eq_true (Bool.and_eq_true _ _ ▸ h).1
    have hpl : pls m ds = true := (Bool.and_eq_true _ _ ▸ h).2
    unfold b__law_same
    refine seq_wp fun R hR => ?_
    clear hR
    simp only [evA]
    refine seq_wp fun R hR => ?_; simp only [evA]
    refine hR _ ?_; clear hR R
    refine seq_wp fun R hR => ?_; simp only [evA]
    refine hR _ ?_; clear hR R
    simp only [evA]
    refine ⟨by omega, ?_⟩
    refine lc_wp (fun rest acc Γ => Γ = [.va _, .va _, .no] ∧ (∀ x ∈ acc, x = D.bl true) ∧ (∀ d ∈ rest, ∃ k : Int, d = .int k ∧ 0 ≤ k ∧ k < ds.length) ∧ acc.length + rest.length ≤ 1000000) ⟨rfl, fun x hx => (nomatch hx), fun d hd => ?_, ?_⟩ ?_ ?_
    · obtain ⟨j, hj, rfl⟩ := List.mem_map.mp hd
      have := List.mem_range.mp hj
      exact ⟨_, rfl, by omega, by omega⟩
    · rw [rngD, List.length_map, List.length_range, List.length_nil]
      omega
    · rintro d rest acc _ ⟨rfl, ha, hr, hl⟩
      obtain ⟨j, rfl, j0, j1⟩ := hr d List.mem_cons_self
      obtain ⟨x, ex, hx⟩ := atI_of j0 j1
      simp (maxSteps := 100000000) only [big, wp_ok, wp_ex, wp_no, wp_bind, wp_sr, swp_nx, swp_rt, swp_bk, swp_ct, swp_ex, swp_no, wp_if, wp_nil, wp_break, wp_cont, wp_drop, wp_ret, wp_retN, wp_raise, wp_set, wp_asg, wp_par, wp_aug, wp_store, wp_call, wp_mte, wp_mtru, wp_tnot, wp_tand, wp_tor, wp_andV, wp_orV, wp_notV, wp_neg, wp_mif, wp_res, wp_bin, wp_binT, wp_cons, wp_mnil, wp_c, wp_var, wp_fn, wp_tup, wp_lst, wp_bits, wp_pop, wp_mut, wp_sl, wp_onone, wp_osome, wp_isi, wp_isi2, wp_chain, wp_seqI, wp_rng1, wp_for, wp_lc, wp_tyes, opt_some, opt_none, add_int, addI_int, sub_int, mul_int, div_int, mod_int, pow_int, eq_int, ne_int, eq_bl, ne_bl, eq_str, ne_str, lt_int, le_int, gt_int, ge_int, is_non, isnot_non, ix_lst, ix_tup, len_lst, len_tup, int_int, abs_int, list_lst, list_tup, tuple_lst, tuple_tup, gcd_int, nb_no, nb_va, nb_ow, nb_sc, stOk_eq, append_one, reverse_nil, peek, peekT, peeks, esc, escs, stV, put, argSl, argsSl, uniqBo, isBo, posBo, wb, wb1_eq, wb2, bor, unb, gN, gT, gsCons, gsNil, finD, wipeG, backG, notHd, Sl.hd, endK, List.getElem?_cons_zero, List.getElem?_cons_succ, List.set_cons_zero, List.set_cons_succ, List.all_cons, List.all_nil, List.any_cons, List.any_nil, List.length_cons, List.length_nil, Nat.reduceAdd, Nat.reduceLeDiff, Nat.reduceBEq, Nat.reduceEqDiff, Bool.false_eq_true, Bool.not_true, Bool.not_false, Bool.and_true, Bool.true_and, Bool.or_false, Bool.and_self, Bool.or_self, Bool.and_false, Bool.false_and, Bool.or_true, Bool.true_or, ↓reduceIte, if_true, if_false, decide_eq_true_eq, decide_true, decide_false, Bool.not_eq_true', decide_eq_false_iff_not, Option.map_some, Option.map_none, Option.bind_some, List.getD_cons_zero, List.getD_cons_succ, List.contains_cons, List.contains_nil, List.elem_cons, List.elem_nil, beq_self_eq_true, Option.getD_some, true_and, and_true, Int.reduceLT, Int.reduceLE, Int.reduceNeg, isi_non_int, isi_non_str, isi_non_bool, isi_non_tuple, isi_non_list, isi_bl_int, isi_bl_str, isi_bl_bool, isi_bl_tuple, isi_bl_list, isi_int_int, isi_int_str, isi_int_bool, isi_int_tuple, isi_int_list, isi_str_int, isi_str_str, isi_str_bool, isi_str_tuple, isi_str_list, isi_tup_int, isi_tup_str, isi_tup_bool, isi_tup_tuple, isi_tup_list, isi_lst_int, isi_lst_str, isi_lst_bool, isi_lst_tuple, isi_lst_list, isN_non, isN_bl, isN_int, isN_str, isN_tup, isN_lst, eq_non, ne_eq, not_true_eq_false, not_false_eq_true, atI_0, atI_1, atI_2, backK_va, backK_ow, isPl_non, isPl_bl, isPl_int, isPl_str, isPl_tup, isPl_lst, backK_owc, nb_owc, Ct.data, ex]
      refine same_refl m x (pls_mem hpl hx) _ _ ?_
      simp only [evA]
      rw [List.length_cons] at hl
      refine ⟨by omega, fun y hy => ?_, fun d hd => hr d (List.mem_cons_of_mem _ hd), by rw [List.length_append, List.length_cons, List.length_nil]; omega⟩
      rcases List.mem_append.mp hy with hy | hy
      · exact ha y hy
      · exact List.mem_singleton.mp hy
    · rintro acc _ ⟨rfl, ha, _, _⟩
      simp only [evA]
      rw [notin_lst rfl (gds_bl ha), any_bl ha]
      simp only [evA]
      exact k
  | n, .int i, h, Q, E, k => by
    refine def_wp rfl ?_
    refine (show (b__law_same (m__law_same n) [.va (.int i), .va (.int i), .no]).wp _ from ?_)
    unfold b__law_same
    refine seq_wp fun R hR => ?_; simp only [evA]
    refine hR _ ?_; clear hR R
    refine seq_wp fun R hR => ?_; simp only [evA]
    refine hR _ ?_; clear hR R
    refine seq_wp fun R hR => ?_; simp only [evA]
    refine hR _ ?_; clear hR R
    simp only [evA]
    exact k
  | n, .non, h, Q, E, k => by
    refine def_wp rfl ?_
    refine (show (b__law_same (m__law_same n) [.va .non, .va .non, .no]).wp _ from ?_)
    unfold b__law_same
    refine seq_wp fun R hR => ?_; simp only [evA]
    refine hR _ ?_; clear hR R
    refine seq_wp fun R hR => ?_; simp only [evA]
    refine hR _ ?_; clear hR R
    refine seq_wp fun R hR => ?_; simp only [evA]
    refine hR _ ?_; clear hR R
    simp only [evA]
    exact k
  | n, .bl b, h, Q, E, k => by
    refine def_wp rfl ?_
    refine (show (b__law_same (m__law_same n) [.va (.bl b), .va (.bl b), .no]).wp _ from ?_)
    unfold b__law_same
    refine seq_wp fun R hR => ?_; simp only [evA]
    refine hR _ ?_; clear hR R
    refine seq_wp fun R hR => ?_; simp only [evA]
    refine hR _ ?_; clear hR R
    refine seq_wp fun R hR => ?_; simp only [evA]
    refine hR _ ?_; clear hR R
    simp only [evA]
    exact k
  | n, .str x, h, Q, E, k => by
    refine def_wp rfl ?_
    refine (show (b__law_same (m__law_same n) [.va (.str x), .va (.str x), .no]).wp _ from ?_)
    unfold b__law_same
    refine seq_wp fun R hR => ?_; simp only [evA]
    refine hR _ ?_; clear hR R
    refine seq_wp fun R hR => ?_; simp only [evA]
    refine hR _ ?_; clear hR R
    refine seq_wp fun R hR => ?_; simp only [evA]
    refine hR _ ?_; clear hR R
    simp only [evA]
    exact k
  | n, .dic x, h, Q, E, k => by simp [pl] at h
  | n, .set x, h, Q, E, k => by simp [pl] at h
termination_by n => n
theorem wp_eq {α : Type} {x : Rs α} {a : α} {Γ : List Sl} (h : x.wp (fun b Δ => b = a ∧ Δ = Γ) (fun _ _ _ => False)) : x = .ok a Γ := by
  cases x with
  | ok b Δ => obtain ⟨rfl, rfl⟩ := h; rfl
  | ex => exact h.elim
  | no => exact h.elim
theorem same_eq {d : D} (h : pl 11 d = true) : m__law_same 12 [.va d, .va d] = .ok (.va (.bl true)) [.va d, .va d] := wp_eq (same_refl 11 d h _ _ ⟨rfl, rfl⟩)
theorem pick_wp {ds row : List D} {Q : RV → List Sl → Prop} {E : Nat → List D → List Sl → Prop} (hD : Dr ds) (hr : row ≠ [])
    (k : ∀ (d : D) (es : List D), d ∈ row → Dr es → Q (.va d) [.ow es, .ow row]) : (m__law_pick [.ow ds, .ow row]).wp Q E := by
  refine def_wp rfl ?_
  show (b__law_pick [.ow ds, .ow row]).wp _
  unfold b__law_pick
  simp only [evA]
  have hl : 0 < (row.length : Int) := by
    cases row with
    | nil => exact absurd rfl hr
    | cons => simp only [List.length_cons]; omega
  refine take_wp hD hl fun r es r0 r1 hE => ?_
  simp only [evA]
  obtain ⟨d, ed, hd⟩ := atI_of r0 r1
  rw [ed]
  simp only [evA]
  exact k d es hd hE
/-- a letter, a word -/
def lt1 (c : Nat) : Bool := decide (97 ≤ c) && decide (c ≤ 122)
def isw (x : List Nat) : Bool := !x.isEmpty && x.all lt1
theorem mem_abc {c : Nat} : decide (c ∈ ([97, 98, 99, 100, 101, 102, 103, 104, 105, 106, 107, 108, 109, 110, 111, 112, 113, 114, 115, 116, 117, 118, 119, 120, 121, 122] : List Nat)) = lt1 c := by
  unfold lt1
  rw [Bool.eq_iff_iff]
  simp only [decide_eq_true_eq, Bool.and_eq_true, List.mem_cons, List.not_mem_nil, or_false]
  omega
/-- a value: an integer or a text -/
def Vl (d : D) : Prop := (∃ i, d = .int i) ∨ ∃ x : List Nat, d = .str x ∧ x.length ≤ 1000
def isv : D → Bool
  | .int _ => true
  | .str x => isw x
  | _ => false
/-- a word of at most L letters -/
def Wd (L : Nat) (d : D) : Prop := ∃ x : List Nat, d = .str x ∧ isw x = true ∧ x.length ≤ L
theorem Wd.mono {L M : Nat} {d : D} (h : Wd L d) (hm : L ≤ M) : Wd M d := by obtain ⟨x, e, w, l⟩ := h; exact ⟨x, e, w, Nat.le_trans l hm⟩
theorem isw_gd {x : List Nat} (h : isw x = true) : gd 60 (.str x) = true := by
  unfold isw at h
  simp only [Bool.and_eq_true, List.all_eq_true] at h
  simp only [gd, List.all_eq_true, decide_eq_true_eq]
  intro c hc
  have := h.2 c hc
  unfold lt1 at this
  simp only [Bool.and_eq_true, decide_eq_true_eq] at this
  omega
theorem wds_gd {L : Nat} : ∀ {ws : List D}, (∀ d ∈ ws, Wd L d) → gds 60 ws = true
  | [], _ => rfl
  | d :: ws, h => by
    obtain ⟨x, rfl, w, _⟩ := h d List.mem_cons_self
    simp only [gds, Bool.and_eq_true]
    exact ⟨isw_gd w, wds_gd fun e he => h e (List.mem_cons_of_mem _ he)⟩
theorem in_lst {d : D} {ds : List D} {Q : RV → Prop} (h : gd 60 d = true) (h2 : gds 60 ds = true) : (fIn d (.lst ds)).wp Q = Q (.va (.bl (ds.any fun z => eqD z d))) := by
  cases d <;> (unfold fIn; simp [h, h2, FR.wp])
theorem wp_join {S : List Nat} {mb : EM} {Γ : List Sl} {Q : RV → List Sl → Prop} {E : Nat → List D → List Sl → Prop} : (mJoin S mb Γ).wp Q E = (mb Γ).wp (fun r Γ1 => opt (peek Γ1 r) fun d => (fJoin S d).wp fun r => Q r Γ1) E := by
  unfold mJoin; rw [wp_bind]; congr 1; funext r Γ1
  cases peek Γ1 r with
  | none => rfl
  | some d => exact wp_res
theorem strs_map (xs : List (List Nat)) : strs? (xs.map D.str) = some xs := by
  induction xs with
  | nil => rfl
  | cons x xs ih => simp only [List.map_cons, strs?, ih, Option.map_some]
theorem join_nil (xs : List (List Nat)) : joinD [] xs = xs.flatten := by
  induction xs with
  | nil => rfl
  | cons x xs ih => cases xs with
    | nil => simp [joinD]
    | cons y ys => simp only [joinD, List.nil_append, ih, List.flatten_cons]
theorem join_signs {cs : List Nat} {Q : RV → Prop} (h : cs.length ≤ 1000) : (fJoin [] (.lst (cs.map fun c => D.str [c]))).wp Q = Q (.va (.str cs)) := by
  have e : cs.map (fun c => D.str [c]) = (cs.map fun c => [c]).map D.str := by rw [List.map_map]; rfl
  rw [e]
  unfold fJoin
  simp only [strs_map]
  have e2 : joinD [] (cs.map fun c => [c]) = cs := by
    rw [join_nil]
    induction cs with
    | nil => rfl
    | cons c cs ih => simp only [List.map_cons, List.flatten_cons]; rw [ih (by rw [List.length_cons] at h; omega) (by rw [List.map_map]; rfl)]; rfl
  have e3 : ((cs.map fun c => [c]).map (·.length)).sum = cs.length := by
    clear e e2 h
    induction cs with
    | nil => rfl
    | cons c cs ih => simp only [List.map_cons, List.sum_cons, ih, List.length_cons, List.length_nil]; omega
  rw [e2, e3, if_pos (by simp; omega)]
  rfl
theorem ix_str {x : List Nat} {i : Int} {Q : RV → Prop} (h : x.length ≤ 16777216) : (fIx (.str x) (.int i)).wp Q = opt (L2.atI x i) fun c => Q (.va (.str [c])) := by
  show (if x.length ≤ 16777216 then (match L2.atI x i with | some c => FR.va (.str [c]) | none => FR.no) else FR.no).wp Q = _
  rw [if_pos h]
  cases L2.atI x i <;> rfl
theorem abc_at {i : Int} (h0 : 0 ≤ i) (h1 : i < 26) : ∃ c, L2.atI ([97, 98, 99, 100, 101, 102, 103, 104, 105, 106, 107, 108, 109, 110, 111, 112, 113, 114, 115, 116, 117, 118, 119, 120, 121, 122] : List Nat) i = some c ∧ lt1 c = true := by
  obtain ⟨c, e, h⟩ := atI_of (l := ([97, 98, 99, 100, 101, 102, 103, 104, 105, 106, 107, 108, 109, 110, 111, 112, 113, 114, 115, 116, 117, 118, 119, 120, 121, 122] : List Nat)) h0 (by simpa using h1)
  exact ⟨c, e, by rw [← mem_abc]; exact decide_eq_true h⟩
theorem isw_of {x : List Nat} (h : x ≠ []) (h2 : ∀ c ∈ x, lt1 c = true) : isw x = true := by
  unfold isw
  simp only [Bool.and_eq_true, List.all_eq_true]
  exact ⟨by cases x with | nil => exact absurd rfl h | cons => rfl, h2⟩
theorem isw_all {x : List Nat} (h : isw x = true) : x ≠ [] ∧ ∀ c ∈ x, lt1 c = true := by
  unfold isw at h
  simp only [Bool.and_eq_true, List.all_eq_true] at h
  exact ⟨fun z => by rw [z] at h; simp at h, h.2⟩
theorem pick2_wp {ds row : List D} {Q : RV → List Sl → Prop} {E : Nat → List D → List Sl → Prop} (hD : Dr ds) (hr : row ≠ [])
    (k : ∀ (d : D) (es : List D), d ∈ row → Dr es → Q (.va d) [.ow es, .va (.lst row)]) : (m__law_pick [.ow ds, .va (.lst row)]).wp Q E := by
  refine def_wp rfl ?_
  show (b__law_pick [.ow ds, .va (.lst row)]).wp _
  unfold b__law_pick
  simp only [evA]
  have hl : 0 < (row.length : Int) := by
    cases row with
    | nil => exact absurd rfl hr
    | cons => simp only [List.length_cons]; omega
  refine take_wp hD hl fun r es r0 r1 hE => ?_
  simp only [evA]
  obtain ⟨d, ed, hd⟩ := atI_of r0 r1
  rw [ed]
  simp only [evA]
  exact k d es hd hE
theorem sl_str {x : List Nat} {lo hi : Option Int} {Q : RV → Prop} (h : x.length ≤ 16777216) : (fSl (.str x) lo hi).wp Q = Q (.va (.str (cut x lo hi))) := by
  show (if x.length ≤ 16777216 then FR.va (.str (cut x lo hi)) else FR.no).wp Q = _
  rw [if_pos h]
  rfl
theorem int_bl {b : Bool} {Q : RV → Prop} : (fInt [.bl b]).wp Q = Q (.va (.int (if b then 1 else 0))) := rfl
/-- a table: its name and the number of its columns -/
def Tb (d : D) : Prop := ∃ (x : List Nat) (c : Int), d = .tup [.str x, .int c]
def tbl : D → List Nat × Int
  | .tup [.str x, .int c] => (x, c)
  | _ => ([], 0)
/-- a table of a schema -/
def Tw (d : D) : Prop := ∃ (x : List Nat) (c : Int), d = .tup [.str x, .int c] ∧ isw x = true ∧ x.length ≤ 200 ∧ 0 ≤ c ∧ c ≤ 8
theorem Tw.tb {d : D} (h : Tw d) : Tb d := by obtain ⟨x, c, e, _⟩ := h; exact ⟨x, c, e⟩
theorem wds_strs {L : Nat} : ∀ {ws : List D}, (∀ w ∈ ws, Wd L w) → ∃ xs : List (List Nat), ws = xs.map D.str ∧ ∀ x ∈ xs, isw x = true ∧ x.length ≤ L
  | [], _ => ⟨[], rfl, fun x hx => (nomatch hx)⟩
  | w :: ws, h => by
    obtain ⟨x, rfl, wx, lx⟩ := h w List.mem_cons_self
    obtain ⟨xs, rfl, hx⟩ := wds_strs fun v hv => h v (List.mem_cons_of_mem _ hv)
    refine ⟨x :: xs, rfl, fun y hy => ?_⟩
    rcases List.mem_cons.mp hy with rfl | hy
    · exact ⟨wx, lx⟩
    · exact hx y hy
theorem cut_mem {α : Type} {xs : List α} {lo hi : Option Int} {x : α} (h : x ∈ cut xs lo hi) : x ∈ xs := List.mem_of_mem_drop (List.mem_of_mem_take h)
theorem sl_lst {ds : List D} {lo hi : Option Int} {Q : RV → Prop} : (fSl (.lst ds) lo hi).wp Q = Q (.ow (cut ds lo hi)) := rfl
/-! ### the drawn world of the texts -/
theorem join_words {xs : List (List Nat)} {Q : RV → Prop} (h : xs.flatten.length ≤ 1000000) : (fJoin [] (.lst (xs.map D.str))).wp Q = Q (.va (.str xs.flatten)) := by
  unfold fJoin
  simp only [strs_map]
  rw [join_nil, if_pos (by rw [List.length_nil, Nat.mul_zero, ← List.length_flatten]; omega)]
  rfl
theorem isw_flat {xs : List (List Nat)} (h : ∀ x ∈ xs, isw x = true) : isw (xs.flatten ++ [122]) = true := isw_of (by simp) fun c hc => by
  rcases List.mem_append.mp hc with hc | hc
  · obtain ⟨x, hx, hc⟩ := List.mem_flatten.mp hc
    exact (isw_all (h x hx)).2 c hc
  · rw [List.mem_singleton.mp hc]; decide
theorem rng_len {n : Nat} : (rngD 0 n).length = n := by simp [rngD]
theorem pool_wp {ds : List D} {many : Int} {Q : RV → List Sl → Prop} {E : Nat → List D → List Sl → Prop} (hD : Dr ds) (m0 : 0 ≤ many) (m1 : many ≤ 7)
    (k : ∀ (ws es : List D), (∀ w ∈ ws, Wd 200 w) → (ws.length : Int) = many → Dr es → Q (.ow ws) [.ow es, .va (.int many)]) : (m__law_pool [.ow ds, .va (.int many)]).wp Q E := by
  refine def_wp rfl ?_
  show (b__law_pool [.ow ds, .va (.int many), .no, .no, .no, .no, .no]).wp _
  unfold b__law_pool
  refine seq_wp fun R hR => ?_; simp only [evA]
  refine hR _ ?_; clear hR R
  refine seq_wp fun R hR => ?_
  simp only [evA]
  refine ⟨by omega, ?_⟩
  refine loop_wp (fun (rest : List D) Γ => ∃ (ds : List D) (xs : List (List Nat)) (s3 s4 s5 : Sl), Γ = [.ow ds, .va (.int many), .ow (xs.map D.str), s3, s4, s5, .no] ∧ nb s3 = true ∧ nb s4 = true ∧ nb s5 = true ∧ Dr ds ∧ (∀ x ∈ xs, isw x = true ∧ x.length ≤ 200) ∧ xs.flatten.length + 3 ≤ 3 * 2 ^ xs.length ∧ ((xs.length + rest.length : Nat) : Int) = many)
    ⟨ds, [], _, _, _, rfl, rfl, rfl, rfl, hD, fun x hx => (nomatch hx), by decide, by simp [rngD]; omega⟩ ?_ ?_
  · rintro it rest _ ⟨ds, xs, s3, s4, s5, rfl, n3, n4, n5, hD, hx, hs, hlen⟩
    rw [List.length_cons] at hlen
    have lx : xs.length ≤ 6 := by omega
    have p6 : 2 ^ xs.length ≤ 2 ^ 6 := Nat.pow_le_pow_right (by decide) lx
    have p64 : (2 : Nat) ^ 6 = 64 := by decide
    simp only [evA, n3]
    refine seq_wp fun R hR => ?_
    simp only [evA]
    refine take_wp hD (by decide) fun r es r0 r1 hD => ?_
    simp only [evA]
    refine ⟨by omega, ?_⟩
    refine lc_wp (fun rest acc Γ => ∃ (ds : List D) (cs : List Nat), Γ = [.ow ds, .va (.int many), .ow (xs.map D.str), .va it, s4, s5, .no] ∧ Dr ds ∧ acc = (cs.map fun c => D.str [c]) ∧ (∀ c ∈ cs, lt1 c = true) ∧ ((cs.length + rest.length : Nat) : Int) = 1 + r)
      ⟨es, [], rfl, hD, rfl, fun c hc => (nomatch hc), by simp [rngD]; omega⟩ ?_ ?_
    · rintro d rest _ _ ⟨ds, cs, rfl, hD, rfl, hc, hl⟩
      rw [List.length_cons] at hl
      simp only [evA]
      refine take_wp hD (by decide) fun r2 es q0 q1 hD => ?_
      simp only [evA]
      rw [ix_str (by simp)]
      obtain ⟨c, ec, lc⟩ := abc_at q0 q1
      rw [ec]
      simp only [evA]
      refine ⟨by rw [List.length_map]; omega, es, cs ++ [c], rfl, hD, by simp, fun z hz => ?_, by rw [List.length_append, List.length_cons, List.length_nil]; omega⟩
      rcases List.mem_append.mp hz with hz | hz
      · exact hc z hz
      · rw [List.mem_singleton.mp hz]; exact lc
    rintro _ _ ⟨ds, cs, rfl, hD, rfl, hc, hl⟩
    rw [List.length_nil] at hl
    simp only [evA, n4]
    refine hR _ ?_; clear hR R
    refine seq_wp fun R hR => ?_
    simp only [evA, wp_join]
    rw [join_signs (by omega)]
    simp only [evA, n5]
    refine hR _ ?_; clear hR R
    have wcs : isw cs = true := isw_of (fun z => by rw [z] at hl; simp at hl; omega) hc
    refine seq_wp fun R hR => ?_
    have hR : ∀ (x : List Nat), isw x = true → x.length ≤ xs.flatten.length + 3 → R [.ow ds, .va (.int many), .ow (xs.map D.str), .va it, .ow (cs.map fun c => D.str [c]), .va (.str x), .no] := fun x wx lx2 => by
      refine hR _ ?_; clear hR R
      simp only [evA]
      refine ⟨by rw [List.length_map]; omega, ds, xs ++ [x], _, _, _, by rw [List.map_append]; rfl, rfl, rfl, rfl, hD, fun y hy => ?_, ?_, by rw [List.length_append, List.length_cons, List.length_nil]; omega⟩
      · rcases List.mem_append.mp hy with hy | hy
        · exact hx y hy
        · rw [List.mem_singleton.mp hy]; exact ⟨wx, by omega⟩
      · rw [List.flatten_append, List.length_append, List.length_append, List.length_singleton, Nat.pow_succ]
        have : ([x] : List (List Nat)).flatten.length = x.length := by simp
        omega
    simp only [evA]
    rw [in_lst (isw_gd wcs) (wds_gd (L := 200) fun d hd => by
      obtain ⟨x, m, rfl⟩ := List.mem_map.mp hd
      exact ⟨x, rfl, (hx x m).1, (hx x m).2⟩)]
    simp only [evA]
    split
    · simp only [evA, wp_join]
      rw [join_words (by omega)]
      simp only [evA]
      rw [add_str, if_pos (by show xs.flatten.length + 1 ≤ 16777216; omega)]
      simp only [evA]
      exact hR _ (isw_flat fun x m => (hx x m).1) (by rw [List.length_append, List.length_singleton]; omega)
    · exact hR _ wcs (by omega)
  · rintro _ ⟨ds, xs, s3, s4, s5, rfl, n3, n4, n5, hD, hx, hs, hlen⟩
    refine hR _ ?_; clear hR R
    simp only [evA]
    rw [List.length_nil] at hlen
    exact k (xs.map D.str) ds (fun w hw => by
      obtain ⟨x, m, rfl⟩ := List.mem_map.mp hw
      exact ⟨x, rfl, (hx x m).1, (hx x m).2⟩) (by rw [List.length_map]; omega) hD
/-- a value of the texts -/
def Vt (v : D) : Prop := (∃ i : Int, v = .int i ∧ -(10 : Int) ^ 60 < i ∧ i < 10 ^ 60) ∨ Wd 200 v
theorem Vt.small {i : Int} (h : -1000 < i) (h2 : i < 1000) : Vt (.int i) := by
  unfold Vt
  have p2 : (1000 : Int) < 10 ^ 60 := by decide
  exact .inl ⟨i, rfl, by omega, by omega⟩
theorem three {l : List D} (h : l.length = 3) : ∃ a b c, l = [a, b, c] := by
  match l, h with
  | [a, b, c], _ => exact ⟨a, b, c, rfl⟩
theorem values_wp {ds ws : List D} {Q : RV → List Sl → Prop} {E : Nat → List D → List Sl → Prop} (hD : Dr ds) (hw : ∀ w ∈ ws, Wd 200 w) (hl : 2 ≤ ws.length)
    (k : ∀ (vs es : List D), (∀ v ∈ vs, Vt v) → vs.length = 3 → Dr es → Q (.ow vs) [.ow es, .ow ws]) : (m__law_values [.ow ds, .ow ws]).wp Q E := by
  refine def_wp rfl ?_
  show (b__law_values [.ow ds, .ow ws, .no, .no]).wp _
  unfold b__law_values
  match ws, hl, hw, k with
  | w0 :: w1 :: wr, hl, hw, k =>
  have h0 : Vt w0 := .inr (hw w0 (by simp))
  have h1 : Vt w1 := .inr (hw w1 (by simp))
  refine seq_wp fun R hR => ?_; simp only [evA]
  refine take_wp hD (by decide) fun r es r0 r1 hD => ?_
  simp only [evA]
  refine hR _ ?_; clear hR R
  refine seq_wp fun R hR => ?_
  simp only [evA]
  refine take_wp hD (by decide) fun r2 es q0 q1 hD => ?_
  simp only [evA]
  refine hR _ ?_; clear hR R
  have v0 : Vt (.int (r - 3)) := Vt.small (by omega) (by omega)
  have v1 : Vt (.int (r - 3 + 1 + r2)) := Vt.small (by omega) (by omega)
  generalize r - 3 + 1 + r2 = z1 at v1 ⊢
  generalize r - 3 = z0 at v0 ⊢
  refine seq_wp fun R hR => ?_
  simp only [evA]
  refine take_wp hD (by decide) fun r3 es p0 p1 hD => ?_
  simp only [evA]
  split
  · rw [ixN_of (by decide) (by show (1 : Int) < 3; decide)]
    refine hR _ ?_; clear hR R
    simp only [evA]
    refine k _ es (fun v hv => ?_) rfl hD
    have hv : v ∈ [D.int z0, w1, w0] := hv
    simp only [List.mem_cons, List.not_mem_nil, or_false] at hv
    rcases hv with rfl | rfl | rfl <;> assumption
  · refine hR _ ?_; clear hR R
    simp only [evA]
    refine k _ es (fun v hv => ?_) rfl hD
    simp only [List.mem_cons, List.not_mem_nil, or_false] at hv
    rcases hv with rfl | rfl | rfl <;> assumption
theorem lvalue_wp {ds vs : List D} {Q : RV → List Sl → Prop} {E : Nat → List D → List Sl → Prop} (hD : Dr ds) (hv : ∀ v ∈ vs, Vt v) (hl : vs.length = 3)
    (k : ∀ (v : D) (es : List D), Vt v → Dr es → Q (.va v) [.ow es, .va (.lst vs)]) : (m__law_value [.ow ds, .va (.lst vs)]).wp Q E := by
  obtain ⟨a, b, c, rfl⟩ := three hl
  refine def_wp rfl ?_
  show (b__law_value [.ow ds, .va (.lst [a, b, c])]).wp _
  unfold b__law_value
  simp only [evA]
  refine take_wp hD (by decide) fun r es r0 r1 hD => ?_
  simp only [evA]
  obtain ⟨z, ez, hz⟩ := atI_of (l := ([.int 0, .int 1, .int 0, .int 2, .int 1] : List D)) r0 (by simpa using r1)
  rw [ez]
  simp only [List.mem_cons, List.not_mem_nil, or_false] at hz
  have ha := hv a (by simp)
  have hb := hv b (by simp)
  have hc := hv c (by simp)
  rcases hz with rfl | rfl | rfl | rfl | rfl
  all_goals
    simp only [evA]
    exact k _ es (by assumption) hD
/-- tables can be sorted -/
theorem tab_cok {t u : D} (h : Tw t) (h2 : Tw u) : So.cok (toP t) (toP u) = true := by
  obtain ⟨x, c, rfl, _⟩ := h
  obtain ⟨y, d, rfl, _⟩ := h2
  simp only [toP, toPs, So.cok, So.cokT]
  split
  · split <;> rfl
  · rfl
theorem tab_gd {t : D} (h : Tw t) : gd 50 t = true := by
  obtain ⟨x, c, rfl, wx, _⟩ := h
  have h1 : gd 49 (.str x) = true := isw_gd wx
  show (gd 49 (.str x) && (gd 49 (.int c) && true)) = true
  rw [h1]; rfl
theorem tabs_ok {ts : List D} (h : ∀ t ∈ ts, Tw t) : okK ts = true := by
  unfold okK
  rw [Bool.and_eq_true]
  exact ⟨List.all_eq_true.mpr fun k hk => tab_gd (h k hk), List.all_eq_true.mpr fun k hk => List.all_eq_true.mpr fun k' hk' => tab_cok (h k hk) (h k' hk')⟩
theorem sortA_tabs {ts : List D} {Q : RV → Prop} (h : ∀ t ∈ ts, Tw t) (hl : ts.length ≤ 1000) (k : ∀ us : List D, us.Perm ts → Q (.ow us)) : (fSortedA [.lst ts]).wp Q := by
  cases ts with
  | nil =>
    rw [show fSortedA [.lst []] = .ow [] by simp [fSortedA, fSorted, strs?]]
    exact k [] (List.Perm.refl _)
  | cons t ts =>
    obtain ⟨x, c, rfl, _⟩ := h t List.mem_cons_self
    have e : fSorted [.lst (.tup [.str x, .int c] :: ts)] = .no := rfl
    unfold fSortedA
    rw [e]
    simp only
    rw [if_pos ⟨tabs_ok h, by show _ ≤ 16777216; omega⟩]
    refine k _ ?_
    unfold sortK
    have p := (List.mergeSort_perm ((D.tup [.str x, .int c] :: ts).zip (D.tup [.str x, .int c] :: ts)) leK).map (·.1)
    rw [List.map_fst_zip (Nat.le_refl _)] at p
    exact p
theorem sortA_words {ws : List D} {Q : RV → Prop} (h : ∀ w ∈ ws, Wd 200 w) (hl : ws.length < 64) (k : ∀ us : List D, us.Perm ws → Q (.ow us)) : (fSortedA [.lst ws]).wp Q := by
  obtain ⟨xs, rfl, hx⟩ := wds_strs h
  have e : fSorted [.lst (xs.map D.str)] = .ow ((xs.mergeSort leL).map .str) := by
    unfold fSorted
    simp only [strs_map]
    rw [if_pos (by rw [List.length_map] at hl; exact hl)]
  unfold fSortedA
  rw [e]
  exact k _ ((List.mergeSort_perm xs leL).map D.str)

/-- a drawn world: tables, names, values -/
structure Wo (ts ns vs : List D) : Prop where
  t : ∀ t ∈ ts, Tw t
  tl : 2 ≤ ts.length ∧ ts.length ≤ 4
  n : ∀ w ∈ ns, Wd 200 w
  nl : ns.length = 3
  v : ∀ v ∈ vs, Vt v
  vl : vs.length = 3
theorem cut_from {α : Type} {xs : List α} {k : Nat} (h : k ≤ xs.length) : (cut xs (some (k : Int)) none).length = xs.length - k := by
  unfold cut
  have e1 : HT.sIx xs.length 0 (some (k : Int)) = min k xs.length := HT.sIx_nat xs.length 0 k
  have e2 : HT.sIx xs.length xs.length none = xs.length := rfl
  rw [e1, e2, List.length_take, List.length_drop]
  omega
theorem cut_to_eq {α : Type} {xs : List α} {k : Nat} (h : k ≤ xs.length) : (cut xs none (some (k : Int))).length = k := by
  unfold cut
  have e1 : HT.sIx xs.length xs.length (some (k : Int)) = min k xs.length := HT.sIx_nat xs.length xs.length k
  have e2 : HT.sIx xs.length 0 none = 0 := rfl
  rw [e1, e2, List.length_take, List.length_drop]
  omega
theorem world_wp {ds : List D} {Q : RV → List Sl → Prop} {E : Nat → List D → List Sl → Prop} (hD : Dr ds)
    (k : ∀ (ts ns vs es : List D), Wo ts ns vs → Dr es → Q (.ow [.tup ts, .lst ns, .lst vs]) [.ow es]) : (m__law_world [.ow ds]).wp Q E := by
  refine def_wp rfl ?_
  show (b__law_world [.ow ds, .no, .no, .no]).wp _
  unfold b__law_world
  refine seq_wp fun R hR => ?_; simp only [evA]
  refine pool_wp hD (by decide) (by decide) fun ws es hw hwl hD => ?_
  simp only [evA]
  refine hR _ ?_; clear hR R
  refine seq_wp fun R hR => ?_; simp only [evA]
  refine hR _ ?_; clear hR R
  refine seq_wp fun R hR => ?_
  simp only [evA]
  refine take_wp hD (by decide) fun r es r0 r1 hD => ?_
  simp only [evA]
  obtain ⟨z, ez, hz⟩ := atI_of (l := ([.int 3, .int 2, .int 3, .int 4] : List D)) r0 (by simpa using r1)
  have hz2 : ∃ n : Nat, z = .int n ∧ 2 ≤ n ∧ n ≤ 4 := by
    simp only [List.mem_cons, List.not_mem_nil, or_false] at hz
    rcases hz with rfl | rfl | rfl | rfl
    · exact ⟨3, rfl, by decide, by decide⟩
    · exact ⟨2, rfl, by decide, by decide⟩
    · exact ⟨3, rfl, by decide, by decide⟩
    · exact ⟨4, rfl, by decide, by decide⟩
  obtain ⟨n, rfl, z0, z1⟩ := hz2
  rw [ez]
  simp only [evA]
  rw [sl_lst]
  simp only [evA]
  have cl := cut_to_eq (xs := ws) (k := n) (by omega)
  have cw : ∀ w ∈ cut ws none (some (n : Int)), Wd 200 w := fun w m => hw w (cut_mem m)
  generalize cut ws none (some (n : Int)) = cs at cl cw ⊢
  refine sortA_words cw (by omega) fun us pu => ?_
  simp only [evA]
  have ul := pu.length_eq
  refine loop_wp (fun (rest : List D) Γ => ∃ (es ts : List D) (s3 : Sl), Γ = [.ow es, .ow ws, .ow ts, s3] ∧ nb s3 = true ∧ Dr es ∧ (∀ t ∈ ts, Tw t) ∧ (∀ w ∈ rest, Wd 200 w) ∧ ts.length + rest.length = n)
    ⟨es, [], _, rfl, rfl, hD, fun t ht => (nomatch ht), fun w hw => cw w (pu.mem_iff.mp hw), by simp; omega⟩ ?_ ?_
  · rintro w rest _ ⟨es, ts, s3, rfl, n3, hD, ht, hr, hl⟩
    obtain ⟨x, rfl, wx, lx⟩ := hr w List.mem_cons_self
    rw [List.length_cons] at hl
    simp only [evA, n3]
    refine take_wp hD (by decide) fun q es q0 q1 hD => ?_
    simp only [evA]
    obtain ⟨y, ey, hy⟩ := atI_of (l := ([.int 2, .int 1, .int 2, .int 1, .int 2, .int 0, .int 1, .int 3] : List D)) q0 (by simpa using q1)
    have hy2 : ∃ c : Int, y = .int c ∧ 0 ≤ c ∧ c ≤ 8 := by
      simp only [List.mem_cons, List.not_mem_nil, or_false] at hy
      rcases hy with rfl | rfl | rfl | rfl | rfl | rfl | rfl | rfl <;> exact ⟨_, rfl, by decide, by decide⟩
    obtain ⟨c, rfl, c0, c1⟩ := hy2
    rw [ey]
    simp only [evA]
    refine ⟨by omega, es, ts ++ [.tup [.str x, .int c]], _, rfl, rfl, hD, fun t hm => ?_, fun w m => hr w (List.mem_cons_of_mem _ m), by rw [List.length_append, List.length_cons, List.length_nil]; omega⟩
    rcases List.mem_append.mp hm with hm | hm
    · exact ht t hm
    · rw [List.mem_singleton.mp hm]; exact ⟨x, c, rfl, wx, lx, c0, c1⟩
  · rintro _ ⟨es, ts, s3, rfl, n3, hD, ht, _, hl⟩
    rw [List.length_nil] at hl
    refine hR _ ?_; clear hR R
    simp only [evA]
    rw [sl_lst]
    simp only [evA]
    have dl : (cut ws (some 4) none).length = ws.length - 4 := cut_from (xs := ws) (k := 4) (by omega)
    have dw : ∀ w ∈ cut ws (some 4) none, Wd 200 w := fun w m => hw w (cut_mem m)
    generalize cut ws (some 4) none = cs at dl dw ⊢
    refine sortA_words dw (by omega) fun us pu => ?_
    simp only [evA]
    refine values_wp hD hw (by omega) fun vs es hv vl hD => ?_
    simp only [evA]
    exact k ts us vs es ⟨ht, by omega, fun w m => dw w (pu.mem_iff.mp m), by rw [pu.length_eq]; omega, hv, vl⟩ hD
/-- a comprehension of one name that only maps -/
theorem lc_map {i : Nat} {ma : EM} {g : D → D} {ds : List D} {Γ : List Sl} {Qa : List D → List Sl → Prop} (hΓ : Γ[i]? = some .no) (hl : ds.length ≤ 1000000)
    (step : ∀ d ∈ ds, (ma (Γ.set i (.va d))).wp (fun r Δ => r = .va (g d) ∧ Δ = Γ.set i (.va d)) (fun _ _ _ => False)) (done : Qa (ds.map g) Γ) : (loopC [i] (gN i) tYesM ma ds [] Γ).wp Qa (fun _ _ _ => False) := by
  refine lc_wp (fun rest acc Γ' => Γ' = Γ ∧ ∃ dn : List D, acc = dn.map g ∧ dn ++ rest = ds) ⟨rfl, [], rfl, rfl⟩ ?_ ?_
  · rintro d rest _ Γ' ⟨hΓ', dn, rfl, e⟩
    rw [hΓ']; clear hΓ' Γ'
    have st := step d (by rw [← e]; simp)
    have ok : stOk Γ i = true := by unfold stOk; rw [hΓ]
    have eg : gN i d Γ = some (Γ.set i (.va d)) := by unfold gN put; rw [if_pos ok]
    rw [eg]
    simp only [opt, tYesM, Rs.wp, if_true]
    cases em : ma (Γ.set i (.va d)) with
    | no => rw [em] at st; exact st.elim
    | ex c pl Δ => rw [em] at st; exact st.elim
    | ok r Δ =>
      rw [em] at st
      obtain ⟨rfl, rfl⟩ := st
      simp only [esc]
      have hi : i < Γ.length := (List.getElem?_eq_some_iff.mp hΓ).1
      have back : wipeG (Γ.set i (.va d)) [i] = Γ := by
        unfold wipeG wipeG
        rw [List.set_set]
        refine List.ext_getElem? fun j => ?_
        by_cases h : i = j
        · subst h; rw [List.getElem?_set_self hi, hΓ]
        · rw [List.getElem?_set_ne h]
      have := congrArg List.length e
      rw [List.length_append, List.length_cons] at this
      exact ⟨by rw [List.length_map]; show dn.length < 16777216; omega, back, dn ++ [d], by simp, by simp [e]⟩
  · rintro _ Γ' ⟨hΓ', dn, rfl, e⟩
    rw [hΓ']; clear hΓ' Γ'
    rw [List.append_nil] at e
    subst e
    exact done
theorem ne_of_len {α : Type} {l : List α} {n : Nat} (h : l.length = n) (hn : 0 < n) : l ≠ [] := fun z => by rw [z] at h; simp at h; omega
theorem snoc_mem {α : Type} {P : α → Prop} {l : List α} {x : α} (h : ∀ y ∈ l, P y) (hx : P x) : ∀ y ∈ l ++ [x], P y := fun y hy => by
  rcases List.mem_append.mp hy with hy | hy
  · exact h y hy
  · rw [List.mem_singleton.mp hy]; exact hx
theorem inA_tup {d : D} {ds : List D} {Q : RV → Prop} (h : gd 60 d = true) (h2 : gds 60 ds = true) : (fInA d (.tup ds)).wp Q = Q (.va (.bl (ds.any fun z => eqD z d))) := by
  simp only [fInA, h, h2, Bool.and_self, if_true]
  rfl
/-! ### terms, atoms, joins -/
abbrev VAR : List Nat := [118, 97, 114]
def Te (L : Nat) (d : D) : Prop := ∃ (tag : List Nat) (v : D), d = .tup [.str tag, v] ∧ gd 58 (.str tag) = true ∧ ((tag = VAR ∧ Wd L v) ∨ (tag ≠ VAR ∧ ((∃ i : Int, v = .int i) ∨ Wd L v)))
def Am (L N : Nat) (d : D) : Prop := ∃ (nm : D) (ts : List D), d = .tup [nm, .tup ts] ∧ Wd L nm ∧ ts.length ≤ N ∧ ∀ t ∈ ts, Te L t
def Jn (L N : Nat) (d : D) : Prop := ∃ hd as : List D, d = .tup [.tup hd, .tup as] ∧ as.length ≤ 8 ∧ ∀ a ∈ as, Am L N a
theorem Am.mono {L N M : Nat} {d : D} (h : Am L N d) (m : N ≤ M) : Am L M d := by
  obtain ⟨nm, ts, e, w, l, t⟩ := h
  exact ⟨nm, ts, e, w, Nat.le_trans l m, t⟩
theorem Jn.mono {L N M : Nat} {d : D} (h : Jn L N d) (m : N ≤ M) : Jn L M d := by
  obtain ⟨hd, as, e, l, t⟩ := h
  exact ⟨hd, as, e, l, fun a ha => (t a ha).mono m⟩
theorem Wd.gd {L : Nat} {d : D} (h : Wd L d) (n : Nat) : gd n d = true := by
  obtain ⟨x, rfl, w, _⟩ := h
  have := isw_gd w
  cases n <;> exact this
theorem Te.gd {L : Nat} {d : D} (h : Te L d) : gd 59 d = true := by
  obtain ⟨tag, v, rfl, g, q⟩ := h
  have hv : Mir.gd 58 v = true := by
    rcases q with ⟨_, w⟩ | ⟨_, ⟨i, rfl⟩ | w⟩
    · exact w.gd 58
    · rfl
    · exact w.gd 58
  show (Mir.gd 58 (.str tag) && (Mir.gd 58 v && true)) = true
  rw [g, hv]; rfl
theorem gds_all {n : Nat} : ∀ {ds : List D}, (∀ d ∈ ds, gd n d = true) → gds n ds = true
  | [], _ => by cases n <;> rfl
  | d :: ds, h => by
    simp only [gds, Bool.and_eq_true]
    exact ⟨h d List.mem_cons_self, gds_all fun e he => h e (List.mem_cons_of_mem _ he)⟩
theorem gd_up {n m : Nat} (h : n ≤ m) : ∀ {d : D}, gd n d = true → gd m d = true := by
  have key : ∀ (n : Nat), (∀ (d : D) (m : Nat), n ≤ m → gd n d = true → gd m d = true) := by
    intro n
    induction n with
    | zero =>
      intro d m _ g
      cases d with
      | tup xs => cases g
      | lst xs => cases g
      | str x => cases m <;> exact g
      | dic xs => cases g
      | set xs => cases g
      | _ => cases m <;> rfl
    | succ n ih =>
      intro d m hm g
      obtain ⟨m, rfl⟩ : ∃ k, m = k + 1 := ⟨m - 1, by omega⟩
      have all : ∀ xs : List D, gds n xs = true → gds m xs = true := by
        intro xs
        induction xs with
        | nil => intro _; cases m <;> rfl
        | cons x xs ihx =>
          intro g
          simp only [gds, Bool.and_eq_true] at g ⊢
          exact ⟨ih x m (by omega) g.1, ihx g.2⟩
      cases d with
      | tup xs => exact all xs g
      | lst xs => exact all xs g
      | str x => exact g
      | dic xs => simp [gd] at g
      | set xs => simp [gd] at g
      | _ => rfl
  intro d g
  exact key n d m h g
/-- the variable of a term -/
def varOf : D → Option (List Nat)
  | .tup [.str tag, .str v] => if tag = VAR then some v else none
  | _ => none
def varsA : D → List (List Nat)
  | .tup [_, .tup ts] => ts.filterMap varOf
  | _ => []
def varsJ : D → List (List Nat)
  | .tup [_, .tup as] => as.flatMap varsA
  | _ => []
theorem varOf_w {L : Nat} {t : D} {x : List Nat} (h : Te L t) (e : varOf t = some x) : isw x = true ∧ x.length ≤ L := by
  obtain ⟨tag, v, rfl, g, q⟩ := h
  rcases q with ⟨rfl, y, rfl, w, l⟩ | ⟨ne, ⟨i, rfl⟩ | ⟨y, rfl, w, l⟩⟩
  · simp [varOf] at e; subst e; exact ⟨w, l⟩
  · simp [varOf] at e
  · simp [varOf, ne] at e
theorem varsA_w {L N : Nat} {a : D} (h : Am L N a) : (∀ x ∈ varsA a, isw x = true ∧ x.length ≤ L) ∧ (varsA a).length ≤ N := by
  obtain ⟨nm, ts, rfl, w, l, ht⟩ := h
  refine ⟨fun x hx => ?_, Nat.le_trans (List.length_filterMap_le _ _) l⟩
  obtain ⟨t, m, e⟩ := List.mem_filterMap.mp hx
  exact varOf_w (ht t m) e
theorem flat_len {α β : Type} (f : α → List β) (N : Nat) : ∀ (l : List α), (∀ a ∈ l, (f a).length ≤ N) → (l.flatMap f).length ≤ N * l.length
  | [], _ => by simp
  | a :: l, h => by
    have h1 := h a List.mem_cons_self
    have h2 := flat_len f N l fun b hb => h b (List.mem_cons_of_mem _ hb)
    rw [List.flatMap_cons, List.length_append, List.length_cons, Nat.mul_succ]; omega
theorem isw_pts {x : List Nat} (h : isw x = true) : ∀ c ∈ x, c < 1114112 := fun c hc => by
  have := (isw_all h).2 c hc
  unfold lt1 at this
  simp only [Bool.and_eq_true, decide_eq_true_eq] at this
  omega
theorem okTx_of {xs : List (List Nat)} (h : ∀ x ∈ xs, isw x = true) (hl : xs.length ≤ 4000) : okTx xs = true := by
  unfold okTx
  rw [Bool.and_eq_true]
  exact ⟨decide_eq_true (by omega), List.all_eq_true.mpr fun x hx => List.all_eq_true.mpr fun c hc => decide_eq_true (isw_pts (h x hx) c hc)⟩
theorem sortSet_wp {xs : List (List Nat)} {Q : RV → Prop} (h : okTx xs = true) : (fSortSet [.lst (xs.map D.str)]).wp Q = Q (.ow ((canonT xs).map D.str)) := by
  unfold fSortSet
  simp only [strs_map, h, if_true]
  rfl
theorem seq_var {L : Nat} {tag : List Nat} {v : D} {P : Prop} (q : (tag = VAR ∧ Wd L v) ∨ (tag ≠ VAR ∧ ((∃ i : Int, v = .int i) ∨ Wd L v))) (k1 : ∀ x, tag = VAR → v = .str x → varOf (.tup [.str tag, v]) = some x → P) (k2 : tag ≠ VAR → varOf (.tup [.str tag, v]) = none → P) : P := by
  rcases q with ⟨rfl, y, rfl, w, l⟩ | ⟨ne, _⟩
  · exact k1 y rfl rfl (by simp [varOf])
  · refine k2 ne ?_
    unfold varOf
    split
    · rename_i e
      injection e with e; injection e with e1 e2
      injection e1 with e1
      rw [if_neg (by rw [← e1]; exact ne)]
    · rfl
theorem variables_eq {L N : Nat} {j : D} (h : Jn L N j) (hN : N ≤ 100) : m__law_variables [.va j] = .ok (.ow ((canonT (varsJ j)).map D.str)) [.va j] := wp_eq (by
  obtain ⟨hd, as, rfl, la, ha⟩ := h
  refine def_wp rfl ?_
  show (b__law_variables [.va (.tup [.tup hd, .tup as]), .no, .no, .no]).wp _
  unfold b__law_variables
  refine seq_wp fun R hR => ?_; simp only [evA]
  refine hR _ ?_; clear hR R
  refine seq_wp fun R hR => ?_
  simp only [evA, itemsD]
  refine loop_wp (fun (rest : List D) Γ => ∃ (dn : List D) (s2 : Sl), Γ = [.va (.tup [.tup hd, .tup as]), .ow ((dn.flatMap varsA).map D.str), s2, .no] ∧ nb s2 = true ∧ dn ++ rest = as) ⟨[], _, rfl, rfl, rfl⟩ ?_ ?_
  · rintro a rest _ ⟨dn, s2, rfl, n2, e⟩
    have hm : a ∈ as := by rw [← e]; simp
    have hdn : ∀ b ∈ dn, b ∈ as := fun b hb => by rw [← e]; exact List.mem_append_left _ hb
    have l1 := flat_len varsA N dn fun b hb => (varsA_w (ha b (hdn b hb))).2
    have ld : dn.length + (rest.length + 1) = as.length := by rw [← e]; simp
    have l2 : N * dn.length ≤ 100 * 8 := Nat.mul_le_mul hN (by omega)
    have wa := (varsA_w (ha a hm)).2
    obtain ⟨nm, ts, rfl, w, lt, ht⟩ := ha a hm
    simp only [evA, itemsD, n2]
    refine lc_wp (fun rest acc Γ => Γ = [.va (.tup [.tup hd, .tup as]), .ow ((dn.flatMap varsA).map D.str), .va (.tup [nm, .tup ts]), .no] ∧ ∃ tn : List D, acc = (tn.filterMap varOf).map D.str ∧ tn ++ rest = ts) ⟨rfl, [], rfl, rfl⟩ ?_ ?_
    · rintro t rest2 _ _ ⟨rfl, tn, rfl, e2⟩
      have htm : t ∈ ts := by rw [← e2]; simp
      have l3 : (tn.filterMap varOf).length ≤ tn.length := List.length_filterMap_le _ _
      have l4 : tn.length + (rest2.length + 1) = ts.length := by rw [← e2]; simp
      obtain ⟨tag, v, rfl, g, q⟩ := ht t htm
      simp only [evA]
      refine seq_var q (fun x e3 e4 e5 => ?_) fun ne e5 => ?_
      · subst e3 e4
        simp only [evA]
        refine ⟨by rw [List.length_map]; omega, tn ++ [.tup [.str VAR, .str x]], by rw [List.filterMap_append, List.map_append, List.filterMap_cons_some e5]; rfl, by simp [← e2]⟩
      · have hb : (tag == [118, 97, 114]) = false := by rw [beq_eq_false_iff_ne]; exact ne
        simp only [evA, hb]
        exact ⟨tn ++ [.tup [.str tag, v]], by rw [List.filterMap_append, List.filterMap_cons_none e5]; simp, by simp [← e2]⟩
    · rintro _ _ ⟨rfl, tn, rfl, e2⟩
      rw [List.append_nil] at e2
      subst e2
      simp only [evA]
      rw [add_lst, if_pos (by
        rw [List.length_map, List.length_map]
        have : (tn.filterMap varOf).length ≤ tn.length := List.length_filterMap_le _ _
        show _ ≤ 16777216
        omega)]
      simp only [evA]
      exact ⟨dn ++ [.tup [nm, .tup tn]], .va (.tup [nm, .tup tn]), by rw [List.flatMap_append, List.map_append]; simp [varsA], rfl, by rw [← e]; simp⟩
  · rintro _ ⟨dn, s2, rfl, n2, e⟩
    rw [List.append_nil] at e
    subst e
    refine hR _ ?_; clear hR R
    simp only [evA]
    have l1 := flat_len varsA N dn fun b hb => (varsA_w (ha b hb)).2
    have l2 : N * dn.length ≤ 100 * 8 := Nat.mul_le_mul hN la
    rw [sortSet_wp (okTx_of (fun x hx => by
      obtain ⟨a, m, hx⟩ := List.mem_flatMap.mp hx
      exact ((varsA_w (ha a m)).1 x hx).1) (by omega))]
    simp only [evA]
    first | trivial | exact ⟨rfl, rfl⟩)
theorem varsJ_w {L N : Nat} {j : D} (h : Jn L N j) : ∀ x ∈ canonT (varsJ j), isw x = true ∧ x.length ≤ L := fun x hx => by
  obtain ⟨hd, as, rfl, la, ha⟩ := h
  obtain ⟨a, m, hx⟩ := List.mem_flatMap.mp (mem_canon.mp hx)
  exact (varsA_w (ha a m)).1 x hx
theorem bools_map {α : Type} (f : α → Bool) : ∀ xs : List α, bools? (xs.map fun x => D.bl (f x)) = some (xs.map f)
  | [] => rfl
  | x :: xs => by simp only [List.map_cons, bools?, bools_map f xs, Option.map_some]
theorem all_lst {ds : List D} {bs : List Bool} {Q : RV → Prop} (h : bools? ds = some bs) : (fAll [.lst ds]).wp Q = Q (.va (.bl (bs.all id))) := by
  unfold fAll
  simp only [h]
  rfl
theorem le_str {x y : List Nat} {Q : RV → Prop} : (fLe (.str x) (.str y)).wp Q = Q (.va (.bl (!decide (y < x)))) := rfl
theorem le_one {a b : Nat} : (!decide (([b] : List Nat) < [a])) = decide (a ≤ b) := by
  by_cases h : a ≤ b
  · have : ¬ (([b] : List Nat) < [a]) := fun z => by
      rcases List.cons_lt_cons_iff.mp z with z | ⟨_, z⟩
      · omega
      · cases z
    simp [h, this]
  · have : ([b] : List Nat) < [a] := List.cons_lt_cons_iff.mpr (.inl (by omega))
    simp [h, this]
theorem is_word_eq {x : List Nat} (hx : x.length ≤ 1000) : m_is_word [.va (.str x)] = .ok (.va (.bl (isw x))) [.va (.str x)] := wp_eq (by
  refine def_wp rfl ?_
  show (b_is_word [.va (.str x), .no]).wp _
  unfold b_is_word
  simp only [evA]
  by_cases h : x = []
  · subst h
    simp [isw]
  · have e : (x == []) = false := by simp [h]
    rw [if_pos e]
    simp only [evA, itemsD]
    refine lc_wp (fun rest acc Γ => Γ = [.va (.str x), .no] ∧ ∃ dn rem : List Nat, acc = (dn.map fun c => D.bl (lt1 c)) ∧ rest = rem.map (fun c => D.str [c]) ∧ dn ++ rem = x) ⟨rfl, [], x, rfl, rfl, rfl⟩ ?_ ?_
    · rintro d rest _ _ ⟨rfl, dn, rem, rfl, h, e⟩
      cases rem with
      | nil => cases h
      | cons c rem =>
        cases h
        simp only [evA, le_str]
        have hl : dn.length < 16777216 := by
          have : (dn ++ c :: rem).length ≤ 1000 := by rw [e]; exact hx
          rw [List.length_append, List.length_cons] at this
          omega
        rw [le_one]
        by_cases h1 : 97 ≤ c
        · simp only [evA, decide_eq_true h1]
          rw [le_one]
          refine ⟨by rw [List.length_map]; exact hl, dn ++ [c], rem, ?_, rfl, by simp [e]⟩
          rw [List.map_append, List.map_singleton]
          simp only [lt1, decide_eq_true h1, Bool.true_and]
        · simp only [evA, decide_eq_false h1]
          refine ⟨by rw [List.length_map]; exact hl, dn ++ [c], rem, ?_, rfl, by simp [e]⟩
          rw [List.map_append, List.map_singleton]
          simp only [lt1, decide_eq_false h1, Bool.false_and]
    · rintro _ _ ⟨rfl, dn, rem, rfl, h, e⟩
      cases rem with
      | cons => cases h
      | nil =>
      rw [List.append_nil] at e
      subst e
      simp only [evA]
      rw [all_lst (bools_map lt1 dn)]
      have : isw dn = (dn.map lt1).all id := by
        unfold isw
        cases dn with
        | nil => exact absurd rfl (by assumption)
        | cons => simp
      rw [this])
theorem notin_str {c : Nat} {z : List Nat} {Q : RV → Prop} : (fNotIn (.str [c]) (.str z)).wp Q = Q (.va (.bl (!decide (c ∈ z)))) := rfl
theorem is_value_eq {d : D} (h : Vl d) : m_is_value [.va d] = .ok (.va (.bl (isv d))) [.va d] := wp_eq (by
  refine def_wp rfl ?_
  show (b_is_value [.va d]).wp _
  unfold b_is_value
  rcases h with ⟨i, rfl⟩ | ⟨x, rfl, hx⟩
  · simp only [evA]
    rfl
  · simp only [evA]
    rw [is_word_eq hx]
    simp only [evA]
    rfl)
/-- the columns of the first table with this name -/
def cols (y : List Nat) : List D → Option Int
  | [] => none
  | d :: ds => if (tbl d).1 = y then some (tbl d).2 else cols y ds
def oI : Option Int → D
  | some c => .int c
  | none => .non
theorem count_eq {ts : List D} {y : List Nat} (ht : ∀ t ∈ ts, Tb t) : m_column_count [.va (.tup ts), .va (.str y)] = .ok (.va (oI (cols y ts))) [.va (.tup ts), .va (.str y)] := wp_eq (by
  refine def_wp rfl ?_
  show (b_column_count [.va (.tup ts), .va (.str y), .no, .no]).wp _
  unfold b_column_count
  refine seq_wp fun R hR => ?_
  simp only [evA, itemsD]
  refine loop_wp (fun (rest : List D) Γ => ∃ (s2 s3 : Sl), Γ = [.va (.tup ts), .va (.str y), s2, s3] ∧ nb s2 = true ∧ nb s3 = true ∧ (∀ t ∈ rest, Tb t) ∧ cols y rest = cols y ts) ⟨_, _, rfl, rfl, rfl, ht, rfl⟩ ?_ ?_
  · rintro t rest _ ⟨s2, s3, rfl, n2, n3, hr, hc⟩
    obtain ⟨x, c, rfl⟩ := hr t List.mem_cons_self
    simp only [evA, n2, n3]
    by_cases h : x = y
    · have e : (x == y) = true := by simp [h]
      rw [if_pos e]
      have q : cols y ts = some c := by rw [← hc]; simp [cols, tbl, h]
      rw [q]
      first | trivial | rfl | exact ⟨rfl, rfl⟩
    · have e : ¬ (x == y) = true := by simp [h]
      rw [if_neg e]
      exact ⟨_, _, rfl, rfl, rfl, fun t m => hr t (List.mem_cons_of_mem _ m), by rw [← hc]; simp [cols, tbl, h]⟩
  · rintro _ ⟨s2, s3, rfl, n2, n3, hr, hc⟩
    simp only [evA]
    refine hR _ ?_; clear hR R
    simp only [evA]
    rw [← hc]
    simp [cols, oI])
/-- the first table with this name -/
def tab (y : List Nat) : List D → Option D
  | [] => none
  | d :: ds => if (tbl d).1 = y then some d else tab y ds
def oT : Option D → D
  | some d => d
  | none => .non
theorem tab_cols {y : List Nat} : ∀ {ts : List D}, (∀ t ∈ ts, Tb t) → (tab y ts = none ∧ cols y ts = none) ∨ ∃ (x : List Nat) (c : Int), tab y ts = some (.tup [.str x, .int c]) ∧ cols y ts = some c
  | [], _ => .inl ⟨rfl, rfl⟩
  | t :: ts, h => by
    obtain ⟨x, c, rfl⟩ := h t List.mem_cons_self
    have ih := tab_cols (y := y) (ts := ts) fun t m => h t (List.mem_cons_of_mem _ m)
    by_cases e : x = y
    · exact .inr ⟨x, c, by simp [tab, tbl, e], by simp [cols, tbl, e]⟩
    · simpa [tab, cols, tbl, e] using ih
theorem table_eq {ts : List D} {y : List Nat} (ht : ∀ t ∈ ts, Tb t) : m__law_table [.va (.tup ts), .va (.str y)] = .ok (.va (oT (tab y ts))) [.va (.tup ts), .va (.str y)] := wp_eq (by
  refine def_wp rfl ?_
  show (b__law_table [.va (.tup ts), .va (.str y), .no]).wp _
  unfold b__law_table
  refine seq_wp fun R hR => ?_
  simp only [evA, itemsD]
  refine loop_wp (fun (rest : List D) Γ => ∃ (s2 : Sl), Γ = [.va (.tup ts), .va (.str y), s2] ∧ nb s2 = true ∧ (∀ t ∈ rest, Tb t) ∧ tab y rest = tab y ts) ⟨_, rfl, rfl, ht, rfl⟩ ?_ ?_
  · rintro t rest _ ⟨s2, rfl, n2, hr, hc⟩
    obtain ⟨x, c, rfl⟩ := hr t List.mem_cons_self
    simp only [evA, n2]
    by_cases h : x = y
    · have e : (x == y) = true := by simp [h]
      rw [if_pos e]
      have q : tab y ts = some (.tup [.str x, .int c]) := by rw [← hc]; simp [tab, tbl, h]
      rw [q]
      first | trivial | rfl | exact ⟨rfl, rfl⟩
    · have e : ¬ (x == y) = true := by simp [h]
      rw [if_neg e]
      exact ⟨_, rfl, rfl, fun t m => hr t (List.mem_cons_of_mem _ m), by rw [← hc]; simp [tab, tbl, h]⟩
  · rintro _ ⟨s2, rfl, n2, hr, hc⟩
    simp only [evA]
    refine hR _ ?_; clear hR R
    simp only [evA]
    rw [← hc]
    simp [tab, oT])
theorem any_str {xs : List (List Nat)} {x : List Nat} : ((xs.map D.str).any fun z => eqD z (.str x)) = decide (x ∈ xs) := by
  induction xs with
  | nil => simp
  | cons y ys ih =>
    rw [List.map_cons, List.any_cons, ih]
    rw [Bool.eq_iff_iff, Bool.or_eq_true, decide_eq_true_eq, decide_eq_true_eq, List.mem_cons]
    have : eqD (.str y) (.str x) = true ↔ y = x := by simp [eqD]
    rw [this]
    exact or_congr eq_comm Iff.rfl
theorem among_eq {ts : List D} (h : ∀ t ∈ ts, Te 60000 t) (hl : ts.length ≤ 1000) : m_variables_among [.va (.tup ts)] = .ok (.va (.tup ((canonT (ts.filterMap varOf)).map D.str))) [.va (.tup ts)] := wp_eq (by
  refine def_wp rfl ?_
  show (b_variables_among [.va (.tup ts), .no]).wp _
  unfold b_variables_among
  simp only [evA, wp_sortSc, itemsD]
  refine sc_wp (fun rest acc Γ => Γ = [.va (.tup ts), .no] ∧ ∃ tn : List D, acc = tn.filterMap varOf ∧ tn ++ rest = ts) ⟨rfl, [], rfl, rfl⟩ ?_ ?_
  · rintro t rest _ _ ⟨rfl, tn, rfl, e⟩
    have htm : t ∈ ts := by rw [← e]; simp
    have l3 : (tn.filterMap varOf).length ≤ tn.length := List.length_filterMap_le _ _
    have l4 : tn.length + (rest.length + 1) = ts.length := by rw [← e]; simp
    obtain ⟨tag, v, rfl, g, q⟩ := h t htm
    simp only [evA]
    refine seq_var q (fun x e3 e4 e5 => ?_) fun ne e5 => ?_
    · subst e3 e4
      simp only [evA]
      exact ⟨x, rfl, by omega, tn ++ [.tup [.str VAR, .str x]], by rw [List.filterMap_append, List.filterMap_cons_some e5]; rfl, by simp [← e]⟩
    · have hb : (tag == [118, 97, 114]) = false := by rw [beq_eq_false_iff_ne]; exact ne
      simp only [evA, hb]
      exact ⟨tn ++ [.tup [.str tag, v]], by rw [List.filterMap_append, List.filterMap_cons_none e5]; simp, by simp [← e]⟩
  · rintro _ _ ⟨rfl, tn, rfl, e⟩
    rw [List.append_nil] at e
    subst e
    simp only [evA]
    rw [if_pos (okTx_of (fun x hx => by
      obtain ⟨t, m, e⟩ := List.mem_filterMap.mp hx
      exact (varOf_w (h t m) e).1) (by
      have : (tn.filterMap varOf).length ≤ tn.length := List.length_filterMap_le _ _
      omega))]
    trivial)
theorem among_lst {ts : List D} (h : ∀ t ∈ ts, Te 60000 t) (hl : ts.length ≤ 1000) : m_variables_among [.va (.lst ts)] = .ok (.va (.tup ((canonT (ts.filterMap varOf)).map D.str))) [.va (.lst ts)] := wp_eq (by
  refine def_wp rfl ?_
  show (b_variables_among [.va (.lst ts), .no]).wp _
  unfold b_variables_among
  simp only [evA, wp_sortSc, itemsD]
  refine sc_wp (fun rest acc Γ => Γ = [.va (.lst ts), .no] ∧ ∃ tn : List D, acc = tn.filterMap varOf ∧ tn ++ rest = ts) ⟨rfl, [], rfl, rfl⟩ ?_ ?_
  · rintro t rest _ _ ⟨rfl, tn, rfl, e⟩
    have htm : t ∈ ts := by rw [← e]; simp
    have l3 : (tn.filterMap varOf).length ≤ tn.length := List.length_filterMap_le _ _
    have l4 : tn.length + (rest.length + 1) = ts.length := by rw [← e]; simp
    obtain ⟨tag, v, rfl, g, q⟩ := h t htm
    simp only [evA]
    refine seq_var q (fun x e3 e4 e5 => ?_) fun ne e5 => ?_
    · subst e3 e4
      simp only [evA]
      exact ⟨x, rfl, by omega, tn ++ [.tup [.str VAR, .str x]], by rw [List.filterMap_append, List.filterMap_cons_some e5]; rfl, by simp [← e]⟩
    · have hb : (tag == [118, 97, 114]) = false := by rw [beq_eq_false_iff_ne]; exact ne
      simp only [evA, hb]
      exact ⟨tn ++ [.tup [.str tag, v]], by rw [List.filterMap_append, List.filterMap_cons_none e5]; simp, by simp [← e]⟩
  · rintro _ _ ⟨rfl, tn, rfl, e⟩
    rw [List.append_nil] at e
    subst e
    simp only [evA]
    rw [if_pos (okTx_of (fun x hx => by
      obtain ⟨t, m, e⟩ := List.mem_filterMap.mp hx
      exact (varOf_w (h t m) e).1) (by
      have : (tn.filterMap varOf).length ≤ tn.length := List.length_filterMap_le _ _
      omega))]
    trivial)


theorem nub_le (xs ks : List (List Nat)) : (xs.foldl putL ks).length ≤ ks.length + xs.length := by
  induction xs generalizing ks with
  | nil => simp
  | cons x xs ih =>
    have h := ih (putL ks x)
    have h2 : (putL ks x).length ≤ ks.length + 1 := by unfold putL; split <;> simp
    rw [List.foldl_cons, List.length_cons]; omega
theorem canon_len (xs : List (List Nat)) : (canonT xs).length ≤ xs.length := by
  unfold canonT
  rw [List.length_mergeSort]
  have := nub_le xs []
  unfold nubL
  simpa using this
theorem great_wp {ds : List D} {Q : RV → List Sl → Prop} {E : Nat → List D → List Sl → Prop} (hD : Dr ds) (k : ∀ (z : Int) (es : List D), -(10 : Int) ^ 57 < z → z < 10 ^ 57 → Dr es → Q (.va (.int z)) [.ow es]) : (m__law_great [.ow ds]).wp Q E := by
  refine def_wp rfl ?_
  show (b__law_great [.ow ds, .no, .no]).wp _
  unfold b__law_great
  refine seq_wp fun R hR => ?_; simp only [evA]
  refine hR _ ?_; clear hR R
  refine seq_wp fun R hR => ?_
  simp only [evA]
  refine take_wp hD (by decide) fun r es r0 r1 hD => ?_
  simp only [evA]
  obtain ⟨z, ez, hz⟩ := atI_of (l := ([.int 1, .int 2, .int 6, .int 19] : List D)) r0 (by simpa using r1)
  have hz2 : ∃ n : Int, z = .int n ∧ 0 ≤ n ∧ n ≤ 19 := by
    simp only [List.mem_cons, List.not_mem_nil, or_false] at hz
    rcases hz with rfl | rfl | rfl | rfl <;> exact ⟨_, rfl, by decide, by decide⟩
  obtain ⟨n, rfl, z0, z1⟩ := hz2
  rw [ez]
  simp only [evA]
  refine ⟨by omega, ?_⟩
  have hW : (1000 : Int) ^ 19 = 10 ^ 57 := by decide
  rw [← hW] at k
  generalize hM : (1000 : Int) ^ 19 = M at k
  refine loop_wp (fun (rest : List D) Γ => ∃ (es : List D) (num : Int) (s2 : Sl), Γ = [.ow es, .va (.int num), s2] ∧ nb s2 = true ∧ Dr es ∧ 0 ≤ num ∧ (num + 1) * 1000 ^ rest.length ≤ M) ⟨es, 0, _, rfl, rfl, hD, by decide, ?_⟩ ?_ ?_
  · rw [rng_len, ← hM]
    have : (1000 : Nat) ^ n.toNat ≤ 1000 ^ 19 := Nat.pow_le_pow_right (by decide) (by omega)
    have e1 : ((1000 ^ n.toNat : Nat) : Int) = (1000 : Int) ^ n.toNat := Int.natCast_pow 1000 n.toNat
    have e2 : ((1000 ^ 19 : Nat) : Int) = (1000 : Int) ^ 19 := Int.natCast_pow 1000 19
    rw [← e1, ← e2]
    omega
  · rintro d rest _ ⟨es, num, s2, rfl, n2, hE, p0, p1⟩
    simp (maxSteps := 100000000) only [big, wp_ok, wp_ex, wp_no, wp_bind, wp_sr, swp_nx, swp_rt, swp_bk, swp_ct, swp_ex, swp_no, wp_if, wp_nil, wp_break, wp_cont, wp_drop, wp_ret, wp_retN, wp_raise, wp_set, wp_asg, wp_par, wp_aug, wp_store, wp_call, wp_mte, wp_mtru, wp_tnot, wp_tand, wp_tor, wp_andV, wp_orV, wp_notV, wp_neg, wp_mif, wp_res, wp_bin, wp_binT, wp_cons, wp_mnil, wp_c, wp_var, wp_fn, wp_tup, wp_lst, wp_bits, wp_pop, wp_mut, wp_sl, wp_onone, wp_osome, wp_isi, wp_isi2, wp_chain, wp_seqI, wp_rng1, wp_for, wp_lc, wp_tyes, opt_some, opt_none, add_int, addI_int, sub_int, mul_int, div_int, mod_int, pow_int, eq_int, ne_int, eq_bl, ne_bl, eq_str, ne_str, lt_int, le_int, gt_int, ge_int, is_non, isnot_non, ix_lst, ix_tup, len_lst, len_tup, int_int, abs_int, list_lst, list_tup, tuple_lst, tuple_tup, gcd_int, nb_no, nb_va, nb_ow, nb_sc, stOk_eq, append_one, reverse_nil, peek, peekT, peeks, esc, escs, stV, put, argSl, argsSl, uniqBo, isBo, posBo, wb, wb1_eq, wb2, bor, unb, gN, gT, gsCons, gsNil, finD, wipeG, backG, notHd, Sl.hd, endK, List.getElem?_cons_zero, List.getElem?_cons_succ, List.set_cons_zero, List.set_cons_succ, List.all_cons, List.all_nil, List.any_cons, List.any_nil, List.length_cons, List.length_nil, Nat.reduceAdd, Nat.reduceLeDiff, Nat.reduceBEq, Nat.reduceEqDiff, Bool.false_eq_true, Bool.not_true, Bool.not_false, Bool.and_true, Bool.true_and, Bool.or_false, Bool.and_self, Bool.or_self, Bool.and_false, Bool.false_and, Bool.or_true, Bool.true_or, ↓reduceIte, if_true, if_false, decide_eq_true_eq, decide_true, decide_false, Bool.not_eq_true', decide_eq_false_iff_not, Option.map_some, Option.map_none, Option.bind_some, List.getD_cons_zero, List.getD_cons_succ, List.contains_cons, List.contains_nil, List.elem_cons, List.elem_nil, beq_self_eq_true, Option.getD_some, true_and, and_true, Int.reduceLT, Int.reduceLE, Int.reduceNeg, isi_non_int, isi_non_str, isi_non_bool, isi_non_tuple, isi_non_list, isi_bl_int, isi_bl_str, isi_bl_bool, isi_bl_tuple, isi_bl_list, isi_int_int, isi_int_str, isi_int_bool, isi_int_tuple, isi_int_list, isi_str_int, isi_str_str, isi_str_bool, isi_str_tuple, isi_str_list, isi_tup_int, isi_tup_str, isi_tup_bool, isi_tup_tuple, isi_tup_list, isi_lst_int, isi_lst_str, isi_lst_bool, isi_lst_tuple, isi_lst_list, isN_non, isN_bl, isN_int, isN_str, isN_tup, isN_lst, eq_non, ne_eq, not_true_eq_false, not_false_eq_true, atI_0, atI_1, atI_2, backK_va, backK_ow, isPl_non, isPl_bl, isPl_int, isPl_str, isPl_tup, isPl_lst, backK_owc, nb_owc, Ct.data, n2]
    have pw : 1000 ^ rest.length > (0 : Int) := Int.pow_pos (by decide)
    have p2 : num + 1 ≤ M := by
      rw [List.length_cons, Int.pow_succ] at p1
      have q : (num + 1) * 1 ≤ (num + 1) * (1000 ^ rest.length * 1000) := Int.mul_le_mul_of_nonneg_left (by omega) (by omega)
      rw [Int.mul_one] at q
      exact Int.le_trans q p1
    refine ⟨by
      have hm : M < 2 ^ 200 := by rw [← hM]; decide
      have h0 : -(2 : Int) ^ 200 < 0 := by decide
      have := bits_lt (z := num) (m := 200) (by omega) (by omega)
      have : PySem.Builtin.Int.intBits 1000 = 10 := by decide
      omega, ?_⟩
    refine take_wp hE (by decide) fun r2 es2 g0 g1 hE2 => ?_
    simp only [evA]
    refine ⟨es2, _, _, rfl, rfl, hE2, by omega, ?_⟩
    rw [List.length_cons, Int.pow_succ] at p1
    refine Int.le_trans ?_ p1
    rw [show (num + 1) * (1000 ^ rest.length * 1000) = ((num + 1) * 1000) * 1000 ^ rest.length by rw [Int.mul_comm (1000 ^ rest.length) 1000, Int.mul_assoc]]
    exact Int.mul_le_mul_of_nonneg_right (by omega) (by omega)
  · rintro _ ⟨es, num, s2, rfl, n2, hE, p0, p1⟩
    simp only [List.length_nil, Int.pow_zero, Int.mul_one] at p1
    refine hR _ ?_; clear hR R
    refine seq_wp fun R hR => ?_
    simp only [evA]
    refine take_wp hE (by decide) fun r2 es2 g0 g1 hE2 => ?_
    simp only [evA]
    split
    · exact k _ _ (by omega) (by omega) hE2
    · refine hR _ ?_; clear hR R
      simp only [evA]
      exact k _ _ (by omega) (by omega) hE2
theorem mem_set {α : Type} {l : List α} {n : Nat} {a x : α} (h : x ∈ l.set n a) : x ∈ l ∨ x = a := List.mem_or_eq_of_mem_set h
theorem Vt.of57 {z : Int} (h : -(10 : Int) ^ 57 < z) (h2 : z < 10 ^ 57) : Vt (.int z) := by
  unfold Vt
  have p : (10 : Int) ^ 57 < 10 ^ 60 := by decide
  exact .inl ⟨z, rfl, by omega, by omega⟩
theorem rng3 {d : D} (h : d ∈ rngD 0 3) : ∃ j : Int, d = .int j ∧ 0 ≤ j ∧ j < 3 := by
  obtain ⟨j, hj, rfl⟩ := List.mem_map.mp h
  have := List.mem_range.mp hj
  exact ⟨_, rfl, by omega, by omega⟩
theorem text_world_wp {ds : List D} {Q : RV → List Sl → Prop} {E : Nat → List D → List Sl → Prop} (hD : Dr ds)
    (k : ∀ (ts ns vs es : List D), Wo ts ns vs → Dr es → Q (.ow [.tup ts, .lst ns, .lst vs]) [.ow es]) : (m__law_text_world [.ow ds]).wp Q E := by
  refine def_wp rfl ?_
  show (b__law_text_world [.ow ds, .no, .no, .no, .no, .no, .no]).wp _
  unfold b__law_text_world
  refine seq_wp fun R hR => ?_; simp only [evA]
  refine world_wp hD fun ts ns vs ds hW hD => ?_
  obtain ⟨ht, ⟨tl0, tl1⟩, hn, nl, hv, vl⟩ := hW
  simp only [evA]
  refine hR _ ?_; clear hR R
  refine seq_wp fun R hR => ?_; simp only [evA]
  refine hR _ ?_; clear hR R
  refine seq_wp fun R hR => ?_; simp only [evA]
  refine hR _ ?_; clear hR R
  refine seq_wp fun R hR => ?_; simp only [evA]
  refine hR _ ?_; clear hR R
  generalize [D.tup ts, .lst ns, .lst vs] = wl0
  refine seq_wp fun R hR => ?_
  simp only [evA]
  refine loop_wp (fun (rest : List D) Γ => ∃ (ns : List D) (s5 : Sl), Γ = [.ow ds, .ow wl0, .ow ts, .ow ns, .ow vs, s5, .no] ∧ nb s5 = true ∧ (∀ w ∈ ns, Wd 200 w) ∧ ns.length = 3 ∧ (∀ d ∈ rest, ∃ j : Int, d = .int j ∧ 0 ≤ j ∧ j < 3)) ⟨ns, _, rfl, rfl, hn, nl, fun d hd => rng3 hd⟩ ?_ ?_
  · rintro d rest _ ⟨ns, s5, rfl, n5, hn, nl, hr⟩
    obtain ⟨j, rfl, j0, j1⟩ := hr d List.mem_cons_self
    have hr2 : ∀ d ∈ rest, ∃ j : Int, d = .int j ∧ 0 ≤ j ∧ j < 3 := fun d m => hr d (List.mem_cons_of_mem _ m)
    simp only [evA, n5]
    obtain ⟨w, ew, hw⟩ := atI_of (l := ns) j0 (by omega)
    obtain ⟨x, rfl, wx, lx⟩ := hn w hw
    rw [ew]
    simp only [evA]
    rw [len_str, if_pos (by show x.length ≤ 16777216; omega)]
    simp only [evA]
    split
    · rw [ix_str (by simp)]
      obtain ⟨c, ec, hc⟩ := atI_of (l := ([97, 98, 99] : List Nat)) j0 (by simpa using j1)
      rw [ec]
      simp only [evA]
      rw [add_str, if_pos (by show 7 + 1 ≤ 16777216; decide)]
      simp only [evA]
      rw [ixN_of j0 (by omega)]
      refine ⟨_, _, rfl, rfl, fun w m => ?_, by rw [List.length_set]; exact nl, hr2⟩
      rcases mem_set m with m | rfl
      · exact hn w m
      · refine ⟨_, rfl, isw_of (by simp) fun z hz => ?_, by simp⟩
        have hc2 : lt1 c = true := by
          simp only [List.mem_cons, List.not_mem_nil, or_false] at hc
          rcases hc with rfl | rfl | rfl <;> decide
        rcases List.mem_append.mp hz with hz | hz
        · simp only [List.mem_cons, List.not_mem_nil, or_false] at hz
          rcases hz with rfl | rfl | rfl | rfl | rfl | rfl | rfl <;> decide
        · rw [List.mem_singleton.mp hz]; exact hc2
    · exact ⟨_, _, rfl, rfl, hn, nl, hr2⟩
  rintro _ ⟨ns, s5, rfl, n5, hn, nl, _⟩
  refine hR _ ?_; clear hR R
  -- the name of the first table
  refine seq_wp fun R hR => ?_
  simp only [evA]
  refine take_wp hD (by decide) fun r ds r0 r1 hD => ?_
  simp only [evA]
  obtain ⟨z, ez, hz⟩ := atI_of (l := ([.str [116, 97, 98, 108, 101], .str [], .str [110, 111, 110, 101], .str []] : List D)) r0 (by simpa using r1)
  have hz2 : ∃ x : List Nat, z = .str x ∧ (x = [] ∨ (isw x = true ∧ x.length ≤ 200)) := by
    simp only [List.mem_cons, List.not_mem_nil, or_false] at hz
    rcases hz with rfl | rfl | rfl | rfl
    · exact ⟨_, rfl, .inr ⟨by decide, by decide⟩⟩
    · exact ⟨_, rfl, .inl rfl⟩
    · exact ⟨_, rfl, .inr ⟨by decide, by decide⟩⟩
    · exact ⟨_, rfl, .inl rfl⟩
  obtain ⟨x, rfl, hx⟩ := hz2
  rw [ez]
  simp only [evA]
  refine hR _ ?_; clear hR R
  match ts, tl0, tl1, ht with
  | t0 :: tr, tl0, tl1, ht =>
  rw [List.length_cons] at tl0 tl1
  have htr : ∀ t ∈ tr, Tw t := fun t m => ht t (List.mem_cons_of_mem _ m)
  refine seq_wp fun R hR => ?_
  have hR : ∀ (t0 : D), Tw t0 → R [.ow ds, .ow wl0, .ow (t0 :: tr), .ow ns, .ow vs, s5, .va (.str x)] := fun t0 h0 => by
    refine hR _ ?_; clear hR R
    refine seq_wp fun R hR => ?_
    have hR : ∀ (t0 : D) (ds : List D), Tw t0 → Dr ds → R [.ow ds, .ow wl0, .ow (t0 :: tr), .ow ns, .ow vs, s5, .va (.str x)] := fun t0 ds h0 hD => by
      refine hR _ ?_; clear hR R
      refine seq_wp fun R hR => ?_
      have hR : ∀ (ns ds : List D), (∀ w ∈ ns, Wd 200 w) → ns.length = 3 → Dr ds → R [.ow ds, .ow wl0, .ow (t0 :: tr), .ow ns, .ow vs, s5, .va (.str x)] := fun ns ds hn nl hD => by
        refine hR _ ?_; clear hR R
        refine seq_wp fun R hR => ?_
        have hR : ∀ (vs ds : List D), (∀ v ∈ vs, Vt v) → vs.length = 3 → Dr ds → R [.ow ds, .ow wl0, .ow (t0 :: tr), .ow ns, .ow vs, s5, .va (.str x)] := fun vs ds hv vl hD => by
          refine hR _ ?_; clear hR R
          refine seq_wp fun R hR => ?_
          have hR : ∀ (vs ds : List D), (∀ v ∈ vs, Vt v) → vs.length = 3 → Dr ds → R [.ow ds, .ow wl0, .ow (t0 :: tr), .ow ns, .ow vs, s5, .va (.str x)] := fun vs ds hv vl hD => by
            refine hR _ ?_; clear hR R
            simp only [evA]
            have hT : ∀ t ∈ t0 :: tr, Tw t := fun t m => (List.mem_cons.mp m).elim (fun z => by rw [z]; exact h0) (htr t)
            refine sortA_tabs hT (by rw [List.length_cons]; omega) fun us pu => ?_
            simp only [evA]
            refine sortA_words hn (by omega) fun ms pm => ?_
            simp only [evA]
            have ul := pu.length_eq
            rw [List.length_cons] at ul
            exact k us ms vs ds ⟨fun t m => hT t (pu.mem_iff.mp m), by omega, fun w m => hn w (pm.mem_iff.mp m), by rw [pm.length_eq]; exact nl, hv, vl⟩ hD
          simp only [evA]
          refine take_wp hD (by decide) fun r ds r0 r1 hD => ?_
          simp only [evA]
          split
          · obtain ⟨w, ew, hw⟩ := atI_of (l := ns) (i := 1) (by decide) (by omega)
            rw [ew]
            simp only [evA]
            rw [ixN_of (by decide) (by omega)]
            refine hR _ _ (fun v m => ?_) (by rw [List.length_set]; exact vl) hD
            rcases mem_set m with m | rfl
            · exact hv v m
            · exact .inr (hn _ hw)
          · exact hR _ _ hv vl hD
        simp only [evA]
        refine take_wp hD (by decide) fun r ds r0 r1 hD => ?_
        simp only [evA]
        split
        · refine great_wp hD fun z ds z0 z1 hD => ?_
          have hz := Vt.of57 z0 z1
          clear z0 z1
          simp only [evA]
          rw [ixN_of (by decide) (by omega)]
          refine hR _ _ (fun v m => ?_) (by rw [List.length_set]; exact vl) hD
          rcases mem_set m with m | rfl
          · exact hv v m
          · exact hz
        · exact hR _ _ hv vl hD
      simp only [evA]
      refine take_wp hD (by decide) fun r ds r0 r1 hD => ?_
      simp only [evA]
      split
      · refine take_wp hD (by decide) fun r ds r0 r1 hD => ?_
        simp only [evA]
        obtain ⟨z, ez, hz⟩ := atI_of (l := ([.str [110, 111, 110, 101], .str [116, 97, 98, 108, 101]] : List D)) r0 (by simpa using r1)
        have hz2 : Wd 200 z := by
          simp only [List.mem_cons, List.not_mem_nil, or_false] at hz
          rcases hz with rfl | rfl <;> exact ⟨_, rfl, by decide, by decide⟩
        rw [ez]
        simp only [evA]
        rw [ixN_of (by decide) (by omega)]
        refine hR _ _ (fun w m => ?_) (by rw [List.length_set]; exact nl) hD
        rcases mem_set m with m | rfl
        · exact hn w m
        · exact hz2
      · exact hR _ _ hn nl hD
    obtain ⟨y, c, rfl, wy, ly, c0, c1⟩ := h0
    simp only [evA]
    refine take_wp hD (by decide) fun r ds r0 r1 hD => ?_
    simp only [evA]
    split
    · refine take_wp hD (by decide) fun r ds r0 r1 hD => ?_
      simp only [evA]
      obtain ⟨z, ez, hz⟩ := atI_of (l := ([.int 8, .int 5] : List D)) r0 (by simpa using r1)
      have hz2 : ∃ c : Int, z = .int c ∧ 0 ≤ c ∧ c ≤ 8 := by
        simp only [List.mem_cons, List.not_mem_nil, or_false] at hz
        rcases hz with rfl | rfl <;> exact ⟨_, rfl, by decide, by decide⟩
      obtain ⟨c', rfl, d0, d1⟩ := hz2
      rw [ez]
      simp only [evA]
      rw [ixN_of (by decide) (by omega)]
      exact hR _ _ ⟨y, c', rfl, wy, ly, d0, d1⟩ hD
    · exact hR _ _ ⟨y, c, rfl, wy, ly, c0, c1⟩ hD
  obtain ⟨y, c, rfl, wy, ly, c0, c1⟩ := ht t0 List.mem_cons_self
  simp only [evA]
  split
  · rename_i hne
    rw [ixN_of (by decide) (by omega)]
    have hx2 : isw x = true ∧ x.length ≤ 200 := hx.resolve_left fun z => by rw [z] at hne; simp at hne
    exact hR _ ⟨x, c, rfl, hx2.1, hx2.2, c0, c1⟩
  · exact hR _ ⟨y, c, rfl, wy, ly, c0, c1⟩
theorem lis_word_eq {x : List Nat} (hx : x.length ≤ 1000) : m__law_is_word [.va (.str x)] = .ok (.va (.bl (isw x))) [.va (.str x)] := wp_eq (by
  refine def_wp rfl ?_
  show (b__law_is_word [.va (.str x), .no]).wp _
  unfold b__law_is_word
  refine seq_wp fun R hR => ?_
  simp only [evB]
  by_cases h : x = []
  · subst h
    simp [isw]
  · have e : (x == []) = false := by simp [h]
    rw [if_neg (by rw [e]; decide)]
    refine hR _ ?_; clear hR R
    refine seq_wp fun R hR => ?_
    simp only [evB, itemsD]
    refine loop_wp (fun (rest : List D) Γ => ∃ (s1 : Sl) (rem : List Nat), Γ = [.va (.str x), s1] ∧ nb s1 = true ∧ rest = rem.map (fun c => D.str [c]) ∧ rem.all lt1 = x.all lt1) ⟨_, x, rfl, rfl, rfl, rfl⟩ ?_ ?_
    · rintro d rest _ ⟨s1, rem, rfl, n1, h2, e2⟩
      cases rem with
      | nil => cases h2
      | cons c rem =>
        cases h2
        simp only [evB, n1, notin_str, mem_abc]
        cases h1 : lt1 c with
        | true =>
          all_goals try simp only [evB]
          exact ⟨_, rem, rfl, rfl, rfl, by rw [← e2]; simp [h1]⟩
        | false =>
          all_goals try simp only [evB]
          have : isw x = false := by unfold isw; rw [← e2]; simp [h1]
          rw [this]
          all_goals first | trivial | rfl | exact ⟨rfl, rfl⟩
    · rintro _ ⟨s1, rem, rfl, n1, h2, e2⟩
      cases rem with
      | cons => cases h2
      | nil =>
      refine hR _ ?_; clear hR R
      simp only [evB]
      have : isw x = true := by unfold isw; rw [← e2]; simp [h]
      rw [this]
      all_goals first | trivial | rfl | exact ⟨rfl, rfl⟩)
/-! ### terms -/
abbrev VALUE : List Nat := [118, 97, 108, 117, 101]
/-- a term of the form, valid or not -/
def Tg (d : D) : Prop := ∃ (tag : List Nat) (v : D), d = .tup [.str tag, v] ∧ ((tag = VAR ∧ ∃ x : List Nat, v = .str x ∧ x.length ≤ 1000) ∨ (tag = VALUE ∧ Vl v))
def okT : D → Bool
  | .tup [.str tag, v] => if tag = VAR then isw (match v with | .str x => x | _ => []) else isv v
  | _ => false
theorem okT_var {x : List Nat} : okT (.tup [.str VAR, .str x]) = isw x := by simp [okT]
theorem okT_val {v : D} : okT (.tup [.str VALUE, v]) = isv v := by simp [okT]
theorem Tg.te {t : D} (h : Tg t) (k : okT t = true) : Te 60000 t := by
  obtain ⟨tag, v, rfl, q⟩ := h
  rcases q with ⟨rfl, x, rfl, l⟩ | ⟨rfl, hv⟩
  · rw [okT_var] at k
    exact ⟨VAR, _, rfl, by decide, .inl ⟨rfl, x, rfl, k, by omega⟩⟩
  · rw [okT_val] at k
    refine ⟨VALUE, v, rfl, by decide, .inr ⟨by decide, ?_⟩⟩
    rcases hv with ⟨i, rfl⟩ | ⟨x, rfl, l⟩
    · exact .inl ⟨i, rfl⟩
    · exact .inr ⟨x, rfl, k, by omega⟩
theorem terms_eq {ts : List D} (h : ∀ t ∈ ts, Tg t) (hl : ts.length ≤ 1000) : m_are_valid_terms [.va (.tup ts)] = .ok (.va (.bl (ts.all okT))) [.va (.tup ts)] := wp_eq (by
  refine def_wp rfl ?_
  show (b_are_valid_terms [.va (.tup ts), .no]).wp _
  unfold b_are_valid_terms
  simp only [evB, itemsD]
  refine lc_wp (fun rest acc Γ => Γ = [.va (.tup ts), .no] ∧ ∃ dn : List D, acc = (dn.map fun d => D.bl (okT d)) ∧ dn ++ rest = ts) ⟨rfl, [], rfl, rfl⟩ ?_ ?_
  · rintro d rest _ _ ⟨rfl, dn, rfl, e⟩
    have l4 : dn.length + (rest.length + 1) = ts.length := by rw [← e]; simp
    obtain ⟨tag, v, rfl, q⟩ := h d (by rw [← e]; simp)
    simp only [evB]
    rcases q with ⟨rfl, x, rfl, l⟩ | ⟨rfl, hv⟩
    · simp only [evB]
      rw [is_word_eq l]
      simp only [evB]
      exact ⟨by rw [List.length_map]; omega, dn ++ [.tup [.str VAR, .str x]], by rw [List.map_append, List.map_singleton, okT_var], by simp [← e]⟩
    · have hb : (VALUE == [118, 97, 114]) = false := by decide
      simp only [evB, hb]
      rw [is_value_eq hv]
      simp only [evB]
      exact ⟨by rw [List.length_map]; omega, dn ++ [.tup [.str VALUE, v]], by rw [List.map_append, List.map_singleton, okT_val], by simp [← e]⟩
  · rintro _ _ ⟨rfl, dn, rfl, e⟩
    rw [List.append_nil] at e
    subst e
    simp only [evB]
    rw [all_lst (bools_map okT dn)]
    rw [show dn.all okT = (dn.map okT).all id by simp [List.all_map]]
    all_goals first | trivial | rfl | exact ⟨rfl, rfl⟩)
theorem good_term_eq {t : D} (h : Tg t) : m__law_good_term [.va t] = .ok (.va (.bl (okT t))) [.va t] := wp_eq (by
  obtain ⟨tag, v, rfl, q⟩ := h
  refine def_wp rfl ?_
  show (b__law_good_term [.va (.tup [.str tag, v])]).wp _
  unfold b__law_good_term
  refine seq_wp fun R hR => ?_
  rcases q with ⟨rfl, x, rfl, l⟩ | ⟨rfl, hv⟩
  · have hb : (VAR == [118, 97, 108, 117, 101]) = false := by decide
    simp only [evB, hb]
    refine hR _ ?_; clear hR R
    simp only [evB]
    rw [lis_word_eq l, okT_var]
    simp only [evB]
    all_goals first | trivial | rfl | exact ⟨rfl, rfl⟩
  · rw [okT_val]
    rcases hv with ⟨i, rfl⟩ | ⟨x, rfl, l⟩
    · simp only [evB]
      all_goals first | trivial | rfl | exact ⟨rfl, rfl⟩
    · simp only [evB]
      refine hR _ ?_; clear hR R
      simp only [evB]
      rw [lis_word_eq l]
      simp only [evB]
      all_goals first | trivial | rfl | exact ⟨rfl, rfl⟩)
/-! ### atoms, joins -/
def Ag (d : D) : Prop := ∃ (nm : List Nat) (ts : List D), d = .tup [.str nm, .tup ts] ∧ ts.length ≤ 100 ∧ ∀ t ∈ ts, Tg t
def okA (S : List D) : D → Bool
  | .tup [.str nm, .tup ts] => decide (cols nm S = some (ts.length : Int)) && ts.all okT
  | _ => false
theorem eq_oI {o : Option Int} {n : Int} {Q : RV → Prop} : (fEq (oI o) (.int n)).wp Q = Q (.va (.bl (decide (o = some n)))) := by
  cases o with
  | none => rfl
  | some c =>
    rw [show decide (some c = some n) = decide (c = n) by simp]
    simp only [evB, oI]
theorem cols_w {y : List Nat} {c : Int} : ∀ {S : List D}, (∀ t ∈ S, Tw t) → cols y S = some c → isw y = true ∧ y.length ≤ 200
  | [], _, h => nomatch h
  | t :: S, hS, h => by
    obtain ⟨x, d, rfl, wx, lx, _⟩ := hS t List.mem_cons_self
    by_cases e : x = y
    · subst e; exact ⟨wx, lx⟩
    · have e2 : cols y (.tup [.str x, .int d] :: S) = cols y S := by simp [cols, tbl, e]
      exact cols_w (fun t m => hS t (List.mem_cons_of_mem _ m)) (e2 ▸ h)
theorem Ag.am {S : List D} {a : D} (hS : ∀ t ∈ S, Tw t) (h : Ag a) (k : okA S a = true) : Am 60000 100 a := by
  obtain ⟨nm, ts, rfl, l, ht⟩ := h
  simp only [okA, Bool.and_eq_true, decide_eq_true_eq, List.all_eq_true] at k
  obtain ⟨wn, ln⟩ := cols_w hS k.1
  exact ⟨.str nm, ts, rfl, ⟨nm, rfl, wn, by omega⟩, l, fun t m => (ht t m).te (k.2 t m)⟩
theorem atom_eq {S : List D} {a : D} (hS : ∀ t ∈ S, Tb t) (h : Ag a) : m_is_valid_atom [.va (.tup S), .va a] = .ok (.va (.bl (okA S a))) [.va (.tup S), .va a] := wp_eq (by
  obtain ⟨nm, ts, rfl, l, ht⟩ := h
  refine def_wp rfl ?_
  show (b_is_valid_atom [.va (.tup S), .va (.tup [.str nm, .tup ts]), .no, .no]).wp _
  unfold b_is_valid_atom
  refine seq_wp fun R hR => ?_; simp only [evB]
  refine hR _ ?_; clear hR R
  simp only [evB]
  rw [count_eq hS]
  simp only [evB]
  rw [eq_oI]
  rw [show okA S (.tup [.str nm, .tup ts]) = (decide (cols nm S = some (ts.length : Int)) && ts.all okT) from rfl]
  cases hc : decide (cols nm S = some (ts.length : Int)) with
  | true =>
    simp only [evB]
    rw [terms_eq ht (by omega)]
    simp only [evB]
    all_goals first | trivial | rfl | exact ⟨rfl, rfl⟩
  | false =>
    simp only [evB]
    all_goals first | trivial | rfl | exact ⟨rfl, rfl⟩)
def termsA : D → List D
  | .tup [_, .tup ts] => ts
  | _ => []
theorem termsA_n {L N : Nat} {a : D} (h : Am L N a) : (∀ t ∈ termsA a, Te L t) ∧ (termsA a).length ≤ N := by
  obtain ⟨nm, ts, rfl, w, l, t⟩ := h
  exact ⟨t, l⟩
theorem vars_terms : ∀ {as : List D}, (∀ a ∈ as, Ag a) → as.flatMap varsA = (as.flatMap termsA).filterMap varOf
  | [], _ => rfl
  | a :: as, h => by
    rw [List.flatMap_cons, List.flatMap_cons, List.filterMap_append, vars_terms fun b m => h b (List.mem_cons_of_mem _ m)]
    obtain ⟨nm, ts, rfl, _⟩ := h a List.mem_cons_self
    rfl
/-- a join of the form, valid or not -/
def Jg (d : D) : Prop := ∃ hd as : List D, d = .tup [.tup hd, .tup as] ∧ hd.length ≤ 100 ∧ as.length ≤ 100 ∧ (∀ t ∈ hd, Tg t) ∧ ∀ a ∈ as, Ag a
def okJ (S : List D) (w : Int) : D → Bool
  | .tup [.tup hd, .tup as] => decide ((hd.length : Int) = w) && (decide (as.length ≤ 8) && (as.all (okA S) && (hd.all okT && (hd.filterMap varOf).all fun x => decide (x ∈ as.flatMap varsA))))
  | _ => false
theorem all_canon (p : List Nat → Bool) (l : List (List Nat)) : (canonT l).all p = l.all p := by
  rw [Bool.eq_iff_iff, List.all_eq_true, List.all_eq_true]
  exact ⟨fun h x m => h x (mem_canon.mpr m), fun h x m => h x (mem_canon.mp m)⟩
theorem strs_gd {l : List (List Nat)} (h : ∀ x ∈ l, isw x = true) : gds 60 (l.map D.str) = true := gds_all fun d m => by
  obtain ⟨x, mx, rfl⟩ := List.mem_map.mp m
  exact isw_gd (h x mx)
theorem in_strs {x : List Nat} {l : List (List Nat)} {Q : RV → Prop} (hx : isw x = true) (h : ∀ x ∈ l, isw x = true) : (fInA (.str x) (.tup (l.map D.str))).wp Q = Q (.va (.bl (decide (x ∈ l)))) := by
  rw [inA_tup (isw_gd hx) (strs_gd h), any_str]
theorem join_eq {S : List D} {w : Int} {j : D} (hS : ∀ t ∈ S, Tw t) (h : Jg j) : m_is_valid_join [.va (.tup S), .va (.int w), .va j] = .ok (.va (.bl (okJ S w j))) [.va (.tup S), .va (.int w), .va j] := wp_eq (by
  have hB : ∀ t ∈ S, Tb t := fun t m => (hS t m).tb
  obtain ⟨hd, as, rfl, lh, la, hh, ha⟩ := h
  refine def_wp rfl ?_
  show (b_is_valid_join [.va (.tup S), .va (.int w), .va (.tup [.tup hd, .tup as]), .no, .no, .no, .no, .no, .no, .no, .no]).wp _
  unfold b_is_valid_join
  refine seq_wp fun R hR => ?_; simp only [evB]
  refine hR _ ?_; clear hR R
  refine seq_wp fun R hR => ?_
  simp only [evB]
  by_cases e1 : (hd.length : Int) = w
  · rw [if_neg (fun z => z e1)]
    by_cases e2 : as.length ≤ 8
    · rw [if_neg (by omega)]
      refine hR _ ?_; clear hR R
      refine seq_wp fun R hR => ?_
      simp only [evB, itemsD]
      refine lc_wp (fun rest acc Γ => Γ = [.va (.tup S), .va (.int w), .va (.tup [.tup hd, .tup as]), .va (.tup hd), .va (.tup as), .no, .no, .no, .no, .no, .no] ∧ ∃ dn : List D, acc = (dn.map fun d => D.bl (okA S d)) ∧ dn ++ rest = as) ⟨rfl, [], rfl, rfl⟩ ?_ ?_
      · rintro d rest _ _ ⟨rfl, dn, rfl, e⟩
        have l4 : dn.length + (rest.length + 1) = as.length := by rw [← e]; simp
        simp only [evB]
        rw [atom_eq hB (ha d (by rw [← e]; simp))]
        simp only [evB]
        exact ⟨by rw [List.length_map]; omega, dn ++ [d], by rw [List.map_append, List.map_singleton], by simp [← e]⟩
      · rintro _ _ ⟨rfl, dn, rfl, e⟩
        rw [List.append_nil] at e
        subst e
        simp only [evB]
        rw [all_lst (bools_map (okA S) dn), show (dn.map (okA S)).all id = dn.all (okA S) by simp [List.all_map]]
        cases e3 : dn.all (okA S) with
        | false =>
          simp only [evB]
          have : okJ S w (.tup [.tup hd, .tup dn]) = false := by simp only [okJ, e3, Bool.false_and, Bool.and_false]
          rw [this]
          all_goals first | trivial | rfl | exact ⟨rfl, rfl⟩
        | true =>
          simp only [evB]
          refine hR _ ?_; clear hR R
          refine seq_wp fun R hR => ?_
          have hA : ∀ a ∈ dn, Am 60000 100 a := fun a m => (ha a m).am hS (List.all_eq_true.mp e3 a m)
          simp only [evB, wp_lc2]
          refine lcd_wp (fun rest acc Γ => Γ = [.va (.tup S), .va (.int w), .va (.tup [.tup hd, .tup dn]), .va (.tup hd), .va (.tup dn), .no, .no, .no, .no, .no, .no] ∧ ∃ qn : List D, acc = qn.flatMap termsA ∧ qn ++ rest = dn) ⟨rfl, [], rfl, rfl⟩ ?_ ?_
          · rintro a rest _ _ ⟨rfl, qn, rfl, e⟩
            have hm : a ∈ dn := by rw [← e]; simp
            have l4 : qn.length + (rest.length + 1) = dn.length := by rw [← e]; simp
            have l1 := flat_len termsA 100 qn fun b hb => (termsA_n (hA b (by rw [← e]; exact List.mem_append_left _ hb))).2
            have l2 := (termsA_n (hA a hm)).2
            obtain ⟨nm, ts, rfl, _, ht⟩ := ha a hm
            simp only [evB, itemsD]
            refine lc_wp (fun rest2 acc Γ => Γ = [.va (.tup S), .va (.int w), .va (.tup [.tup hd, .tup dn]), .va (.tup hd), .va (.tup dn), .no, .no, .va (.str nm), .va (.tup ts), .no, .no] ∧ ∃ tn : List D, acc = qn.flatMap termsA ++ tn ∧ tn ++ rest2 = ts) ⟨rfl, [], by rw [List.append_nil], rfl⟩ ?_ ?_
            · rintro t rest2 _ _ ⟨rfl, tn, rfl, e2⟩
              have l5 : tn.length + (rest2.length + 1) = ts.length := by rw [← e2]; simp
              have l6 : ts.length ≤ 100 := l2
              simp only [evB]
              exact ⟨by rw [List.length_append]; omega, tn ++ [t], by rw [List.append_assoc], by simp [← e2]⟩
            · rintro _ _ ⟨rfl, tn, rfl, e2⟩
              rw [List.append_nil] at e2
              subst e2
              exact ⟨rfl, qn ++ [.tup [.str nm, .tup tn]], by rw [List.flatMap_append]; simp [termsA], by simp [← e]⟩
          · rintro _ _ ⟨rfl, qn, rfl, e⟩
            rw [List.append_nil] at e
            subst e
            have l1 := flat_len termsA 100 qn fun b hb => (termsA_n (hA b hb)).2
            simp only [evB]
            rw [among_lst (fun t m => by
              obtain ⟨a, ma, mt⟩ := List.mem_flatMap.mp m
              exact (termsA_n (hA a ma)).1 t mt) (by omega)]
            simp only [evB]
            rw [← vars_terms ha]
            have hw : ∀ x ∈ canonT (qn.flatMap varsA), isw x = true := fun x m => by
              obtain ⟨a, ma, mx⟩ := List.mem_flatMap.mp (mem_canon.mp m)
              exact ((varsA_w (hA a ma)).1 x mx).1
            refine hR _ ?_; clear hR R
            simp only [evB]
            rw [terms_eq hh (by omega)]
            cases e4 : hd.all okT with
            | false =>
              simp only [evB]
              have : okJ S w (.tup [.tup hd, .tup qn]) = false := by simp only [okJ, e4, Bool.false_and, Bool.and_false]
              rw [this]
              all_goals first | trivial | rfl | exact ⟨rfl, rfl⟩
            | true =>
              simp only [evB]
              have hT : ∀ t ∈ hd, Te 60000 t := fun t m => (hh t m).te (List.all_eq_true.mp e4 t m)
              rw [among_eq hT (by omega)]
              simp only [evB, itemsD]
              have hv : ∀ x ∈ canonT (hd.filterMap varOf), isw x = true := fun x m => by
                obtain ⟨t, mt, et⟩ := List.mem_filterMap.mp (mem_canon.mp m)
                exact (varOf_w (hT t mt) et).1
              have hok : okJ S w (.tup [.tup hd, .tup qn]) = (canonT (hd.filterMap varOf)).all fun x => decide (x ∈ canonT (qn.flatMap varsA)) := by
                rw [all_canon]
                simp only [okJ, decide_eq_true e1, decide_eq_true e2, e3, e4, Bool.true_and, mem_canon]
              rw [hok]
              have hvl : (canonT (hd.filterMap varOf)).length ≤ 100 := by
                have h1 := canon_len (hd.filterMap varOf)
                have h2 : (hd.filterMap varOf).length ≤ hd.length := List.length_filterMap_le _ _
                omega
              generalize canonT (hd.filterMap varOf) = vs at hv hvl ⊢
              generalize canonT (qn.flatMap varsA) = bs at hw ⊢
              refine lc_wp (fun rest acc Γ => Γ = [.va (.tup S), .va (.int w), .va (.tup [.tup hd, .tup qn]), .va (.tup hd), .va (.tup qn), .va (.tup (bs.map D.str)), .no, .no, .no, .no, .no] ∧ ∃ dn rs : List (List Nat), rest = rs.map D.str ∧ acc = (dn.map fun x => D.bl (decide (x ∈ bs))) ∧ dn ++ rs = vs) ⟨rfl, [], vs, rfl, rfl, rfl⟩ ?_ ?_
              · rintro d rest _ _ ⟨rfl, dn, rs, er, rfl, e⟩
                cases rs with
                | nil => cases er
                | cons x rs =>
                cases er
                have l4 : dn.length + (rs.length + 1) = vs.length := by rw [← e]; simp
                simp only [evB]
                rw [in_strs (hv x (by rw [← e]; simp)) hw]
                simp only [evB]
                exact ⟨by rw [List.length_map]; omega, dn ++ [x], rs, rfl, by rw [List.map_append, List.map_singleton], by simp [← e]⟩
              · rintro _ _ ⟨rfl, dn, rs, er, rfl, e⟩
                cases rs with
                | cons => cases er
                | nil =>
                rw [List.append_nil] at e
                subst e
                simp only [evB]
                rw [all_lst (bools_map (fun x => decide (x ∈ bs)) dn), show (dn.map fun x => decide (x ∈ bs)).all id = dn.all fun x => decide (x ∈ bs) by simp [List.all_map, Function.comp_def]]
                all_goals first | trivial | rfl | exact ⟨rfl, rfl⟩
    · rw [if_pos (by omega)]
      have : okJ S w (.tup [.tup hd, .tup as]) = false := by simp only [okJ, decide_eq_false e2, Bool.false_and, Bool.and_false]
      rw [this]
      all_goals try simp only [evB]
      all_goals first | trivial | rfl | exact ⟨rfl, rfl⟩
  · rw [if_pos e1]
    have : okJ S w (.tup [.tup hd, .tup as]) = false := by simp only [okJ, decide_eq_false e1, Bool.false_and]
    rw [this]
    all_goals try simp only [evB]
    all_goals first | trivial | rfl | exact ⟨rfl, rfl⟩)
theorem any_f : ∀ (acc : List Bool), ((acc.map D.bl).any fun z => eqD z (.bl false)) = !acc.all id
  | [] => rfl
  | b :: acc => by
    rw [List.map_cons, List.any_cons, List.all_cons, any_f acc]
    cases b <;> simp [eqD]
theorem bl_gds : ∀ (acc : List Bool), gds 60 (acc.map D.bl) = true
  | [] => rfl
  | b :: acc => by
    rw [List.map_cons]
    simp only [gds, Bool.and_eq_true]
    exact ⟨rfl, bl_gds acc⟩
theorem wp_enum {ma : EM} {Γ : List Sl} {Qi : IQ} {E : Nat → List D → List Sl → Prop} : (mEnum ma Γ).wp Qi E = (ma Γ).wp (fun r Γ1 => opt (esc Γ1 r) fun p => match p.1 with
    | .tup ds => Qi (enumD ds, none) p.2
    | .lst ds => Qi (enumD ds, none) p.2
    | _ => False) E := by
  unfold mEnum; rw [wp_bind]; congr 1; funext r Γ1
  cases esc Γ1 r with
  | none => rfl
  | some p =>
    obtain ⟨d, Γ2⟩ := p
    cases d <;> rfl
theorem okJ_atom {S : List D} {w : Int} {hd as : List D} {a : D} (m : a ∈ as) (h : okA S a = false) : okJ S w (.tup [.tup hd, .tup as]) = false := by
  have : as.all (okA S) = false := by
    rw [Bool.eq_false_iff]
    intro z
    rw [List.all_eq_true.mp z a m] at h
    cases h
  simp only [okJ, this, Bool.false_and, Bool.and_false]
theorem okJ_term {S : List D} {w : Int} {hd as : List D} {t : D} (m : t ∈ hd) (h : okT t = false) : okJ S w (.tup [.tup hd, .tup as]) = false := by
  have : hd.all okT = false := by
    rw [Bool.eq_false_iff]
    intro z
    rw [List.all_eq_true.mp z t m] at h
    cases h
  simp only [okJ, this, Bool.false_and, Bool.and_false]
theorem okJ_name {S : List D} {w : Int} {hd as : List D} {t : D} {x : List Nat} (m : t ∈ hd) (e : varOf t = some x) (h : x ∉ as.flatMap varsA) : okJ S w (.tup [.tup hd, .tup as]) = false := by
  have : ((hd.filterMap varOf).all fun x => decide (x ∈ as.flatMap varsA)) = false := by
    rw [Bool.eq_false_iff]
    intro z
    have := List.all_eq_true.mp z x (List.mem_filterMap.mpr ⟨t, m, e⟩)
    exact h (of_decide_eq_true this)
  simp only [okJ, this, Bool.and_false]
theorem good_join_eq {S : List D} {w : Int} {j : D} (hS : ∀ t ∈ S, Tw t) (h : Jg j) : m__law_good_join [.va (.tup S), .va (.int w), .va j] = .ok (.va (.bl (okJ S w j))) [.va (.tup S), .va (.int w), .va j] := wp_eq (by
  have hB : ∀ t ∈ S, Tb t := fun t m => (hS t m).tb
  obtain ⟨hd, as, rfl, lh, la, hh, ha⟩ := h
  refine def_wp rfl ?_
  show (b__law_good_join [.va (.tup S), .va (.int w), .va (.tup [.tup hd, .tup as]), .no, .no, .no, .no]).wp _
  unfold b__law_good_join
  refine seq_wp fun R hR => ?_
  simp only [evB]
  by_cases e1 : (hd.length : Int) = w
  · rw [if_neg (fun z => z e1)]
    by_cases e2 : as.length ≤ 8
    · rw [if_neg (by omega)]
      refine hR _ ?_; clear hR R
      refine seq_wp fun R hR => ?_
      simp only [evB, itemsD]
      refine loop_wp (fun (rest : List D) Γ => ∃ (dn : List D) (s3 s4 : Sl), Γ = [.va (.tup S), .va (.int w), .va (.tup [.tup hd, .tup as]), s3, s4, .no, .no] ∧ nb s3 = true ∧ nb s4 = true ∧ dn ++ rest = as ∧ ∀ a ∈ dn, okA S a = true) ⟨[], .no, .no, rfl, rfl, rfl, rfl, fun a m => (nomatch m)⟩ ?_ ?_
      · rintro a rest _ ⟨dn, s3, s4, rfl, n3, n4, e, hdn⟩
        have hm : a ∈ as := by rw [← e]; simp
        have hbad := okJ_atom (S := S) (w := w) (hd := hd) hm
        obtain ⟨nm, ts, rfl, l, ht⟩ := ha a hm
        simp only [evB, n3, n4]
        refine seq_wp fun R hR => ?_
        simp only [evB, n3, n4]
        rw [table_eq hB]
        simp only [evB, n3, n4]
        refine hR _ ?_; clear hR R
        rcases tab_cols (y := nm) hB with ⟨q1, q2⟩ | ⟨x, c, q1, q2⟩
        · rw [q1]
          refine seq_wp fun R hR => ?_
          simp only [evB, oT]
          rw [hbad (by simp [okA, q2])]
        · rw [q1]
          refine seq_wp fun R hR => ?_
          simp only [evB, oT]
          by_cases e3 : c = (ts.length : Int)
          · rw [if_neg (fun z => z e3)]
            refine hR _ ?_; clear hR R
            simp only [evB, itemsD]
            refine lc_wp (fun rest2 acc Γ => Γ = [.va (.tup S), .va (.int w), .va (.tup [.tup hd, .tup as]), .va (.tup [.str nm, .tup ts]), .va (.tup [.str x, .int c]), .no, .no] ∧ ∃ tn : List D, acc = (tn.map fun d => D.bl (okT d)) ∧ tn ++ rest2 = ts) ⟨rfl, [], rfl, rfl⟩ ?_ ?_
            · rintro t rest2 _ _ ⟨rfl, tn, rfl, e4⟩
              have l4 : tn.length + (rest2.length + 1) = ts.length := by rw [← e4]; simp
              simp only [evB]
              rw [good_term_eq (ht t (by rw [← e4]; simp))]
              simp only [evB]
              exact ⟨by rw [List.length_map]; omega, tn ++ [t], by rw [List.map_append, List.map_singleton], by simp [← e4]⟩
            · rintro _ _ ⟨rfl, tn, rfl, e4⟩
              rw [List.append_nil] at e4
              subst e4
              simp only [evB]
              rw [show (tn.map fun d => D.bl (okT d)) = (tn.map okT).map D.bl by rw [List.map_map]; rfl, in_lst rfl (bl_gds _), any_f, show (tn.map okT).all id = tn.all okT by simp [List.all_map]]
              cases e5 : tn.all okT with
              | false =>
                simp only [evB]
                rw [hbad (by simp only [okA, e5, Bool.and_false])]
              | true =>
                simp only [evB]
                refine ⟨dn ++ [.tup [.str nm, .tup tn]], _, _, rfl, rfl, rfl, by simp [← e], fun a m => ?_⟩
                rcases List.mem_append.mp m with m | m
                · exact hdn a m
                · rw [List.mem_singleton.mp m]
                  simp only [okA, e5, Bool.and_true, decide_eq_true_eq]
                  rw [q2, e3]
          · rw [if_pos e3]
            all_goals try simp only [evB]
            rw [hbad (by simp only [okA, q2, Option.some.injEq, decide_eq_false e3, Bool.false_and])]
      · rintro _ ⟨dn, s3, s4, rfl, n3, n4, e, hdn⟩
        rw [List.append_nil] at e
        subst e
        have hA : ∀ a ∈ dn, Am 60000 100 a := fun a m => (ha a m).am hS (hdn a m)
        have e3 : dn.all (okA S) = true := List.all_eq_true.mpr hdn
        refine hR _ ?_; clear hR R
        refine seq_wp fun R hR => ?_
        simp only [evB, n3, n4]
        rw [variables_eq (L := 60000) (N := 100) ⟨hd, dn, rfl, e2, hA⟩ (by decide)]
        have hw : ∀ x ∈ canonT (varsJ (.tup [.tup hd, .tup dn])), isw x = true := fun x m => (varsJ_w (L := 60000) (N := 100) ⟨hd, dn, rfl, e2, hA⟩ x m).1
        have hmem : ∀ x, x ∈ canonT (varsJ (.tup [.tup hd, .tup dn])) ↔ x ∈ dn.flatMap varsA := fun x => mem_canon
        generalize canonT (varsJ (.tup [.tup hd, .tup dn])) = bs at hw hmem ⊢
        simp only [evB, n3, n4]
        refine hR _ ?_; clear hR R
        refine seq_wp fun R hR => ?_
        simp only [evB, itemsD, n3, n4]
        refine loop_wp (fun (rest : List D) Γ => ∃ (hn : List D) (s6 : Sl), Γ = [.va (.tup S), .va (.int w), .va (.tup [.tup hd, .tup dn]), s3, s4, .ow (bs.map D.str), s6] ∧ nb s6 = true ∧ hn ++ rest = hd ∧ (∀ t ∈ hn, okT t = true) ∧ ∀ x ∈ hn.filterMap varOf, x ∈ dn.flatMap varsA) ⟨[], .no, rfl, rfl, rfl, fun a m => (nomatch m), fun a m => (nomatch m)⟩ ?_ ?_
        · rintro t rest _ ⟨hn, s6, rfl, n6, e, k1, k2⟩
          have hm : t ∈ hd := by rw [← e]; simp
          simp only [evB, n3, n4, n6]
          rw [good_term_eq (hh t hm)]
          cases e5 : okT t with
          | false =>
            simp only [evB]
            rw [okJ_term hm e5]
          | true =>
            simp only [evB]
            have hte := (hh t hm).te e5
            obtain ⟨tag, v, rfl, q⟩ := hh t hm
            rcases q with ⟨rfl, x, rfl, lx⟩ | ⟨rfl, hv⟩
            · have hx : isw x = true := by rw [okT_var] at e5; exact e5
              simp only [evB]
              rw [notin_lst (isw_gd hx) (strs_gd hw), any_str]
              have ev : varOf (.tup [.str VAR, .str x]) = some x := by simp [varOf]
              by_cases e6 : x ∈ bs
              · rw [decide_eq_true e6]
                simp only [evB]
                refine ⟨hn ++ [.tup [.str VAR, .str x]], _, rfl, rfl, by simp [← e], fun a m => ?_, fun y m => ?_⟩
                · rcases List.mem_append.mp m with m | m
                  · exact k1 a m
                  · rw [List.mem_singleton.mp m]; exact e5
                · rw [List.filterMap_append, List.filterMap_cons_some ev] at m
                  rcases List.mem_append.mp m with m | m
                  · exact k2 y m
                  · rw [show y = x by simpa using m]; exact (hmem x).mp e6
              · rw [decide_eq_false e6]
                simp only [evB]
                rw [okJ_name hm ev (fun z => e6 ((hmem x).mpr z))]
                all_goals split <;> first | rfl | trivial
            · have hb : (VALUE == [118, 97, 114]) = false := by decide
              have ev : varOf (.tup [.str VALUE, v]) = none := by
                unfold varOf
                split
                · rename_i e
                  injection e with e; injection e with e1 e2
                  injection e1 with e1
                  rw [if_neg (by rw [← e1]; decide)]
                · rfl
              simp only [evB, hb]
              refine ⟨hn ++ [.tup [.str VALUE, v]], _, rfl, rfl, by simp [← e], fun a m => ?_, fun y m => ?_⟩
              · rcases List.mem_append.mp m with m | m
                · exact k1 a m
                · rw [List.mem_singleton.mp m]; exact e5
              · rw [List.filterMap_append, List.filterMap_cons_none ev, List.filterMap_nil, List.append_nil] at m
                exact k2 y m
        · rintro _ ⟨hn, s6, rfl, n6, e, k1, k2⟩
          rw [List.append_nil] at e
          subst e
          refine hR _ ?_; clear hR R
          simp only [evB, n3, n4, n6]
          have : okJ S w (.tup [.tup hn, .tup dn]) = true := by
            simp only [okJ, decide_eq_true e1, decide_eq_true e2, e3, List.all_eq_true.mpr k1, Bool.true_and, List.all_eq_true]
            exact fun x m => decide_eq_true (k2 x m)
          rw [this]
          all_goals first | trivial | rfl | exact ⟨rfl, rfl⟩
    · rw [if_pos (by omega)]
      have : okJ S w (.tup [.tup hd, .tup as]) = false := by simp only [okJ, decide_eq_false e2, Bool.false_and, Bool.and_false]
      rw [this]
      all_goals try simp only [evB]
      all_goals first | trivial | rfl | exact ⟨rfl, rfl⟩
  · rw [if_pos e1]
    have : okJ S w (.tup [.tup hd, .tup as]) = false := by simp only [okJ, decide_eq_false e1, Bool.false_and]
    rw [this]
    all_goals try simp only [evB]
    all_goals first | trivial | rfl | exact ⟨rfl, rfl⟩)
/-! ### questions -/
theorem rng_cut {n i : Nat} {d : D} {rest : List D} (h : d :: rest = (rngD 0 n).drop i) : i < n ∧ d = .int (i : Int) ∧ rest = (rngD 0 n).drop (i + 1) := by
  have hl : (rngD 0 n).length = n := by unfold rngD; simp
  have hlt : i < (rngD 0 n).length := by
    rcases Nat.lt_or_ge i (rngD 0 n).length with q | q
    · exact q
    · rw [List.drop_eq_nil_of_le q] at h; cases h
  rw [List.drop_eq_getElem_cons hlt, List.cons.injEq] at h
  refine ⟨by omega, ?_, h.2⟩
  rw [h.1]
  unfold rngD
  simp
theorem rng_end {n i : Nat} (h : [] = (rngD 0 n).drop i) : n ≤ i := by
  have hl : (rngD 0 n).length = n := by unfold rngD; simp
  have := List.drop_eq_nil_iff.mp h.symm
  omega
theorem atI_at {js : List D} {i : Nat} (h : i < js.length) : L2.atI js (i : Int) = some js[i] := by
  exact L2.atI_nat (List.getElem?_eq_getElem h)
/-- the number of the first bad join -/
def badAt (S : List D) (w : Int) : List D → Nat → Option D
  | [], _ => none
  | j :: js, k => if okJ S w j = true then badAt S w js (k + 1) else some (.int (k : Nat))
def fault (S : List D) (w : Int) (js : List D) : Option D := if w < 0 then some .non else if 8 < w then some .non else if 8 < (js.length : Int) then some .non else badAt S w js 0
theorem check_wp {S js : List D} {w : Int} {Q : RV → List Sl → Prop} {E : Nat → List D → List Sl → Prop} (hS : ∀ t ∈ S, Tw t) (hj : ∀ j ∈ js, Jg j) (hl : js.length ≤ 100)
    (h0 : fault S w js = none → Q (.va .non) [.va (.tup S), .va (.tup [.int w, .tup js])]) (h1 : ∀ x, flatD x = true → fault S w js = some x → E 0 [x] [.va (.tup S), .va (.tup [.int w, .tup js])]) : (m_check_question [.va (.tup S), .va (.tup [.int w, .tup js])]).wp Q E := by
  refine def_wp rfl ?_
  show (b_check_question [.va (.tup S), .va (.tup [.int w, .tup js]), .no, .no, .no, .no]).wp _
  unfold b_check_question
  refine seq_wp fun R hR => ?_; simp only [evB]
  refine hR _ ?_; clear hR R
  refine seq_wp fun R hR => ?_
  simp only [evB, wp_raiseP]
  by_cases e1 : w < 0
  · rw [if_pos e1, if_pos (show flatD .non = true from rfl)]
    exact h1 _ rfl (if_pos e1)
  rw [if_neg e1]
  by_cases e2 : 8 < w
  · rw [if_pos e2, if_pos (show flatD .non = true from rfl)]
    exact h1 _ rfl (by unfold fault; rw [if_neg e1, if_pos e2])
  rw [if_neg e2]
  by_cases e3 : 8 < (js.length : Int)
  · rw [if_pos e3, if_pos (show flatD .non = true from rfl)]
    exact h1 _ rfl (by unfold fault; rw [if_neg e1, if_neg e2, if_pos e3])
  rw [if_neg e3]
  refine hR _ ?_; clear hR R
  have hf : fault S w js = badAt S w js 0 := by unfold fault; rw [if_neg e1, if_neg e2, if_neg e3]
  rw [hf] at h0 h1
  simp only [evB, wp_enum]
  have lenE := enum_len (ds := js)
  refine loop_wp (fun (rest : List D) Γ => ∃ (i : Nat) (s4 s5 : Sl), rest = (enumD js).drop i ∧ i ≤ js.length ∧ Γ = [.va (.tup S), .va (.tup [.int w, .tup js]), .va (.int w), .va (.tup js), s4, s5] ∧ nb s4 = true ∧ nb s5 = true ∧ badAt S w (js.drop i) i = badAt S w js 0)
    ⟨0, .no, .no, by simp, by omega, rfl, rfl, rfl, by simp⟩ ?_ ?_
  · rintro d rest _ ⟨i, s4, s5, er, hi, rfl, n4, n5, hb⟩
    have hlt : i < (enumD js).length := by
      rcases Nat.lt_or_ge i (enumD js).length with q | q
      · exact q
      · rw [List.drop_eq_nil_of_le q] at er; cases er
    have hil : i < js.length := by rw [lenE] at hlt; exact hlt
    rw [List.drop_eq_getElem_cons hlt, List.cons.injEq] at er
    obtain ⟨ed, er⟩ := er
    obtain ⟨a, ea, e2⟩ := enum_get (ds := js) (i := i) (d := d) (by rw [ed]; exact List.getElem?_eq_getElem hlt)
    clear ed
    subst e2
    rw [List.getElem?_eq_getElem hil] at ea
    simp only [Option.some.injEq] at ea
    have hm : a ∈ js := by rw [← ea]; exact List.getElem_mem hil
    rw [List.drop_eq_getElem_cons hil, ea, badAt] at hb
    simp only [evB, n4, n5]
    rw [join_eq hS (hj a hm)]
    simp only [evB, n4, n5]
    cases e6 : okJ S w a with
    | true =>
      rw [e6, if_pos rfl] at hb
      all_goals try simp only [evB]
      exact ⟨i + 1, _, _, er, by omega, rfl, rfl, rfl, hb⟩
    | false =>
      rw [e6, if_neg (by decide)] at hb
      simp only [evB, wp_raiseP]
      rw [if_pos (show flatD (.int (i : Int)) = true from rfl)]
      exact h1 _ rfl hb.symm
  · rintro _ ⟨i, s4, s5, er, hi, rfl, n4, n5, hb⟩
    have : js.drop i = [] := by
      have : (enumD js).length ≤ i := List.drop_eq_nil_iff.mp er.symm
      exact List.drop_eq_nil_of_le (by omega)
    rw [this, badAt] at hb
    all_goals try simp only [evB]
    exact h0 hb.symm
theorem faults_eq {S js : List D} {w : Int} (hS : ∀ t ∈ S, Tw t) (hj : ∀ j ∈ js, Jg j) (hl : js.length ≤ 100) : m__law_faults [.va (.tup S), .va (.tup [.int w, .tup js])] = .ok (.ow (fault S w js).toList) [.va (.tup S), .va (.tup [.int w, .tup js])] := wp_eq (by
  refine def_wp rfl ?_
  show (b__law_faults [.va (.tup S), .va (.tup [.int w, .tup js]), .no]).wp _
  unfold b__law_faults
  refine seq_wp fun R hR => ?_
  simp only [evB]
  by_cases e1 : w < 0
  · rw [if_pos e1, show fault S w js = some .non by unfold fault; rw [if_pos e1]]
    all_goals first | trivial | rfl | exact ⟨rfl, rfl⟩
  rw [if_neg e1]
  by_cases e2 : 8 < w
  · rw [if_pos e2, show fault S w js = some .non by unfold fault; rw [if_neg e1, if_pos e2]]
    all_goals first | trivial | rfl | exact ⟨rfl, rfl⟩
  rw [if_neg e2]
  by_cases e3 : 8 < (js.length : Int)
  · rw [if_pos e3, show fault S w js = some .non by unfold fault; rw [if_neg e1, if_neg e2, if_pos e3]]
    all_goals first | trivial | rfl | exact ⟨rfl, rfl⟩
  rw [if_neg e3]
  refine hR _ ?_; clear hR R
  have hf : fault S w js = badAt S w js 0 := by unfold fault; rw [if_neg e1, if_neg e2, if_neg e3]
  rw [hf]
  generalize hG : ([.va (.tup S), .va (.tup [.int w, .tup js]), .no] : List Sl) = Γ0
  refine seq_wp fun R hR => ?_
  subst hG
  simp only [evB]
  refine ⟨by omega, ?_⟩
  refine loop_wp (fun (rest : List D) Γ => ∃ (i : Nat) (s2 : Sl), rest = (rngD 0 js.length).drop i ∧ i ≤ js.length ∧ Γ = [.va (.tup S), .va (.tup [.int w, .tup js]), s2] ∧ nb s2 = true ∧ badAt S w (js.drop i) i = badAt S w js 0)
    ⟨0, .no, by simp, by omega, rfl, rfl, by simp⟩ ?_ ?_
  · rintro d rest _ ⟨i, s2, er, hi, rfl, n2, hb⟩
    obtain ⟨hil, ed, er2⟩ := rng_cut er
    subst ed
    have hm : js[i] ∈ js := List.getElem_mem hil
    rw [List.drop_eq_getElem_cons hil, badAt] at hb
    simp only [evB, n2]
    rw [atI_at hil]
    simp only [evB, n2]
    rw [good_join_eq hS (hj _ hm)]
    simp only [evB, n2]
    cases e6 : okJ S w js[i] with
    | true =>
      rw [e6, if_pos rfl] at hb
      all_goals try simp only [evB]
      exact ⟨i + 1, _, er2, by omega, rfl, rfl, hb⟩
    | false =>
      rw [e6, if_neg (by decide)] at hb
      all_goals try simp only [evB]
      rw [← hb]
      all_goals first | trivial | rfl | exact ⟨rfl, rfl⟩
  · rintro _ ⟨i, s2, er, hi, rfl, n2, hb⟩
    have : js.drop i = [] := List.drop_eq_nil_of_le (rng_end er)
    rw [this, badAt] at hb
    refine hR _ ?_; clear hR R
    simp only [evB]
    rw [← hb]
    all_goals first | trivial | rfl | exact ⟨rfl, rfl⟩)

/-- what is told of a fault -/
def told : Option D → D
  | none => .tup [.str [103, 111, 111, 100], .non]
  | some x => .tup [.str [114, 101, 102, 117, 115, 101, 100], x, .bl true, .bl true, .bl false]
theorem asked_eq {S js : List D} {w : Int} (hS : ∀ t ∈ S, Tw t) (hj : ∀ j ∈ js, Jg j) (hl : js.length ≤ 100) : m__law_asked [.va (.tup S), .va (.tup [.int w, .tup js])] = .ok (.va (told (fault S w js))) [.va (.tup S), .va (.tup [.int w, .tup js])] := wp_eq (by
  refine def_wp rfl ?_
  show (b__law_asked [.va (.tup S), .va (.tup [.int w, .tup js]), .no]).wp _
  unfold b__law_asked
  rw [wp_tryP]
  simp only [evB]
  refine check_wp hS hj hl (fun hf => ?_) fun x hx hf => ?_
  · rw [hf]
    simp only [evB]
    all_goals first | trivial | rfl | exact ⟨rfl, rfl⟩
  · rw [hf]
    simp only [evB]
    all_goals first | trivial | rfl | exact ⟨rfl, rfl⟩)
theorem due_eq {S js : List D} {w : Int} (hS : ∀ t ∈ S, Tw t) (hj : ∀ j ∈ js, Jg j) (hl : js.length ≤ 100) : m__law_due [.va (.tup S), .va (.tup [.int w, .tup js])] = .ok (.va (told (fault S w js))) [.va (.tup S), .va (.tup [.int w, .tup js])] := wp_eq (by
  refine def_wp rfl ?_
  show (b__law_due [.va (.tup S), .va (.tup [.int w, .tup js]), .no]).wp _
  unfold b__law_due
  refine seq_wp fun R hR => ?_
  simp only [evB]
  rw [faults_eq hS hj hl]
  simp only [evB, itemsD]
  cases hf : fault S w js with
  | none =>
    refine loop_wp (fun (rest : List D) Γ => rest = [] ∧ Γ = [.va (.tup S), .va (.tup [.int w, .tup js]), .no]) ⟨rfl, rfl⟩ ?_ ?_
    · rintro d rest _ ⟨h, _⟩
      cases h
    · rintro _ ⟨_, rfl⟩
      refine hR _ ?_; clear hR R
      simp only [evB]
      simp only [hf, told, and_self]
  | some x =>
    refine loop_wp (fun (rest : List D) Γ => rest = [x] ∧ Γ = [.va (.tup S), .va (.tup [.int w, .tup js]), .no]) ⟨rfl, rfl⟩ ?_ ?_
    · rintro d rest _ ⟨h, rfl⟩
      cases h
      simp only [evB]
      simp only [hf, told, and_self]
    · rintro _ ⟨h, _⟩
      cases h)
theorem flt_pl {x : D} (h : flatD x = true) : pl 10 x = true := by
  cases x <;> first | rfl | cases h
theorem badAt_flat {S : List D} {w : Int} : ∀ (js : List D) (k : Nat) (x : D), badAt S w js k = some x → flatD x = true
  | [], _, _, h => nomatch h
  | j :: js, k, x, h => by
    unfold badAt at h
    split at h
    · exact badAt_flat js _ x h
    · cases h; rfl
theorem told_pl {S js : List D} {w : Int} : pl 11 (told (fault S w js)) = true := by
  have : ∀ x, fault S w js = some x → flatD x = true := fun x h => by
    unfold fault at h
    split at h
    · cases h; rfl
    · split at h
      · cases h; rfl
      · split at h
        · cases h; rfl
        · exact badAt_flat js 0 x h
  cases hf : fault S w js with
  | none => rfl
  | some x =>
    have := flt_pl (this x hf)
    simp [told, pl, pls, this]
theorem pickT_wp {ds row : List D} {Q : RV → List Sl → Prop} {E : Nat → List D → List Sl → Prop} (hD : Dr ds) (hr : row ≠ [])
    (k : ∀ (d : D) (es : List D), d ∈ row → Dr es → Q (.va d) [.ow es, .va (.tup row)]) : (m__law_pick [.ow ds, .va (.tup row)]).wp Q E := by
  refine def_wp rfl ?_
  show (b__law_pick [.ow ds, .va (.tup row)]).wp _
  unfold b__law_pick
  simp only [evB]
  have hl : 0 < (row.length : Int) := by
    cases row with
    | nil => exact absurd rfl hr
    | cons => simp only [List.length_cons]; omega
  refine take_wp hD hl fun r es r0 r1 hE => ?_
  simp only [evB]
  obtain ⟨d, ed, hd⟩ := atI_of r0 r1
  rw [ed]
  simp only [evB]
  exact k d es hd hE
/-! ### the joins that are drawn -/
def Tj (d : D) : Prop := (∃ y : List Nat, d = .tup [.str [118, 97, 114], .str y] ∧ isw y = true ∧ y.length ≤ 200) ∨ ∃ v : D, d = .tup [.str [118, 97, 108, 117, 101], v] ∧ Vt v
def Aj (a : D) : Prop := ∃ (x : List Nat) (ts : List D), a = .tup [.str x, .tup ts] ∧ isw x = true ∧ x.length ≤ 200 ∧ (∀ t ∈ ts, Tj t) ∧ ts.length ≤ 8
def Jj (j : D) : Prop := ∃ (hs as : List D), j = .tup [.tup hs, .tup as] ∧ (∀ t ∈ hs, Tj t) ∧ hs.length ≤ 8 ∧ (∀ a ∈ as, Aj a) ∧ as.length ≤ 8
theorem vt_vl {v : D} (h : Vt v) : Vl v := by
  rcases h with ⟨i, rfl, _⟩ | ⟨x, rfl, w, l⟩
  · exact .inl ⟨i, rfl⟩
  · exact .inr ⟨x, rfl, by omega⟩
theorem Tj.tg {t : D} (h : Tj t) : Tg t := by
  rcases h with ⟨y, rfl, w, l⟩ | ⟨v, rfl, hv⟩
  · exact ⟨VAR, _, rfl, .inl ⟨rfl, y, rfl, by omega⟩⟩
  · exact ⟨VALUE, v, rfl, .inr ⟨rfl, vt_vl hv⟩⟩
theorem Tj.te {t : D} (h : Tj t) : Te 60000 t := by
  rcases h with ⟨y, rfl, w, l⟩ | ⟨v, rfl, hv⟩
  · exact ⟨VAR, _, rfl, by decide, .inl ⟨rfl, y, rfl, w, by omega⟩⟩
  · refine ⟨VALUE, v, rfl, by decide, .inr ⟨by decide, ?_⟩⟩
    rcases hv with ⟨i, rfl, _⟩ | ⟨x, rfl, w, l⟩
    · exact .inl ⟨i, rfl⟩
    · exact .inr ⟨x, rfl, w, by omega⟩
theorem Aj.ag {a : D} (h : Aj a) : Ag a := by
  obtain ⟨x, ts, rfl, w, l, ht, lt⟩ := h
  exact ⟨x, ts, rfl, by omega, fun t m => (ht t m).tg⟩
theorem Aj.am {a : D} (h : Aj a) : Am 60000 100 a := by
  obtain ⟨x, ts, rfl, w, l, ht, lt⟩ := h
  exact ⟨.str x, ts, rfl, ⟨x, rfl, w, by omega⟩, by omega, fun t m => (ht t m).te⟩
theorem Jj.jg {j : D} (h : Jj j) : Jg j := by
  obtain ⟨hs, as, rfl, hh, lh, ha, la⟩ := h
  exact ⟨hs, as, rfl, by omega, by omega, fun t m => (hh t m).tg, fun a m => (ha a m).ag⟩
theorem term_wp {ds ts ns vs : List D} {Q : RV → List Sl → Prop} {E : Nat → List D → List Sl → Prop} (hD : Dr ds) (hW : Wo ts ns vs)
    (k : ∀ (t : D) (es : List D), Tj t → Dr es → Q (.va t) [.ow es, .ow [.tup ts, .lst ns, .lst vs]]) : (m__law_term [.ow ds, .ow [.tup ts, .lst ns, .lst vs]]).wp Q E := by
  refine def_wp rfl ?_
  show (b__law_term [.ow ds, .ow [.tup ts, .lst ns, .lst vs]]).wp _
  unfold b__law_term
  refine seq_wp fun R hR => ?_
  simp only [evB]
  refine take_wp hD (by decide) fun r es r0 r1 hD => ?_
  simp only [evB]
  split
  · refine lvalue_wp hD hW.v hW.vl fun v es hv hD => ?_
    simp only [evB]
    exact k _ es (.inr ⟨v, rfl, hv⟩) hD
  · refine hR _ ?_; clear hR R
    simp only [evB]
    refine pick2_wp hD (ne_of_len hW.nl (by decide)) fun w es hw hD => ?_
    obtain ⟨y, rfl, wy, ly⟩ := hW.n w hw
    simp only [evB]
    exact k _ es (.inl ⟨y, rfl, wy, ly⟩) hD
theorem atom_wp {ds ts ns vs : List D} {x : List Nat} {c : Int} {Q : RV → List Sl → Prop} {E : Nat → List D → List Sl → Prop} (hD : Dr ds) (hW : Wo ts ns vs) (wx : isw x = true) (lx : x.length ≤ 200) (c0 : 0 ≤ c) (c1 : c ≤ 8)
    (k : ∀ (t : D) (es : List D), Aj t → Dr es → Q (.va t) [.ow es, .ow [.tup ts, .lst ns, .lst vs], .va (.tup [.str x, .int c])]) : (m__law_atom [.ow ds, .ow [.tup ts, .lst ns, .lst vs], .va (.tup [.str x, .int c])]).wp Q E := by
  refine def_wp rfl ?_
  show (b__law_atom [.ow ds, .ow [.tup ts, .lst ns, .lst vs], .va (.tup [.str x, .int c]), .no]).wp _
  unfold b__law_atom
  simp only [evB]
  refine ⟨by omega, ?_⟩
  refine lc_wp (fun rest acc Γ => ∃ es : List D, Γ = [.ow es, .ow [.tup ts, .lst ns, .lst vs], .va (.tup [.str x, .int c]), .no] ∧ Dr es ∧ (∀ t ∈ acc, Tj t) ∧ acc.length + rest.length ≤ 8) ⟨ds, rfl, hD, fun v hv => (nomatch hv), by rw [rng_len]; simp; omega⟩ ?_ ?_
  · rintro d rest acc _ ⟨es, rfl, hD, ha, hl⟩
    rw [List.length_cons] at hl
    simp only [evB]
    refine term_wp hD hW fun t es ht hD => ?_
    simp only [evB]
    exact ⟨by omega, es, rfl, hD, snoc_mem ha ht, by rw [List.length_append, List.length_cons, List.length_nil]; omega⟩
  rintro acc _ ⟨es, rfl, hD, ha, hl⟩
  rw [List.length_nil] at hl
  simp only [evB]
  exact k _ es ⟨x, acc, rfl, wx, lx, ha, by omega⟩ hD
theorem join_wp {ds ts ns vs : List D} {width : Int} {Q : RV → List Sl → Prop} {E : Nat → List D → List Sl → Prop} (hD : Dr ds) (hW : Wo ts ns vs) (w0 : 0 ≤ width) (w1 : width ≤ 8)
    (k : ∀ (j : D) (es : List D), Jj j → Dr es → Q (.va j) [.ow es, .ow [.tup ts, .lst ns, .lst vs], .va (.int width)]) : (m__law_join [.ow ds, .ow [.tup ts, .lst ns, .lst vs], .va (.int width)]).wp Q E := by
  refine def_wp rfl ?_
  show (b__law_join [.ow ds, .ow [.tup ts, .lst ns, .lst vs], .va (.int width), .no, .no, .no, .no, .no]).wp _
  unfold b__law_join
  refine seq_wp fun R hR => ?_; simp only [evB]
  refine hR _ ?_; clear hR R
  refine seq_wp fun R hR => ?_
  simp only [evB]
  refine take_wp hD (by decide) fun r es r0 r1 hD => ?_
  simp only [evB]
  obtain ⟨z, ez, hz⟩ := atI_of (l := ([.int 1, .int 2, .int 2, .int 3, .int 1, .int 2, .int 0, .int 2] : List D)) r0 (by simpa using r1)
  have hz2 : ∃ n : Int, z = .int n ∧ 0 ≤ n ∧ n ≤ 3 := by
    simp only [List.mem_cons, List.not_mem_nil, or_false] at hz
    rcases hz with rfl | rfl | rfl | rfl | rfl | rfl | rfl | rfl <;> exact ⟨_, rfl, by decide, by decide⟩
  obtain ⟨n, rfl, z0, z1⟩ := hz2
  rw [ez]
  simp only [evB]
  refine ⟨by omega, ?_⟩
  refine loop_wp (fun (rest : List D) Γ => ∃ (es as : List D) (s4 : Sl), Γ = [.ow es, .ow [.tup ts, .lst ns, .lst vs], .va (.int width), .ow as, s4, .no, .no, .no] ∧ (s4 = .no ∨ ∃ d, s4 = .va d) ∧ Dr es ∧ (∀ a ∈ as, Aj a) ∧ as.length + rest.length ≤ 3) ⟨es, [], _, rfl, .inl rfl, hD, fun a ha => (nomatch ha), by rw [rng_len]; simp; omega⟩ ?_ ?_
  · rintro d rest _ ⟨es, as, s4, rfl, h4, hD, ha, hl⟩
    have n4 : nb s4 = true := by rcases h4 with rfl | ⟨d, rfl⟩ <;> rfl
    rw [List.length_cons] at hl
    simp only [evB, n4]
    refine pickT_wp hD (fun z => by have := hW.tl; rw [z] at this; simp at this) fun t es ht hD => ?_
    obtain ⟨x, c, rfl, wx, lx, c0, c1⟩ := hW.t t ht
    simp only [evB]
    refine atom_wp hD hW wx lx c0 c1 fun a es ham hD => ?_
    simp only [evB]
    exact ⟨by omega, es, as ++ [a], _, rfl, .inr ⟨_, rfl⟩, hD, snoc_mem ha ham, by rw [List.length_append, List.length_cons, List.length_nil]; omega⟩
  rintro _ ⟨es, as, s4, rfl, h4, hD, ha, hl⟩
  rw [List.length_nil] at hl
  refine hR _ ?_; clear hR R
  refine seq_wp fun R hR => ?_
  simp only [evB]
  refine lvalue_wp hD hW.v hW.vl fun v es hv hD => ?_
  simp only [evB]
  refine hR _ ?_; clear hR R
  refine seq_wp fun R hR => ?_
  simp only [evB]
  refine loop_wp (fun (rest : List D) Γ => ∃ (tms : List D) (s6 : Sl), Γ = [.ow es, .ow [.tup ts, .lst ns, .lst vs], .va (.int width), .bw as, s4, .ow tms, s6, .no] ∧ nb s6 = true ∧ tms ≠ [] ∧ (∀ t ∈ tms, Tj t) ∧ (∀ a ∈ rest, Aj a) ∧ tms.length + 8 * rest.length ≤ 40) ⟨[.tup [.str [118, 97, 108, 117, 101], v]], _, rfl, rfl, by simp, fun t ht => by rw [List.mem_singleton.mp ht]; exact .inr ⟨v, rfl, hv⟩, ha, by simp; omega⟩ ?_ ?_
  · rintro a rest _ ⟨tms, s6, rfl, n6, t0, ht, hr, hl2⟩
    obtain ⟨x, us, rfl, wx2, lx, hu, lu⟩ := hr a List.mem_cons_self
    rw [List.length_cons] at hl2
    simp only [evB, n6]
    simp only [evB, itemsD]
    refine lc_wp (fun rest2 acc Γ => Γ = [.ow es, .ow [.tup ts, .lst ns, .lst vs], .va (.int width), .bw as, s4, .ow tms, .va (.tup [.str x, .tup us]), .no] ∧ (∀ t ∈ acc, Tj t) ∧ (∀ t ∈ rest2, Tj t) ∧ acc.length + rest2.length ≤ 8) ⟨rfl, fun t ht => (nomatch ht), hu, by simpa using lu⟩ ?_ ?_
    · rintro t rest2 acc _ ⟨rfl, hacc, hr2, hl3⟩
      have hr3 : ∀ t ∈ rest2, Tj t := fun t m => hr2 t (List.mem_cons_of_mem _ m)
      have htm := hr2 t List.mem_cons_self
      rw [List.length_cons] at hl3
      rcases htm with ⟨y, rfl, wy, ly⟩ | ⟨v', rfl, hv'⟩
      · simp only [evB]
        exact ⟨by omega, snoc_mem hacc (.inl ⟨y, rfl, wy, ly⟩), hr3, by rw [List.length_append, List.length_cons, List.length_nil]; omega⟩
      · simp only [evB]
        exact ⟨hacc, hr3, by omega⟩
    rintro acc _ ⟨rfl, hacc, _, hl3⟩
    rw [List.length_nil] at hl3
    simp only [evB]
    rw [add_lst, if_pos (by show acc.length + tms.length ≤ 16777216; omega)]
    simp only [evB]
    refine ⟨acc ++ tms, _, rfl, rfl, by simp [t0], fun t m => (List.mem_append.mp m).elim (hacc t) (ht t), fun a m => hr a (List.mem_cons_of_mem _ m), by rw [List.length_append]; omega⟩
  rintro _ ⟨tms, s6, rfl, n6, t0, ht, _, hl2⟩
  simp only [evB]
  refine hR _ ?_; clear hR R
  rcases h4 with rfl | ⟨d4, rfl⟩
  all_goals
    simp only [evB]
    refine ⟨by omega, ?_⟩
    refine lc_wp (fun rest acc Γ => ∃ es : List D, Γ = [.ow es, .ow [.tup ts, .lst ns, .lst vs], .va (.int width), .ow as, .no, .ow tms, s6, .no] ∧ Dr es ∧ (∀ t ∈ acc, Tj t) ∧ acc.length + rest.length ≤ 8) ⟨es, rfl, hD, fun t ht => (nomatch ht), by rw [rng_len]; simp; omega⟩ ?_ ?_
    · rintro d rest acc _ ⟨es, rfl, hD, hacc, hl4⟩
      rw [List.length_cons] at hl4
      simp only [evB]
      refine pick_wp hD t0 fun t es htm hD => ?_
      simp only [evB]
      exact ⟨by omega, es, rfl, hD, snoc_mem hacc (ht t htm), by rw [List.length_append, List.length_cons, List.length_nil]; omega⟩
    rintro hs _ ⟨es, rfl, hD, hh, hl4⟩
    rw [List.length_nil] at hl4
    simp only [evB]
    exact k _ es ⟨hs, as, rfl, hh, by omega, ha, by omega⟩ hD


/-! ### other joins -/
theorem tg_odd {x : List Nat} (l : x.length ≤ 1000) : Tg (.tup [.str VAR, .str x]) := ⟨VAR, _, rfl, .inl ⟨rfl, x, rfl, l⟩⟩
theorem tg_oddv {x : List Nat} (l : x.length ≤ 1000) : Tg (.tup [.str VALUE, .str x]) := ⟨VALUE, _, rfl, .inr ⟨rfl, .inr ⟨x, rfl, l⟩⟩⟩
theorem eq_gd {d e : D} {Q : RV → Prop} (h : gd 60 d = true) (h2 : gd 60 e = true) : (fEq d e).wp Q = Q (.va (.bl (eqD d e))) := by
  unfold fEq okE
  rw [h, h2]
  simp only [Bool.and_self, Bool.or_true, if_true]
  rfl
theorem renamed_wp {s0 : Sl} {ts : List D} {x odd : List Nat} {Q : RV → List Sl → Prop} {E : Nat → List D → List Sl → Prop} (hs : s0 = .va (.tup ts) ∨ s0 = .ow ts) (ht : ∀ t ∈ ts, Tj t) (hl : ts.length ≤ 100) (hx : isw x = true) (lo : odd.length ≤ 1000)
    (k : ∀ us : List D, (∀ u ∈ us, Tg u) → us.length = ts.length → Q (.va (.tup us)) [s0, .va (.str x), .va (.str odd)]) : (m__law_renamed [s0, .va (.str x), .va (.str odd)]).wp Q E := by
  rcases hs with rfl | rfl
  all_goals
    refine def_wp rfl ?_
    unfold b__law_renamed
    simp only [evB, pad, List.length_cons, List.length_nil, Nat.reduceAdd, Nat.reduceSub, List.replicate, List.cons_append, List.nil_append, itemsD]
  · refine lc_wp (fun rest acc Γ => Γ = [.va (.tup ts), .va (.str x), .va (.str odd), .no] ∧ (∀ u ∈ acc, Tg u) ∧ (∀ t ∈ rest, Tj t) ∧ acc.length + rest.length = ts.length) ⟨rfl, fun u m => (nomatch m), ht, by simp⟩ ?_ ?_
    · rintro t rest acc _ ⟨rfl, ha, hr, e⟩
      have h1 := hr t List.mem_cons_self
      rw [List.length_cons] at e
      simp only [evB]
      rw [eq_gd (gd_up (by decide) h1.te.gd) (show gd 60 (.tup [.str VAR, .str x]) = true by
        have := Wd.gd (L := x.length) (d := .str x) ⟨x, rfl, hx, Nat.le_refl _⟩ 59
        show (gd 59 (.str VAR) && (gd 59 (.str x) && true)) = true
        rw [this]; rfl)]
      simp only [evB]
      rw [int_bl]
      cases eqD t (.tup [.str VAR, .str x]) with
      | true =>
        simp only [evB]
        exact ⟨by omega, snoc_mem ha (tg_odd lo), fun t m => hr t (List.mem_cons_of_mem _ m), by rw [List.length_append, List.length_cons, List.length_nil]; omega⟩
      | false =>
        simp only [evB]
        exact ⟨by omega, snoc_mem ha h1.tg, fun t m => hr t (List.mem_cons_of_mem _ m), by rw [List.length_append, List.length_cons, List.length_nil]; omega⟩
    · rintro acc _ ⟨rfl, ha, hr, e⟩
      simp only [evB]
      exact k acc ha (by simpa using e)
  · refine lc_wp (fun rest acc Γ => Γ = [.bw ts, .va (.str x), .va (.str odd), .no] ∧ (∀ u ∈ acc, Tg u) ∧ (∀ t ∈ rest, Tj t) ∧ acc.length + rest.length = ts.length) ⟨rfl, fun u m => (nomatch m), ht, by simp⟩ ?_ ?_
    · rintro t rest acc _ ⟨rfl, ha, hr, e⟩
      have h1 := hr t List.mem_cons_self
      rw [List.length_cons] at e
      simp only [evB]
      rw [eq_gd (gd_up (by decide) h1.te.gd) (show gd 60 (.tup [.str VAR, .str x]) = true by
        have := Wd.gd (L := x.length) (d := .str x) ⟨x, rfl, hx, Nat.le_refl _⟩ 59
        show (gd 59 (.str VAR) && (gd 59 (.str x) && true)) = true
        rw [this]; rfl)]
      simp only [evB]
      rw [int_bl]
      cases eqD t (.tup [.str VAR, .str x]) with
      | true =>
        simp only [evB]
        exact ⟨by omega, snoc_mem ha (tg_odd lo), fun t m => hr t (List.mem_cons_of_mem _ m), by rw [List.length_append, List.length_cons, List.length_nil]; omega⟩
      | false =>
        simp only [evB]
        exact ⟨by omega, snoc_mem ha h1.tg, fun t m => hr t (List.mem_cons_of_mem _ m), by rw [List.length_append, List.length_cons, List.length_nil]; omega⟩
    · rintro acc _ ⟨rfl, ha, hr, e⟩
      simp only [evB]
      exact k acc ha (by simpa using e)
theorem insert_some {es : List D} {k : Int} {d : D} (h : es.length < 16777216) (h0 : 0 ≤ k) (h1 : k < 2 ^ 63) : fInsert es [.int k, d] = some (es.take k.toNat ++ [d] ++ es.drop k.toNat) := by
  unfold fInsert
  simp only
  rw [if_pos ⟨h, h0, h1⟩]
theorem wp_popAt {i : Nat} {ms : AM} {Γ : List Sl} {Q : RV → List Sl → Prop} {E : Nat → List D → List Sl → Prop} : (mPopAt i ms Γ).wp Q E = opt (Γ[i]?) fun s => match s with
    | .owc ⟨.lst, _⟩ => (ms Γ).wp (fun rs Γ1 => match rs, Γ1[i]? with
      | [.va (.int k)], some (.owc ⟨.lst, es⟩) => (0 ≤ k ∧ k < 2 ^ 63) ∧ opt (es[k.toNat]?) fun d => Q (.va d) (Γ1.set i (.ow (es.eraseIdx k.toNat)))
      | _, _ => False) E
    | _ => False := by
  unfold mPopAt
  cases Γ[i]? with
  | none => rfl
  | some s => cases s with
    | owc tt =>
      obtain ⟨cc, ds⟩ := tt
      cases cc with
      | dic => rfl
      | set => rfl
      | lst =>
        simp only [opt]; rw [wp_bind]; congr 1; funext rs Γ1
        rcases rs with _ | ⟨r, _ | ⟨r2, rs⟩⟩
        · rfl
        · cases r with
          | va d => cases d with
            | int k => cases Γ1[i]? with
              | none => rfl
              | some s => cases s with
                | owc tt =>
                  obtain ⟨cc, es⟩ := tt
                  cases cc with
                  | dic => rfl
                  | set => rfl
                  | lst =>
                    simp only
                    by_cases h : 0 ≤ k ∧ k < 2 ^ 63
                    · rw [if_pos h]
                      cases es[k.toNat]? with
                      | none => exact propext ⟨fun q => q.elim, fun q => q.2.elim⟩
                      | some d => exact propext ⟨fun q => ⟨h, q⟩, fun q => q.2⟩
                    · rw [if_neg h]
                      exact propext ⟨fun q => q.elim, fun q => h q.1⟩
                | _ => rfl
            | _ => rfl
          | _ => rfl
        · cases r with
          | va d => cases d <;> rfl
          | _ => rfl
    | _ => rfl
theorem ins_mem {α : Type} {l : List α} {n : Nat} {x y : α} (h : x ∈ l.take n ++ [y] ++ l.drop n) : x ∈ l ∨ x = y := by
  rw [List.append_assoc, List.mem_append, List.mem_append, List.mem_singleton] at h
  rcases h with h | h | h
  · exact .inl (List.mem_of_mem_take h)
  · exact .inr h
  · exact .inl (List.mem_of_mem_drop h)
theorem ins_len {α : Type} {l : List α} {n : Nat} {y : α} : (l.take n ++ [y] ++ l.drop n).length = l.length + 1 := by
  simp only [List.length_append, List.length_take, List.length_cons, List.length_nil, List.length_drop]
  omega
theorem catom_wp {ds ts ns vs : List D} {a : D} {odd : List Nat} {Q : RV → List Sl → Prop} {E : Nat → List D → List Sl → Prop} (hD : Dr ds) (hW : Wo ts ns vs) (ha : Aj a) (lo : odd.length ≤ 1000)
    (k : ∀ (b : D) (es : List D), Ag b → Dr es → Q (.va b) [.ow es, .ow [.tup ts, .lst ns, .lst vs], .va a, .va (.str odd)]) : (m__law_changed_atom [.ow ds, .ow [.tup ts, .lst ns, .lst vs], .va a, .va (.str odd)]).wp Q E := by
  obtain ⟨nm, us, rfl, wn, ln, hu, lu⟩ := ha
  have hut : ∀ t ∈ us, Tg t := fun t m => (hu t m).tg
  refine def_wp rfl ?_
  show (b__law_changed_atom [.ow ds, .ow [.tup ts, .lst ns, .lst vs], .va (.tup [.str nm, .tup us]), .va (.str odd), .no, .no, .no]).wp _
  unfold b__law_changed_atom
  refine seq_wp fun R hR => ?_; simp only [evC]
  refine hR _ ?_; clear hR R
  refine seq_wp fun R hR => ?_
  simp only [evC]
  refine take_wp hD (by decide) fun kd ds k0 k1 hD => ?_
  simp only [evC]
  refine hR _ ?_; clear hR R
  refine seq_wp fun R hR => ?_
  simp only [evC]
  split
  · simp only [evC, wp_join, itemsD]
    refine lc_map (g := fun t => .str (tbl t).1) rfl (by have := hW.tl; omega) (fun t m => ?_) ?_
    · obtain ⟨x, c, rfl, _⟩ := hW.t t m
      simp only [evC]
      all_goals first | trivial | exact ⟨rfl, rfl⟩
    simp only [evC]
    have hfl : (ts.flatMap fun t => (tbl t).1).length ≤ 200 * ts.length := flat_len _ 200 ts fun t m => by
      obtain ⟨x, c, rfl, _, lx, _⟩ := hW.t t m
      exact lx
    have htl := hW.tl
    rw [show (ts.map fun t => D.str (tbl t).1) = (ts.map fun t => (tbl t).1).map D.str by rw [List.map_map]; rfl, join_words (by rw [← List.flatMap_def]; omega)]
    rw [← List.flatMap_def]
    simp only [evC]
    rw [add_str, if_pos (by show _ ≤ 16777216; simp only [List.length_cons, List.length_nil]; omega)]
    simp only [evC]
    refine take_wp hD (by decide) fun q es q0 q1 hD => ?_
    simp only [evC]
    obtain ⟨z, ez, hz⟩ := atI_of (l := ([.str odd, .str ((ts.flatMap fun t => (tbl t).1) ++ [113])] : List D)) q0 (by simpa using q1)
    have hz2 : ∃ x : List Nat, z = .str x := by
      simp only [List.mem_cons, List.not_mem_nil, or_false] at hz
      rcases hz with rfl | rfl <;> exact ⟨_, rfl⟩
    obtain ⟨x, rfl⟩ := hz2
    rw [ez]
    simp only [evC]
    exact k _ es ⟨x, us, rfl, by omega, hut⟩ hD
  · refine hR _ ?_; clear hR R
    refine seq_wp fun R hR => ?_
    have fin : ∀ (vs' es : List D), (∀ t ∈ vs', Tg t) → vs'.length ≤ 9 → Dr es → R [.ow es, .ow [.tup ts, .lst ns, .lst vs], .va (.tup [.str nm, .tup us]), .va (.str odd), .ow vs', .va (.int kd), .no] := fun vs' es hv lv hD => by
      refine hR _ ?_; clear hR R
      simp only [evC]
      exact k _ es ⟨nm, vs', rfl, by omega, hv⟩ hD
    simp only [evC]
    split
    · refine take_wp hD (by omega) fun q es q0 q1 hD => ?_
      simp only [evC]
      refine term_wp hD hW fun t es ht hD => ?_
      simp only [evC]
      rw [insert_some (by omega) q0 (by omega)]
      simp only [evC]
      refine fin _ es (fun u m => ?_) (by rw [ins_len]; omega) hD
      rcases ins_mem m with m | rfl
      · exact hut u m
      · exact ht.tg
    · split
      · refine take_wp hD (by omega) fun q es q0 q1 hD => ?_
        simp only [evC]
        refine term_wp hD hW fun t es ht hD => ?_
        simp only [evC]
        rw [insert_some (by omega) q0 (by omega)]
        simp only [evC]
        refine fin _ es (fun u m => ?_) (by rw [ins_len]; omega) hD
        rcases ins_mem m with m | rfl
        · exact hut u m
        · exact ht.tg
      · split
        · simp only [evC, wp_popAt]
          refine take_wp hD (by omega) fun p es p0 p1 hD => ?_
          simp only [evC]
          have hp : p.toNat < us.length := by omega
          refine ⟨⟨p0, by omega⟩, ?_⟩
          rw [List.getElem?_eq_getElem hp]
          simp only [evC]
          refine fin _ es (fun e he => hut e (List.mem_of_mem_eraseIdx he)) ?_ hD
          have := List.length_eraseIdx_le us p.toNat
          omega
        · refine take_wp hD (by decide) fun q es q0 q1 hD => ?_
          simp only [evC]
          obtain ⟨z, ez, hz⟩ := atI_of (l := ([.tup [.str VALUE, .str odd], .tup [.str VAR, .str odd]] : List D)) q0 (by simpa using q1)
          have hz2 : Tg z := by
            simp only [List.mem_cons, List.not_mem_nil, or_false] at hz
            rcases hz with rfl | rfl
            · exact tg_oddv lo
            · exact tg_odd lo
          rw [ez]
          simp only [evC]
          refine take_wp hD (by omega) fun p es p0 p1 hD => ?_
          simp only [evC]
          rw [ixN_of p0 (by omega)]
          simp only [evC]
          refine fin _ es (fun u m => ?_) (by rw [List.length_set]; omega) hD
          rcases mem_set m with m | rfl
          · exact hut u m
          · exact hz2
theorem wp_eqT {t : Rs Bool} {b : Bool} {Γ : List Sl} (h : t.wp (fun c Δ => c = b ∧ Δ = Γ) (fun _ _ _ => False)) : t = .ok b Γ := by
  cases t with
  | ok c Δ => obtain ⟨rfl, rfl⟩ := h; rfl
  | ex => exact h.elim
  | no => exact h.elim
theorem ifF {t : List Sl → Rs Bool} {m m2 : SM} {Γ : List Sl} {K : SK} (h : t Γ = .ok false Γ) (k : (m2 Γ).wp K) : (sIf t m m2 Γ).wp K := by
  rw [wp_if, h]
  exact k
theorem ifB {t : List Sl → Rs Bool} {m m2 : SM} {Γ : List Sl} {K : SK} {b : Bool} (h : t Γ = .ok b Γ) (k1 : b = true → (m Γ).wp K) (k2 : b = false → (m2 Γ).wp K) : (sIf t m m2 Γ).wp K := by
  rw [wp_if, h]
  cases b with
  | true => exact k1 rfl
  | false => exact k2 rfl
theorem changed_wp {ds ts ns vs : List D} {j : D} {Q : RV → List Sl → Prop} {E : Nat → List D → List Sl → Prop} (hD : Dr ds) (hW : Wo ts ns vs) (hj : Jj j)
    (k : ∀ (b : D) (es : List D), Jg b → Dr es → Q (.va b) [.ow es, .ow [.tup ts, .lst ns, .lst vs], .va j]) : (m__law_changed [.ow ds, .ow [.tup ts, .lst ns, .lst vs], .va j]).wp Q E := by
  obtain ⟨hs, as, rfl, hh, lh, ha, la⟩ := hj
  have hht : ∀ t ∈ hs, Tg t := fun t m => (hh t m).tg
  have hag : ∀ a ∈ as, Ag a := fun a m => (ha a m).ag
  have hJn : Jn 60000 100 (.tup [.tup hs, .tup as]) := ⟨hs, as, rfl, la, fun a m => (ha a m).am⟩
  obtain ⟨T, hT⟩ : ∃ T : SM, T = (sIf (mTE (mBin fGt (mFn fLen (mCons (mVar 5) mNil)) (mC (.int 0))))   (sSeq (sSet 10 (mCall m__law_take (mCons (mVar 0) (mCons (mFn fLen (mCons (mVar 5) mNil)) mNil))))   (sStore 5 (mCall m__law_changed_atom (mCons (mVar 0) (mCons (mVar 1) (mCons (mBin fIx (mVar 5) (mVar 10)) (mCons (mVar 3) mNil))))) (mVar 10)))   sNil) := ⟨_, rfl⟩
  refine def_wp rfl ?_
  show (b__law_changed [.ow ds, .ow [.tup ts, .lst ns, .lst vs], .va (.tup [.tup hs, .tup as]), .no, .no, .no, .no, .no, .no, .no, .no, .no]).wp _
  unfold b__law_changed
  rw [← hT]
  refine seq_wp fun R hR => ?_
  simp only [evC]
  refine take_wp hD (by decide) fun q ds q0 q1 hD => ?_
  simp only [evC]
  obtain ⟨z, ez, hz⟩ := atI_of (l := ([.str [65], .str [97, 32, 98], .str [], .str [97, 49], .str [45], .str [97, 98, 10], .str [122, 95]] : List D)) q0 (by simpa using q1)
  have hz2 : ∃ x : List Nat, z = .str x ∧ x.length ≤ 1000 := by
    simp only [List.mem_cons, List.not_mem_nil, or_false] at hz
    rcases hz with rfl | rfl | rfl | rfl | rfl | rfl | rfl <;> exact ⟨_, rfl, by simp⟩
  obtain ⟨odd, rfl, lo⟩ := hz2
  rw [ez]
  clear ez hz
  simp only [evC]
  refine hR _ ?_; clear hR R
  refine seq_wp fun R hR => ?_; simp only [evC]
  refine hR _ ?_; clear hR R
  refine seq_wp fun R hR => ?_; simp only [evC]
  refine hR _ ?_; clear hR R
  refine seq_wp fun R hR => ?_
  simp only [evC]
  refine take_wp hD (by decide) fun kd ds k0 k1 hD => ?_
  simp only [evC]
  refine hR _ ?_; clear hR R
  refine seq_wp fun RR hR0 => ?_
  have fin : ∀ (hd bd es : List D) (s7 s8 s9 s10 : Sl), (∀ t ∈ hd, Tg t) → hd.length ≤ 100 → (∀ a ∈ bd, Ag a) → bd.length ≤ 100 → Dr es → RR [.ow es, .ow [.tup ts, .lst ns, .lst vs], .va (.tup [.tup hs, .tup as]), .va (.str odd), .ow hd, .ow bd, .va (.int kd), s7, s8, s9, s10, .no] := fun hd bd es s7 s8 s9 s10 h1 l1 h2 l2 hD => by
    refine hR0 _ ?_
    simp only [evC]
    exact k _ es ⟨hd, bd, rfl, by omega, by omega, h1, h2⟩ hD
  have tail : ∀ (K : SK) (es : List D), K.nx = RR → Dr es → (T [.ow es, .ow [.tup ts, .lst ns, .lst vs], .va (.tup [.tup hs, .tup as]), .va (.str odd), .ow hs, .ow as, .va (.int kd), .no, .no, .no, .no, .no]).wp K := fun K es hK hD => by
    rw [hT]
    simp only [evC]
    split
    · refine seq_wp fun R hR => ?_
      simp only [evC]
      refine take_wp hD (by omega) fun p es p0 p1 hD => ?_
      simp only [evC]
      refine hR _ ?_; clear hR R
      simp only [evC]
      obtain ⟨a, ea, hm⟩ := atI_of (l := as) p0 p1
      rw [ea]
      simp only [evC]
      refine catom_wp hD hW (ha a hm) lo fun b es hb hD => ?_
      simp only [evC]
      rw [ixN_of p0 (by omega)]
      simp only [evC]
      rw [hK]
      refine fin _ _ es _ _ _ _ hht (by omega) (fun a m => ?_) (by rw [List.length_set]; omega) hD
      rcases mem_set m with m | rfl
      · exact hag a m
      · exact hb
    · rw [hK]
      exact fin _ _ es _ _ _ _ hht (by omega) hag (by omega) hD
  clear hT
  rcases (by omega : kd = 0 ∨ kd = 1 ∨ kd = 2 ∨ kd = 3 ∨ kd = 4 ∨ kd = 5 ∨ kd = 6 ∨ kd = 7 ∨ kd = 8) with rfl | rfl | rfl | rfl | rfl | rfl | rfl | rfl | rfl
  · refine ifB (b := true) rfl (fun _ => ?_) (fun z => nomatch z)
    simp only [evC]
    refine take_wp hD (by omega) fun p es p0 p1 hD => ?_
    simp only [evC]
    refine lvalue_wp hD hW.v hW.vl fun v es hv hD => ?_
    simp only [evC]
    rw [insert_some (by omega) p0 (by omega)]
    simp only [evC]
    refine fin _ _ es _ _ _ _ (fun u m => ?_) (by rw [ins_len]; omega) hag (by omega) hD
    rcases ins_mem m with m | rfl
    · exact hht u m
    · exact ⟨VALUE, v, rfl, .inr ⟨rfl, vt_vl hv⟩⟩
  · refine ifF rfl ?_
    refine ifB (b := decide (0 < (hs.length : Int))) rfl (fun hl => ?_) (fun _ => ?_)
    · have hl := of_decide_eq_true hl
      simp only [evC, wp_popAt]
      refine take_wp hD hl fun p es p0 p1 hD => ?_
      simp only [evC]
      have hp : p.toNat < hs.length := by omega
      refine ⟨⟨p0, by omega⟩, ?_⟩
      rw [List.getElem?_eq_getElem hp]
      simp only [evC]
      refine fin _ _ es _ _ _ _ (fun e he => hht e (List.mem_of_mem_eraseIdx he)) ?_ hag (by omega) hD
      have := List.length_eraseIdx_le hs p.toNat
      omega
    · refine ifF rfl (ifF rfl (ifF rfl (ifF rfl ?_)))
      exact tail _ ds rfl hD
  · refine ifF rfl (ifF rfl ?_)
    refine ifB (b := decide (0 < (hs.length : Int))) rfl (fun hl => ?_) (fun _ => ?_)
    · have hl := of_decide_eq_true hl
      refine seq_wp fun R hR => ?_
      obtain ⟨xs, hxs, hx⟩ := wds_strs hW.n
      have hfl : (xs.flatMap id).length ≤ 200 * xs.length := flat_len _ 200 xs fun x m => (hx x m).2
      have hxl : xs.length = 3 := by have := hW.nl; rw [hxs, List.length_map] at this; exact this
      simp only [evC, wp_join]
      rw [hxs, join_words (by rw [← List.flatMap_id]; omega), ← hxs, ← List.flatMap_id]
      simp only [evC]
      rw [add_str, if_pos (by show _ ≤ 16777216; simp only [List.length_cons, List.length_nil]; omega)]
      simp only [evC]
      refine pick2_wp hD (ne_of_len hW.nl (by decide)) fun w es hw hD => ?_
      obtain ⟨y, rfl, wy, ly⟩ := hW.n w hw
      simp only [evC]
      refine hR _ ?_; clear hR R
      simp only [evC]
      refine pick_wp hD (by simp) fun z es hz hD => ?_
      have hz2 : ∃ x : List Nat, z = .str x ∧ x.length ≤ 1000 := by
        simp only [List.mem_cons, List.not_mem_nil, or_false] at hz
        rcases hz with rfl | rfl
        · exact ⟨_, rfl, by rw [List.length_append, List.length_cons, List.length_nil]; omega⟩
        · exact ⟨_, rfl, by omega⟩
      obtain ⟨x, rfl, lx⟩ := hz2
      simp only [evC]
      refine take_wp hD hl fun p es p0 p1 hD => ?_
      simp only [evC]
      rw [ixN_of p0 (by omega)]
      simp only [evC]
      refine fin _ _ es _ _ _ _ (fun u m => ?_) (by rw [List.length_set]; omega) hag (by omega) hD
      rcases mem_set m with m | rfl
      · exact hht u m
      · exact tg_odd lx
    · refine ifF rfl (ifF rfl (ifF rfl ?_))
      exact tail _ ds rfl hD
  · refine ifF rfl (ifF rfl (ifF rfl ?_))
    refine ifB (b := decide (0 < (hs.length : Int))) rfl (fun hl => ?_) (fun _ => ?_)
    · have hl := of_decide_eq_true hl
      simp only [evC]
      refine take_wp hD (by decide) fun q es q0 q1 hD => ?_
      simp only [evC]
      obtain ⟨z, ez, hz⟩ := atI_of (l := ([.tup [.str VALUE, .str odd], .tup [.str VAR, .str odd]] : List D)) q0 (by simpa using q1)
      have hz2 : Tg z := by
        simp only [List.mem_cons, List.not_mem_nil, or_false] at hz
        rcases hz with rfl | rfl
        · exact tg_oddv lo
        · exact tg_odd lo
      rw [ez]
      simp only [evC]
      refine take_wp hD hl fun p es p0 p1 hD => ?_
      simp only [evC]
      rw [ixN_of p0 (by omega)]
      simp only [evC]
      refine fin _ _ es _ _ _ _ (fun u m => ?_) (by rw [List.length_set]; omega) hag (by omega) hD
      rcases mem_set m with m | rfl
      · exact hht u m
      · exact hz2
    · refine ifF rfl (ifF rfl ?_)
      exact tail _ ds rfl hD
  · refine ifF rfl (ifF rfl (ifF rfl (ifF rfl ?_)))
    refine ifB (b := decide (0 < (as.length : Int))) rfl (fun hl => ?_) (fun _ => ?_)
    · have hl := of_decide_eq_true hl
      refine seq_wp fun R hR => ?_
      simp only [evC]
      refine pick_wp hD (fun z => by rw [z] at hl; simp at hl) fun a es hm hD => ?_
      obtain ⟨nm, us, rfl, hu⟩ := ha a hm
      have hA := hag _ hm
      simp only [evC]
      refine hR _ ?_; clear hR R
      simp only [evC]
      refine ⟨by omega, ?_⟩
      refine lc_wp (fun rest acc Γ => Γ = [.ow es, .ow [.tup ts, .lst ns, .lst vs], .va (.tup [.tup hs, .tup as]), .va (.str odd), .ow hs, .ow as, .va (.int 4), .no, .va (.tup [.str nm, .tup us]), .no, .no, .no] ∧ (∀ a ∈ acc, Ag a) ∧ acc.length + rest.length ≤ 9) ⟨rfl, fun v hv => (nomatch hv), by rw [rng_len, List.length_nil]; omega⟩ ?_ ?_
      · rintro d rest acc _ ⟨rfl, hacc, hl⟩
        rw [List.length_cons] at hl
        simp only [evC]
        exact ⟨by omega, snoc_mem hacc hA, by rw [List.length_append, List.length_cons, List.length_nil]; omega⟩
      rintro acc _ ⟨rfl, hacc, hl⟩
      rw [List.length_nil] at hl
      simp only [evC]
      rw [add_lst, if_pos (by show _ ≤ 16777216; omega)]
      simp only [evC]
      exact fin _ _ es _ _ _ _ hht (by omega) (fun b m => (List.mem_append.mp m).elim (hag b) (hacc b)) (by rw [List.length_append]; omega) hD
    · refine ifF rfl ?_
      exact tail _ ds rfl hD
  · refine ifF rfl (ifF rfl (ifF rfl (ifF rfl (ifF rfl ?_))))
    have hw : ∀ x ∈ canonT (varsJ (.tup [.tup hs, .tup as])), isw x = true ∧ x.length ≤ 60000 := varsJ_w hJn
    refine ifB (b := decide (0 < (((canonT (varsJ (.tup [.tup hs, .tup as]))).map D.str).length : Int))) (wp_eqT (by
      simp only [evC]
      rw [variables_eq hJn (by decide)]
      simp only [evC])) (fun hl => ?_) (fun _ => tail _ ds rfl hD)
    have hl := of_decide_eq_true hl
    refine seq_wp fun R hR => ?_
    simp only [evC]
    rw [variables_eq hJn (by decide)]
    simp only [evC]
    generalize canonT (varsJ (.tup [.tup hs, .tup as])) = cs at hw hl ⊢
    refine pick2_wp hD (fun z => by rw [z] at hl; simp at hl) fun z es hz hD => ?_
    obtain ⟨x, hxm, rfl⟩ := List.mem_map.mp hz
    have hx := (hw x hxm).1
    simp only [evC]
    refine hR _ ?_; clear hR R
    refine seq_wp fun R hR => ?_
    simp only [evC]
    refine renamed_wp (.inr rfl) hh (by omega) hx lo fun us hu lu => ?_
    simp only [evC]
    refine hR _ ?_; clear hR R
    simp only [evC, itemsD]
    refine lc_wp (fun rest acc Γ => Γ = [.ow es, .ow [.tup ts, .lst ns, .lst vs], .va (.tup [.tup hs, .tup as]), .va (.str odd), .ow us, .bw as, .va (.int 5), .no, .no, .va (.str x), .no, .no] ∧ (∀ a ∈ acc, Ag a) ∧ (∀ a ∈ rest, Aj a) ∧ acc.length + rest.length ≤ 8) ⟨rfl, fun v hv => (nomatch hv), ha, by simpa using la⟩ ?_ ?_
    · rintro a rest acc _ ⟨rfl, hacc, hr, hl⟩
      rw [List.length_cons] at hl
      obtain ⟨nm, ws, rfl, wn, ln, hws, lw⟩ := hr a List.mem_cons_self
      simp only [evC]
      refine renamed_wp (.inl rfl) hws (by omega) hx lo fun us2 hu2 lu2 => ?_
      simp only [evC]
      exact ⟨by omega, snoc_mem hacc ⟨nm, us2, rfl, by omega, hu2⟩, fun b m => hr b (List.mem_cons_of_mem _ m), by rw [List.length_append, List.length_cons, List.length_nil]; omega⟩
    rintro acc _ ⟨rfl, hacc, _, hl⟩
    rw [List.length_nil] at hl
    simp only [evC]
    exact fin _ _ es _ _ _ _ hu (by omega) hacc (by omega) hD
  all_goals
    refine ifF rfl (ifF rfl (ifF rfl (ifF rfl (ifF rfl (ifF rfl ?_)))))
    exact tail _ ds rfl hD
theorem pure_law (ns : List Int) (hl : ns.length ≤ 63) (hb : ∀ z ∈ ns, PySem.Builtin.Int.intBits z ≤ 1048576) : ∃ Γ, m_law [.sc ns] = .ok (.va (.bl true)) Γ := by
  have key : (m_law [.sc ns]).wp (fun r Γ => r = .va (.bl true)) (fun _ _ _ => False) := by
    refine def_wp rfl ?_
    show (b_law [.sc ns, .no, .no, .no, .no, .no, .no, .no, .no, .no, .no, .no, .no, .no, .no]).wp _
    unfold b_law
    refine seq_wp fun R hR => ?_; simp only [evC]
    refine draws_wp hl hb (by decide) (by decide) fun ds hD => ?_
    simp only [evC]
    refine hR _ ?_; clear hR R
    refine seq_wp fun R hR => ?_; simp only [evC]
    refine text_world_wp hD fun ts nm vs ds hW hD => ?_
    simp only [evC]
    refine hR _ ?_; clear hR R
    refine seq_wp fun R hR => ?_; simp only [evC]
    refine take_wp hD (by decide) fun r ds r0 r1 hD => ?_
    simp only [evC]
    obtain ⟨z, ez, hz⟩ := atI_of (l := ([.int 1, .int 0, .int 2, .int 3, .int 8] : List D)) r0 (by simpa using r1)
    have hz2 : ∃ w : Int, z = .int w ∧ 0 ≤ w ∧ w ≤ 8 := by
      simp only [List.mem_cons, List.not_mem_nil, or_false] at hz
      rcases hz with rfl | rfl | rfl | rfl | rfl <;> exact ⟨_, rfl, by decide, by decide⟩
    obtain ⟨w, rfl, w0, w1⟩ := hz2
    rw [ez]
    clear ez hz
    simp only [evC]
    refine hR _ ?_; clear hR R
    refine seq_wp fun R hR => ?_
    simp only [evC]
    refine take_wp hD (by decide) fun q ds q0 q1 hD => ?_
    simp only [evC]
    refine ⟨by omega, ?_⟩
    refine lc_wp (fun rest acc Γ => ∃ es : List D, Γ = [.sc ns, .ow es, .ow [.tup ts, .lst nm, .lst vs], .va (.int w), .no, .no, .no, .no, .no, .no, .no, .no, .no, .no, .no] ∧ Dr es ∧ (∀ j ∈ acc, Jj j) ∧ acc.length + rest.length ≤ 4) ⟨ds, rfl, hD, fun v hv => (nomatch hv), by rw [rng_len, List.length_nil]; omega⟩ ?_ ?_
    · rintro d rest acc _ ⟨es, rfl, hD, hacc, hl⟩
      rw [List.length_cons] at hl
      simp only [evC]
      refine join_wp hD hW w0 w1 fun j es hj hD => ?_
      simp only [evC]
      exact ⟨by omega, es, rfl, hD, snoc_mem hacc hj, by rw [List.length_append, List.length_cons, List.length_nil]; omega⟩
    rintro js _ ⟨ds, rfl, hD, hjs, hl⟩
    rw [List.length_nil] at hl
    simp only [evC]
    refine hR _ ?_; clear hR R
    refine seq_wp fun R hR => ?_; simp only [evC]
    refine hR _ ?_; clear hR R
    refine seq_wp fun R hR => ?_
    simp only [evC, itemsD]
    refine loop_wp (fun (rest : List D) Γ => ∃ (es ch : List D) (s6 : Sl), Γ = [.sc ns, .ow es, .ow [.tup ts, .lst nm, .lst vs], .va (.int w), .bw js, .ow ch, s6, .no, .no, .no, .no, .no, .no, .no, .no] ∧ nb s6 = true ∧ Dr es ∧ (∀ j ∈ ch, Jg j) ∧ (∀ j ∈ rest, Jj j) ∧ ch.length + rest.length ≤ 4) ⟨ds, [], .no, rfl, rfl, hD, fun v hv => (nomatch hv), hjs, by simpa using hl⟩ ?_ ?_
    · rintro j rest _ ⟨es, ch, s6, rfl, n6, hD, hch, hr, hl⟩
      rw [List.length_cons] at hl
      have hj := hr j List.mem_cons_self
      have hr2 : ∀ j ∈ rest, Jj j := fun j m => hr j (List.mem_cons_of_mem _ m)
      simp only [evC, n6]
      refine seq_wp fun R hR => ?_
      have fin : ∀ (j : D) (es : List D), Jg j → Dr es → R [.sc ns, .ow es, .ow [.tup ts, .lst nm, .lst vs], .va (.int w), .bw js, .ow ch, .va j, .no, .no, .no, .no, .no, .no, .no, .no] := fun j es hj hD => by
        refine hR _ ?_; clear hR R
        simp only [evC, n6]
        exact ⟨by omega, es, ch ++ [j], _, rfl, rfl, hD, snoc_mem hch hj, hr2, by rw [List.length_append, List.length_cons, List.length_nil]; omega⟩
      simp only [evC, n6]
      refine take_wp hD (by decide) fun r ds r0 r1 hD => ?_
      simp only [evC, n6]
      split
      · refine changed_wp hD hW hj fun b es hb hD => ?_
        simp only [evC, n6]
        exact fin b es hb hD
      · exact fin j ds hj.jg hD
    rintro _ ⟨ds, ch, s6, rfl, n6, hD, hch, _, hl2⟩
    rw [List.length_nil] at hl2
    simp only [evC]
    refine hR _ ?_; clear hR R
    refine seq_wp fun R hR => ?_; simp only [evC]
    refine hR _ ?_; clear hR R
    refine seq_wp fun R hR => ?_
    simp only [evC]
    have htl := hW.tl
    refine take_wp hD (by omega) fun p ds p0 p1 hD => ?_
    simp only [evC]
    refine hR _ ?_; clear hR R
    refine seq_wp fun R hR => ?_
    simp only [evC, wp_popAt]
    have hp : p.toNat < ts.length := by omega
    refine ⟨⟨p0, by omega⟩, ?_⟩
    rw [List.getElem?_eq_getElem hp]
    obtain ⟨x, c, et, wx, lx, c0, c1⟩ := hW.t ts[p.toNat] (List.getElem_mem hp)
    rw [et]
    simp only [evC]
    refine hR _ ?_; clear hR R
    refine seq_wp fun R hR => ?_
    have fin : ∀ (tb es : List D), (∀ t ∈ tb, Tw t) → Dr es → R [.sc ns, .ow es, .ow [.tup ts, .lst nm, .lst vs], .va (.int w), .ow js, .ow ch, s6, .ow tb, .va (.int p), .va (.tup [.str x, .int c]), .no, .no, .no, .no, .no] := fun tb es htb hD => by
      refine hR _ ?_; clear hR R
      refine seq_wp fun R hR => ?_; simp only [evC]
      refine hR _ ?_; clear hR R
      refine seq_wp fun R hR => ?_; simp only [evC]
      refine hR _ ?_; clear hR R
      refine seq_wp fun R hR => ?_
      simp only [evC, itemsD]
      refine loop_wp (fun (rest : List D) Γ => ∃ (s12 s13 : Sl), Γ = [.sc ns, .ow es, .ow [.tup ts, .lst nm, .lst vs], .va (.int w), .ow js, .ow ch, s6, .ow tb, .va (.int p), .va (.tup [.str x, .int c]), .va (.tup [.int w, .tup js]), .va (.tup [.int w, .tup ch]), s12, s13, .no] ∧ nb s12 = true ∧ nb s13 = true ∧ ∀ d ∈ rest, ∃ S : List D, d = .tup S ∧ ∀ t ∈ S, Tw t) ⟨.no, .no, rfl, rfl, rfl, fun d m => by
        simp only [List.mem_cons, List.not_mem_nil, or_false] at m
        rcases m with rfl | rfl
        · exact ⟨ts, rfl, hW.t⟩
        · exact ⟨tb, rfl, htb⟩⟩ ?_ ?_
      · rintro d rest _ ⟨s12, s13, rfl, n12, n13, hr⟩
        obtain ⟨S, rfl, hS⟩ := hr d List.mem_cons_self
        have hr2 : ∀ d ∈ rest, ∃ S : List D, d = .tup S ∧ ∀ t ∈ S, Tw t := fun d m => hr d (List.mem_cons_of_mem _ m)
        simp only [evC, itemsD, n12, n13]
        refine loop_wp (fun (rest2 : List D) Γ => ∃ (s13 : Sl), Γ = [.sc ns, .ow es, .ow [.tup ts, .lst nm, .lst vs], .va (.int w), .ow js, .ow ch, s6, .ow tb, .va (.int p), .va (.tup [.str x, .int c]), .va (.tup [.int w, .tup js]), .va (.tup [.int w, .tup ch]), .va (.tup S), s13, .no] ∧ nb s13 = true ∧ ∀ d ∈ rest2, ∃ qs : List D, d = .tup [.int w, .tup qs] ∧ (∀ j ∈ qs, Jg j) ∧ qs.length ≤ 100) ⟨s13, rfl, n13, fun d m => by
          simp only [List.mem_cons, List.not_mem_nil, or_false] at m
          rcases m with rfl | rfl | rfl
          · exact ⟨js, rfl, fun j m => (hjs j m).jg, by omega⟩
          · exact ⟨ch, rfl, hch, by omega⟩
          · exact ⟨js, rfl, fun j m => (hjs j m).jg, by omega⟩⟩ ?_ ?_
        · rintro d rest2 _ ⟨s13, rfl, n13, hq⟩
          obtain ⟨qs, rfl, hqj, hql⟩ := hq d List.mem_cons_self
          simp only [evC, n13]
          rw [asked_eq hS hqj hql]
          simp only [evC, n13]
          rw [due_eq hS hqj hql]
          simp only [evC, n13]
          rw [same_eq told_pl]
          simp only [evC, n13]
          exact ⟨_, rfl, rfl, fun d m => hq d (List.mem_cons_of_mem _ m)⟩
        · rintro _ ⟨s13, rfl, n13, _⟩
          simp only [evC, n13]
          exact ⟨_, _, rfl, rfl, n13, hr2⟩
      · rintro _ ⟨s12, s13, rfl, n12, n13, _⟩
        refine hR _ ?_; clear hR R
        simp only [evC]
    have her : ∀ t ∈ ts.eraseIdx p.toNat, Tw t := fun t m => hW.t t (List.mem_of_mem_eraseIdx m)
    have hel := List.length_eraseIdx_le ts p.toNat
    simp only [evC]
    split
    · refine take_wp hD (by decide) fun q ds q0 q1 hD => ?_
      simp only [evC]
      split
      · rw [insert_some (by omega) p0 (by omega)]
        simp only [evC]
        refine fin _ ds (fun u m => ?_) hD
        rcases ins_mem m with m | rfl
        · exact her u m
        · exact ⟨x, c + 1, rfl, wx, lx, by omega, by omega⟩
      · exact fin _ ds her hD
    · exact fin _ ds her hD
  cases e : m_law [.sc ns] with
  | ok r Γ => rw [e] at key; exact ⟨Γ, by rw [show r = .va (.bl true) from key]⟩
  | ex c pl Γ => rw [e] at key; exact key.elim
  | no => rw [e] at key; exact key.elim
end Law

open PySem PySem.W PyProof.Rows
set_option maxHeartbeats 0 in
theorem PySem.Challenge.cw_rightchance_k16_faults_of_questions_holds : PySem.Challenge.rw_rightchance_k16_faults_of_questions.Holds := by
  w_on; o_law; k_head; (case hw => w_witness2)
  k_fill
  refine Mir.walk_mir (l := PySem.Challenge.rw_rightchance_k16_faults_of_questions) (n := 63) (k := 14) (x := "script") (m := Law.m_law) rfl (by decide) rfl ⟨rfl, by decide, by decide⟩ (fun w h Y => PySem.W.kIn_of Y) ?F Law.pure_law
  case F =>
    intro w mg fa h KX G hmg
    refine' Law.all_mk KX G hmg ?a5 ?l5 ?c5 ?k5 ?a6 ?l6 ?c6 ?k6 ?a8 ?l8 ?c8 ?k8 ?a17 ?l17 ?c17 ?k17 ?a16 ?l16 ?c16 ?k16 ?a15 ?l15 ?c15 ?k15 ?a14 ?l14 ?c14 ?k14 ?a13 ?l13 ?c13 ?k13 ?a19 ?l19 ?c19 ?k19 ?a20 ?l20 ?c20 ?k20 ?a21 ?l21 ?c21 ?k21 ?a22 ?l22 ?c22 ?k22 ?a23 ?l23 ?c23 ?k23 ?a24 ?l24 ?c24 ?k24 ?a25 ?l25 ?c25 ?k25 ?a26 ?l26 ?c26 ?k26 ?a27 ?l27 ?c27 ?k27 ?a28 ?l28 ?c28 ?k28 ?a29 ?l29 ?c29 ?k29 ?a30 ?l30 ?c30 ?k30 ?a31 ?l31 ?c31 ?k31 ?a32 ?l32 ?c32 ?k32 ?a33 ?l33 ?c33 ?k33 ?a34 ?l34 ?c34 ?k34 ?a35 ?l35 ?c35 ?k35 ?a36 ?l36 ?c36 ?k36 ?a37 ?l37 ?c37 ?k37 ?a38 ?l38 ?c38 ?k38 ?a39 ?l39 ?c39 ?k39 ?a40 ?l40 ?c40 ?k40 ?a41 ?l41 ?c41 ?k41 ?a42 ?l42 ?c42 ?k42 ?a43 ?l43 ?c43 ?k43 ?z_all ?z_isinstance ?z_int ?z_sorted ?z_tuple ?z_len ?z_enumerate ?z_list ?z_range ?z_bool ?z_str ?z_set ?z_ValueError ?g_MOST_ATOMS ?g_MOST_WIDTH ?g_MOST_JOINS ?aC_NoQuestion ?aC_BadText ?aC_ChanceError ?p_q ?p_hd ?p_sa ?p_ex ?p_ty ?p_kc ?p_ga ?p_gg ?p_no ?p_bg ?p_br ?p_bi ?p_te ?p_i ?p_l ?p_c ?p_k ?p_t ?ec_NoQuestion_hg ?ec_NoQuestion_hk ?ec_NoQuestion_hs ?ec_NoQuestion_hd ?ec_NoQuestion_ha ?ec_NoQuestion_hn ?ec_NoQuestion_ht ?ec_NoQuestion_hm ?fo_NoQuestion_BadText ?fo_NoQuestion_ValueError ?fo_NoQuestion_ChanceError
    (case a5 => k_is); (case l5 => k_is); (case c5 => k_is); (case k5 => k_is); (case a6 => k_is); (case l6 => k_is); (case c6 => k_is); (case k6 => k_is); (case a8 => k_is); (case l8 => k_is); (case c8 => k_is); (case k8 => k_is); (case a17 => k_is); (case l17 => k_is); (case c17 => k_is); (case k17 => k_is); (case a16 => k_is); (case l16 => k_is); (case c16 => k_is); (case k16 => k_is); (case a15 => k_is); (case l15 => k_is); (case c15 => k_is); (case k15 => k_is); (case a14 => k_is); (case l14 => k_is); (case c14 => k_is); (case k14 => k_is); (case a13 => k_is); (case l13 => k_is); (case c13 => k_is); (case k13 => k_is); (case a19 => k_is); (case l19 => k_is); (case c19 => k_is); (case k19 => k_is); (case a20 => k_is); (case l20 => k_is); (case c20 => k_is); (case k20 => k_is); (case a21 => k_is); (case l21 => k_is); (case c21 => k_is); (case k21 => k_is); (case a22 => k_is); (case l22 => k_is); (case c22 => k_is); (case k22 => k_is); (case a23 => k_is); (case l23 => k_is); (case c23 => k_is); (case k23 => k_is); (case a24 => k_is); (case l24 => k_is); (case c24 => k_is); (case k24 => k_is); (case a25 => k_is); (case l25 => k_is); (case c25 => k_is); (case k25 => k_is); (case a26 => k_is); (case l26 => k_is); (case c26 => k_is); (case k26 => k_is); (case a27 => k_is); (case l27 => k_is); (case c27 => k_is); (case k27 => k_is); (case a28 => k_is); (case l28 => k_is); (case c28 => k_is); (case k28 => k_is); (case a29 => k_is); (case l29 => k_is); (case c29 => k_is); (case k29 => k_is); (case a30 => k_is); (case l30 => k_is); (case c30 => k_is); (case k30 => k_is); (case a31 => k_is); (case l31 => k_is); (case c31 => k_is); (case k31 => k_is); (case a32 => k_is); (case l32 => k_is); (case c32 => k_is); (case k32 => k_is); (case a33 => k_is); (case l33 => k_is); (case c33 => k_is); (case k33 => k_is); (case a34 => k_is); (case l34 => k_is); (case c34 => k_is); (case k34 => k_is); (case a35 => k_is); (case l35 => k_is); (case c35 => k_is); (case k35 => k_is); (case a36 => k_is); (case l36 => k_is); (case c36 => k_is); (case k36 => k_is); (case a37 => k_is); (case l37 => k_is); (case c37 => k_is); (case k37 => k_is); (case a38 => k_is); (case l38 => k_is); (case c38 => k_is); (case k38 => k_is); (case a39 => k_is); (case l39 => k_is); (case c39 => k_is); (case k39 => k_is); (case a40 => k_is); (case l40 => k_is); (case c40 => k_is); (case k40 => k_is); (case a41 => k_is); (case l41 => k_is); (case c41 => k_is); (case k41 => k_is); (case a42 => k_is); (case l42 => k_is); (case c42 => k_is); (case k42 => k_is); (case a43 => k_is); (case l43 => k_is); (case c43 => k_is); (case k43 => k_is); (case z_all => k_is); (case z_isinstance => k_is); (case z_int => k_is); (case z_sorted => k_is); (case z_tuple => k_is); (case z_len => k_is); (case z_enumerate => k_is); (case z_list => k_is); (case z_range => k_is); (case z_bool => k_is); (case z_str => k_is); (case z_set => k_is); (case z_ValueError => k_is); (case g_MOST_ATOMS => k_is); (case g_MOST_WIDTH => k_is); (case g_MOST_JOINS => k_is); (case aC_NoQuestion => k_is); (case aC_BadText => k_is); (case aC_ChanceError => k_is); (case p_q => kx_is); (case p_hd => (first | k_is | kit_is | kts_exm)); (case p_sa => (first | k_is | kit_is | kts_exm)); (case p_ex => (first | k_is | kit_is | kts_exm)); (case p_ty => (first | k_is | kit_is | kts_exm)); (case p_kc => (first | k_is | kit_is | kts_exm)); (case p_ga => (first | k_is | kit_is | kts_exm)); (case p_gg => (first | k_is | kit_is | kts_exm)); (case p_no => (first | k_is | kit_is | kts_exm)); (case p_bg => (first | k_is | kit_is | kts_exm)); (case p_br => (first | k_is | kit_is | kts_exm)); (case p_bi => (first | k_is | kit_is | kts_exm)); (case p_te => (first | k_is | kit_is | kts_exm)); (case p_i => k_is); (case p_l => k_is); (case p_c => k_is); (case p_k => k_is); (case p_t => k_is); (case ec_NoQuestion_hg => (first | k_is | kit_is | kts_exm)); (case ec_NoQuestion_hk => (first | k_is | kit_is | kts_exm)); (case ec_NoQuestion_hs => (first | k_is | kit_is | kts_exm)); (case ec_NoQuestion_hd => (first | k_is | kit_is | kts_exm)); (case ec_NoQuestion_ha => (first | k_is | kit_is | kts_exm)); (case ec_NoQuestion_hn => (first | k_is | kit_is | kts_exm)); (case ec_NoQuestion_ht => (first | k_is | kit_is | kts_exm)); (case ec_NoQuestion_hm => (first | k_is | kit_is | kts_exm)); (case fo_NoQuestion_BadText => (first | k_is | kit_is | kts_exm)); (case fo_NoQuestion_ValueError => (first | k_is | kit_is | kts_exm)); (case fo_NoQuestion_ChanceError => (first | k_is | kit_is | kts_exm))

