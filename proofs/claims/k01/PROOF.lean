import PyProof.Rows.All
import HandS.TupSets
import KE.KeyNested
import PyProof.SetRoads
import HandS.Set
import HandS.Strs
import Wide.All
import OpenK.AllK
import Wide.FinOn
import HandS.ForMost
import HandS.Exc
import HandS.TryOnly
import HandS.ExcOwn
import HandS.WordsExc
import HandS.Gcd
import HandS.Wide
import HandS.WideBits
import HandS.CallSlots
import HandS.DictTup
import KE.KDictKeyed
import HandS.IsInst
import HandS.TupAny
import HandS.Deep
import HandS.EndBits
import KE.KxIndex
import HandS.More
import KE.IntBitsLaws
import PyProof.NoPylong
import KE.SortKeyHeap
import HandS.SortKw
import HandS.FStr
import HandS.StrMore
import PyProof.FitsInt
import HandS.ExcIs
import KE.GoesMore
import KE.GoesEnum
import HandS.Conv
import HandS.RevRange
import HandS.Zip
import HandS.SetFor
import HandS.SetBool
import KE.DataCmp
import HandS.DictComp
import KE.KDictWalk
import KE.KDictSum
import PyProof.AutoSeq1
import HandS.Style
import PySem.Challenge.RW_rightchance_k01_made_shares
set_option Elab.async false
set_option autoImplicit false
set_option linter.all false
set_option maxRecDepth 100000
set_option maxHeartbeats 4000000
/-! Tables of sets up to 512 places: searching, putting in, laying anew. -/
namespace Mir
open PySem PySem.Spec PyProof.Rows L2

/-! ### the way meets all places -/
def MaskG (m : Nat) : Prop := m = 7 ∨ m = 31 ∨ m = 127 ∨ m = 511
/-- the places met in n turns from x on, as bits -/
def sweep (m : Nat) : Nat → Nat → Nat → Nat
  | 0, _, acc => acc
  | n + 1, x, acc => sweep m n ((x * 5 + 1) % (m + 1)) (acc ||| 2 ^ x)
theorem lcg_next (m x : Nat) : ∀ k, lcgI m ((x * 5 + 1) % (m + 1)) k = lcgI m x (k + 1)
  | 0 => rfl
  | k + 1 => congrArg (fun z => (z * 5 + 1) % (m + 1)) (lcg_next m x k)
theorem sweep_bit (m j : Nat) : ∀ n x acc, (sweep m n x acc).testBit j = true → acc.testBit j = true ∨ ∃ b, b < n ∧ lcgI m x b = j
  | 0, _, _, h => .inl h
  | n + 1, x, acc, h => by
    rcases sweep_bit m j n _ _ h with h | ⟨b, hb, e⟩
    · rw [Nat.testBit_or, Bool.or_eq_true] at h
      rcases h with h | h
      · exact .inl h
      · rw [Nat.testBit_two_pow] at h
        exact .inr ⟨0, Nat.succ_pos _, of_decide_eq_true h⟩
    · exact .inr ⟨b + 1, by omega, by rw [← lcg_next]; exact e⟩
theorem lcg_add (m i a : Nat) : ∀ k, lcgI m (lcgI m i a) k = lcgI m i (a + k)
  | 0 => rfl
  | k + 1 => congrArg (fun z => (z * 5 + 1) % (m + 1)) (lcg_add m i a k)
theorem sweep_all {m : Nat} (hm : MaskG m) : sweep m (m + 1) 0 0 = 2 ^ (m + 1) - 1 ∧ lcgI m 0 (m + 1) = 0 := by
  rcases hm with e | e | e | e <;> subst e <;> exact ⟨by decide +kernel, by decide +kernel⟩
theorem lcg_zero {m j : Nat} (hm : MaskG m) (hj : j ≤ m) : ∃ b, b ≤ m ∧ lcgI m 0 b = j := by
  have h : (sweep m (m + 1) 0 0).testBit j = true := by
    rw [(sweep_all hm).1, Nat.testBit_two_pow_sub_one]; exact decide_eq_true (Nat.lt_succ_of_le hj)
  rcases sweep_bit m j _ _ _ h with h | ⟨b, hb, e⟩
  · simp at h
  · exact ⟨b, Nat.le_of_lt_succ hb, e⟩
theorem lcg_any {m i j : Nat} (hm : MaskG m) (hi : i ≤ m) (hj : j ≤ m) : ∃ k, k ≤ m ∧ lcgI m i k = j := by
  obtain ⟨a, ha, rfl⟩ := lcg_zero hm hi
  obtain ⟨b, hb, rfl⟩ := lcg_zero hm hj
  by_cases c : a ≤ b
  · exact ⟨b - a, by omega, by rw [lcg_add, show a + (b - a) = b by omega]⟩
  · refine ⟨b + (m + 1) - a, by omega, ?_⟩
    rw [lcg_add, show a + (b + (m + 1) - a) = (m + 1) + b by omega, ← lcg_add, (sweep_all hm).2]
theorem meets_run {m j : Nat} (hm : MaskG m) (h : Int) (hj : j ≤ m) : ∃ n, n ≤ m + 12 ∧ runI m (SetTable.bits h) n = j := by
  obtain ⟨k, hk, e⟩ := lcg_any hm (runI_le m (SetTable.bits h) 12) hj
  exact ⟨12 + k, by omega, (runI_tail (bits_lt h) k).trans e⟩
theorem meets_way {m j : Nat} (hm : MaskG m) (h : Int) (hj : j ≤ m) : ∃ k, k < 10 * SetTable.turns m ∧ way m h k = j := by
  obtain ⟨n, hn, e⟩ := meets_run hm h hj
  obtain ⟨k, hk, e2⟩ := run_nth m (SetTable.bits h) n
  exact ⟨k, by unfold SetTable.turns; omega, by unfold way; rw [e2]; exact e⟩
theorem way_in (m : Nat) (h : Int) (k : Nat) : way m h k ≤ m := by
  have a : SetTable.bits h % (m + 1) ≤ m := Nat.le_of_lt_succ (Nat.mod_lt _ (Nat.succ_pos _))
  have b := runEnd_bd a
  have c := nth_in (m := m) k (runAt m (SetTable.bits h % (m + 1)) (SetTable.bits h)) (by unfold runAt; dsimp only; omega)
  unfold way; omega

/-! ### a table in which what lies is found by its hash -/
structure TabG (t : SetTable) (hs : List Int) : Prop where
  up : Ris t.place.toList
  cl : t.dummies = #[]
  len : t.place.size = hs.length
  mask : MaskG t.mask
  low : ∀ x ∈ t.place.toList, x ≤ t.mask
  met : ∀ (i : Nat) (h : Int) (j : Nat), hs[i]? = some h → t.place.toList[i]? = some j → ∃ k, way t.mask h k = j ∧ ∀ k', k' < k → way t.mask h k' ∈ t.place.toList
section
variable {t : SetTable} {hs : List Int}
theorem TabG.free (T : TabG t hs) (hl : hs.length ≤ t.mask) (h : Int) : ∃ K, K < 10 * SetTable.turns t.mask ∧ way t.mask h K ∉ t.place.toList ∧ ∀ k, k < K → way t.mask h k ∈ t.place.toList := by
  have hlen : t.place.toList.length < t.mask + 1 := by have := T.len; rw [Array.length_toList]; omega
  obtain ⟨j, hj, hn⟩ := st_missing _ _ hlen
  obtain ⟨k, hk, e⟩ := meets_way T.mask h (Nat.le_of_lt_succ hj)
  subst e
  obtain ⟨K, h1, h2, h3⟩ := st_least (p := fun k => way t.mask h k ∉ t.place.toList) k hn
  exact ⟨K, Nat.lt_of_le_of_lt h1 hk, h2, fun c hc => Classical.byContradiction (h3 c hc)⟩
theorem TabG.ahead (T : TabG t hs) {h : Int} {K i j : Nat} (hK : way t.mask h K ∉ t.place.toList) (hi : hs[i]? = some h) (hj : t.place.toList[i]? = some j) : ∃ k, k < K ∧ way t.mask h k = j := by
  obtain ⟨k, e, hb⟩ := T.met i h j hi hj
  refine ⟨k, Nat.lt_of_not_le fun c => ?_, e⟩
  rcases Nat.eq_or_lt_of_le c with c | c
  · rw [c] at hK; exact hK (e ▸ List.mem_of_getElem? hj)
  · exact hK (hb K c)
/-- one more, at its free place -/
theorem TabG.more (T : TabG t hs) {h : Int} {K : Nat} (hK : way t.mask h K ∉ t.place.toList) (hb : ∀ k, k < K → way t.mask h k ∈ t.place.toList) {j p : Nat} (ej : j = way t.mask h K) (ep : p = SetTable.below t.place j) :
    p ≤ hs.length ∧ TabG (t.put j).1 (hs.take p ++ h :: hs.drop p) ∧ (t.put j).1.fill = hs.length + 1 := by
  have hjm : j ≤ t.mask := ej ▸ way_in _ _ _
  have hsz : t.place.toList.length = hs.length := by rw [Array.length_toList]; exact T.len
  obtain ⟨c1, _, _⟩ := below_cut T.up j
  rw [← ep] at c1
  have hph : p ≤ hs.length := by rw [← T.len]; exact c1
  have hpl : p ≤ t.place.toList.length := by omega
  have hn : j ∉ t.place.toList := ej ▸ hK
  have hnp : t.place[SetTable.below t.place j]? ≠ some j := fun e => hn (List.mem_of_getElem? (by rw [Array.getElem?_toList]; exact e))
  have hpp := put_place t j
  rw [← ep] at hpp
  have hsize : (t.put j).1.place.size = hs.length + 1 := by rw [← Array.length_toList, hpp, len_ins _ hpl, hsz]
  have up : ∀ {x : Nat}, x ∈ t.place.toList → x ∈ (t.put j).1.place.toList := fun hx => by rw [hpp]; exact mem_ins.2 (.inr hx)
  refine ⟨hph, ⟨ris_insert T.up hnp, put_dm T.cl j, by rw [len_ins _ hph]; exact hsize, T.mask, fun x hx => ?_, fun i h' j' h1 h2 => ?_⟩, ?_⟩
  · rw [hpp] at hx
    exact (mem_ins.1 hx).elim (fun z => z ▸ hjm) (T.low x)
  · rw [tins_get hs hph] at h1
    rw [hpp, tins_get _ hpl] at h2
    have old : ∀ i0, hs[i0]? = some h' → t.place.toList[i0]? = some j' → ∃ k, way t.mask h' k = j' ∧ ∀ k', k' < k → way t.mask h' k' ∈ (t.put j).1.place.toList := fun i0 g1 g2 => by
      obtain ⟨k, e, z⟩ := T.met i0 h' j' g1 g2
      exact ⟨k, e, fun k' hk' => up (z k' hk')⟩
    show ∃ k, way t.mask h' k = j' ∧ ∀ k', k' < k → way t.mask h' k' ∈ (t.put j).1.place.toList
    by_cases c : i < p
    · rw [if_pos c] at h1 h2; exact old i h1 h2
    · rw [if_neg c] at h1 h2
      by_cases d : i = p
      · rw [if_pos d] at h1 h2
        cases h1; cases h2
        exact ⟨K, ej.symm, fun k' hk' => up (hb k' hk')⟩
      · rw [if_neg d] at h1 h2; exact old (i - 1) h1 h2
  · show (t.put j).1.place.size + (t.put j).1.dummies.size = _
    rw [hsize, put_dm T.cl j]; rfl
end

/-! ### laid anew -/
end Mir

set_option Elab.async false
set_option autoImplicit false
set_option linter.all false
set_option maxRecDepth 100000
set_option maxHeartbeats 4000000
/-! Sets of nested tuples in the model: add, search, set(xs), in. -/
namespace Mir
open PySem PySem.Spec PyProof.Rows L2

abbrev IsN (h : Heap) (k : NestedKey) (b : Addr) : Prop := NestedIs h k (.ref b) ∧ k.depth ≤ 8
abbrev rowN (w : World) (p : Addr × NestedKey) : Int × Value := (p.2.hash w, Value.ref p.1)
section
variable {P : Program} {w : World} {A : Around} {E : Value → Shared → Prop} {s : Shared}
theorem IsN.tup {h : Heap} {k : NestedKey} {b : Addr} (x : IsN h k b) : ∃ o vs n ks, h.get? b = some o ∧ o.cls = .type "tuple" ∧ o.data = .seq vs n ∧ k = .tup ks ∧ NestedAll h ks vs.toList := by
  obtain ⟨x, _⟩ := x
  cases x with
  | tup h1 h2 h3 h4 => exact ⟨_, _, _, _, h1, h2, h3, rfl, h4⟩
theorem IsN.kind (P : Program) (w : World) {h : Heap} {k : NestedKey} {b : Addr} (x : IsN h k b) : (nestedKind P w).is h k b := x
theorem IsN.keep {h h' : Heap} {k : NestedKey} {b : Addr} (x : IsN h k b) (hk : ∀ c o, h.get? c = some o → h'.get? c = some o) : IsN h' k b := ⟨NestedIs.at (fun a o vs n e _ => hk a o e) _ _ x.1, x.2⟩
theorem IsN.but {h h' : Heap} {k : NestedKey} {a b : Addr} {o : Obj} {es : Array (Int × Value)} {ep : Nat} {t : SetTable} (x : IsN h k b) (ho : h.get? a = some o) (hd : o.data = .set es ep t) (sb : Heap.SameBut a h h') : IsN h' k b :=
  ⟨NestedIs.at (fun c oc vs n e ec => (sb.2 c fun z => by subst z; rw [ho] at e; cases e; rw [hd] at ec; cases ec).trans e) _ _ x.1, x.2⟩
end

/-! ### the set -/
/-- the set at a has just these entries -/
structure SetNk (w : World) (h : Heap) (a : Addr) (L : List (Addr × NestedKey)) (o : Obj) (es : Array (Int × Value)) (ep : Nat) (t : SetTable) : Prop where
  ob : h.get? a = some o ∧ o.ExactSet ∧ o.data = .set es ep t
  rows : es.toList = L.map (rowN w)
  tab : TabG t (L.map fun p => p.2.hash w)
  nd : (L.map (·.2)).Nodup
  led : w.params.followText "set-order" = true ∨ t.led = true
  room : L.length * 5 < t.mask * 3
  few : L.length < 300
section
variable {P : Program} {w : World} {A : Around} {E : Value → Shared → Prop} {s : Shared} {a : Addr} {L : List (Addr × NestedKey)} {o : Obj} {es : Array (Int × Value)} {ep : Nat} {t : SetTable} {h : Heap}
theorem SetNk.size (R : SetNk w h a L o es ep t) : es.size = L.length := by
  have h := congrArg List.length R.rows
  rwa [Array.length_toList, List.length_map] at h
theorem SetNk.fits (R : SetNk w h a L o es ep t) : t.fits es.size = true := by
  have h1 := R.tab.len; have h2 := R.size; have h3 := R.room
  rw [List.length_map] at h1
  unfold SetTable.fits SetTable.fill
  rw [R.tab.cl, Bool.and_eq_true, beq_iff_eq, decide_eq_true_eq]
  show t.place.size = es.size ∧ t.place.size + 0 ≤ t.mask
  omega
end
end Mir

set_option Elab.async false
set_option autoImplicit false
set_option linter.all false
set_option maxRecDepth 100000
set_option maxHeartbeats 4000000
/-! Sets of nested tuples in the model: add, set(xs), in. -/
namespace Mir
open PySem PySem.Spec PyProof.Rows L2

section
variable {P : Program} {w : World} {A : Around} {E : Value → Shared → Prop} {s : Shared} {a : Addr} {L : List (Addr × NestedKey)} {o : Obj} {es : Array (Int × Value)} {ep : Nat} {t : SetTable} {h : Heap}
end

/-! ### set(xs) -/
/-- the set at a has these members -/
def SetN (w : World) (h : Heap) (a : Addr) (M : List (Addr × NestedKey)) : Prop := ∃ L o es ep t, SetNk w h a L o es ep t ∧ L.Perm M
section
variable {P : Program} {w : World} {h h' : Heap} {a : Addr} {M : List (Addr × NestedKey)}
theorem SetN.at (R : SetN w h a M) (k : ∀ o, h.get? a = some o → h'.get? a = some o) : SetN w h' a M := by
  obtain ⟨L, o, es, ep, t, ⟨⟨h1, h2⟩, r2, r3, r4, r5, r6, r7⟩, p⟩ := R
  exact ⟨L, o, es, ep, t, ⟨⟨k o h1, h2⟩, r2, r3, r4, r5, r6, r7⟩, p⟩
theorem SetN.ob (R : SetN w h a M) : ∃ o, h.get? a = some o := by
  obtain ⟨L, o, es, ep, t, ⟨⟨h1, h2⟩, _⟩, p⟩ := R
  exact ⟨o, h1⟩
end
section
variable {P : Program} {w : World} {A : Around} {I S : Addr} {fp wr : List Addr} {G : Array GenState → Array GenState → Prop} {n : Nat} {Pv : Nat → Value → Prop} {St : Nat → Shared → Prop} {R : Result → Shared → Prop}
end
end Mir

set_option Elab.async false
set_option autoImplicit false
set_option linter.all false
set_option maxRecDepth 100000
set_option maxHeartbeats 4000000
/-! A set of ints at the heap: an empty set is one. -/
namespace Mir
open PySem PySem.Spec PyProof.Rows L2
def SetI (w : World) (h : Heap) (a : Addr) (ks : List Int) : Prop := ks.Nodup ∧ SetR w h a (fun j => decide (j ∈ ks)) ks.length
section
variable {w : World} {h h' : Heap} {a : Addr} {ks : List Int}
theorem SetI.at (R : SetI w h a ks) (k : ∀ o, h.get? a = some o → h'.get? a = some o) : SetI w h' a ks := ⟨R.1, R.2.at k⟩
end
end Mir

set_option Elab.async false
set_option linter.all false
set_option maxRecDepth 100000
set_option maxHeartbeats 4000000
/-! Mirrors: a def of the program as a function over plain data, and the rules by which a def keeps its mirror. -/
namespace Mir
open PySem PySem.Spec PyProof.Rows L2

/-! ### data -/
inductive D where
  | non | bl (b : Bool) | int (i : Int) | str (x : List Nat) | tup (xs : List D) | lst (xs : List D)
  /-- a dict: its keys and values by turns; a set: its members -/
  | dic (xs : List D) | set (xs : List D)
abbrev toS (l : List Nat) : Str := ⟨l.toArray⟩
structure Fg where
  k : PySem.W.Frag
  w : World
instance : Coe Fg PySem.W.Frag := ⟨Fg.k⟩
abbrev _root_.L2.Cx.KW (X : L2.Cx) : Fg := Fg.mk (L2.Cx.K X) (L2.Cx.w X)
/-- scalar keys -/
def scK : D → Option L2.Key
  | .int i => some (.inl i)
  | .str x => some (.inr (toS x))
  | _ => none
mutual
/-- tuples as keys -/
def nkD : D → Option NestedKey
  | .non => some .none
  | .int i => some (.num i)
  | .str x => some (.text (toS x))
  | .tup xs => (nkDs xs).map .tup
  | _ => none
def nkDs : List D → Option (List NestedKey)
  | [] => some []
  | d :: ds => match nkD d, nkDs ds with
    | some k, some ks => some (k :: ks)
    | _, _ => none
end
def nkT : D → Option NestedKey
  | .tup xs => (nkD (.tup xs)).bind fun k => if k.depth ≤ 8 then some k else none
  | _ => none
/-- keys and values by turns, the keys scalar -/
def prs : List D → List V → Option (List (L2.Key × V))
  | [], [] => some []
  | k :: _ :: ds, _ :: u :: vs => match scK k, prs ds vs with
    | some q, some r => some ((q, u) :: r)
    | _, _ => none
  | _, _ => none
/-- .. the keys tuples -/
def NM : List D → List V → List (NestedKey × Addr × Value) → Prop
  | [], [], [] => True
  | k :: _ :: ds, kv :: u :: vs, x :: xs => nkT k = some x.1 ∧ kv = .ref x.2.1 ∧ RelV u x.2.2 ∧ NM ds vs xs
  | _, _, _ => False
def entN (w : World) (x : NestedKey × Addr × Value) : DictEntry := { hash := x.1.hash w, key := .ref x.2.1, val := x.2.2 }
def DicN (w : World) (a : Addr) (ds : List D) (vs : List V) (h : Heap) : Prop :=
  ∃ o es ep xs, h.get? a = some o ∧ o.ExactDict ∧ o.data = .dict es ep ∧ es.toList = xs.map (entN w) ∧ NM ds vs xs ∧ (xs.map (·.1)).Nodup ∧ xs.length ≤ sizeLine ∧ (a == sysModules) = false
def dicO (w : World) (a : Addr) (ds : List D) (vs : List V) : HO := match prs ds vs with
  | some kvs => .dK kvs
  | none => .ext (DicN w a ds vs)
/-- a set's members -/
def NS : List D → List V → List (Addr × NestedKey) → Prop
  | [], [], [] => True
  | d :: ds, v :: vs, x :: xs => nkT d = some x.2 ∧ v = .ref x.1 ∧ NS ds vs xs
  | _, _, _ => False
/-- the set at a, its members nested tuples -/
def SetV (w : World) (a : Addr) (ds : List D) (vs : List V) (h : Heap) : Prop := (∃ M, NS ds vs M ∧ SetN w h a M) ∨ ∃ ks : List Int, ks ≠ [] ∧ ds = ks.map .int ∧ vs = ks.map .int ∧ SetI w h a ks
/-- what an owned thing holds: a list, a dict, a set -/
inductive Ck where
  | lst | dic | set
structure Ct where
  c : Ck
  ds : List D
def Ct.data (t : Ct) : D := match t.c with
  | .lst => .lst t.ds
  | .dic => .dic t.ds
  | .set => .set t.ds
def Ct.ho (t : Ct) (w : World) (a : Addr) (vs : List V) : HO := match t.c with
  | .lst => .lst vs
  | .dic => dicO w a t.ds vs
  | .set => .ext (SetV w a t.ds vs)
mutual
def At (K : Fg) (H : Hp) : D → V → Prop
  | .non, v => v = .non
  | .bl b, v => v = .bl b
  | .int i, v => v = .int i
  | .str x, v => v = .str (toS x)
  | .tup ds, v => ∃ a vs, v = .ref a ∧ SqT K H a vs ∧ AtL K H ds vs
  | .lst ds, v => ∃ a vs, v = .ref a ∧ H a = some (.lst vs) ∧ AtL K H ds vs
  | .dic ds, v => ∃ a vs, v = .ref a ∧ H a = some (dicO K.w a ds vs) ∧ AtL K H ds vs
  | .set ds, v => ∃ a vs, v = .ref a ∧ H a = some (.ext (SetV K.w a ds vs)) ∧ AtL K H ds vs
def AtL (K : Fg) (H : Hp) : List D → List V → Prop
  | [], vs => vs = []
  | d :: ds, vs => ∃ v r, vs = v :: r ∧ At K H d v ∧ AtL K H ds r
end
theorem Same.seqT {K : Fg} {H H' : Hp} {a : Addr} {xs : List V} (e : Same H H') (h : SqT K H a xs) : SqT K H' a xs := by
  rcases h with (h | ⟨o, h⟩) | h
  · exact .inl (.inl (e _ _ h))
  · exact .inl (.inr ⟨o, e _ _ h⟩)
  · exact .inr h
mutual
theorem At.mono {K : Fg} {H H' : Hp} (e : Same H H') : ∀ {d : D} {v : V}, At K H d v → At K H' d v
  | .non, _, h => h
  | .bl _, _, h => h
  | .int _, _, h => h
  | .str _, _, h => h
  | .tup _, _, ⟨a, vs, h1, h2, h3⟩ => ⟨a, vs, h1, Same.seqT e h2, AtL.mono e h3⟩
  | .lst _, _, ⟨a, vs, h1, h2, h3⟩ => ⟨a, vs, h1, e _ _ h2, AtL.mono e h3⟩
  | .dic _, _, ⟨a, vs, h1, h2, h3⟩ => ⟨a, vs, h1, e _ _ h2, AtL.mono e h3⟩
  | .set _, _, ⟨a, vs, h1, h2, h3⟩ => ⟨a, vs, h1, e _ _ h2, AtL.mono e h3⟩
theorem AtL.mono {K : Fg} {H H' : Hp} (e : Same H H') : ∀ {ds : List D} {vs : List V}, AtL K H ds vs → AtL K H' ds vs
  | [], _, h => h
  | _ :: _, _, ⟨v, r, h1, h2, h3⟩ => ⟨v, r, h1, At.mono e h2, AtL.mono e h3⟩
end
section
variable {K : Fg} {H : Hp}
theorem AtL.nil : AtL K H [] [] := rfl
theorem AtL.cons {d : D} {v : V} {ds : List D} {vs : List V} (h : At K H d v) (t : AtL K H ds vs) : AtL K H (d :: ds) (v :: vs) := ⟨v, vs, rfl, h, t⟩
theorem AtL.length : ∀ {ds : List D} {vs : List V}, AtL K H ds vs → ds.length = vs.length
  | [], _, h => by cases h; rfl
  | _ :: _, _, ⟨v, r, h1, h2, h3⟩ => by subst h1; simp [AtL.length h3]
theorem AtL.get : ∀ {ds : List D} {vs : List V} {i : Nat} {d : D}, AtL K H ds vs → ds[i]? = some d → ∃ v, vs[i]? = some v ∧ At K H d v
  | [], _, _, _, h, e => by simp at e
  | _ :: _, _, 0, _, ⟨v, r, h1, h2, h3⟩, e => by subst h1; simp at e; subst e; exact ⟨v, rfl, h2⟩
  | _ :: _, _, i + 1, _, ⟨v, r, h1, h2, h3⟩, e => by
    subst h1
    obtain ⟨u, e1, e2⟩ := AtL.get (i := i) h3 (by simpa using e)
    exact ⟨u, by simpa using e1, e2⟩
theorem AtL.append : ∀ {ds es : List D} {vs us : List V}, AtL K H ds vs → AtL K H es us → AtL K H (ds ++ es) (vs ++ us)
  | [], _, _, _, h, t => by cases h; exact t
  | _ :: _, _, _, _, ⟨v, r, h1, h2, h3⟩, t => by subst h1; exact ⟨v, _, rfl, h2, AtL.append h3 t⟩
theorem AtL.take : ∀ {ds : List D} {vs : List V} (n : Nat), AtL K H ds vs → AtL K H (ds.take n) (vs.take n)
  | _, _, 0, _ => by simp [AtL]
  | [], _, _ + 1, h => by cases h; exact rfl
  | _ :: _, _, n + 1, ⟨v, r, h1, h2, h3⟩ => by subst h1; exact ⟨v, _, rfl, h2, AtL.take n h3⟩
theorem AtL.drop : ∀ {ds : List D} {vs : List V} (n : Nat), AtL K H ds vs → AtL K H (ds.drop n) (vs.drop n)
  | _, _, 0, h => h
  | [], _, _ + 1, h => by cases h; exact rfl
  | _ :: _, _, n + 1, ⟨v, r, h1, h2, h3⟩ => by subst h1; exact AtL.drop n h3
theorem AtL.reverse : ∀ {ds : List D} {vs : List V}, AtL K H ds vs → AtL K H ds.reverse vs.reverse
  | [], _, h => by cases h; exact rfl
  | _ :: _, _, ⟨v, r, h1, h2, h3⟩ => by
    subst h1
    rw [List.reverse_cons, List.reverse_cons]
    exact AtL.append (AtL.reverse h3) (AtL.cons h2 AtL.nil)
theorem AtL.dropLast : ∀ {ds : List D} {vs : List V}, AtL K H ds vs → AtL K H ds.dropLast vs.dropLast
  | [], _, h => by cases h; exact rfl
  | [_], _, ⟨v, r, h1, h2, h3⟩ => by subst h1; cases h3; exact rfl
  | _ :: b :: t, _, ⟨v, r, h1, h2, h3⟩ => by
    obtain ⟨v2, r2, e2, h4, h5⟩ := id h3
    subst h1 e2
    exact ⟨v, _, rfl, h2, AtL.dropLast h3⟩
theorem AtL.set : ∀ {ds : List D} {vs : List V} (i : Nat) {d : D} {v : V}, AtL K H ds vs → At K H d v → AtL K H (ds.set i d) (vs.set i v)
  | [], _, _, _, _, h, _ => by cases h; exact rfl
  | _ :: _, _, 0, _, _, ⟨v, r, h1, h2, h3⟩, q => by subst h1; exact ⟨_, _, rfl, q, h3⟩
  | _ :: _, _, i + 1, _, _, ⟨v, r, h1, h2, h3⟩, q => by subst h1; exact ⟨v, _, rfl, h2, AtL.set i h3 q⟩
theorem AtL.ints (ns : List Int) : AtL K H (ns.map D.int) (ns.map V.int) := by
  induction ns with
  | nil => exact rfl
  | cons n r ih => exact ⟨_, _, rfl, rfl, ih⟩
end

theorem at_data {K : Fg} {H : Hp} {t : Ct} {v : V} : At K H t.data v ↔ ∃ a vs, v = .ref a ∧ H a = some (t.ho K.w a vs) ∧ AtL K H t.ds vs := by
  obtain ⟨c, ds⟩ := t
  cases c <;> exact Iff.rfl
/-! ### what is owned is hidden from the data -/
open Classical in
noncomputable def off (O : List Addr) (H : Hp) : Hp := fun b => if b ∈ O then none else H b
section
variable {O O' : List Addr} {H H' : Hp} {b : Addr} {o : HO}
theorem off_in (h : b ∈ O) : off O H b = none := by unfold off; rw [if_pos h]
theorem off_out (h : b ∉ O) : off O H b = H b := by unfold off; rw [if_neg h]
theorem off_some : off O H b = some o ↔ b ∉ O ∧ H b = some o := by
  by_cases h : b ∈ O
  · rw [off_in h]; exact Iff.intro (fun e => by cases e) (fun e => absurd h e.1)
  · rw [off_out h]; exact Iff.intro (fun e => ⟨h, e⟩) (fun e => e.2)
theorem off_le : Same (off O H) H := fun b o e => (off_some.mp e).2
theorem off_mono (k : ∀ b o, b ∉ O → H b = some o → H' b = some o) (s : ∀ b, b ∈ O' → b ∉ O → H b = none) : Same (off O H) (off O' H') := fun b o e => by
  obtain ⟨h1, h2⟩ := off_some.mp e
  refine off_some.mpr ⟨fun h => ?_, k b o h1 h2⟩
  rw [s b h h1] at h2; cases h2
end

/-! ### the slots of a def, as data -/
inductive Sl where
  | no | va (d : D) | owc (t : Ct) | bwc (t : Ct) | sc (ns : List Int)
abbrev Sl.ow (ds : List D) : Sl := .owc ⟨.lst, ds⟩
abbrev Sl.bw (ds : List D) : Sl := .bwc ⟨.lst, ds⟩
/-- owned, or owned and lent to a loop that walks it -/
def Sl.hd : Sl → Bool
  | .owc _ => true
  | .bwc _ => true
  | _ => false
/-- what an expression gives: data, a new list that nobody else has, or the list that stands at a slot -/
inductive RV where
  | va (d : D) | owc (t : Ct) | bo (i : Nat)
abbrev RV.ow (ds : List D) : RV := .owc ⟨.lst, ds⟩
inductive Rs (α : Type) where
  | ok (a : α) (Γ : List Sl) | ex (c : Nat) (pl : List D) (Γ : List Sl) | no
def Rs.bind {α β : Type} (x : Rs α) (f : α → List Sl → Rs β) : Rs β :=
  match x with
  | .ok a Γ => f a Γ
  | .ex c pl Γ => .ex c pl Γ
  | .no => .no
abbrev EM := List Sl → Rs RV
def SlAt (K : Fg) (O : List Addr) (H : Hp) : Sl → Option V → Prop
  | .no, _ => True
  | .va d, o => ∃ v, o = some v ∧ At K (off O H) d v
  | .owc t, o => ∃ a vs, o = some (.ref a) ∧ a ∈ O ∧ H a = some (t.ho K.w a vs) ∧ AtL K (off O H) t.ds vs
  | .bwc t, o => ∃ a vs, o = some (.ref a) ∧ a ∈ O ∧ H a = some (t.ho K.w a vs) ∧ AtL K (off O H) t.ds vs
  | .sc ns, o => ∃ a, o = some (.ref a) ∧ SqL K (off O H) a (ns.map V.int)
structure Rl (K : Fg) (O : List Addr) (Γ : List Sl) (σ : L2.St) (H : Hp) : Prop where
  len : Γ.length = σ.length
  sl : ∀ (i : Nat) (s : Sl), Γ[i]? = some s → ∃ o, σ[i]? = some o ∧ SlAt K O H s o
  ne : ∀ (i j : Nat) (a : Addr) ds t, i ≠ j → Γ[i]? = some (.owc ds) → Γ[j]? = some t → t.hd = true → σ[i]? = some (some (.ref a)) → σ[j]? = some (some (.ref a)) → False
  tr : ∀ a, a ∈ O → H a ≠ none
/-- an address that some owned slot holds -/
def Mu (Γ : List Sl) (σ : L2.St) (b : Addr) : Prop := ∃ (i : Nat) (ds : Ct), Γ[i]? = some (.owc ds) ∧ σ[i]? = some (some (.ref b))
structure Stp (Γ : List Sl) (σ : L2.St) (H : Hp) (O : List Addr) (Γ' : List Sl) (σ' : L2.St) (H' : Hp) (O' : List Addr) : Prop where
  keep : ∀ b o, ¬ Mu Γ σ b → H b = some o → H' b = some o
  mu : ∀ b, Mu Γ' σ' b → Mu Γ σ b ∨ H b = none
  stay : ∀ b, H b ≠ none → H' b ≠ none
  grow : ∀ b, b ∈ O' → b ∈ O ∨ H b = none
  lose : ∀ b, b ∈ O → b ∉ O' → Mu Γ σ b
/-- .. of an expression: no slot is stored, nothing more is owned -/
structure EStp (Γ : List Sl) (σ : L2.St) (H : Hp) (O : List Addr) (Γ' : List Sl) (H' : Hp) (O' : List Addr) : Prop extends Stp Γ σ H O Γ' σ H' O' where
  sub : ∀ b, b ∈ O' → b ∈ O
  pres : ∀ (i : Nat) ds, Γ[i]? = some (.owc ds) → (∃ es, Γ'[i]? = some (.owc es)) ∨ ∃ es : Ct, Γ'[i]? = some (.va es.data)
  oth : ∀ (i : Nat) s, Γ[i]? = some s → (∀ ds, s ≠ .owc ds) → Γ'[i]? = some s
  bwb : ∀ (i : Nat) (ds : Ct), Γ'[i]? = some (Sl.bwc ds) → Γ[i]? = some (Sl.bwc ds)

section
variable {K : Fg} {O O1 O2 O' : List Addr} {Γ Γ1 Γ2 Γ' : List Sl} {σ σ1 σ2 σ' : L2.St} {H H1 H2 H' : Hp}
theorem Rl.mem (R : Rl K O Γ σ H) {b : Addr} (m : Mu Γ σ b) : b ∈ O := by
  obtain ⟨i, ds, e1, e2⟩ := m
  obtain ⟨o, e3, a, vs, e4, h, _⟩ := R.sl i _ e1
  rw [e2] at e3; cases e3; cases e4; exact h
theorem Stp.refl : Stp Γ σ H O Γ σ H O := ⟨fun _ _ _ h => h, fun _ h => .inl h, fun _ h => h, fun _ h => .inl h, fun _ h n => absurd h n⟩
theorem EStp.refl : EStp Γ σ H O Γ H O := ⟨Stp.refl, fun _ h => h, fun i ds h => .inl ⟨ds, h⟩, fun i s h _ => h, fun i ds h => h⟩
theorem Stp.trans (R : Rl K O Γ σ H) (a : Stp Γ σ H O Γ1 σ1 H1 O1) (b : Stp Γ1 σ1 H1 O1 Γ2 σ2 H2 O2) : Stp Γ σ H O Γ2 σ2 H2 O2 where
  keep := fun c o n h => b.keep c o (fun m => (a.mu c m).elim n fun z => by rw [z] at h; cases h) (a.keep c o n h)
  mu := fun c m => (b.mu c m).elim (fun m => a.mu c m) fun z => by
    by_cases h : H c = none
    · exact .inr h
    · exact absurd z (a.stay c h)
  stay := fun c h => b.stay c (a.stay c h)
  grow := fun c m => (b.grow c m).elim (fun m => a.grow c m) fun z => by
    by_cases h : H c = none
    · exact .inr h
    · exact absurd z (a.stay c h)
  lose := fun c h n => by
    by_cases h1 : c ∈ O1
    · rcases a.mu c (b.lose c h1 n) with m | z
      · exact m
      · exact absurd z (R.tr c h)
    · exact a.lose c h h1
theorem EStp.trans (R : Rl K O Γ σ H) (a : EStp Γ σ H O Γ1 H1 O1) (b : EStp Γ1 σ H1 O1 Γ2 H2 O2) : EStp Γ σ H O Γ2 H2 O2 where
  toStp := a.toStp.trans R b.toStp
  sub := fun c h => a.sub c (b.sub c h)
  pres := fun i ds h => by
    rcases a.pres i ds h with ⟨es, e⟩ | ⟨es, e⟩
    · exact b.pres i es e
    · exact .inr ⟨es, b.oth i _ e fun _ z => nomatch z⟩
  oth := fun i s h n => b.oth i s (a.oth i s h n) n
  bwb := fun i ds h => a.bwb i ds (b.bwb i ds h)
/-- what is data ahead is data behind -/
theorem Stp.same (R : Rl K O Γ σ H) (a : Stp Γ σ H O Γ' σ' H' O') : Same (off O H) (off O' H') :=
  off_mono (fun b o n h => a.keep b o (fun m => n (R.mem m)) h) fun b h n => (a.grow b h).elim (fun z => absurd z n) id
/-- the heap grows -/
theorem Rl.same (R : Rl K O Γ σ H) (e : Same H H') : Rl K O Γ σ H' := by
  have eo : Same (off O H) (off O H') := off_mono (fun b o _ h => e b o h) fun b h n => absurd h n
  refine ⟨R.len, fun i s h => ?_, R.ne, fun a h z => ?_⟩
  · obtain ⟨o, h1, h2⟩ := R.sl i s h
    refine ⟨o, h1, ?_⟩
    cases s with
    | no => trivial
    | va d => obtain ⟨v, e1, q⟩ := h2; exact ⟨v, e1, q.mono eo⟩
    | owc ds => obtain ⟨a, vs, e1, m, q, t⟩ := h2; exact ⟨a, vs, e1, m, e _ _ q, t.mono eo⟩
    | bwc ds => obtain ⟨a, vs, e1, m, q, t⟩ := h2; exact ⟨a, vs, e1, m, e _ _ q, t.mono eo⟩
    | sc ns => obtain ⟨a, e1, q⟩ := h2; exact ⟨a, e1, eo.seq q⟩
  · cases q : H a with
    | none => exact R.tr a h q
    | some o => rw [e a o q] at z; cases z
theorem stays (e : Same H H') {b : Addr} (h : H b ≠ none) : H' b ≠ none := fun z => by
  cases q : H b with
  | none => exact h q
  | some o => rw [e b o q] at z; cases z
theorem Stp.of_same (e : Same H H') : Stp Γ σ H O Γ σ H' O :=
  ⟨fun b o _ h => e b o h, fun _ h => .inl h, fun b h => stays e h, fun _ h => .inl h, fun _ h n => absurd h n⟩
theorem EStp.of_same (e : Same H H') : EStp Γ σ H O Γ H' O := ⟨Stp.of_same e, fun _ h => h, fun i ds h => .inl ⟨ds, h⟩, fun i s h _ => h, fun i ds h => h⟩
theorem same_up {p : Addr} {o : HO} (h : H p = none) : Same H (upd H p o) := fun b x e => by
  rw [upd_ne (ne_of_none e h)]; exact e
/-- a new address is hidden, too -/
theorem Rl.hide (R : Rl K O Γ σ H) {a : Addr} (e : Same H H') (hn : H a = none) (h' : H' a ≠ none) : Rl K (a :: O) Γ σ H' := by
  have eo : Same (off O H) (off (a :: O) H') := off_mono (fun b o _ h => e b o h) fun b h n => by
    rcases List.mem_cons.mp h with z | z
    · rw [z]; exact hn
    · exact absurd z n
  refine ⟨R.len, fun i s h => ?_, R.ne, fun b h z => ?_⟩
  · obtain ⟨o, h1, h2⟩ := R.sl i s h
    refine ⟨o, h1, ?_⟩
    cases s with
    | no => trivial
    | va d => obtain ⟨v, e1, q⟩ := h2; exact ⟨v, e1, q.mono eo⟩
    | owc ds => obtain ⟨a', vs, e1, m, q, t⟩ := h2; exact ⟨a', vs, e1, List.mem_cons_of_mem _ m, e _ _ q, t.mono eo⟩
    | bwc ds => obtain ⟨a', vs, e1, m, q, t⟩ := h2; exact ⟨a', vs, e1, List.mem_cons_of_mem _ m, e _ _ q, t.mono eo⟩
    | sc ns => obtain ⟨a', e1, q⟩ := h2; exact ⟨a', e1, eo.seq q⟩
  · rcases List.mem_cons.mp h with q | q
    · rw [q] at z; exact h' z
    · exact (R.same e).tr b q z
/-- less is hidden -/
theorem off_less {a : Addr} : Same (off (a :: O) H) (off O H) := off_mono (fun b o _ h => h) fun b h n => absurd (List.mem_cons_of_mem _ h) n
end

/-! ### operands, results -/
def peek (Γ : List Sl) : RV → Option D
  | .va d => some d
  | .owc t => some t.data
  | .bo i => match Γ[i]? with
    | some (.owc t) => some t.data
    | some (.bwc t) => some t.data
    | some (.va d) => some d
    | some (.sc ns) => some (.lst (ns.map .int))
    | _ => none
/-- .. not the script -/
def peekT (Γ : List Sl) : RV → Option D
  | .va d => some d
  | .owc t => some t.data
  | .bo i => match Γ[i]? with
    | some (.owc t) => some t.data
    | some (.bwc t) => some t.data
    | some (.va d) => some d
    | _ => none
/-- .. an owned dict or set -/
def OpnO (K : Fg) (Hd H : Hp) (d : D) (v : V) : Prop := ∃ (t : Ct) (a : Addr) (vs : List V), t.c ≠ .lst ∧ d = t.data ∧ v = .ref a ∧ H a = some (t.ho K.w a vs) ∧ AtL K Hd t.ds vs
def Opn (K : Fg) (Hd H : Hp) (d : D) (v : V) : Prop := At K Hd d v ∨ (∃ ds a vs, d = .lst ds ∧ v = .ref a ∧ SqL K H a vs ∧ AtL K Hd ds vs) ∨ OpnO K Hd H d v
def OpnT (K : Fg) (Hd H : Hp) (d : D) (v : V) : Prop := At K Hd d v ∨ (∃ ds a vs, d = .lst ds ∧ v = .ref a ∧ H a = some (.lst vs) ∧ AtL K Hd ds vs) ∨ OpnO K Hd H d v
theorem opn_ct {K : Fg} {Hd H : Hp} {t : Ct} {a : Addr} {vs : List V} (h : H a = some (t.ho K.w a vs)) (q : AtL K Hd t.ds vs) : OpnT K Hd H t.data (.ref a) := by
  obtain ⟨c, ds⟩ := t
  cases c with
  | lst => exact .inr (.inl ⟨ds, a, vs, rfl, rfl, h, q⟩)
  | dic => exact .inr (.inr ⟨⟨.dic, ds⟩, a, vs, (fun z => nomatch z), rfl, rfl, h, q⟩)
  | set => exact .inr (.inr ⟨⟨.set, ds⟩, a, vs, (fun z => nomatch z), rfl, rfl, h, q⟩)
def RvAt (K : Fg) (O : List Addr) (σ : L2.St) (Γ : List Sl) (H H0 : Hp) : RV → V → Prop
  | .va d, v => At K (off O H) d v
  | .owc t, v => ∃ a vs, v = .ref a ∧ a ∉ O ∧ H0 a = none ∧ H a = some (t.ho K.w a vs) ∧ AtL K (off (a :: O) H) t.ds vs ∧ Rl K (a :: O) Γ σ H
  | .bo i, v => σ[i]? = some (some v) ∧ ((∃ ds, Γ[i]? = some (.owc ds)) ∨ (∃ ns, Γ[i]? = some (.sc ns)) ∨ ∃ ds, Γ[i]? = some (.bwc ds))
section
variable {K : Fg} {O O1 O2 O' : List Addr} {Γ Γ1 Γ2 Γ' : List Sl} {σ σ1 σ2 σ' : L2.St} {H H0 H1 H2 H' Hd Hd' : Hp} {v : V} {d : D} {r : RV}
theorem OpnT.opn (h : OpnT K Hd H d v) : Opn K Hd H d v := h.imp id fun h => h.imp (fun ⟨ds, a, vs, e1, e2, q, t⟩ => ⟨ds, a, vs, e1, e2, SqL.of q, t⟩) id
theorem RvAt.opn (R1 : Rl K O1 Γ1 σ H1) (h : RvAt K O1 σ Γ1 H1 H0 r v) (S : EStp Γ1 σ H1 O1 Γ2 H2 O2) (R2 : Rl K O2 Γ2 σ H2) (p : peek Γ2 r = some d) : Opn K (off O2 H2) H2 d v := by
  cases r with
  | va d' => cases p; exact .inl (At.mono (S.toStp.same R1) h)
  | owc ds =>
    cases p
    obtain ⟨a, vs, e1, n, _, q, t, _⟩ := h
    refine .inl (at_data.mpr ⟨a, vs, e1, ?_, (t.mono off_less).mono (S.toStp.same R1)⟩)
    exact S.toStp.same R1 a _ (off_some.mpr ⟨n, q⟩)
  | bo i =>
    obtain ⟨e1, _⟩ := h
    simp only [peek] at p
    cases e : Γ2[i]? with
    | none => rw [e] at p; cases p
    | some s =>
      rw [e] at p
      obtain ⟨o, e2, q⟩ := R2.sl i s e
      rw [e1] at e2; cases e2
      cases s with
      | no => cases p
      | va d' => cases p; obtain ⟨v', e3, q⟩ := q; cases e3; exact .inl q
      | owc ds => cases p; obtain ⟨a, vs, e3, m, q, t⟩ := q; cases e3; exact (opn_ct q t).opn
      | bwc ds => cases p; obtain ⟨a, vs, e3, m, q, t⟩ := q; cases e3; exact (opn_ct q t).opn
      | sc ns => cases p; obtain ⟨a, e3, q⟩ := q; cases e3; exact .inr (.inl ⟨_, a, _, rfl, rfl, (off_le (O := O2)).seq q, AtL.ints ns⟩)
theorem RvAt.opnT (R1 : Rl K O1 Γ1 σ H1) (h : RvAt K O1 σ Γ1 H1 H0 r v) (S : EStp Γ1 σ H1 O1 Γ2 H2 O2) (R2 : Rl K O2 Γ2 σ H2) (p : peekT Γ2 r = some d) : OpnT K (off O2 H2) H2 d v := by
  cases r with
  | va d' => cases p; exact .inl (At.mono (S.toStp.same R1) h)
  | owc ds =>
    cases p
    obtain ⟨a, vs, e1, n, _, q, t, _⟩ := h
    refine .inl (at_data.mpr ⟨a, vs, e1, ?_, (t.mono off_less).mono (S.toStp.same R1)⟩)
    exact S.toStp.same R1 a _ (off_some.mpr ⟨n, q⟩)
  | bo i =>
    obtain ⟨e1, _⟩ := h
    simp only [peekT] at p
    cases e : Γ2[i]? with
    | none => rw [e] at p; cases p
    | some s =>
      rw [e] at p
      obtain ⟨o, e2, q⟩ := R2.sl i s e
      rw [e1] at e2; cases e2
      cases s with
      | no => cases p
      | va d' => cases p; obtain ⟨v', e3, q⟩ := q; cases e3; exact .inl q
      | owc ds => cases p; obtain ⟨a, vs, e3, m, q, t⟩ := q; cases e3; exact opn_ct q t
      | bwc ds => cases p; obtain ⟨a, vs, e3, m, q, t⟩ := q; cases e3; exact opn_ct q t
      | sc ns => cases p
end

/-! ### what is wanted behind -/
def Post {α : Type} (K : Fg) (XR : Nat → List D → Hp → Value → Option Addr → Prop) (W : WX) (σ : L2.St) (Γ : List Sl) (H : Hp) (O : List Addr) (R : α → List Sl → Hp → List Addr → Prop) : Rs α → Prop
  | .ok a Γ' => ∀ H' O', Rl K O' Γ' σ H' → EStp Γ σ H O Γ' H' O' → R a Γ' H' O'
  | .ex c pl Γ' => ∀ cls d H' O', XR c pl H' cls d → Rl K O' Γ' σ H' → EStp Γ σ H O Γ' H' O' → W cls d σ H'
  | .no => False
/-- how an exception of number c with the data pl lies in the heap -/
abbrev XRel := Nat → List D → Hp → Value → Option Addr → Prop
section
variable {α β : Type} {K : Fg} {XR : XRel} {W : WX} {σ : L2.St} {Γ Γ1 : List Sl} {H H1 : Hp} {O O1 : List Addr} {R R' : α → List Sl → Hp → List Addr → Prop}
theorem Post.imp {x : Rs α} (h : Post K XR W σ Γ H O R x) (k : ∀ a Γ' H' O', Rl K O' Γ' σ H' → EStp Γ σ H O Γ' H' O' → R a Γ' H' O' → R' a Γ' H' O') : Post K XR W σ Γ H O R' x := by
  cases x with
  | ok a Γ' => exact fun H' O' r s => k a Γ' H' O' r s (h H' O' r s)
  | ex c pl Γ' => exact h
  | no => exact h
theorem Post.after {x : Rs α} (R0 : Rl K O Γ σ H) (S : EStp Γ σ H O Γ1 H1 O1) (h : Post K XR W σ Γ H O R x) : Post K XR W σ Γ1 H1 O1 R x := by
  cases x with
  | ok a Γ' => exact fun H' O' r s => h H' O' r (S.trans R0 s)
  | ex c pl Γ' => exact fun cls d H' O' xr r s => h cls d H' O' xr r (S.trans R0 s)
  | no => exact h
theorem Post.bind {x : Rs α} {f : α → List Sl → Rs β} {R : β → List Sl → Hp → List Addr → Prop} (R0 : Rl K O Γ σ H) (h : Post K XR W σ Γ H O R (x.bind f)) :
    Post K XR W σ Γ H O (fun a Γ1 H1 O1 => Post K XR W σ Γ1 H1 O1 R (f a Γ1)) x := by
  cases x with
  | ok a Γ' => exact fun H' O' r s => Post.after R0 s h
  | ex c pl Γ' => exact h
  | no => exact h
end
/-- the reading of an expression that keeps its mirror -/
def tE (K : Fg) (XR : XRel) (W : WX) (m : EM) : TE := fun σ H Q => ∃ O Γ, Rl K O Γ σ H ∧ Post K XR W σ Γ H O (fun r Γ' H' O' => ∀ v, RvAt K O' σ Γ' H' H r v → Q v H') (m Γ)
def tT (K : Fg) (XR : XRel) (W : WX) (m : List Sl → Rs Bool) : TT := fun σ H Q => ∃ O Γ, Rl K O Γ σ H ∧ Post K XR W σ Γ H O (fun b Γ' H' O' => Q b H') (m Γ)
/-- arguments, displays: the results from the left -/
def RvAll (K : Fg) (O : List Addr) (σ : L2.St) (Γ : List Sl) (H : Hp) : List RV → List V → Prop
  | [], vs => vs = []
  | r :: rs, vs => ∃ v t, vs = v :: t ∧ (∃ Γ1 H1 O1 H0, Rl K O1 Γ1 σ H1 ∧ RvAt K O1 σ Γ1 H1 H0 r v ∧ EStp Γ1 σ H1 O1 Γ H O) ∧ RvAll K O σ Γ H rs t
abbrev AM := List Sl → Rs (List RV)
def tA (K : Fg) (XR : XRel) (W : WX) (m : AM) : TA := fun σ H Q => ∃ O Γ, Rl K O Γ σ H ∧ Post K XR W σ Γ H O (fun rs Γ' H' O' => ∀ vs, RvAll K O' σ Γ' H' rs vs → Q vs H') (m Γ)
def ME (X : Cx) (XR : XRel) (W : WX) (e : Expr) (m : EM) : Prop := PE X e (tE X.KW XR W m)
def MT (X : Cx) (XR : XRel) (W : WX) (e : Expr) (m : List Sl → Rs Bool) : Prop := PT X e (tT X.KW XR W m)
def MA (X : Cx) (XR : XRel) (W : WX) (es : List Expr) (m : AM) : Prop := PA X es (tA X.KW XR W m)
theorem _root_.L2.PE.imp {X : Cx} {e : Expr} {t t' : TE} (h : PE X e t) (k : ∀ σ H Q, t' σ H Q → t σ H Q) : PE X e t' := ⟨fun pins s σ H Q I q => h.run pins s σ H Q I (k σ H Q q)⟩
theorem _root_.L2.PT.imp {X : Cx} {e : Expr} {t t' : TT} (h : PT X e t) (k : ∀ σ H Q, t' σ H Q → t σ H Q) : PT X e t' := ⟨fun pins s σ H Q I q => h.run pins s σ H Q I (k σ H Q q)⟩
theorem _root_.L2.PA.imp {X : Cx} {e : List Expr} {t t' : TA} (h : PA X e t) (k : ∀ σ H Q, t' σ H Q → t σ H Q) : PA X e t' := ⟨fun pos pins s σ H Q I q => h.run pos pins s σ H Q I (k σ H Q q)⟩
theorem _root_.L2.PS.imp {X : Cx} {e : Stmt} {t t' : TS} (h : PS X e t) (k : ∀ D σ H, t' D σ H → t D σ H) : PS X e t' := ⟨fun pins s σ H D I q => h.run pins s σ H D I (k D σ H q)⟩
theorem _root_.L2.PSs.imp {X : Cx} {e : List Stmt} {t t' : TS} (h : PSs X e t) (k : ∀ D σ H, t' D σ H → t D σ H) : PSs X e t' := ⟨fun pins s σ H D I q => h.run pins s σ H D I (k D σ H q)⟩

/-! ### results of operations by values -/
inductive FR where
  | va (d : D) | owc (t : Ct) | no
abbrev FR.ow (ds : List D) : FR := .owc ⟨.lst, ds⟩
def FR.res (Γ : List Sl) : FR → Rs RV
  | .va d => .ok (.va d) Γ
  | .owc ds => .ok (.owc ds) Γ
  | .no => .no
def FPost (K : Fg) (Hd H : Hp) (Q : VK) : FR → Prop
  | .va d => ∀ v H' Hd', Same H H' → Same Hd Hd' → Same Hd' H' → (∀ b, Hd' b ≠ none → Hd b ≠ none ∨ H b = none) → At K Hd' d v → Q v H'
  | .owc ds => ∀ a vs H' Hd', Same H H' → Same Hd Hd' → Same Hd' H' → (∀ b, Hd' b ≠ none → Hd b ≠ none ∨ H b = none) → H a = none → H' a = some (ds.ho K.w a vs) → Hd' a = none → AtL K Hd' ds.ds vs → Q (.ref a) H'
  | .no => False
section
variable {K : Fg} {XR : XRel} {W : WX} {O : List Addr} {Γ : List Sl} {σ : L2.St} {H H0 Hd : Hp} {Q : VK} {fr : FR}
theorem FPost.of (R0 : Rl K O Γ σ H) (h0 : ∀ b, H b = none → H0 b = none) (h : Post K XR W σ Γ H O (fun r Γ' H' O' => ∀ v, RvAt K O' σ Γ' H' H0 r v → Q v H') (fr.res Γ)) : FPost K (off O H) H Q fr := by
  have ho : ∀ {H' Hd' : Hp}, Same Hd' H' → (∀ b, Hd' b ≠ none → off O H b ≠ none ∨ H b = none) → Same Hd' (off O H') := fun {H' Hd'} s3 s4 b o e => by
    refine off_some.mpr ⟨fun hb => ?_, s3 b o e⟩
    rcases s4 b (by rw [e]; exact fun z => nomatch z) with z | z
    · exact z (off_in hb)
    · exact R0.tr b hb z
  cases fr with
  | va d =>
    intro v H' Hd' s1 s2 s3 s4 q
    exact h H' O (R0.same s1) (EStp.of_same s1) v (At.mono (ho s3 s4) q)
  | owc ds =>
    intro a vs H' Hd' s1 s2 s3 s4 n e nd q
    refine h H' O (R0.same s1) (EStp.of_same s1) (.ref a) ⟨a, vs, rfl, fun m => R0.tr a m n, h0 a n, e, ?_, R0.hide s1 n (by rw [e]; exact fun z => nomatch z)⟩
    refine q.mono fun b o e2 => ?_
    have z := ho s3 s4 b o e2
    obtain ⟨z1, z2⟩ := off_some.mp z
    refine off_some.mpr ⟨fun m => ?_, z2⟩
    rcases List.mem_cons.mp m with e3 | e3
    · rw [e3, nd] at e2; cases e2
    · exact z1 e3
  | no => exact h
/-- data as it is -/
theorem FPost.va {d : D} {v : V} (h : FPost K Hd H Q (.va d)) (s : Same Hd H) (q : At K Hd d v) : Q v H := h v H Hd (fun _ _ e => e) (fun _ _ e => e) s (fun b n => .inl n) q
theorem FPost.int {i : Int} (h : FPost K Hd H Q (.va (.int i))) (s : Same Hd H) : Q (.int i) H := h.va s rfl
theorem FPost.bl {i : Bool} (h : FPost K Hd H Q (.va (.bl i))) (s : Same Hd H) : Q (.bl i) H := h.va s rfl
theorem FPost.str {x : List Nat} (h : FPost K Hd H Q (.va (.str x))) (s : Same Hd H) : Q (.str (toS x)) H := h.va s rfl
theorem FPost.non (h : FPost K Hd H Q (.va .non)) (s : Same Hd H) : Q .non H := h.va s rfl
/-- a new list -/
theorem FPost.lst {ds : List D} {vs : List V} {p : Addr} (h : FPost K Hd H Q (.ow ds)) (s : Same Hd H) (n : H p = none) (q : AtL K Hd ds vs) : Q (.ref p) (upd H p (.lst vs)) := by
  have nd : Hd p = none := by
    cases e : Hd p with
    | none => rfl
    | some o => rw [s p o e] at n; cases n
  exact h p vs _ Hd (same_up n) (fun _ _ e => e) (fun b o e => by rw [upd_ne (ne_of_none (s b o e) n)]; exact s b o e) (fun b m => .inl m) n upd_same nd q
/-- a new tuple -/
theorem FPost.tup {ds : List D} {vs : List V} {p : Addr} (h : FPost K Hd H Q (.va (.tup ds))) (s : Same Hd H) (n : H p = none) (q : AtL K Hd ds vs) : Q (.ref p) (upd H p (.tup vs)) := by
  have nd : Hd p = none := by
    cases e : Hd p with
    | none => rfl
    | some o => rw [s p o e] at n; cases n
  refine h (.ref p) _ (upd Hd p (.tup vs)) (same_up n) (same_up nd) (fun b o e => ?_) (fun b m => ?_) ⟨p, vs, rfl, SqT.of upd_same, q.mono (same_up nd)⟩
  · by_cases hb : b = p
    · subst hb; rw [upd_same] at e ⊢; exact e
    · rw [upd_ne hb] at e ⊢; exact s b o e
  · by_cases hb : b = p
    · subst hb; exact .inr n
    · rw [upd_ne hb] at m; exact .inl m
end
end Mir

set_option Elab.async false
set_option linter.all false
set_option maxRecDepth 100000
set_option maxHeartbeats 4000000
namespace Mir
open PySem PySem.Spec PyProof.Rows L2

/-! ### the operations on data -/
mutual
def toP : D → PyData
  | .non => .none | .bl b => .bool b | .int i => .int i | .str x => .str (toS x)
  | .tup xs => .tuple (toPs xs) | .lst xs => .list (toPs xs) | .dic _ => .dict [] | .set _ => .dict []
def toPs : List D → List PyData
  | [] => []
  | d :: ds => toP d :: toPs ds
end
mutual
/-- depth at most n, signs in range -/
def gd : Nat → D → Bool
  | _, .str x => x.all fun c => decide (c < 0x110000)
  | n, .tup xs => match n with
    | 0 => false
    | n + 1 => gds n xs
  | n, .lst xs => match n with
    | 0 => false
    | n + 1 => gds n xs
  | _, .dic _ => false
  | _, .set _ => false
  | _, _ => true
def gds : Nat → List D → Bool
  | _, [] => true
  | n, d :: ds => gd n d && gds n ds
end
mutual
def eqD : D → D → Bool
  | .non, .non => true
  | .bl a, .bl b => a == b
  | .bl a, .int j => (if a then 1 else 0) == j
  | .int i, .bl b => i == (if b then 1 else 0)
  | .int i, .int j => i == j
  | .str x, .str y => x == y
  | .lst xs, .lst ys => eqDs xs ys
  | .tup xs, .tup ys => eqDs xs ys
  | _, _ => false
def eqDs : List D → List D → Bool
  | [], [] => true
  | x :: xs, y :: ys => eqD x y && eqDs xs ys
  | _, _ => false
end
theorem toS_inj {x y : List Nat} : toS x = toS y ↔ x = y := ⟨fun h => by injection h with h; simpa using h, fun h => by rw [h]⟩
theorem toS_beq (x y : List Nat) : (toS x == toS y) = (x == y) := by
  by_cases h : x = y
  · subst h; simp
  · have h2 : toS x ≠ toS y := fun z => h (toS_inj.mp z)
    rw [beq_eq_false_iff_ne.mpr h2, beq_eq_false_iff_ne.mpr h]
mutual
theorem eqv_toP : ∀ d e : D, PyData.eqv (toP d) (toP e) = eqD d e
  | .non, e => by cases e <;> simp [toP, PyData.eqv, eqD]
  | .bl a, e => by cases e <;> simp [toP, PyData.eqv, eqD]
  | .int a, e => by cases e <;> simp [toP, PyData.eqv, eqD]
  | .str a, e => by cases e <;> simp [toP, PyData.eqv, eqD, toS_beq]
  | .tup xs, e => by cases e <;> simp [toP, PyData.eqv, eqD, eqv_toPs]
  | .lst xs, e => by cases e <;> simp [toP, PyData.eqv, eqD, eqv_toPs]
  | .dic xs, e => by cases e <;> simp [toP, PyData.eqv, eqD]
  | .set xs, e => by cases e <;> simp [toP, PyData.eqv, eqD]
theorem eqv_toPs : ∀ ds es : List D, PyData.eqvAll (toPs ds) (toPs es) = eqDs ds es
  | [], es => by cases es <;> simp [toPs, PyData.eqvAll, eqDs]
  | d :: ds, [] => by simp [toPs, PyData.eqvAll, eqDs]
  | d :: ds, e :: es => by simp [toPs, PyData.eqvAll, eqDs, eqv_toP d e, eqv_toPs ds es]
end
mutual
theorem gd_lay : ∀ (n : Nat) (d : D), gd n d = true → (toP d).canLay0 = true ∧ (toP d).depth ≤ n
  | _, .non, _ => by simp [toP, PyData.canLay0, PyData.depth]
  | _, .bl _, _ => by simp [toP, PyData.canLay0, PyData.depth]
  | _, .int _, _ => by simp [toP, PyData.canLay0, PyData.depth]
  | _, .str x, h => by
    simp only [gd] at h
    simp only [toP, PyData.canLay0, PyData.depth, PyData.strOk]
    exact ⟨by simpa using h, Nat.zero_le _⟩
  | 0, .tup xs, h => by simp [gd] at h
  | n + 1, .tup xs, h => by
    simp only [gd] at h
    obtain ⟨a, b⟩ := gds_lay n xs h
    simp only [toP, PyData.canLay0, PyData.depth]
    exact ⟨a, by omega⟩
  | 0, .lst xs, h => by simp [gd] at h
  | n + 1, .lst xs, h => by
    simp only [gd] at h
    obtain ⟨a, b⟩ := gds_lay n xs h
    simp only [toP, PyData.canLay0, PyData.depth]
    exact ⟨a, by omega⟩
theorem gds_lay : ∀ (n : Nat) (ds : List D), gds n ds = true → PyData.canLayAll0 (toPs ds) = true ∧ PyData.depthAll (toPs ds) ≤ n
  | _, [], _ => by simp [toPs, PyData.canLayAll0, PyData.depthAll]
  | n, d :: ds, h => by
    simp only [gds, Bool.and_eq_true] at h
    obtain ⟨a, b⟩ := gd_lay n d h.1
    obtain ⟨a2, b2⟩ := gds_lay n ds h.2
    simp only [toPs, PyData.canLayAll0, PyData.depthAll, a, a2]
    exact ⟨rfl, by omega⟩
end
theorem gd_shaped {n : Nat} {d : D} (h : gd n d = true) (hn : n ≤ 64) : SeqAt.shaped (toP d) = true := by
  obtain ⟨a, b⟩ := gd_lay n d h
  unfold SeqAt.shaped
  rw [a, Bool.true_and]
  exact decide_eq_true (by omega)
mutual
theorem At.dp {K : Fg} {H : Hp} : ∀ {n : Nat} {d : D} {v : V}, gd n d = true → At K H d v → Dp K H v (toP d)
  | _, .non, _, _, h => by cases h; exact .non
  | _, .bl _, _, _, h => by cases h; exact .bl _
  | _, .int _, _, _, h => by cases h; exact .int _
  | _, .str _, _, _, h => by cases h; exact .str _
  | 0, .tup _, _, g, _ => by simp [gd] at g
  | 0, .lst _, _, g, _ => by simp [gd] at g
  | n + 1, .tup _, _, g, ⟨a, vs, h1, h2, h3⟩ => by subst h1; exact .tup h2 (AtL.dp (by simpa [gd] using g) h3)
  | n + 1, .lst _, _, g, ⟨a, vs, h1, h2, h3⟩ => by subst h1; exact .lst (SqL.of h2) (AtL.dp (by simpa [gd] using g) h3)
  | n, .dic _, _, g, _ => by simp [gd] at g
  | n, .set _, _, g, _ => by simp [gd] at g
theorem AtL.dp {K : Fg} {H : Hp} : ∀ {n : Nat} {ds : List D} {vs : List V}, gds n ds = true → AtL K H ds vs → DpAll K H vs (toPs ds)
  | _, [], _, _, h => by cases h; exact .nil
  | n, d :: ds, _, g, ⟨v, r, h1, h2, h3⟩ => by
    subst h1
    have g : (gd n d && gds n ds) = true := by simpa [gds] using g
    rw [Bool.and_eq_true] at g
    exact .cons (At.dp g.1 h2) (AtL.dp g.2 h3)
end
section
variable {K : Fg} {Hd H : Hp} {d : D} {v : V}
theorem OpnO.no {d : D} (n : ∀ t : Ct, t.c ≠ .lst → d ≠ t.data) (h : OpnO K Hd H d v) : False := by
  obtain ⟨t, a, vs, h1, h2, _⟩ := h
  exact n t h1 h2
theorem ct_ne {t : Ct} (h : t.c ≠ .lst) : (∃ xs, t.data = .dic xs) ∨ ∃ xs, t.data = .set xs := by
  obtain ⟨c, ds⟩ := t
  cases c with
  | lst => exact absurd rfl h
  | dic => exact .inl ⟨ds, rfl⟩
  | set => exact .inr ⟨ds, rfl⟩
theorem OpnO.cases (h : OpnO K Hd H d v) : (∃ xs, d = .dic xs) ∨ ∃ xs, d = .set xs := by
  obtain ⟨t, a, vs, h1, h2, _⟩ := h
  rw [h2]; exact ct_ne h1
theorem Opn.at' (n1 : ∀ xs, d ≠ .lst xs) (n2 : ∀ xs, d ≠ .dic xs) (n3 : ∀ xs, d ≠ .set xs) (h : Opn K Hd H d v) : At K Hd d v := by
  rcases h with h | ⟨ds, _, _, e, _⟩ | h
  · exact h
  · exact absurd e (n1 ds)
  · rcases h.cases with ⟨xs, e⟩ | ⟨xs, e⟩
    · exact absurd e (n2 xs)
    · exact absurd e (n3 xs)
theorem Opn.int {i : Int} (h : Opn K Hd H (.int i) v) : v = .int i := h.at' (fun _ z => by cases z) (fun _ z => by cases z) (fun _ z => by cases z)
theorem Opn.bl {i : Bool} (h : Opn K Hd H (.bl i) v) : v = .bl i := h.at' (fun _ z => by cases z) (fun _ z => by cases z) (fun _ z => by cases z)
theorem Opn.str {x : List Nat} (h : Opn K Hd H (.str x) v) : v = .str (toS x) := h.at' (fun _ z => by cases z) (fun _ z => by cases z) (fun _ z => by cases z)
theorem Opn.non (h : Opn K Hd H .non v) : v = .non := h.at' (fun _ z => by cases z) (fun _ z => by cases z) (fun _ z => by cases z)
theorem Opn.tup {ds : List D} (h : Opn K Hd H (.tup ds) v) : ∃ a vs, v = .ref a ∧ SqT K Hd a vs ∧ AtL K Hd ds vs := h.at' (fun _ z => by cases z) (fun _ z => by cases z) (fun _ z => by cases z)
theorem Opn.lst {ds : List D} (s : Same Hd H) (h : Opn K Hd H (.lst ds) v) : ∃ a vs, v = .ref a ∧ SqL K H a vs ∧ AtL K Hd ds vs := by
  rcases h with ⟨a, vs, h1, h2, h3⟩ | ⟨ds', a, vs, e, h1, h2, h3⟩ | h
  · exact ⟨a, vs, h1, SqL.of (s _ _ h2), h3⟩
  · cases e; exact ⟨a, vs, h1, h2, h3⟩
  · rcases h.cases with ⟨xs, e⟩ | ⟨xs, e⟩ <;> cases e
theorem OpnT.lst {ds : List D} (s : Same Hd H) (h : OpnT K Hd H (.lst ds) v) : ∃ a vs, v = .ref a ∧ H a = some (.lst vs) ∧ AtL K Hd ds vs := by
  rcases h with ⟨a, vs, h1, h2, h3⟩ | ⟨ds', a, vs, e, h1, h2, h3⟩ | h
  · exact ⟨a, vs, h1, s _ _ h2, h3⟩
  · cases e; exact ⟨a, vs, h1, h2, h3⟩
  · rcases h.cases with ⟨xs, e⟩ | ⟨xs, e⟩ <;> cases e
theorem OpnT.tup {ds : List D} (h : OpnT K Hd H (.tup ds) v) : At K Hd (.tup ds) v := h.opn.at' (fun _ z => by cases z) (fun _ z => by cases z) (fun _ z => by cases z)
/-- a dict, a set -/
theorem Opn.dic {ds : List D} (s : Same Hd H) (h : Opn K Hd H (.dic ds) v) : ∃ a vs, v = .ref a ∧ H a = some (dicO K.w a ds vs) ∧ AtL K Hd ds vs := by
  rcases h with ⟨a, vs, h1, h2, h3⟩ | ⟨ds', a, vs, e, h1, h2, h3⟩ | ⟨⟨c, es⟩, a, vs, n, e, h1, h2, h3⟩
  · exact ⟨a, vs, h1, s _ _ h2, h3⟩
  · cases e
  · cases c with
    | dic => cases e; exact ⟨a, vs, h1, h2, h3⟩
    | _ => cases e
theorem Opn.set {ds : List D} (s : Same Hd H) (h : Opn K Hd H (.set ds) v) : ∃ a vs, v = .ref a ∧ H a = some (.ext (SetV K.w a ds vs)) ∧ AtL K Hd ds vs := by
  rcases h with ⟨a, vs, h1, h2, h3⟩ | ⟨ds', a, vs, e, h1, h2, h3⟩ | ⟨⟨c, es⟩, a, vs, n, e, h1, h2, h3⟩
  · exact ⟨a, vs, h1, s _ _ h2, h3⟩
  · cases e
  · cases c with
    | set => cases e; exact ⟨a, vs, h1, h2, h3⟩
    | _ => cases e
theorem Opn.dp {n : Nat} (g : gd n d = true) (s : Same Hd H) (h : Opn K Hd H d v) : Dp K H v (toP d) := by
  rcases h with h | ⟨ds, a, vs, e, e2, h2, h3⟩ | h
  · exact (h.mono s).dp g
  · subst e e2
    cases n with
    | zero => simp [gd] at g
    | succ n => exact .lst h2 ((h3.mono s).dp (by simpa [gd] using g))
  · rcases h.cases with ⟨xs, rfl⟩ | ⟨xs, rfl⟩ <;> simp [gd] at g
end
/-- an operation by values keeps its mirror -/
def rOf (K : Fg) (f : D → D → FR) : R2 := fun x y H Q => ∃ Hd d e, Same Hd H ∧ Opn K Hd H d x ∧ Opn K Hd H e y ∧ FPost K Hd H Q (f d e)
def rOfT (K : Fg) (f : D → D → FR) : R2 := fun x y H Q => ∃ Hd d e, Same Hd H ∧ OpnT K Hd H d x ∧ OpnT K Hd H e y ∧ FPost K Hd H Q (f d e)
abbrev big : Nat := 16777216
theorem big_eq : sizeLine = big := sizeLine_eq
def fAdd : D → D → FR
  | .int i, .int j => .va (.int (i + j))
  | .str x, .str y => if x.length + y.length ≤ big then .va (.str (x ++ y)) else .no
  | .lst x, .lst y => if x.length + y.length ≤ big then .ow (x ++ y) else .no
  | .tup x, .tup y => if x.length + y.length ≤ big then .va (.tup (x ++ y)) else .no
  | _, _ => .no
def fSub : D → D → FR
  | .int i, .int j => .va (.int (i - j))
  | _, _ => .no
def fMul : D → D → FR
  | .int i, .int j => if (Builtin.Int.intBits i + Builtin.Int.intBits j ≤ 134217728) then .va (.int (i * j)) else .no
  | _, _ => .no
def fDiv : D → D → FR
  | .int i, .int j => if 0 < j ∧ Builtin.divisionGoesByPylong i j = false then .va (.int (i / j)) else .no
  | _, _ => .no
def fMod : D → D → FR
  | .int i, .int j => if 0 < j then .va (.int (i % j)) else .no
  | _, _ => .no
def fPow : D → D → FR
  | .int i, .int j => if 0 ≤ j ∧ j ≤ 1000000 ∧ i.natAbs < 2 ^ 64 then .va (.int (i ^ j.toNat)) else .no
  | _, _ => .no
section
variable {X : Cx} {f : D → D → FR}
theorem od_mk {fv : Value → Value → Sem Value} (h : ∀ pins s σ H x y v u Q Hd d e, Inv X pins σ H s → RelV x v → RelV y u → Same Hd H → Opn X.KW Hd H d x → Opn X.KW Hd H e y → FPost X.KW Hd H Q (f d e) →
    wpAny (model X.prog X.w) X.A (fv v u) (EP X pins σ Q) X.xe s) : OpR X fv (rOf X.KW f) := fun pins s σ H x y v u Q I rx ry ⟨Hd, d, e, s1, a, b, q⟩ => h pins s σ H x y v u Q Hd d e I rx ry s1 a b q
theorem odT_mk {fv : Value → Value → Sem Value} (h : ∀ pins s σ H x y v u Q Hd d e, Inv X pins σ H s → RelV x v → RelV y u → Same Hd H → OpnT X.KW Hd H d x → OpnT X.KW Hd H e y → FPost X.KW Hd H Q (f d e) →
    wpAny (model X.prog X.w) X.A (fv v u) (EP X pins σ Q) X.xe s) : OpR X fv (rOfT X.KW f) := fun pins s σ H x y v u Q I rx ry ⟨Hd, d, e, s1, a, b, q⟩ => h pins s σ H x y v u Q Hd d e I rx ry s1 a b q
theorem toS_len (x : List Nat) : (toS x).length = x.length := by simp [Str.length]
theorem toS_app (x y : List Nat) : toS x ++ toS y = toS (x ++ y) := congrArg Str.mk (show x.toArray ++ y.toArray = (x ++ y).toArray by simp)
theorem od_add : OpR X (binaryOp .Add) (rOfT X.KW fAdd) := odT_mk fun pins s σ H x y v u Q Hd d e I rx ry s1 a b q => by
  cases d with
  | int i =>
    cases e with
    | int j => exact op_add pins s σ H _ _ v u Q I rx ry ⟨i, j, a.opn.int, b.opn.int, q.int s1⟩
    | _ => exact q.elim
  | str i =>
    cases e with
    | str j =>
      simp only [fAdd] at q
      split at q
      · rename_i hz
        exact op_add_str pins s σ H _ _ v u Q I rx ry ⟨_, _, a.opn.str, b.opn.str, by rw [toS_len, toS_len, big_eq]; exact hz, by rw [toS_app]; exact q.str s1⟩
      · exact q.elim
    | _ => exact q.elim
  | lst i =>
    cases e with
    | lst j =>
      simp only [fAdd] at q
      split at q
      · rename_i hz
        obtain ⟨p, vs, e1, h1, t1⟩ := a.lst s1
        obtain ⟨p2, vs2, e2, h2, t2⟩ := b.lst s1
        exact op_cat pins s σ H _ _ v u Q I rx ry ⟨_, _, _, _, e1, e2, h1, h2, by rw [← t1.length, ← t2.length, big_eq]; exact hz, fun p hp => q.lst s1 hp (t1.append t2)⟩
      · exact q.elim
    | _ => exact q.elim
  | tup i =>
    cases e with
    | tup j =>
      simp only [fAdd] at q
      split at q
      · rename_i hz
        obtain ⟨p, vs, e1, h1, t1⟩ := a.tup
        obtain ⟨p2, vs2, e2, h2, t2⟩ := b.tup
        refine op_catA pins s σ H _ _ v u Q I rx ry ⟨_, _, _, _, e1, e2, Same.seqT s1 h1, Same.seqT s1 h2, by rw [← t1.length, ← t2.length, big_eq]; exact hz, fun z => ?_, fun _ z => ?_, fun _ _ p hp => q.tup s1 hp (t1.append t2)⟩
        · have z2 : i = [] := List.length_eq_zero_iff.mp (by rw [t1.length, z]; rfl)
          subst z2
          exact q.va s1 ⟨p2, vs2, rfl, h2, t2⟩
        · have z2 : j = [] := List.length_eq_zero_iff.mp (by rw [t2.length, z]; rfl)
          subst z2
          rw [List.append_nil] at q
          exact q.va s1 ⟨p, vs, rfl, h1, t1⟩
      · exact q.elim
    | _ => exact q.elim
  | _ => cases e <;> exact q.elim
theorem od_sub : OpR X (binaryOp .Sub) (rOf X.KW fSub) := od_mk fun pins s σ H x y v u Q Hd d e I rx ry s1 a b q => by
  cases d with
  | int i =>
    cases e with
    | int j => exact op_sub pins s σ H _ _ v u Q I rx ry ⟨i, j, a.int, b.int, q.int s1⟩
    | _ => exact q.elim
  | _ => cases e <;> exact q.elim
theorem od_mul : OpR X (binaryOp .Mult) (rOf X.KW fMul) := od_mk fun pins s σ H x y v u Q Hd d e I rx ry s1 a b q => by
  cases d with
  | int i =>
    cases e with
    | int j =>
      simp only [fMul] at q
      split at q
      · rename_i hz
        exact op_mulX pins s σ H _ _ v u Q I rx ry ⟨i, j, a.int, b.int, by unfold CMulX; omega, q.int s1⟩
      · exact q.elim
    | _ => exact q.elim
  | _ => cases e <;> exact q.elim
theorem op_fdivQ : OpR X (binaryOp .FloorDiv) (rI (fun i j => 0 < j ∧ Builtin.divisionGoesByPylong i j = false) fun i j => .int (i / j)) := opI fun i j _ _ _ _ _ hc q => by
  have h1 : (0 : Int) < j := hc.1
  exact floordiv_int (by omega) (by rw [Int.fdiv_eq_ediv_of_nonneg i (by omega)]; exact q) (.inl hc.2)
theorem od_div : OpR X (binaryOp .FloorDiv) (rOf X.KW fDiv) := od_mk fun pins s σ H x y v u Q Hd d e I rx ry s1 a b q => by
  cases d with
  | int i =>
    cases e with
    | int j =>
      simp only [fDiv] at q
      split at q
      · rename_i hz
        exact op_fdivQ pins s σ H _ _ v u Q I rx ry ⟨i, j, a.int, b.int, hz, q.int s1⟩
      · exact q.elim
    | _ => exact q.elim
  | _ => cases e <;> exact q.elim
theorem od_mod : OpR X (binaryOp .Mod) (rOf X.KW fMod) := od_mk fun pins s σ H x y v u Q Hd d e I rx ry s1 a b q => by
  cases d with
  | int i =>
    cases e with
    | int j =>
      simp only [fMod] at q
      split at q
      · rename_i hz
        exact op_mod pins s σ H _ _ v u Q I rx ry ⟨i, j, a.int, b.int, hz, q.int s1⟩
      · exact q.elim
    | _ => exact q.elim
  | _ => cases e <;> exact q.elim
theorem od_pow : OpR X (binaryOp .Pow) (rOf X.KW fPow) := od_mk fun pins s σ H x y v u Q Hd d e I rx ry s1 a b q => by
  cases d with
  | int i =>
    cases e with
    | int j =>
      simp only [fPow] at q
      split at q
      · rename_i hz
        exact op_pow pins s σ H _ _ v u Q I rx ry ⟨i, j, a.int, b.int, hz, q.int s1⟩
      · exact q.elim
    | _ => exact q.elim
  | _ => cases e <;> exact q.elim
end

/-! ### comparisons -/
def scalD : D → D → Bool
  | .non, .non | .non, .bl _ | .non, .int _ | .non, .str _ | .bl _, .non | .bl _, .bl _ | .bl _, .str _ | .int _, .non | .int _, .int _ | .int _, .str _
  | .str _, .non | .str _, .bl _ | .str _, .int _ | .str _, .str _ => true
  | _, _ => false
def okE (d e : D) : Bool := scalD d e || (gd 60 d && gd 60 e)
def fEq (d e : D) : FR := if okE d e then .va (.bl (eqD d e)) else .no
def fNe (d e : D) : FR := if okE d e then .va (.bl (!eqD d e)) else .no
def fLt : D → D → FR
  | .int i, .int j => .va (.bl (decide (i < j)))
  | .str x, .str y => .va (.bl (decide (x < y)))
  | _, _ => .no
def fLe : D → D → FR
  | .int i, .int j => .va (.bl (decide (i ≤ j)))
  | .str x, .str y => .va (.bl (!decide (y < x)))
  | _, _ => .no
def fGt : D → D → FR
  | .int i, .int j => .va (.bl (decide (j < i)))
  | .str x, .str y => .va (.bl (decide (y < x)))
  | _, _ => .no
def fGe : D → D → FR
  | .int i, .int j => .va (.bl (decide (j ≤ i)))
  | .str x, .str y => .va (.bl (!decide (x < y)))
  | _, _ => .no
def isN : D → Bool
  | .non => true
  | _ => false
def fIs : D → D → FR
  | d, .non => .va (.bl (isN d))
  | _, _ => .no
def fIsNot : D → D → FR
  | d, .non => .va (.bl (!isN d))
  | _, _ => .no
def fNotIn : D → D → FR
  | .str x, .str z => match x with
    | [c] => .va (.bl (!decide (c ∈ z)))
    | _ => .no
  | d, .lst ds => if gd 60 d && gds 60 ds then .va (.bl (!ds.any fun z => eqD z d)) else .no
  | _, _ => .no
theorem any_toPs (d : D) : ∀ ds : List D, (toPs ds).any (fun z => PyData.eqv z (toP d)) = ds.any fun z => eqD z d
  | [] => by simp [toPs]
  | e :: es => by simp [toPs, any_toPs d es, eqv_toP]
section
variable {X : Cx}
theorem od_eq {k : Nat} (hr : Room k X.A) : OpR X (compareOp .Eq) (rOf X.KW fEq) := od_mk fun pins s σ H x y v u Q Hd d e I rx ry s1 a b q => by
  unfold fEq at q
  split at q
  · rename_i hz
    unfold okE at hz
    rw [Bool.or_eq_true] at hz
    rcases hz with hz | hz
    · refine op_eq pins s σ H _ _ v u Q I rx ry ?_
      cases d <;> cases e <;> first
        | exact absurd hz Bool.false_ne_true
        | (first
            | (obtain rfl := a.non) | (obtain rfl := a.bl) | (obtain rfl := a.int) | (obtain rfl := a.str)
           first
            | (obtain rfl := b.non) | (obtain rfl := b.bl) | (obtain rfl := b.int) | (obtain rfl := b.str)
           refine ⟨rfl, ?_⟩
           have z := q.bl s1
           simpa [eqD, toS_inj, Bool.beq_eq_decide_eq] using z)
    · rw [Bool.and_eq_true] at hz
      have z := q.bl s1
      rw [← eqv_toP] at z
      exact op_eqD hr.units pins s σ H _ _ v u Q I rx ry ⟨_, _, a.dp hz.1 s1, b.dp hz.2 s1, gd_shaped hz.1 (by decide), gd_shaped hz.2 (by decide), z⟩
  · exact q.elim
theorem od_ne {k : Nat} (hr : Room k X.A) : OpR X (compareOp .NotEq) (rOf X.KW fNe) := od_mk fun pins s σ H x y v u Q Hd d e I rx ry s1 a b q => by
  unfold fNe at q
  split at q
  · rename_i hz
    unfold okE at hz
    rw [Bool.or_eq_true] at hz
    rcases hz with hz | hz
    · refine op_ne pins s σ H _ _ v u Q I rx ry ?_
      cases d <;> cases e <;> first
        | exact absurd hz Bool.false_ne_true
        | (first
            | (obtain rfl := a.non) | (obtain rfl := a.bl) | (obtain rfl := a.int) | (obtain rfl := a.str)
           first
            | (obtain rfl := b.non) | (obtain rfl := b.bl) | (obtain rfl := b.int) | (obtain rfl := b.str)
           refine ⟨rfl, ?_⟩
           have z := q.bl s1
           simpa [eqD, toS_inj, Bool.beq_eq_decide_eq] using z)
    · rw [Bool.and_eq_true] at hz
      have z := q.bl s1
      rw [← eqv_toP] at z
      exact op_neD hr.units pins s σ H _ _ v u Q I rx ry ⟨_, _, a.dp hz.1 s1, b.dp hz.2 s1, gd_shaped hz.1 (by decide), gd_shaped hz.2 (by decide), z⟩
  · exact q.elim
theorem od_lt : OpR X (compareOp .Lt) (rOf X.KW fLt) := od_mk fun pins s σ H x y v u Q Hd d e I rx ry s1 a b q => by
  cases d <;> cases e <;> first
    | exact q.elim
    | exact op_lt pins s σ H _ _ v u Q I rx ry ⟨_, _, a.int, b.int, q.bl s1⟩
    | exact op_lt_str pins s σ H _ _ v u Q I rx ry ⟨_, _, a.str, b.str, by simpa using q.bl s1⟩
theorem od_ge : OpR X (compareOp .GtE) (rOf X.KW fGe) := od_mk fun pins s σ H x y v u Q Hd d e I rx ry s1 a b q => by
  cases d <;> cases e <;> first
    | exact q.elim
    | exact op_ge pins s σ H _ _ v u Q I rx ry ⟨_, _, a.int, b.int, q.bl s1⟩
    | exact op_ge_str pins s σ H _ _ v u Q I rx ry ⟨_, _, a.str, b.str, by simpa using q.bl s1⟩
theorem Opn.isN {K : Fg} {Hd H : Hp} {d : D} {v : V} (h : Opn K Hd H d v) : decide (v = .non) = isN d := by
  rcases h with h | ⟨_, _, _, rfl, rfl, _⟩ | h
  · cases d with
    | non => cases h; rfl
    | bl _ => cases h; rfl
    | int _ => cases h; rfl
    | str _ => cases h; rfl
    | tup _ => obtain ⟨_, _, rfl, _⟩ := h; rfl
    | lst _ => obtain ⟨_, _, rfl, _⟩ := h; rfl
    | dic _ => obtain ⟨_, _, rfl, _⟩ := h; rfl
    | set _ => obtain ⟨_, _, rfl, _⟩ := h; rfl
  · rfl
  · have e := h.cases
    obtain ⟨t, a, vs, h1, h2, rfl, _⟩ := h
    rcases e with ⟨xs, rfl⟩ | ⟨xs, rfl⟩ <;> rfl
theorem od_is : OpR X (compareOp .Is) (rOf X.KW fIs) := od_mk fun pins s σ H x y v u Q Hd d e I rx ry s1 a b q => by
  cases e with
  | non =>
    have q' : FPost X.KW Hd H Q (.va (.bl (isN d))) := by cases d <;> exact q
    exact op_isN pins s σ H _ _ v u Q I rx ry ⟨b.non, by rw [a.isN]; exact q'.bl s1⟩
  | _ => cases d <;> exact q.elim
theorem od_notin {k : Nat} (hr : Room k X.A) : OpR X (compareOp .NotIn) (rOf X.KW fNotIn) := od_mk fun pins s σ H x y v u Q Hd d e I rx ry s1 a b q => by
  have hu : X.A.units + 65 < cLine := by have := hr.un; omega
  cases e with
  | str z =>
    cases d with
    | str w =>
      match w, a, q with
      | [c], a, q => exact op_notIn_sign pins s σ H _ _ v u Q I rx ry ⟨c, _, a.str, b.str, by simpa using q.bl s1⟩
      | [], _, q => exact q.elim
      | _ :: _ :: _, _, q => exact q.elim
    | _ => exact q.elim
  | lst ds =>
    have q' : FPost X.KW Hd H Q (if gd 60 d && gds 60 ds then .va (.bl (!ds.any fun z => eqD z d)) else .no) := by cases d <;> exact q
    split at q'
    · rename_i hz
      rw [Bool.and_eq_true] at hz
      have z := q'.bl s1
      rw [← any_toPs] at z
      have g : gd 61 (.lst ds) = true := hz.2
      exact op_notInD hu pins s σ H _ _ v u Q I rx ry ⟨toP d, toPs ds, a.dp hz.1 s1, b.dp (d := .lst ds) g s1, gd_shaped hz.1 (by decide), gd_shaped (d := .lst ds) g (by decide), z⟩
    · exact q'.elim
  | _ => cases d <;> exact q.elim
end
end Mir

set_option Elab.async false
set_option linter.all false
set_option maxRecDepth 100000
set_option maxHeartbeats 4000000
namespace Mir
open PySem PySem.Spec PyProof.Rows L2

section
variable {X : Cx} {XR : XRel} {W : WX} {a b c : Expr} {ma mb mc : EM} {pos : Pos}
/-! ### names, constants -/
def mVar (i : Nat) : EM := fun Γ => match Γ[i]? with
  | some (.va d) => .ok (.va d) Γ
  | some (.owc _) => .ok (.bo i) Γ
  | some (.bwc _) => .ok (.bo i) Γ
  | some (.sc _) => .ok (.bo i) Γ
  | _ => .no
def mC (d : D) : EM := fun Γ => .ok (.va d) Γ
theorem me_var {i : Nat} {x : Str} (h : PE X (.Name x pos) (tVar i)) : ME X XR W (.Name x pos) (mVar i) := h.imp fun σ H Q ⟨O, Γ, R, P⟩ => by
  unfold mVar at P
  cases e : Γ[i]? with
  | none => rw [e] at P; exact P.elim
  | some s =>
    rw [e] at P
    obtain ⟨o, e2, q⟩ := R.sl i s e
    cases s with
    | no => exact P.elim
    | va d => obtain ⟨v, e3, q⟩ := q; subst e3; exact ⟨v, e2, P H O R EStp.refl v q⟩
    | owc ds =>
      obtain ⟨a, vs, e3, _⟩ := q
      subst e3
      exact ⟨.ref a, e2, P H O R EStp.refl (.ref a) ⟨e2, .inl ⟨ds, e⟩⟩⟩
    | sc ns =>
      obtain ⟨a, e3, _⟩ := q
      subst e3
      exact ⟨.ref a, e2, P H O R EStp.refl (.ref a) ⟨e2, .inr (.inl ⟨ns, e⟩)⟩⟩
    | bwc ds =>
      obtain ⟨a, vs, e3, _⟩ := q
      subst e3
      exact ⟨.ref a, e2, P H O R EStp.refl (.ref a) ⟨e2, .inr (.inr ⟨ds, e⟩)⟩⟩
theorem me_const {v : V} {d : D} {e : Expr} (h : PE X e (tC v)) (k : ∀ H, At X.KW H d v) : ME X XR W e (mC d) := h.imp fun σ H Q ⟨O, Γ, R, P⟩ => P H O R EStp.refl v (k _)
theorem me_int {i : Int} {j} : ME X XR W (.Constant (.int i) j pos) (mC (.int i)) := me_const pe_int fun _ => rfl
theorem me_bl {i : Bool} {j} : ME X XR W (.Constant (.bool i) j pos) (mC (.bl i)) := me_const pe_bl fun _ => rfl
theorem me_non {j} : ME X XR W (.Constant .none j pos) (mC .non) := me_const pe_non fun _ => rfl
theorem me_str {x : Str} {j} (l : List Nat) (h : x = toS l := by decide +kernel) : ME X XR W (.Constant (.str x) j pos) (mC (.str l)) := me_const pe_str fun _ => by rw [h]; exact rfl

/-! ### operations -/
def op2 (f : D → D → FR) (Γ : List Sl) (ra rb : RV) : Rs RV := match peek Γ ra, peek Γ rb with
  | some d, some e => (f d e).res Γ
  | _, _ => .no
def op2T (f : D → D → FR) (Γ : List Sl) (ra rb : RV) : Rs RV := match peekT Γ ra, peekT Γ rb with
  | some d, some e => (f d e).res Γ
  | _, _ => .no
def mBin (f : D → D → FR) (ma mb : EM) : EM := fun Γ => (ma Γ).bind fun ra Γ1 => (mb Γ1).bind fun rb Γ2 => op2 f Γ2 ra rb
def mBinT (f : D → D → FR) (ma mb : EM) : EM := fun Γ => (ma Γ).bind fun ra Γ1 => (mb Γ1).bind fun rb Γ2 => op2T f Γ2 ra rb
theorem none_back {Γ Γ' : List Sl} {σ σ' : L2.St} {H H' : Hp} {O O' : List Addr} (S : Stp Γ σ H O Γ' σ' H' O') : ∀ b, H' b = none → H b = none := fun b h => by
  cases e : H b with
  | none => rfl
  | some o => exact absurd h (S.stay b (by rw [e]; exact fun z => nomatch z))
theorem RvAt.older {K : Fg} {O : List Addr} {σ : L2.St} {Γ : List Sl} {H H0 H1 : Hp} {r : RV} {v : V} (k : ∀ b, H1 b = none → H0 b = none) (h : RvAt K O σ Γ H H1 r v) : RvAt K O σ Γ H H0 r v := by
  cases r with
  | va d => exact h
  | owc ds => obtain ⟨a, vs, e, n, z, q⟩ := h; exact ⟨a, vs, e, n, k a z, q⟩
  | bo i => exact h
theorem bin_tE {K : Fg} {f : D → D → FR} {σ : L2.St} {H : Hp} {Q : VK} (h : tE K XR W (mBin f ma mb) σ H Q) : tOp (rOf K f) (tE K XR W ma) (tE K XR W mb) σ H Q := by
  obtain ⟨O, Γ, R, P⟩ := h
  refine ⟨O, Γ, R, (P.bind R).imp fun ra Γ1 H1 O1 R1 S1 P1 v hv => ⟨O1, Γ1, R1, (P1.bind R1).imp fun rb Γ2 H2 O2 R2 S2 P2 u hu => ?_⟩⟩
  unfold op2 at P2
  cases e1 : peek Γ2 ra with
  | none => rw [e1] at P2; exact P2.elim
  | some d =>
    cases e2 : peek Γ2 rb with
    | none => rw [e1, e2] at P2; exact P2.elim
    | some e =>
      rw [e1, e2] at P2
      exact ⟨off O2 H2, d, e, off_le, hv.opn R1 S2 R2 e1, hu.opn R2 EStp.refl R2 e2, FPost.of R2 (fun b z => none_back S1.toStp b (none_back S2.toStp b z)) P2⟩
theorem binT_tE {K : Fg} {f : D → D → FR} {σ : L2.St} {H : Hp} {Q : VK} (h : tE K XR W (mBinT f ma mb) σ H Q) : tOp (rOfT K f) (tE K XR W ma) (tE K XR W mb) σ H Q := by
  obtain ⟨O, Γ, R, P⟩ := h
  refine ⟨O, Γ, R, (P.bind R).imp fun ra Γ1 H1 O1 R1 S1 P1 v hv => ⟨O1, Γ1, R1, (P1.bind R1).imp fun rb Γ2 H2 O2 R2 S2 P2 u hu => ?_⟩⟩
  unfold op2T at P2
  cases e1 : peekT Γ2 ra with
  | none => rw [e1] at P2; exact P2.elim
  | some d =>
    cases e2 : peekT Γ2 rb with
    | none => rw [e1, e2] at P2; exact P2.elim
    | some e =>
      rw [e1, e2] at P2
      exact ⟨off O2 H2, d, e, off_le, hv.opnT R1 S2 R2 e1, hu.opnT R2 EStp.refl R2 e2, FPost.of R2 (fun b z => none_back S1.toStp b (none_back S2.toStp b z)) P2⟩
theorem me_bin {op : Operator} {f : D → D → FR} (ho : OpR X (binaryOp op) (rOf X.KW f)) (ha : ME X XR W a ma) (hb : ME X XR W b mb) : ME X XR W (.BinOp a op b pos) (mBin f ma mb) :=
  (pe_op ho ha hb).imp fun σ H Q h => bin_tE h
theorem me_binT {op : Operator} {f : D → D → FR} (ho : OpR X (binaryOp op) (rOfT X.KW f)) (ha : ME X XR W a ma) (hb : ME X XR W b mb) : ME X XR W (.BinOp a op b pos) (mBinT f ma mb) :=
  (pe_op ho ha hb).imp fun σ H Q h => binT_tE h
theorem me_cmp {op : CmpOp} {f : D → D → FR} (ho : OpR X (compareOp op) (rOf X.KW f)) (ha : ME X XR W a ma) (hb : ME X XR W b mb) (hm : behindInMarks op b = false) : ME X XR W (.Compare a [op] [b] pos) (mBin f ma mb) :=
  (pe_cmpR ho ha hb hm).imp fun σ H Q h => bin_tE h
/-- an expression as a test -/
def mTE (m : EM) : List Sl → Rs Bool := fun Γ => (m Γ).bind fun r Γ1 => match r with
  | .va (.bl b) => .ok b Γ1
  | _ => .no
theorem test_tE {K : Fg} {m : EM} {σ : L2.St} {H : Hp} {Q : Bool → Hp → Prop} (h : tT K XR W (mTE m) σ H Q) : tE K XR W m σ H fun x H' => ∃ k, x = .bl k ∧ Q k H' := by
  obtain ⟨O, Γ, R, P⟩ := h
  refine ⟨O, Γ, R, (P.bind R).imp fun r Γ1 H1 O1 R1 S1 P1 v hv => ?_⟩
  cases r with
  | va d =>
    cases d with
    | bl k => exact ⟨k, hv, P1 H1 O1 R1 EStp.refl⟩
    | _ => exact P1.elim
  | _ => exact P1.elim
theorem mt_cmp {op : CmpOp} {f : D → D → FR} (ho : OpR X (compareOp op) (rOf X.KW f)) (ha : ME X XR W a ma) (hb : ME X XR W b mb) (hm : behindInMarks op b = false) : MT X XR W (.Compare a [op] [b] pos) (mTE (mBin f ma mb)) :=
  (pt_cmpR ho ha hb hm).imp fun σ H Q h => bin_tE (test_tE h)
theorem mt_val {e : Expr} {m : EM} (h : ME X XR W e m) (he : ∀ whole, isTrue e X.env whole = (do let v ← whole; standAt e.pos; holding [v] (truthy v)) := by intro _; rfl) : MT X XR W e (mTE m) :=
  (pt_val h he).imp fun σ H Q h => test_tE h
/-- a chain of two comparisons -/
def mChain (f g : D → D → FR) (ma mb mc : EM) : EM := fun Γ => (ma Γ).bind fun ra Γ1 => (mb Γ1).bind fun rb Γ2 => (op2 f Γ2 ra rb).bind fun z Γ3 => match z with
  | .va (.bl true) => (mc Γ3).bind fun rc Γ4 => op2 g Γ4 rb rc
  | .va (.bl false) => .ok (.va (.bl false)) Γ3
  | _ => .no
/-- -a of an int, not a of a bool -/
def mNeg (ma : EM) : EM := fun Γ => (ma Γ).bind fun r Γ1 => match r with
  | .va (.int i) => .ok (.va (.int (-i))) Γ1
  | _ => .no
theorem me_neg (ha : ME X XR W a ma) : ME X XR W (.UnaryOp .USub a pos) (mNeg ma) := (pe_un un_neg ha).imp fun σ H Q ⟨O, Γ, R, P⟩ => by
  refine ⟨O, Γ, R, (P.bind R).imp fun r Γ1 H1 O1 R1 S1 P1 v hv => ?_⟩
  cases r with
  | va d =>
    cases d with
    | int i => exact ⟨i, hv, P1 H1 O1 R1 EStp.refl _ rfl⟩
    | _ => exact P1.elim
  | _ => exact P1.elim
def mNotV (ma : EM) : EM := fun Γ => (ma Γ).bind fun r Γ1 => match r with
  | .va (.bl k) => .ok (.va (.bl (!k))) Γ1
  | _ => .no
/-! ### and, or, not, if .. else -/
variable {ta tb : List Sl → Rs Bool} {rest : List Expr}
def tNotM (t : List Sl → Rs Bool) : List Sl → Rs Bool := fun Γ => (t Γ).bind fun c Γ1 => .ok (!c) Γ1
def tAndM (t u : List Sl → Rs Bool) : List Sl → Rs Bool := fun Γ => (t Γ).bind fun c Γ1 => if c = true then u Γ1 else .ok false Γ1
def tOrM (t u : List Sl → Rs Bool) : List Sl → Rs Bool := fun Γ => (t Γ).bind fun c Γ1 => if c = true then .ok true Γ1 else u Γ1
def MW (X : Cx) (XR : XRel) (W : WX) (e : Expr) (m : List Sl → Rs Bool) : Prop := PW X e (tT X.KW XR W m)
theorem _root_.L2.PW.imp {X : Cx} {e : Expr} {t t' : TT} (h : PW X e t) (k : ∀ σ H Q, t' σ H Q → t σ H Q) : PW X e t' := ⟨fun wh pins s σ H Q I q => h.run wh pins s σ H Q I (k σ H Q q)⟩
theorem MW.mt {e : Expr} {m : List Sl → Rs Bool} (h : MW X XR W e m) : MT X XR W e m := PW.pt h
theorem mt_not (ha : MT X XR W a ta) : MT X XR W (.UnaryOp .Not a pos) (tNotM ta) := (pt_not ha).imp fun σ H Q ⟨O, Γ, R, P⟩ =>
  ⟨O, Γ, R, (P.bind R).imp fun k Γ1 H1 O1 R1 S1 P1 => P1 H1 O1 R1 EStp.refl⟩
theorem mw_and1 (ha : MT X XR W a ta) : MW X XR W (.BoolOp .And [a] pos) ta := pw_and1 ha
theorem mw_or1 (ha : MT X XR W a ta) : MW X XR W (.BoolOp .Or [a] pos) ta := pw_or1 ha
theorem mw_and (ha : MT X XR W a ta) (hb : MW X XR W (.BoolOp .And (b :: rest) pos) tb) : MW X XR W (.BoolOp .And (a :: b :: rest) pos) (tAndM ta tb) := (pw_and ha hb).imp fun σ H Q ⟨O, Γ, R, P⟩ => by
  refine ⟨O, Γ, R, (P.bind R).imp fun k Γ1 H1 O1 R1 S1 P1 => ?_⟩
  cases k with
  | true => exact iteT ⟨O1, Γ1, R1, P1⟩
  | false => exact iteF (P1 H1 O1 R1 EStp.refl)
theorem mw_or (ha : MT X XR W a ta) (hb : MW X XR W (.BoolOp .Or (b :: rest) pos) tb) : MW X XR W (.BoolOp .Or (a :: b :: rest) pos) (tOrM ta tb) := (pw_or ha hb).imp fun σ H Q ⟨O, Γ, R, P⟩ => by
  refine ⟨O, Γ, R, (P.bind R).imp fun k Γ1 H1 O1 R1 S1 P1 => ?_⟩
  cases k with
  | true => exact iteT (P1 H1 O1 R1 EStp.refl)
  | false => exact iteF ⟨O1, Γ1, R1, P1⟩
/-- .. as values -/
def mAndV (ma mb : EM) : EM := fun Γ => (ma Γ).bind fun r Γ1 => match r with
  | .va (.bl true) => mb Γ1
  | .va (.bl false) => .ok (.va (.bl false)) Γ1
  | _ => .no
def mOrV (ma mb : EM) : EM := fun Γ => (ma Γ).bind fun r Γ1 => match r with
  | .va (.bl true) => .ok (.va (.bl true)) Γ1
  | .va (.bl false) => mb Γ1
  | _ => .no
def mIf (t : List Sl → Rs Bool) (ma mb : EM) : EM := fun Γ => (t Γ).bind fun c Γ1 => if c = true then ma Γ1 else mb Γ1
/-- the truth of any data -/
def truD : D → Option Bool
  | .non => some false
  | .bl b => some b
  | .int i => some (i != 0)
  | .str x => if x.length ≤ big then some (!x.isEmpty) else none
  | .tup xs => some (!xs.isEmpty)
  | .lst xs => some (!xs.isEmpty)
  | .dic _ => none
  | .set _ => none
def mTru (m : EM) : List Sl → Rs Bool := fun Γ => (m Γ).bind fun r Γ1 => match (peek Γ1 r).bind truD with
  | some b => .ok b Γ1
  | none => .no
/-! ### arguments -/
def mNil : AM := fun Γ => .ok [] Γ
def mCons (m : EM) (ms : AM) : AM := fun Γ => (m Γ).bind fun r Γ1 => (ms Γ1).bind fun rs Γ2 => .ok (r :: rs) Γ2
theorem ma_nil : MA X XR W [] mNil := pa_nil.imp fun σ H Q ⟨O, Γ, R, P⟩ => P H O R EStp.refl [] rfl
theorem ma_cons {es : List Expr} {ms : AM} (ha : ME X XR W a ma) (hr : MA X XR W es ms) (hs : starEach (a :: es) X.env = (false, eval a X.env) :: starEach es X.env := by rfl) : MA X XR W (a :: es) (mCons ma ms) := (pa_cons ha hr hs).imp fun σ H Q ⟨O, Γ, R, P⟩ =>
  ⟨O, Γ, R, (P.bind R).imp fun r Γ1 H1 O1 R1 S1 P1 v hv => ⟨O1, Γ1, R1, (P1.bind R1).imp fun rs Γ2 H2 O2 R2 S2 P2 vs hvs =>
    P2 H2 O2 R2 EStp.refl (v :: vs) ⟨v, vs, rfl, ⟨Γ1, H1, O1, H, R1, hv, S2⟩, hvs⟩⟩⟩
def peeks (Γ : List Sl) : List RV → Option (List D)
  | [] => some []
  | r :: rs => match peek Γ r, peeks Γ rs with
    | some d, some ds => some (d :: ds)
    | _, _ => none
inductive OpnAll (K : Fg) (Hd H : Hp) : List D → List V → Prop
  | nil : OpnAll K Hd H [] []
  | cons {d v ds vs} : Opn K Hd H d v → OpnAll K Hd H ds vs → OpnAll K Hd H (d :: ds) (v :: vs)
theorem RvAll.opn {K : Fg} {O : List Addr} {σ : L2.St} {Γ : List Sl} {H : Hp} (R : Rl K O Γ σ H) : ∀ {rs : List RV} {vs : List V} {ds : List D}, RvAll K O σ Γ H rs vs → peeks Γ rs = some ds → OpnAll K (off O H) H ds vs
  | [], _, _, h, e => by cases h; cases e; exact .nil
  | r :: rs, _, ds, ⟨v, t, e1, ⟨Γ1, H1, O1, H0, R1, hv, S⟩, ht⟩, e => by
    subst e1
    unfold peeks at e
    split at e
    · rename_i d ds' p1 p2
      cases e
      exact .cons (hv.opn R1 S R p1) (RvAll.opn R ht p2)
    · cases e
/-- a call of a built-in by values -/
def rCOf (K : Fg) (f : List D → FR) : List V → Hp → VK → Prop := fun xs H Q => ∃ Hd ds, Same Hd H ∧ OpnAll K Hd H ds xs ∧ FPost K Hd H Q (f ds)
def mFn (f : List D → FR) (ms : AM) : EM := fun Γ => (ms Γ).bind fun rs Γ1 => match peeks Γ1 rs with
  | some ds => (f ds).res Γ1
  | none => .no
theorem fn_tE {K : Fg} {f : List D → FR} {ms : AM} {σ : L2.St} {H : Hp} {Q : VK} (h : tE K XR W (mFn f ms) σ H Q) : tCB (rCOf K f) (tA K XR W ms) σ H Q := by
  obtain ⟨O, Γ, R, P⟩ := h
  refine ⟨O, Γ, R, (P.bind R).imp fun rs Γ1 H1 O1 R1 S1 P1 vs hvs => ?_⟩
  cases e : peeks Γ1 rs with
  | none => rw [e] at P1; exact P1.elim
  | some ds =>
    rw [e] at P1
    exact ⟨off O1 H1, ds, off_le, hvs.opn R1 e, FPost.of R1 (none_back S1.toStp) P1⟩
variable {x : Str} {p : Pos} {e : Expr} {es : List Expr} {ms : AM} {id T : String} {f : List D → FR}
theorem me_callB (hc : CallR X (.builtin id) (rCOf X.KW f)) (hg : Gl X x) (hm : X.mg x = none) (hv : bootBuiltins x = some (.builtin id)) (ha : MA X XR W (e :: es) ms) (hn : x ≠ "__name__" := by decide) (hdb : (x == ("__debug__" : Str)) = false := by decide)
    (he : starEach (e :: es) X.env = (false, eval e X.env) :: starEach es X.env := by rfl) (hpl : (backTo pos (starEach es X.env)).any (·.1) = false := by rfl) : ME X XR W (.Call (.Name x p) (e :: es) [] pos) (mFn f ms) :=
  (pe_callB hc hg hm hv ha hn hdb he hpl).imp fun σ H Q h => fn_tE h
theorem me_callTy (hc : CallR X (.type T) (rCOf X.KW f)) (hg : Gl X x) (hm : X.mg x = none) (hv : bootBuiltins x = some (.type T)) (ha : MA X XR W (e :: es) ms) (hn : x ≠ "__name__" := by decide) (hdb : (x == ("__debug__" : Str)) = false := by decide)
    (he : starEach (e :: es) X.env = (false, eval e X.env) :: starEach es X.env := by rfl) (hpl : (backTo pos (starEach es X.env)).any (·.1) = false := by rfl) : ME X XR W (.Call (.Name x p) (e :: es) [] pos) (mFn f ms) :=
  (pe_callTy hc hg hm hv ha hn hdb he hpl).imp fun σ H Q h => fn_tE h
theorem me_callBf (hc : CallR X (.builtin id) (rCOf X.KW f)) (hg : Gl X x) (hm : X.mg x = some (.builtin id)) (ha : MA X XR W (e :: es) ms) (hdb : (x == ("__debug__" : Str)) = false := by decide)
    (he : starEach (e :: es) X.env = (false, eval e X.env) :: starEach es X.env := by rfl) (hpl : (backTo pos (starEach es X.env)).any (·.1) = false := by rfl) : ME X XR W (.Call (.Name x p) (e :: es) [] pos) (mFn f ms) :=
  (pe_callBfun hc hg hm ha hdb he hpl).imp fun σ H Q h => fn_tE h
end
end Mir

set_option Elab.async false
set_option linter.all false
set_option maxRecDepth 100000
set_option maxHeartbeats 4000000
namespace Mir
open PySem PySem.Spec PyProof.Rows L2

/-! ### an owned list is let go: from then on it is data -/
section
variable {K : Fg} {O : List Addr} {Γ : List Sl} {σ : L2.St} {H : Hp}
theorem get_set_ne {α : Type} {l : List α} {i j : Nat} {x : α} (h : i ≠ j) : (l.set i x)[j]? = l[j]? := List.getElem?_set_ne h
theorem get_set_eq {α : Type} {l : List α} {i : Nat} {x y : α} (h : l[i]? = some y) : (l.set i x)[i]? = some x := List.getElem?_set_self (List.getElem?_eq_some_iff.mp h).1
theorem Rl.freeze (R : Rl K O Γ σ H) {i : Nat} {ds : Ct} (h : Γ[i]? = some (.owc ds)) :
    ∃ O' a, σ[i]? = some (some (.ref a)) ∧ Rl K O' (Γ.set i (.va ds.data)) σ H ∧ EStp Γ σ H O (Γ.set i (.va ds.data)) H O' ∧ At K (off O' H) ds.data (.ref a) := by
  obtain ⟨o, e1, a, vs, e2, ma, ha, ta⟩ := R.sl i _ h
  subst e2
  have sub : ∀ b, b ∈ O.filter (fun b => decide (b ≠ a)) → b ∈ O := fun b hb => (List.mem_filter.mp hb).1
  have so : Same (off O H) (off (O.filter fun b => decide (b ≠ a)) H) := off_mono (fun b o n e => e) fun b h1 n => absurd (sub b h1) n
  have na : a ∉ O.filter fun b => decide (b ≠ a) := fun z => by simpa using (List.mem_filter.mp z).2
  have aT : At K (off (O.filter fun b => decide (b ≠ a)) H) ds.data (.ref a) := at_data.mpr ⟨a, vs, rfl, off_some.mpr ⟨na, ha⟩, ta.mono so⟩
  have mus : ∀ b, Mu (Γ.set i (.va ds.data)) σ b → Mu Γ σ b := fun b ⟨j, es, e3, e4⟩ => by
    by_cases hj : i = j
    · subst hj; rw [get_set_eq h] at e3; cases e3
    · rw [get_set_ne hj] at e3; exact ⟨j, es, e3, e4⟩
  refine ⟨_, a, e1, ⟨by rw [List.length_set]; exact R.len, fun j s e => ?_, fun j k b es t hjk e3 e4 et e5 e6 => ?_, fun b hb => R.tr b (sub b hb)⟩, ⟨⟨fun b o _ e => e, fun b m => .inl (mus b m), fun b e => e, fun b hb => .inl (sub b hb), fun b h1 h2 => ?_⟩, sub, fun j es e => ?_, fun j s e n => ?_, fun j es e => ?_⟩, aT⟩
  · by_cases hj : i = j
    · subst hj
      rw [get_set_eq h] at e; cases e
      exact ⟨_, e1, .ref a, rfl, aT⟩
    · rw [get_set_ne hj] at e
      obtain ⟨o, e3, q⟩ := R.sl j s e
      refine ⟨o, e3, ?_⟩
      cases s with
      | no => trivial
      | va d => obtain ⟨v, e4, q⟩ := q; exact ⟨v, e4, q.mono so⟩
      | owc es =>
        obtain ⟨b, us, e4, mb, hb, tb⟩ := q
        refine ⟨b, us, e4, List.mem_filter.mpr ⟨mb, decide_eq_true fun z => ?_⟩, hb, tb.mono so⟩
        subst z e4
        exact R.ne i j b ds _ hj h e rfl e1 e3
      | bwc es =>
        obtain ⟨b, us, e4, mb, hb, tb⟩ := q
        refine ⟨b, us, e4, List.mem_filter.mpr ⟨mb, decide_eq_true fun z => ?_⟩, hb, tb.mono so⟩
        subst z e4
        exact R.ne i j b ds _ hj h e rfl e1 e3
      | sc ns => obtain ⟨b, e4, q⟩ := q; exact ⟨b, e4, so.seq q⟩
  · by_cases hj : i = j
    · subst hj; rw [get_set_eq h] at e3; cases e3
    · by_cases hk : i = k
      · subst hk; rw [get_set_eq h] at e4; cases e4; cases et
      · rw [get_set_ne hj] at e3; rw [get_set_ne hk] at e4; exact R.ne j k b es t hjk e3 e4 et e5 e6
  · by_cases hb : b = a
    · subst hb; exact ⟨i, ds, h, e1⟩
    · exact absurd (List.mem_filter.mpr ⟨h1, decide_eq_true hb⟩) h2
  · by_cases hj : i = j
    · subst hj; exact .inr ⟨ds, get_set_eq h⟩
    · exact .inl ⟨es, by rw [get_set_ne hj]; exact e⟩
  · by_cases hj : i = j
    · subst hj; rw [h] at e; cases e; exact absurd rfl (n ds)
    · rw [get_set_ne hj]; exact e
  · by_cases hj : i = j
    · subst hj; rw [get_set_eq h] at e; cases e
    · rw [get_set_ne hj] at e; exact e
end
/-- a result as data, for good -/
def esc (Γ : List Sl) : RV → Option (D × List Sl)
  | .va d => some (d, Γ)
  | .owc ds => some (ds.data, Γ)
  | .bo i => match Γ[i]? with
    | some (.owc ds) => some (ds.data, Γ.set i (.va ds.data))
    | some (.va d) => some (d, Γ)
    | _ => none
def escs (Γ : List Sl) : List RV → Option (List D × List Sl)
  | [] => some ([], Γ)
  | r :: rs => match esc Γ r with
    | some (d, Γ1) => match escs Γ1 rs with
      | some (ds, Γ2) => some (d :: ds, Γ2)
      | none => none
    | none => none
section
variable {K : Fg} {O O1 : List Addr} {Γ Γ1 Γ2 : List Sl} {σ : L2.St} {H H0 H1 : Hp}
theorem RvAt.esc {r : RV} {v : V} {d : D} (R1 : Rl K O1 Γ1 σ H1) (h : RvAt K O1 σ Γ1 H1 H0 r v) (S : EStp Γ1 σ H1 O1 Γ H O) (R : Rl K O Γ σ H) (e : esc Γ r = some (d, Γ2)) :
    ∃ O2, Rl K O2 Γ2 σ H ∧ EStp Γ σ H O Γ2 H O2 ∧ At K (off O2 H) d v := by
  cases r with
  | va d' => cases e; exact ⟨O, R, EStp.refl, At.mono (S.toStp.same R1) h⟩
  | owc ds =>
    cases e
    obtain ⟨a, vs, e1, n, _, q, t, _⟩ := h
    refine ⟨O, R, EStp.refl, at_data.mpr ?_⟩
    exact ⟨a, vs, e1, S.toStp.same R1 a _ (off_some.mpr ⟨n, q⟩), (t.mono off_less).mono (S.toStp.same R1)⟩
  | bo i =>
    obtain ⟨e1, _⟩ := h
    simp only [Mir.esc] at e
    cases e2 : Γ[i]? with
    | none => rw [e2] at e; cases e
    | some s =>
      rw [e2] at e
      cases s with
      | no => cases e
      | va d' =>
        cases e
        obtain ⟨o, e3, v', e4, q⟩ := R.sl i _ e2
        rw [e1] at e3; cases e3; cases e4
        exact ⟨O, R, EStp.refl, q⟩
      | owc ds =>
        cases e
        obtain ⟨O', a, e3, R', S', q⟩ := R.freeze e2
        rw [e1] at e3; cases e3
        exact ⟨O', R', S', q⟩
      | sc ns => cases e
      | bwc ds => cases e
theorem RvAll.escs : ∀ {rs : List RV} {vs : List V} {ds : List D} {Γ1 Γ Γ2 : List Sl} {O1 O : List Addr}, Rl K O1 Γ1 σ H → RvAll K O1 σ Γ1 H rs vs → EStp Γ1 σ H O1 Γ H O → Rl K O Γ σ H → Mir.escs Γ rs = some (ds, Γ2) →
    ∃ O2, Rl K O2 Γ2 σ H ∧ EStp Γ σ H O Γ2 H O2 ∧ AtL K (off O2 H) ds vs
  | [], _, _, _, _, _, _, O, R1, h, S, R, e => by
    cases h
    cases e
    exact ⟨O, R, EStp.refl, rfl⟩
  | r :: rs, _, ds, Γ1, Γ, Γ2, O1, O, R1, ⟨v, t, e1, ⟨Γ0, H0', O0, H00, R0, hv, S0⟩, ht⟩, S, R, e => by
    subst e1
    unfold Mir.escs at e
    split at e
    · rename_i d Γ' h1
      split at e
      · rename_i ds' Γ'' h2
        cases e
        obtain ⟨O', R', S', q⟩ := hv.esc R0 (S0.trans R0 S) R h1
        obtain ⟨O'', R'', S'', q2⟩ := RvAll.escs R1 ht (S.trans R1 S') R' h2
        exact ⟨O'', R'', S'.trans R S'', v, t, rfl, q.mono (S''.toStp.same R'), q2⟩
      · cases e
    · cases e
end

section
variable {X : Cx} {XR : XRel} {W : WX} {pos : Pos} {es : List Expr} {ms : AM}
/-! ### displays -/
def mTup (ms : AM) : EM := fun Γ => (ms Γ).bind fun rs Γ1 => match escs Γ1 rs with
  | some (ds, Γ2) => if ds.length ≤ big then .ok (.va (.tup ds)) Γ2 else .no
  | none => .no
def mLst (ms : AM) : EM := fun Γ => (ms Γ).bind fun rs Γ1 => match escs Γ1 rs with
  | some (ds, Γ2) => if ds.length ≤ big then .ok (.ow ds) Γ2 else .no
  | none => .no
theorem me_tup {x1} (h : MA X XR W es ms) : ME X XR W (.Tuple es x1 pos) (mTup ms) := (pe_tup h).imp fun σ H Q ⟨O, Γ, R, P⟩ => by
  refine ⟨O, Γ, R, (P.bind R).imp fun rs Γ1 H1 O1 R1 S1 P1 vs hvs => ?_⟩
  cases e : escs Γ1 rs with
  | none => rw [e] at P1; exact P1.elim
  | some q =>
    obtain ⟨ds, Γ2⟩ := q
    rw [e] at P1
    obtain ⟨O2, R2, S2, t⟩ := RvAll.escs R1 hvs EStp.refl R1 e
    by_cases hz : ds.length ≤ big
    · simp only [hz, if_true] at P1
      refine ⟨by rw [← t.length, big_eq]; exact hz, fun q hq => ?_⟩
      have P2 : Post X.KW XR W σ Γ2 H1 O2 (fun r Γ' H' O' => ∀ v, RvAt X.KW O' σ Γ' H' H r v → Q v H') (FR.res Γ2 (.va (.tup ds))) := Post.after (x := FR.res Γ2 (.va (.tup ds))) R1 S2 P1
      exact (FPost.of R2 (none_back S1.toStp) P2).tup off_le hq t
    · simp only [hz, if_false] at P1
      exact P1.elim
theorem me_lst (h : MA X XR W es ms) : ME X XR W (.List es pos) (mLst ms) := (pe_lst h).imp fun σ H Q ⟨O, Γ, R, P⟩ => by
  refine ⟨O, Γ, R, (P.bind R).imp fun rs Γ1 H1 O1 R1 S1 P1 vs hvs => ?_⟩
  cases e : escs Γ1 rs with
  | none => rw [e] at P1; exact P1.elim
  | some q =>
    obtain ⟨ds, Γ2⟩ := q
    rw [e] at P1
    obtain ⟨O2, R2, S2, t⟩ := RvAll.escs R1 hvs EStp.refl R1 e
    by_cases hz : ds.length ≤ big
    · simp only [hz, if_true] at P1
      refine ⟨by rw [← t.length, big_eq]; exact hz, fun q hq => ?_⟩
      have P2 : Post X.KW XR W σ Γ2 H1 O2 (fun r Γ' H' O' => ∀ v, RvAt X.KW O' σ Γ' H' H r v → Q v H') (FR.res Γ2 (.ow ds)) := Post.after (x := FR.res Γ2 (.ow ds)) R1 S2 P1
      exact (FPost.of R2 (none_back S1.toStp) P2).lst off_le hq t
    · simp only [hz, if_false] at P1
      exact P1.elim

/-! ### subscripts -/
def fIx : D → D → FR
  | .lst ds, .int i => match atI ds i with
    | some d => .va d
    | none => .no
  | .tup ds, .int i => match atI ds i with
    | some d => .va d
    | none => .no
  | .str x, .int i => if x.length ≤ big then (match atI x i with
    | some c => .va (.str [c])
    | none => .no) else .no
  | _, _ => .no
theorem AtL.atI {K : Fg} {H : Hp} {ds : List D} {vs : List V} {i : Int} {d : D} (t : AtL K H ds vs) (e : atI ds i = some d) : ∃ v, L2.atI vs i = some v ∧ At K H d v := by
  unfold L2.atI at e ⊢
  obtain ⟨j, e1, e2⟩ := Option.bind_eq_some_iff.mp e
  obtain ⟨v, e3, q⟩ := t.get e2
  exact ⟨v, Option.bind_eq_some_iff.mpr ⟨j, by rw [← t.length]; exact e1, e3⟩, q⟩
theorem od_ix : IxR X (rOf X.KW fIx) := fun value slice pins s σ H x y v u Q I rx ry ⟨Hd, d, e, s1, a, b, q⟩ hs => by
  cases d with
  | lst ds =>
    cases e with
    | int i =>
      simp only [fIx] at q
      split at q
      · rename_i d' hd
        obtain ⟨p, vs, e1, h1, t⟩ := a.lst s1
        obtain ⟨w, e2, q2⟩ := t.atI hd
        exact ix_list value slice pins s σ H x y v u Q I rx ry ⟨p, vs, i, w, e1, b.int, h1, e2, q.va s1 q2⟩ hs
      · exact q.elim
    | _ => exact q.elim
  | tup ds =>
    cases e with
    | int i =>
      simp only [fIx] at q
      split at q
      · rename_i d' hd
        obtain ⟨p, vs, e1, h1, t⟩ := a.tup
        obtain ⟨w, e2, q2⟩ := t.atI hd
        exact ix_tup value slice pins s σ H x y v u Q I rx ry ⟨p, vs, i, w, e1, b.int, Same.seqT s1 h1, e2, q.va s1 q2⟩ hs
      · exact q.elim
    | _ => exact q.elim
  | str z =>
    cases e with
    | int i =>
      simp only [fIx] at q
      split at q
      · rename_i hz
        split at q
        · rename_i c hc
          exact ix_str value slice pins s σ H x y v u Q I rx ry ⟨toS z, i, c, a.str, b.int, by rw [toS_len, big_eq]; exact hz, by simpa using hc, q.va s1 rfl⟩ hs
        · exact q.elim
      · exact q.elim
    | _ => exact q.elim
  | _ => cases e <;> exact q.elim
variable {a b : Expr} {ma mb : EM}
theorem me_ix (ha : ME X XR W a ma) (hb : ME X XR W b mb) (hs : PlainIx b := by intro _ _; rfl) : ME X XR W (.Subscript a b pos) (mBin fIx ma mb) := (pe_ix od_ix ha hb hs).imp fun σ H Q h => bin_tE h

/-! ### slices -/
theorem _root_.L2.PO.imp {X : Cx} {e : Option Expr} {t t' : TO} (h : PO X e t) (k : ∀ σ H Q, t' σ H Q → t σ H Q) : PO X e t' := ⟨fun pins s σ H Q I q => h.run pins s σ H Q I (k σ H Q q)⟩
def oNone : List Sl → Rs (Option Int) := fun Γ => .ok none Γ
def oSome (m : EM) : List Sl → Rs (Option Int) := fun Γ => (m Γ).bind fun r Γ1 => match r with
  | .va (.int i) => .ok (some i) Γ1
  | _ => .no
def cut {α : Type} (xs : List α) (lo hi : Option Int) : List α := (xs.drop (HT.sIx xs.length 0 lo)).take (HT.sIx xs.length xs.length hi - HT.sIx xs.length 0 lo)
def fSl : D → Option Int → Option Int → FR
  | .lst ds, lo, hi => .ow (cut ds lo hi)
  | .tup ds, lo, hi => .va (.tup (cut ds lo hi))
  | .str x, lo, hi => if x.length ≤ big then .va (.str (cut x lo hi)) else .no
  | _, _, _ => .no
theorem AtL.cut {K : Fg} {H : Hp} {ds : List D} {vs : List V} (t : AtL K H ds vs) (lo hi : Option Int) : AtL K H (cut ds lo hi) (cutV vs lo hi) := by
  unfold Mir.cut cutV
  rw [t.length]
  exact (t.drop _).take _
def mSl (ma : EM) (ml mh : List Sl → Rs (Option Int)) : EM := fun Γ => (ma Γ).bind fun r Γ1 => (ml Γ1).bind fun l Γ2 => (mh Γ2).bind fun h Γ3 => match peek Γ3 r with
  | some d => (fSl d l h).res Γ3
  | none => .no
/-! ### built-in functions -/
def fLen : List D → FR
  | [.str x] => if x.length ≤ big then .va (.int x.length) else .no
  | [.lst xs] => .va (.int xs.length)
  | [.tup xs] => .va (.int xs.length)
  | _ => .no
def fInt : List D → FR
  | [.int i] => .va (.int i)
  | [.bl b] => .va (.int (if b then 1 else 0))
  | _ => .no
def fAbs : List D → FR
  | [.int i] => .va (.int (if i < 0 then -i else i))
  | _ => .no
def fTuple : List D → FR
  | [.lst xs] => .va (.tup xs)
  | [.tup xs] => .va (.tup xs)
  | _ => .no
def fList : List D → FR
  | [.lst xs] => .ow xs
  | [.tup xs] => .ow xs
  | _ => .no
def fGcd : List D → FR
  | [.int a, .int b] => .va (.int ((Nat.gcd a.natAbs b.natAbs : Nat) : Int))
  | _ => .no
theorem OpnAll.one {K : Fg} {Hd H : Hp} {d : D} {vs : List V} (h : OpnAll K Hd H [d] vs) : ∃ v, vs = [v] ∧ Opn K Hd H d v := by
  cases h with
  | cons h t => cases t; exact ⟨_, rfl, h⟩
theorem OpnAll.two {K : Fg} {Hd H : Hp} {d e : D} {vs : List V} (h : OpnAll K Hd H [d, e] vs) : ∃ v u, vs = [v, u] ∧ Opn K Hd H d v ∧ Opn K Hd H e u := by
  cases h with
  | cons h t =>
    obtain ⟨u, rfl, q⟩ := t.one
    exact ⟨_, u, rfl, h, q⟩
theorem cd_len : CallR X (.builtin "len") (rCOf X.KW fLen) := fun pins s σ H xs us Q I r ⟨Hd, ds, s1, h, q⟩ => by
  match ds, h, q with
  | [.str x], h, q =>
    obtain ⟨v, rfl, o⟩ := h.one
    simp only [fLen] at q
    split at q
    · rename_i hz
      refine call_len pins s σ H _ us Q I r ⟨v, x.length, rfl, ?_, q.int s1⟩
      rw [o.str]
      exact ⟨by rw [toS_len, big_eq]; exact hz, (toS_len x).symm⟩
    · exact q.elim
  | [.lst x], h, q =>
    obtain ⟨v, rfl, o⟩ := h.one
    obtain ⟨a, vs, rfl, e, t⟩ := o.lst s1
    exact call_len pins s σ H _ us Q I r ⟨_, x.length, rfl, .inl ⟨vs, e, t.length⟩, FPost.int q s1⟩
  | [.tup x], h, q =>
    obtain ⟨v, rfl, o⟩ := h.one
    obtain ⟨a, vs, rfl, e, t⟩ := o.tup
    exact call_len pins s σ H _ us Q I r ⟨_, x.length, rfl, .inr ⟨vs, Same.seqT s1 e, t.length⟩, FPost.int q s1⟩
  | [], _, q => exact q.elim
  | [.non], _, q => exact q.elim
  | [.bl _], _, q => exact q.elim
  | [.int _], _, q => exact q.elim
  | _ :: _ :: _, _, q => exact (by simpa [fLen, FPost] using q : False).elim
theorem cd_int : CallR X (.type "int") (rCOf X.KW fInt) := fun pins s σ H xs us Q I r ⟨Hd, ds, s1, h, q⟩ => by
  match ds, h, q with
  | [.int i], h, q =>
    obtain ⟨v, rfl, o⟩ := h.one
    exact call_int1 pins s σ H _ us Q I r (.inl ⟨i, by rw [o.int], FPost.int q s1⟩)
  | [.bl i], h, q =>
    obtain ⟨v, rfl, o⟩ := h.one
    exact call_int1 pins s σ H _ us Q I r (.inr ⟨i, by rw [o.bl], FPost.int q s1⟩)
  | [], _, q => exact q.elim
  | [.non], _, q => exact q.elim
  | [.str _], _, q => exact q.elim
  | [.lst _], _, q => exact q.elim
  | [.tup _], _, q => exact q.elim
  | _ :: _ :: _, _, q => exact (by simpa [fInt, FPost] using q : False).elim
theorem cd_abs : CallR X (.builtin "abs") (rCOf X.KW fAbs) := fun pins s σ H xs us Q I r ⟨Hd, ds, s1, h, q⟩ => by
  match ds, h, q with
  | [.int i], h, q =>
    obtain ⟨v, rfl, o⟩ := h.one
    exact call_abs pins s σ H _ us Q I r ⟨i, by rw [o.int], FPost.int q s1⟩
  | [], _, q => exact q.elim
  | [.bl _], _, q => exact q.elim
  | [.non], _, q => exact q.elim
  | [.str _], _, q => exact q.elim
  | [.lst _], _, q => exact q.elim
  | [.tup _], _, q => exact q.elim
  | _ :: _ :: _, _, q => exact (by simpa [fAbs, FPost] using q : False).elim
theorem cd_list : CallR X (.type "list") (rCOf X.KW fList) := fun pins s σ H xs us Q I r ⟨Hd, ds, s1, h, q⟩ => by
  match ds, h, q with
  | [.lst x], h, q =>
    obtain ⟨v, rfl, o⟩ := h.one
    obtain ⟨a, vs, rfl, e, t⟩ := o.lst s1
    exact call_list_of pins s σ H _ us Q I r ⟨a, vs, rfl, .inl e, fun l hl => FPost.lst q s1 hl t⟩
  | [.tup x], h, q =>
    obtain ⟨v, rfl, o⟩ := h.one
    obtain ⟨a, vs, rfl, e, t⟩ := o.tup
    exact call_list_of pins s σ H _ us Q I r ⟨a, vs, rfl, .inr (Same.seqT s1 e), fun l hl => FPost.lst q s1 hl t⟩
  | [], _, q => exact q.elim
  | [.bl _], _, q => exact q.elim
  | [.non], _, q => exact q.elim
  | [.str _], _, q => exact q.elim
  | [.int _], _, q => exact q.elim
  | _ :: _ :: _, _, q => exact (by simpa [fList, FPost] using q : False).elim
theorem cd_gcd : CallR X (.builtin "math.gcd") (rCOf X.KW fGcd) := fun pins s σ H xs us Q I r ⟨Hd, ds, s1, h, q⟩ => by
  unfold fGcd at q
  split at q
  · obtain ⟨v, u, rfl, o1, o2⟩ := h.two
    exact cr_gcd pins s σ H _ us Q I r ⟨_, _, by rw [o1.int, o2.int], FPost.int q s1⟩
  · exact q.elim
/-- x.bit_length() -/
def mBits (ma : EM) : EM := fun Γ => (ma Γ).bind fun r Γ1 => match r with
  | .va (.int i) => .ok (.va (.int (Builtin.Int.intBits i : Nat))) Γ1
  | _ => .no
theorem me_bits {apos : Pos} (ha : ME X XR W a ma) (hbase : attributeBase a "bit_length" X.env (eval a X.env) = eval a X.env := by rfl) (hline : (apos.endLine == pos.line) = true := by rfl) : ME X XR W (.Call (.Attribute a "bit_length" apos) [] [] pos) (mBits ma) :=
  (pe_bits ha hbase hline).imp fun σ H Q ⟨O, Γ, R, P⟩ => by
    refine ⟨O, Γ, R, (P.bind R).imp fun r Γ1 H1 O1 R1 S1 P1 v hv => ?_⟩
    cases r with
    | va d =>
      cases d with
      | int i => exact ⟨i, hv, P1 H1 O1 R1 EStp.refl _ rfl⟩
      | _ => exact P1.elim
    | _ => exact P1.elim
end
end Mir

set_option Elab.async false
set_option linter.all false
set_option maxRecDepth 100000
set_option maxHeartbeats 4000000
namespace Mir
open PySem PySem.Spec PyProof.Rows L2

/-! ### isinstance against built-in classes -/
def tyD : D → String
  | .non => "NoneType" | .bl _ => "bool" | .int _ => "int" | .str _ => "str" | .tup _ => "tuple" | .lst _ => "list" | _ => "list"
/-- no dict, no set -/
def isPl : D → Bool
  | .dic _ => false
  | .set _ => false
  | _ => true
def isiD (d : D) (T : String) : Bool := match d, T with
  | .bl _, "bool" => true | .bl _, "int" => true | .int _, "int" => true | .str _, "str" => true | .tup _, "tuple" => true | .lst _, "list" => true
  | .dic _, "list" => true | .set _, "list" => true
  | _, _ => false
def isiT (a b : String) : Bool := a == b || (a == "bool" && b == "int")
theorem isiT_all : ["NoneType", "bool", "int", "str", "tuple", "list"].all (fun a => ["int", "str", "bool", "tuple", "list"].all fun b => kitB a b == some (isiT a b)) = true := by decide +kernel
theorem kit_isi (d : D) (T : String) (h : T = "int" ∨ T = "str" ∨ T = "bool" ∨ T = "tuple" ∨ T = "list") : kitB (tyD d) T = some (isiD d T) := by
  have e : isiT (tyD d) T = isiD d T := by rcases h with rfl | rfl | rfl | rfl | rfl <;> cases d <;> rfl
  have m1 : tyD d ∈ ["NoneType", "bool", "int", "str", "tuple", "list"] := by cases d <;> simp [tyD]
  have m2 : T ∈ ["int", "str", "bool", "tuple", "list"] := by rcases h with rfl | rfl | rfl | rfl | rfl <;> simp
  have q := List.all_eq_true.mp (List.all_eq_true.mp isiT_all _ m1) _ m2
  rw [← e]
  exact eq_of_beq q
theorem Opn.tyx {K : Fg} {Hd H : Hp} {d : D} {v : V} (pl : isPl d = true) (s : Same Hd H) (h : Opn K Hd H d v) : TyX K H v (.type (tyD d)) := by
  have seqL : ∀ {a : Addr} {vs : List V}, SqL K H a vs → TyX K H (.ref a) (.type "list") := fun {a vs} q => by
    rcases q with (q | ⟨o, q⟩) | ⟨o, its, n, q, c, _⟩
    · exact .base (.lst q)
    · exact .base (.frz q)
    · exact .kList q c
  have seqT : ∀ {a : Addr} {vs : List V}, SqT K H a vs → TyX K H (.ref a) (.type "tuple") := fun {a vs} q => by
    rcases q with (q | ⟨o, q⟩) | ⟨o, its, n, q, c, _⟩
    · exact .base (.tup q)
    · exact .fTuple q
    · exact .kTuple q c
  cases d with
  | non => rw [h.non]; exact .base .non
  | bl b => rw [h.bl]; exact .base (.bl b)
  | int i => rw [h.int]; exact .base (.int i)
  | str x => rw [h.str]; exact .base (.str _)
  | tup ds => obtain ⟨a, vs, rfl, q, _⟩ := h.tup; exact seqT (Same.seqT s q)
  | lst ds => obtain ⟨a, vs, rfl, q, _⟩ := h.lst s; exact seqL q
  | dic ds => cases pl
  | set ds => cases pl
def mIsi (T : String) (ma : EM) : EM := fun Γ => (ma Γ).bind fun r Γ1 => match peek Γ1 r with
  | some d => if isPl d = true then .ok (.va (.bl (isiD d T))) Γ1 else .no
  | none => .no
def mIsi2 (T T' : String) (ma : EM) : EM := fun Γ => (ma Γ).bind fun r Γ1 => match peek Γ1 r with
  | some d => if isPl d = true then .ok (.va (.bl (isiD d T || isiD d T'))) Γ1 else .no
  | none => .no
section
variable {X : Cx} {XR : XRel} {W : WX} {a b b' : Expr} {ma : EM} {p pos p3 : Pos} {k1 : Nat} {T T' : String}
theorem me_isi (hT : T = "int" ∨ T = "str" ∨ T = "bool" ∨ T = "tuple" ∨ T = "list") (hg : Gl X "isinstance") (hm : X.mg "isinstance" = none) (ha : ME X XR W a ma) (hb : PE X b (tC (.ty T)))
    (he : starEach [a, b] X.env = (false, eval a X.env) :: starEach [b] X.env := by rfl) (he2 : starEach [b] X.env = (false, eval b X.env) :: starEach [] X.env := by rfl) (hpl : (backTo pos (starEach [b] X.env)).any (·.1) = false := by rfl) : ME X XR W (.Call (.Name "isinstance" p) [a, b] [] pos) (mIsi T ma) :=
  (pe_callB call_isi hg hm (by decide +kernel) (pa_cons ha (pa_cons hb pa_nil he2) he) (by decide) (by decide) he hpl).imp fun σ H Q ⟨O, Γ, R, P⟩ => by
    refine ⟨O, Γ, R, (P.bind R).imp fun r Γ1 H1 O1 R1 S1 P1 v hv => ?_⟩
    cases e : peek Γ1 r with
    | none => rw [e] at P1; exact P1.elim
    | some d =>
      rw [e] at P1
      by_cases hpl : isPl d = true
      case neg => simp only [hpl] at P1; exact P1.elim
      simp only [hpl, if_true] at P1
      exact ⟨v, .ty T, .type (tyD d), .type T, isiD d T, rfl, .ty T, (hv.opn R1 EStp.refl R1 e).tyx hpl off_le, kit_ty (kit_isi d T hT), P1 H1 O1 R1 EStp.refl _ rfl⟩
theorem me_isi2 (hT : T = "int" ∨ T = "str" ∨ T = "bool" ∨ T = "tuple" ∨ T = "list") (hT' : T' = "int" ∨ T' = "str" ∨ T' = "bool" ∨ T' = "tuple" ∨ T' = "list") (hg : Gl X "isinstance") (hm : X.mg "isinstance" = none) (ha : ME X XR W a ma) (hb : PE X b (tC (.ty T))) (hb' : PE X b' (tC (.ty T')))
    (he : starEach [a, .Tuple [b, b'] k1 p3] X.env = (false, eval a X.env) :: starEach [.Tuple [b, b'] k1 p3] X.env := by rfl) (he2 : starEach [.Tuple [b, b'] k1 p3] X.env = (false, eval (.Tuple [b, b'] k1 p3) X.env) :: starEach [] X.env := by rfl)
    (he3 : starEach [b, b'] X.env = (false, eval b X.env) :: starEach [b'] X.env := by rfl) (he4 : starEach [b'] X.env = (false, eval b' X.env) :: starEach [] X.env := by rfl)
    (hpl : (backTo pos (starEach [.Tuple [b, b'] k1 p3] X.env)).any (·.1) = false := by rfl) : ME X XR W (.Call (.Name "isinstance" p) [a, .Tuple [b, b'] k1 p3] [] pos) (mIsi2 T T' ma) :=
  (pe_callB call_isiT hg hm (by decide +kernel) (pa_cons ha (pa_cons (pe_tup (pa_cons hb (pa_cons hb' pa_nil he4) he3)) pa_nil he2) he) (by decide) (by decide) he hpl).imp fun σ H Q ⟨O, Γ, R, P⟩ => by
    refine ⟨O, Γ, R, (P.bind R).imp fun r Γ1 H1 O1 R1 S1 P1 v hv => ?_⟩
    cases e : peek Γ1 r with
    | none => rw [e] at P1; exact P1.elim
    | some d =>
      rw [e] at P1
      by_cases hpl : isPl d = true
      case neg => simp only [hpl] at P1; exact P1.elim
      simp only [hpl, if_true] at P1
      refine ⟨by show 2 ≤ sizeLine; decide, fun q hq => ?_⟩
      have sm : Same H1 (upd H1 q (.tup [.ty T, .ty T'])) := same_up hq
      refine ⟨v, q, [.ty T, .ty T'], .type (tyD d), [.type T, .type T'], isiD d T || isiD d T', rfl, upd_same, .cons (.ty T) (.cons (.ty T') .nil), ?_, ?_, P1 _ O1 (R1.same sm) (EStp.of_same sm) _ rfl⟩
      · have o := hv.opn R1 EStp.refl R1 e
        rcases o with o | ⟨ds, a, vs, e1, e2, q2, t⟩ | o
        · exact Opn.tyx hpl (Hd := upd H1 q (.tup [.ty T, .ty T'])) (fun _ _ z => z) (.inl ((o.mono off_le).mono sm))
        · exact Opn.tyx hpl (Hd := upd H1 q (.tup [.ty T, .ty T'])) (fun _ _ z => z) (.inr (.inl ⟨ds, a, vs, e1, e2, sm.seq q2, (t.mono off_le).mono sm⟩))
        · rcases o.cases with ⟨xs, rfl⟩ | ⟨xs, rfl⟩ <;> cases hpl
      · refine kitAny_cons (kit_ty (kit_isi d T hT)) (fun z => kitAny_cons (kit_ty (kit_isi d T' hT')) (fun z2 => ?_) fun z2 => ?_) fun z => ?_
        · rw [z, z2]; exact kitAny_nil
        · rw [z2, Bool.or_true]
        · rw [z, Bool.true_or]
end

/-! ### an owned list is rewritten -/
section
variable {K : Fg} {O : List Addr} {Γ : List Sl} {σ : L2.St} {H : Hp}
theorem Rl.writeC (R : Rl K O Γ σ H) {i : Nat} {ds es : Ct} {a : Addr} {us : List V} (h : Γ[i]? = some (.owc ds)) (e : σ[i]? = some (some (.ref a))) (t : AtL K (off O H) es.ds us) :
    Rl K O (Γ.set i (.owc es)) σ (upd H a (es.ho K.w a us)) ∧ EStp Γ σ H O (Γ.set i (.owc es)) (upd H a (es.ho K.w a us)) O := by
  obtain ⟨o, e1, a', vs, e2, ma, ha, ta⟩ := R.sl i _ h
  rw [e] at e1; cases e1; cases e2
  have so : Same (off O H) (off O (upd H a (es.ho K.w a us))) := off_mono (fun b o n e => by
    rw [upd_ne (show b ≠ a from fun z => n (z ▸ ma))]; exact e) fun b h n => absurd h n
  have st : ∀ b, H b ≠ none → upd H a (es.ho K.w a us) b ≠ none := fun b hb => by
    by_cases z : b = a
    · subst z; rw [upd_same]; exact fun z => nomatch z
    · rw [upd_ne z]; exact hb
  have mus : ∀ b, Mu (Γ.set i (.owc es)) σ b → Mu Γ σ b := fun b ⟨j, fs, e3, e4⟩ => by
    by_cases hj : i = j
    · subst hj; exact ⟨i, ds, h, e4⟩
    · rw [get_set_ne hj] at e3; exact ⟨j, fs, e3, e4⟩
  refine ⟨⟨by rw [List.length_set]; exact R.len, fun j s e3 => ?_, fun j k b fs t' hjk e3 e4 et e5 e6 => ?_, fun b hb => st b (R.tr b hb)⟩, ⟨⟨fun b o n e3 => ?_, fun b m => .inl (mus b m), st, fun b hb => .inl hb, fun b h1 h2 => absurd h1 h2⟩, fun b hb => hb, fun j fs e3 => ?_, fun j s e3 n => ?_, fun j fs e3 => ?_⟩⟩
  · by_cases hj : i = j
    · subst hj
      rw [get_set_eq h] at e3; cases e3
      exact ⟨_, e, a, us, rfl, ma, upd_same, t.mono so⟩
    · rw [get_set_ne hj] at e3
      obtain ⟨o, e4, q⟩ := R.sl j s e3
      refine ⟨o, e4, ?_⟩
      cases s with
      | no => trivial
      | va d => obtain ⟨v, e5, q⟩ := q; exact ⟨v, e5, q.mono so⟩
      | owc fs =>
        obtain ⟨b, ws, e5, mb, hb, tb⟩ := q
        refine ⟨b, ws, e5, mb, ?_, tb.mono so⟩
        rw [upd_ne (show b ≠ a from fun z => by subst z e5; exact R.ne i j b ds _ hj h e3 rfl e e4)]
        exact hb
      | bwc fs =>
        obtain ⟨b, ws, e5, mb, hb, tb⟩ := q
        refine ⟨b, ws, e5, mb, ?_, tb.mono so⟩
        rw [upd_ne (show b ≠ a from fun z => by subst z e5; exact R.ne i j b ds _ hj h e3 rfl e e4)]
        exact hb
      | sc ns => obtain ⟨b, e5, q⟩ := q; exact ⟨b, e5, so.seq q⟩
  · have own : ∀ (m : Nat) (xs : Ct), (Γ.set i (.owc es))[m]? = some (Sl.owc xs) → ∃ ys, Γ[m]? = some (Sl.owc ys) := fun m xs z => by
      by_cases hm : i = m
      · subst hm; exact ⟨ds, h⟩
      · rw [get_set_ne hm] at z; exact ⟨xs, z⟩
    obtain ⟨_, g1⟩ := own j fs e3
    by_cases hk : i = k
    · subst hk; exact R.ne j i b _ _ hjk g1 h rfl e5 e6
    · rw [get_set_ne hk] at e4; exact R.ne j k b _ _ hjk g1 e4 et e5 e6
  · rw [upd_ne (show b ≠ a from fun z => n ⟨i, ds, h, z ▸ e⟩)]; exact e3
  · by_cases hj : i = j
    · subst hj; exact .inl ⟨es, get_set_eq h⟩
    · exact .inl ⟨fs, by rw [get_set_ne hj]; exact e3⟩
  · by_cases hj : i = j
    · subst hj; rw [h] at e3; cases e3; exact absurd rfl (n ds)
    · rw [get_set_ne hj]; exact e3
  · by_cases hj : i = j
    · subst hj; rw [get_set_eq h] at e3; cases e3
    · rw [get_set_ne hj] at e3; exact e3
theorem Rl.write (R : Rl K O Γ σ H) {i : Nat} {ds es : List D} {a : Addr} {us : List V} (h : Γ[i]? = some (.ow ds)) (e : σ[i]? = some (some (.ref a))) (t : AtL K (off O H) es us) :
    Rl K O (Γ.set i (.ow es)) σ (upd H a (.lst us)) ∧ EStp Γ σ H O (Γ.set i (.ow es)) (upd H a (.lst us)) O := Rl.writeC (ds := ⟨.lst, ds⟩) (es := ⟨.lst, es⟩) R h e t
theorem Rl.own (R : Rl K O Γ σ H) {i : Nat} {ds : List D} (h : Γ[i]? = some (.ow ds)) : ∃ a vs, σ[i]? = some (some (.ref a)) ∧ H a = some (.lst vs) ∧ AtL K (off O H) ds vs := by
  obtain ⟨o, e1, a, vs, e2, ma, ha, ta⟩ := R.sl i _ h
  subst e2
  exact ⟨a, vs, e1, ha, ta⟩
end
/-- xs.pop(), xs an owned list of the def -/
def mPop (i : Nat) : EM := fun Γ => match Γ[i]? with
  | some (.owc ⟨.lst, ds⟩) => match ds.getLast? with
    | some d => .ok (.va d) (Γ.set i (.ow ds.dropLast))
    | none => .no
  | _ => .no
section
variable {X : Cx} {XR : XRel} {W : WX} {x : Str} {p pos apos : Pos}
theorem me_pop {i : Nat} (hv : PE X (.Name x p) (tVar i)) (hbase : attributeBase (.Name x p) "pop" X.env (eval (.Name x p) X.env) = eval (.Name x p) X.env := by rfl) (hline : (apos.endLine == pos.line) = true := by rfl) :
    ME X XR W (.Call (.Attribute (.Name x p) "pop" apos) [] [] pos) (mPop i) := (pe_bm0 PySem.F.plainAttrs_list PySem.F.slot_list_pop PySem.F.type_list_pop mt_pop hv hbase hline).imp fun σ H Q ⟨O, Γ, R, P⟩ => by
  unfold mPop at P
  cases e : Γ[i]? with
  | none => rw [e] at P; exact P.elim
  | some s =>
    rw [e] at P
    cases s with
    | owc tt =>
      obtain ⟨cc, ds⟩ := tt
      cases cc with
      | lst =>
        obtain ⟨a, vs, e1, ha, ta⟩ := R.own e
        cases e2 : ds.getLast? with
        | none => simp only [e2] at P; exact P.elim
        | some d =>
          simp only [e2] at P
          rw [List.getLast?_eq_getElem?] at e2
          obtain ⟨v, e3, q⟩ := ta.get e2
          obtain ⟨R', S'⟩ := R.write e e1 ta.dropLast
          exact ⟨.ref a, e1, .inl ⟨rfl, vs, SqL.of ha⟩, a, vs, v, rfl, rfl, ha, by rw [← ta.length]; exact e3, P _ O R' S' v (q.mono (S'.toStp.same R))⟩
      | _ => exact P.elim
    | _ => exact P.elim
end

/-! ### a def's promise, a call -/
abbrev DM := List Sl → Rs RV
def spM (K : Fg) (XR : XRel) (F : DM) (n : Nat) : Sp := fun vs H Q E => vs.length = n ∧ ∃ O Δ, Rl K O Δ (vs.map some) H ∧
  Post K XR (fun cls d _ H' => E cls d H') (vs.map some) Δ H O (fun r Δ' H' O' => ∀ v, RvAt K O' (vs.map some) Δ' H' H r v → Q v H') (F Δ)
def argSl (Γ : List Sl) : RV → Option Sl
  | .va d => some (.va d)
  | .owc ds => some (.va ds.data)
  | .bo i => match Γ[i]? with
    | some .no => none
    | o => o
def argsSl (Γ : List Sl) : List RV → Option (List Sl)
  | [] => some []
  | r :: rs => match argSl Γ r, argsSl Γ rs with
    | some s, some t => some (s :: t)
    | _, _ => none
def isBo (i : Nat) : RV → Bool
  | .bo j => i == j
  | _ => false
/-- where the list at slot i is handed on -/
def posBo (i : Nat) : List RV → Option Nat
  | [] => none
  | r :: rs => if isBo i r then some 0 else (posBo i rs).map (· + 1)
def uniqBo : List RV → Bool
  | [] => true
  | .bo i :: rs => !(rs.any (isBo i)) && uniqBo rs
  | _ :: rs => uniqBo rs
def wb1 (rs : List RV) (Δ : List Sl) (i : Nat) : Sl → Sl
  | .owc ds => match posBo i rs with
    | some j => match Δ[j]? with
      | some s => s
      | none => .owc ds
    | none => .owc ds
  | s => s
def wb (rs : List RV) (Δ : List Sl) : Nat → List Sl → List Sl
  | _, [] => []
  | i, s :: t => wb1 rs Δ i s :: wb rs Δ (i + 1) t
def Rs.back (rs : List RV) (Γ : List Sl) : Rs RV → Rs RV
  | .ok (.va d) Δ => .ok (.va d) (wb rs Δ 0 Γ)
  | .ok (.owc ds) Δ => .ok (.owc ds) (wb rs Δ 0 Γ)
  | .ok (.bo _) _ => .no
  | .ex c pl Δ => .ex c pl (wb rs Δ 0 Γ)
  | .no => .no
def mCall (F : DM) (ms : AM) : EM := fun Γ => (ms Γ).bind fun rs Γ1 => match argsSl Γ1 rs with
  | some Δ => if uniqBo rs then (F Δ).back rs Γ1 else .no
  | none => .no
theorem wb_get (rs : List RV) (Δ : List Sl) : ∀ (Γ : List Sl) (i j : Nat), (wb rs Δ i Γ)[j]? = (Γ[j]?).map (wb1 rs Δ (i + j))
  | [], i, j => by simp [wb]
  | s :: t, i, 0 => by simp [wb]
  | s :: t, i, j + 1 => by
    simp only [wb, List.getElem?_cons_succ]
    rw [wb_get rs Δ t (i + 1) j, show i + 1 + j = i + (j + 1) by omega]
theorem wb_len (rs : List RV) (Δ : List Sl) : ∀ (Γ : List Sl) (i : Nat), (wb rs Δ i Γ).length = Γ.length
  | [], i => rfl
  | s :: t, i => by simp [wb, wb_len rs Δ t (i + 1)]
theorem posBo_get : ∀ {rs : List RV} {i j : Nat}, posBo i rs = some j → rs[j]? = some (.bo i)
  | [], _, _, h => by cases h
  | r :: rs, i, j, h => by
    unfold posBo at h
    split at h
    · rename_i hb
      cases h
      cases r with
      | bo k => simp [isBo] at hb; subst hb; rfl
      | _ => cases hb
    · obtain ⟨k, e1, e2⟩ := Option.map_eq_some_iff.mp h
      subst e2
      simpa using posBo_get e1
theorem posBo_none : ∀ {rs : List RV} {i j : Nat}, posBo i rs = none → rs[j]? ≠ some (.bo i)
  | [], _, _, _ => by simp
  | r :: rs, i, j, h => by
    unfold posBo at h
    split at h
    · cases h
    · rename_i hb
      have h2 : posBo i rs = none := by simpa using h
      cases j with
      | zero => intro z; simp at z; subst z; simp [isBo] at hb
      | succ j => intro z; exact posBo_none h2 (j := j) (by simpa using z)
theorem any_isBo {i : Nat} : ∀ {rs : List RV} {j : Nat}, rs[j]? = some (.bo i) → rs.any (isBo i) = true
  | [], _, h => by simp at h
  | r :: rs, 0, h => by simp at h; subst h; simp [isBo]
  | r :: rs, j + 1, h => by simp only [List.any_cons, any_isBo (rs := rs) (j := j) (by simpa using h), Bool.or_true]
theorem uniqBo_eq : ∀ {rs : List RV} {i j k : Nat}, uniqBo rs = true → rs[j]? = some (.bo i) → rs[k]? = some (.bo i) → j = k
  | [], _, _, _, _, h, _ => by simp at h
  | r :: rs, i, 0, 0, _, _, _ => rfl
  | r :: rs, i, 0, k + 1, u, h1, h2 => by
    simp at h1; subst h1
    simp only [uniqBo, Bool.and_eq_true, Bool.not_eq_true'] at u
    rw [any_isBo (rs := rs) (j := k) (by simpa using h2)] at u
    exact nomatch u.1
  | r :: rs, i, j + 1, 0, u, h1, h2 => by
    simp at h2; subst h2
    simp only [uniqBo, Bool.and_eq_true, Bool.not_eq_true'] at u
    rw [any_isBo (rs := rs) (j := j) (by simpa using h1)] at u
    exact nomatch u.1
  | r :: rs, i, j + 1, k + 1, u, h1, h2 => by
    have u2 : uniqBo rs = true := by
      cases r with
      | bo m => simp only [uniqBo, Bool.and_eq_true] at u; exact u.2
      | _ => exact u
    rw [uniqBo_eq (rs := rs) (j := j) (k := k) u2 (by simpa using h1) (by simpa using h2)]
section
variable {K : Fg} {O O' O'' : List Addr} {Γ : List Sl} {σ : L2.St} {H H' : Hp} {rs : List RV} {vs : List V} {Δ Δ' : List Sl}
theorem argsSl_get : ∀ {rs : List RV} {Δ : List Sl} {j : Nat} {r : RV}, argsSl Γ rs = some Δ → rs[j]? = some r → ∃ s, argSl Γ r = some s ∧ Δ[j]? = some s
  | [], _, _, _, _, h => by simp at h
  | r :: rs, Δ, j, r', e, h => by
    unfold argsSl at e
    split at e
    · rename_i s t e1 e2
      cases e
      cases j with
      | zero => simp at h; subst h; exact ⟨s, e1, rfl⟩
      | succ j =>
        obtain ⟨s', h1, h2⟩ := argsSl_get (rs := rs) (j := j) e2 (by simpa using h)
        exact ⟨s', h1, by simpa using h2⟩
    · cases e
theorem argsSl_getD : ∀ {rs : List RV} {Δ : List Sl} {j : Nat} {s : Sl}, argsSl Γ rs = some Δ → Δ[j]? = some s → ∃ r, rs[j]? = some r ∧ argSl Γ r = some s
  | [], _, _, _, e, h => by cases e; simp at h
  | r :: rs, Δ, j, s', e, h => by
    unfold argsSl at e
    split at e
    · rename_i s t e1 e2
      cases e
      cases j with
      | zero => simp at h; subst h; exact ⟨r, rfl, e1⟩
      | succ j =>
        obtain ⟨r', h1, h2⟩ := argsSl_getD (rs := rs) (j := j) e2 (by simpa using h)
        exact ⟨r', by simpa using h1, h2⟩
    · cases e
theorem argsSl_len : ∀ {rs : List RV} {Δ : List Sl}, argsSl Γ rs = some Δ → Δ.length = rs.length
  | [], _, e => by cases e; rfl
  | r :: rs, Δ, e => by
    unfold argsSl at e
    split at e
    · rename_i s t e1 e2
      cases e
      simp [argsSl_len e2]
    · cases e
theorem RvAll.len : ∀ {rs : List RV} {vs : List V}, RvAll K O σ Γ H rs vs → vs.length = rs.length
  | [], _, h => by cases h; rfl
  | r :: rs, _, ⟨v, t, e1, _, ht⟩ => by subst e1; simp [RvAll.len ht]
theorem RvAll.at : ∀ {rs : List RV} {vs : List V} {j : Nat} {r : RV}, RvAll K O σ Γ H rs vs → rs[j]? = some r → ∃ v, vs[j]? = some v ∧ ∃ Γ1 H1 O1 H0, Rl K O1 Γ1 σ H1 ∧ RvAt K O1 σ Γ1 H1 H0 r v ∧ EStp Γ1 σ H1 O1 Γ H O
  | [], _, _, _, _, h => by simp at h
  | r :: rs, _, 0, _, ⟨v, t, e1, q, ht⟩, h => by simp at h; subst h e1; exact ⟨v, rfl, q⟩
  | r :: rs, _, j + 1, _, ⟨v, t, e1, _, ht⟩, h => by
    subst e1
    obtain ⟨v', h1, h2⟩ := RvAll.at (j := j) ht (by simpa using h)
    exact ⟨v', by simpa using h1, h2⟩
theorem map_some_get {vs : List V} {j : Nat} {v : V} (h : vs[j]? = some v) : (vs.map some)[j]? = some (some v) := by rw [List.getElem?_map, h]; rfl
/-- an owned argument is an owned slot of the caller's -/
theorem arg_own (R : Rl K O Γ σ H) (hA : RvAll K O σ Γ H rs vs) (hD : argsSl Γ rs = some Δ) {j : Nat} {ds : Ct} (h : Δ[j]? = some (.owc ds)) : ∃ i, rs[j]? = some (.bo i) ∧ Γ[i]? = some (.owc ds) ∧ ∃ v, vs[j]? = some v ∧ σ[i]? = some (some v) := by
  obtain ⟨r, e1, e2⟩ := argsSl_getD hD h
  cases r with
  | va d => cases e2
  | owc es => cases e2
  | bo i =>
    obtain ⟨v, e3, Γ1, H1, O1, H0, _, ⟨hv, _⟩, _⟩ := hA.at e1
    refine ⟨i, e1, ?_, v, e3, hv⟩
    simp only [argSl] at e2
    cases e4 : Γ[i]? with
    | none => rw [e4] at e2; cases e2
    | some s =>
      rw [e4] at e2
      cases s with
      | no => cases e2
      | _ => cases e2 <;> rfl
theorem arg_held (R : Rl K O Γ σ H) (hA : RvAll K O σ Γ H rs vs) (hD : argsSl Γ rs = some Δ) {j : Nat} {t : Sl} (h : Δ[j]? = some t) (ht : t.hd = true) : ∃ i, rs[j]? = some (.bo i) ∧ Γ[i]? = some t ∧ ∃ v, vs[j]? = some v ∧ σ[i]? = some (some v) := by
  obtain ⟨r, e1, e2⟩ := argsSl_getD hD h
  cases r with
  | va d => cases e2; cases ht
  | owc es => cases e2; cases ht
  | bo i =>
    obtain ⟨v, e3, Γ1, H1, O1, H0, _, ⟨hv, _⟩, _⟩ := hA.at e1
    refine ⟨i, e1, ?_, v, e3, hv⟩
    simp only [argSl] at e2
    cases e4 : Γ[i]? with
    | none => rw [e4] at e2; cases e2
    | some s =>
      rw [e4] at e2
      cases s with
      | no => cases e2
      | _ => cases e2 <;> rfl
/-- the arguments as the callee's slots -/
theorem args_rl (R : Rl K O Γ σ H) (hA : RvAll K O σ Γ H rs vs) (hD : argsSl Γ rs = some Δ) (hu : uniqBo rs = true) : Rl K O Δ (vs.map some) H where
  len := by rw [argsSl_len hD, List.length_map, hA.len]
  sl := fun j s h => by
    obtain ⟨r, e1, e2⟩ := argsSl_getD hD h
    obtain ⟨v, e3, Γ1, H1, O1, H0, R1, hv, S⟩ := hA.at e1
    refine ⟨some v, map_some_get e3, ?_⟩
    cases r with
    | va d =>
      cases e2
      exact ⟨v, rfl, At.mono (S.toStp.same R1) hv⟩
    | owc ds =>
      cases e2
      obtain ⟨a, us, e4, n, _, q, t, _⟩ := hv
      exact ⟨v, rfl, at_data.mpr ⟨a, us, e4, S.toStp.same R1 a _ (off_some.mpr ⟨n, q⟩), (t.mono off_less).mono (S.toStp.same R1)⟩⟩
    | bo i =>
      obtain ⟨hv, _⟩ := hv
      simp only [argSl] at e2
      cases e4 : Γ[i]? with
      | none => rw [e4] at e2; cases e2
      | some s' =>
        rw [e4] at e2
        obtain ⟨o, e5, q⟩ := R.sl i s' e4
        rw [hv] at e5; cases e5
        cases s' with
        | no => cases e2
        | va d => cases e2; exact q
        | owc ds => cases e2; exact q
        | bwc ds => cases e2; exact q
        | sc ns => cases e2; exact q
  ne := fun j k a ds t hjk h1 h2 ht h3 h4 => by
    obtain ⟨i1, g1, g2, v1, g3, g4⟩ := arg_own R hA hD h1
    obtain ⟨i2, k1, k2, v2, k3, k4⟩ := arg_held R hA hD h2 ht
    rw [map_some_get g3] at h3; cases h3
    rw [map_some_get k3] at h4; cases h4
    by_cases e : i1 = i2
    · subst e; exact hjk (uniqBo_eq hu g1 k1)
    · exact R.ne i1 i2 a ds t e g2 k2 ht g4 k4
  tr := R.tr
theorem args_mu (R : Rl K O Γ σ H) (hA : RvAll K O σ Γ H rs vs) (hD : argsSl Γ rs = some Δ) {b : Addr} (m : Mu Δ (vs.map some) b) : Mu Γ σ b := by
  obtain ⟨j, ds, h1, h2⟩ := m
  obtain ⟨i, g1, g2, v, g3, g4⟩ := arg_own R hA hD h1
  rw [map_some_get g3] at h2; cases h2
  exact ⟨i, ds, g2, g4⟩
/-- what the caller's slots are behind the call -/
theorem wb_own {i : Nat} {ds : Ct} (h : Γ[i]? = some (.owc ds)) : (wb rs Δ' 0 Γ)[i]? = some (match posBo i rs with
    | some j => (match Δ'[j]? with
      | some s => s
      | none => .owc ds)
    | none => .owc ds) := by
  rw [wb_get, h]
  simp only [Option.map_some, Nat.zero_add, wb1]
theorem wb_oth {i : Nat} {s : Sl} (h : Γ[i]? = some s) (n : ∀ ds, s ≠ .owc ds) : (wb rs Δ' 0 Γ)[i]? = some s := by
  rw [wb_get, h]
  cases s with
  | owc ds => exact absurd rfl (n ds)
  | _ => rfl
theorem wb_from {i : Nat} {s : Sl} (h : (wb rs Δ' 0 Γ)[i]? = some s) : ∃ s0, Γ[i]? = some s0 ∧ s = wb1 rs Δ' i s0 := by
  rw [wb_get] at h
  obtain ⟨s0, e1, e2⟩ := Option.map_eq_some_iff.mp h
  exact ⟨s0, e1, by rw [← e2, Nat.zero_add]⟩
theorem back_rl (R : Rl K O Γ σ H) (hA : RvAll K O σ Γ H rs vs) (hD : argsSl Γ rs = some Δ) (hu : uniqBo rs = true) (S : EStp Δ (vs.map some) H O Δ' H' O') (R' : Rl K O'' Δ' (vs.map some) H')
    (s2 : Same (off O H) (off O'' H')) (s3 : ∀ b, b ∈ O → ¬ Mu Δ (vs.map some) b → b ∈ O'') : Rl K O'' (wb rs Δ' 0 Γ) σ H' := by
  have passed : ∀ {i j : Nat} {ds : Ct}, Γ[i]? = some (.owc ds) → posBo i rs = some j → ∃ v s, σ[i]? = some (some v) ∧ vs[j]? = some v ∧ Δ[j]? = some (.owc ds) ∧ Δ'[j]? = some s := fun {i j ds} h e => by
    have g := posBo_get e
    obtain ⟨s, e1, e2⟩ := argsSl_get hD g
    have e3 : s = .owc ds := by simp only [argSl, h] at e1; exact (Option.some.inj e1).symm
    subst e3
    obtain ⟨v, e4, _, _, _, _, _, ⟨hv, _⟩, _⟩ := hA.at g
    rcases S.pres j ds e2 with ⟨es, e5⟩ | ⟨es, e5⟩
    · exact ⟨v, _, hv, e4, e2, e5⟩
    · exact ⟨v, _, hv, e4, e2, e5⟩
  have notp : ∀ {i : Nat} {ds : Ct} {a : Addr}, Γ[i]? = some (.owc ds) → σ[i]? = some (some (.ref a)) → posBo i rs = none → ¬ Mu Δ (vs.map some) a := fun {i ds a} h e n ⟨j, es, h1, h2⟩ => by
    obtain ⟨i', g1, g2, v, g3, g4⟩ := arg_own R hA hD h1
    rw [map_some_get g3] at h2; cases h2
    by_cases z : i = i'
    · subst z; exact posBo_none n g1
    · exact R.ne i i' a ds _ z h g2 rfl e g4
  refine ⟨by rw [wb_len]; exact R.len, fun i s h => ?_, fun i j a ds t hij h1 h2 ht h3 h4 => ?_, R'.tr⟩
  · obtain ⟨s0, e1, e2⟩ := wb_from h
    obtain ⟨o, e3, q⟩ := R.sl i s0 e1
    refine ⟨o, e3, ?_⟩
    cases s0 with
    | no => subst e2; trivial
    | va d => subst e2; obtain ⟨v, e4, q⟩ := q; exact ⟨v, e4, q.mono s2⟩
    | sc ns => subst e2; obtain ⟨a, e4, q⟩ := q; exact ⟨a, e4, s2.seq q⟩
    | bwc ds =>
      subst e2
      obtain ⟨a, us, e4, m, ha, t⟩ := q
      subst e4
      have nm : ¬ Mu Δ (vs.map some) a := fun ⟨j, es, h1, h2⟩ => by
        obtain ⟨i', g1, g2, v, g3, g4⟩ := arg_own R hA hD h1
        rw [map_some_get g3] at h2; cases h2
        by_cases z : i' = i
        · subst z; rw [e1] at g2; cases g2
        · exact R.ne i' i a es _ z g2 e1 rfl g4 e3
      exact ⟨a, us, rfl, s3 a m nm, S.keep a _ nm ha, t.mono s2⟩
    | owc ds =>
      simp only [wb1] at e2
      cases ep : posBo i rs with
      | none =>
        rw [ep] at e2; subst e2
        obtain ⟨a, us, e4, m, ha, t⟩ := q
        subst e4
        have nm := notp e1 e3 ep
        exact ⟨a, us, rfl, s3 a m nm, S.keep a _ nm ha, t.mono s2⟩
      | some j =>
        obtain ⟨v, s', g1, g2, g3, g4⟩ := passed e1 ep
        rw [ep] at e2
        simp only [g4] at e2
        subst e2
        rw [g1] at e3; cases e3
        obtain ⟨o', e5, q'⟩ := R'.sl j s g4
        rw [map_some_get g2] at e5; cases e5
        exact q'
  · obtain ⟨s0, e1, e2⟩ := wb_from h1
    obtain ⟨s1, e3, e4⟩ := wb_from h2
    have k0 : ∃ ys, s0 = .owc ys := by
      cases s0 with
      | owc ys => exact ⟨ys, rfl⟩
      | _ => cases e2
    obtain ⟨ys, rfl⟩ := k0
    have k1 : s1.hd = true := by
      cases s1 with
      | owc zs => rfl
      | bwc zs => rfl
      | _ => subst e4; cases ht
    exact R.ne i j a _ _ hij e1 e3 k1 h3 h4
theorem back_st (R : Rl K O Γ σ H) (hA : RvAll K O σ Γ H rs vs) (hD : argsSl Γ rs = some Δ) (S : EStp Δ (vs.map some) H O Δ' H' O') : EStp Γ σ H O (wb rs Δ' 0 Γ) H' O' := by
  refine ⟨⟨fun b o n e => S.keep b o (fun m => n (args_mu R hA hD m)) e, fun b ⟨i, ds, h1, h2⟩ => ?_, S.stay, S.grow, fun b h1 h2 => args_mu R hA hD (S.lose b h1 h2)⟩, S.sub, fun i ds h => ?_, fun i s h n => wb_oth h n, fun i ds h => ?_⟩
  · obtain ⟨s0, e1, e2⟩ := wb_from h1
    cases s0 with
    | owc ys => exact .inl ⟨i, ys, e1, h2⟩
    | _ => cases e2
  · rw [wb_own h]
    cases ep : posBo i rs with
    | none => exact .inl ⟨ds, rfl⟩
    | some j =>
      obtain ⟨s, e1, e2⟩ := argsSl_get hD (posBo_get ep)
      have e3 : s = .owc ds := by simp only [argSl, h] at e1; exact (Option.some.inj e1).symm
      subst e3
      rcases S.pres j ds e2 with ⟨es, e5⟩ | ⟨es, e5⟩
      · simp only [e5]; exact .inl ⟨es, rfl⟩
      · simp only [e5]; exact .inr ⟨es, rfl⟩
  · obtain ⟨s0, e1, e2⟩ := wb_from h
    cases s0 with
    | owc ys =>
      exfalso
      simp only [wb1] at e2
      split at e2
      · rename_i j hj
        split at e2
        · rename_i s hs
          subst e2
          obtain ⟨s', e3, e4⟩ := argsSl_get hD (posBo_get hj)
          have e5 : s' = .owc ys := by simp only [argSl, e1] at e3; exact (Option.some.inj e3).symm
          subst e5
          have e6 := S.bwb j ds hs
          rw [e4] at e6; cases e6
        · cases e2
      · cases e2
    | _ => rw [e1, e2] <;> rfl
end
section
variable {X : Cx} {XR : XRel} {W : WX} {k : Nat} {f : Addr} {fd : FuncData} {ps : List Str} {x : Str} {p pos : Pos} {e : Expr} {es : List Expr} {ms : AM} {F : DM} {n : Nat} {CX' : CXT}
theorem call_tE {K : Fg} {σ : L2.St} {H : Hp} {Q : VK} (hn : ∀ Γ rs Γ', ms Γ = .ok rs Γ' → rs.length = n) (h : tE K XR W (mCall F ms) σ H Q) : tCallS (spM K XR F n) (WE W) (tA K XR W ms) σ H Q := by
  obtain ⟨O, Γ, R, P⟩ := h
  refine ⟨O, Γ, R, ?_⟩
  have P' := P.bind R
  cases hms : ms Γ with
  | no => rw [hms] at P'; exact P'.elim
  | ex c pl Γ' => rw [hms] at P'; exact P'
  | ok rs Γ1 =>
    have hl := hn Γ rs Γ1 hms
    rw [hms] at P'
    intro H1 O1 R1 S1 vs hvs
    have P1 := P' H1 O1 R1 S1
    dsimp only at P1
    cases hD : argsSl Γ1 rs with
    | none => rw [hD] at P1; exact P1.elim
    | some Δ =>
      rw [hD] at P1
      by_cases hu : uniqBo rs = true
      · simp only [hu, if_true] at P1
        refine ⟨by rw [hvs.len, hl], O1, Δ, args_rl R1 hvs hD hu, ?_⟩
        cases hF : F Δ with
        | no => rw [hF] at P1; exact P1.elim
        | ex c pl Δ' =>
          rw [hF] at P1
          intro cls d H' O' xr R' S'
          exact P1 cls d H' O' xr (back_rl R1 hvs hD hu S' R' (S'.toStp.same (args_rl R1 hvs hD hu)) fun b hb n => Classical.byContradiction fun z => n (S'.lose b hb z)) (back_st R1 hvs hD S')
        | ok r Δ' =>
          rw [hF] at P1
          intro H' O' R' S' v hv
          have R2 := back_rl R1 hvs hD hu S' R' (S'.toStp.same (args_rl R1 hvs hD hu)) fun b hb n => Classical.byContradiction fun z => n (S'.lose b hb z)
          have S2 := back_st R1 hvs hD S'
          cases r with
          | va d => exact P1 H' O' R2 S2 v hv
          | owc ds =>
            obtain ⟨a, us, e1, n1, n2, q, t, R3⟩ := hv
            refine P1 H' O' R2 S2 v ⟨a, us, e1, n1, none_back S1.toStp a n2, q, t, back_rl R1 hvs hD hu S' R3 ?_ fun b hb n => List.mem_cons_of_mem _ (Classical.byContradiction fun z => n (S'.lose b hb z))⟩
            intro b o e
            obtain ⟨z1, z2⟩ := off_some.mp (S'.toStp.same (args_rl R1 hvs hD hu) b o e)
            refine off_some.mpr ⟨fun m => ?_, z2⟩
            rcases List.mem_cons.mp m with m | m
            · subst m
              rw [(off_some.mp e).2] at n2; cases n2
            · exact z1 m
          | bo i => exact P1.elim
      · simp only [hu] at P1
        exact P1.elim
/-- the number of arguments -/
def ArgN (ms : AM) (n : Nat) : Prop := ∀ Γ rs Γ', ms Γ = .ok rs Γ' → rs.length = n
theorem argN_nil : ArgN mNil 0 := fun Γ rs Γ' h => by cases h; rfl
theorem argN_cons {m : EM} {ms : AM} {n : Nat} (h : ArgN ms n) : ArgN (mCons m ms) (n + 1) := fun Γ rs Γ' e => by
  unfold mCons at e
  cases e1 : m Γ with
  | ok r Γ1 =>
    rw [e1] at e
    simp only [Rs.bind] at e
    cases e2 : ms Γ1 with
    | ok rs' Γ2 => rw [e2] at e; cases e; simp [h _ _ _ e2]
    | ex c pl Γ2 => rw [e2] at e; cases e
    | no => rw [e2] at e; cases e
  | ex c pl Γ1 => rw [e1] at e; cases e
  | no => rw [e1] at e; cases e
/-- a call of a def that keeps its mirror: it may raise -/
theorem me_callX (G : FnOk X.prog X.w X.KW X.mg X.base (L2.CX X.prog X.w) k f fd ps (spM X.KW XR F n)) (hr : Room k X.A) (hg : Gl X x) (hm : X.mg x = some (.ref f)) (hk : PySem.W.keepIn X.KW (.ref f) = true) (hb : Binds X.KW fd ps []) (tk : Takes X W)
    (hn : ArgN ms n) (ha : MA X XR W (e :: es) ms) (hdb : (x == ("__debug__" : Str)) = false := by decide) (he : starEach (e :: es) X.env = (false, eval e X.env) :: starEach es X.env := by rfl) (hpl : (backTo pos (starEach es X.env)).any (·.1) = false := by rfl) :
    ME X XR W (.Call (.Name x p) (e :: es) [] pos) (mCall F ms) := (pe_callS G hr hg hm hk hb (fun σ => passAt tk σ) ha hdb he hpl).imp fun σ H Q h => call_tE hn h
end
end Mir

set_option Elab.async false
set_option autoImplicit false
set_option linter.all false
set_option maxRecDepth 100000
set_option maxHeartbeats 4000000
namespace Mir
open PySem PySem.Spec PyProof.Rows L2

/-! ### what a loop or a comprehension walks -/
/-- J yields the data ds while G holds -/
structure Walk (K : Fg) (J : It) (ds : List D) (G : List Addr → List Sl → L2.St → Hp → Prop) : Prop where
  go : ∀ i O Γ σ H d, ds[i]? = some d → Rl K O Γ σ H → G O Γ σ H → J.go i H
  yld : ∀ i O Γ σ H d x H', ds[i]? = some d → Rl K O Γ σ H → G O Γ σ H → J.yld i H x H' → Same H H' ∧ At K (off O H') d x
  stop : ∀ O Γ σ H, Rl K O Γ σ H → G O Γ σ H → J.stop ds.length H
  stb : ∀ O Γ σ H O' Γ' σ' H', G O Γ σ H → Same (off O H) (off O' H') → (∀ (i : Nat) (es : Ct), Γ[i]? = some (Sl.bwc es) → Γ'[i]? = some (Sl.bwc es) ∧ σ'[i]? = σ[i]?) → G O' Γ' σ' H'
def bor (b : Option Nat) (ds : List D) (Γ : List Sl) : List Sl := match b with
  | some i => Γ.set i (.bw ds)
  | none => Γ
def unb (b : Option Nat) (ds : List D) (Γ : List Sl) : List Sl := match b with
  | some i => Γ.set i (.ow ds)
  | none => Γ
abbrev IM := List Sl → Rs (List D × Option Nat)
/-- b is an owned slot with these items -/
def BorOk (Γ : List Sl) (p : List D × Option Nat) : Prop := ∀ i, p.2 = some i → Γ[i]? = some (.ow p.1)
def tI (K : Fg) (XR : XRel) (W : WX) (m : IM) : TI := fun σ H R => ∃ O Γ, Rl K O Γ σ H ∧ Post K XR W σ Γ H O (fun p Γ' H' O' => BorOk Γ' p → ∀ J G, Walk K J p.1 G → G O' (bor p.2 p.1 Γ') σ H' → R J H') (m Γ)
def MI (X : Cx) (XR : XRel) (W : WX) (tg iter : Expr) (m : IM) : Prop := PI X tg iter (tI X.KW XR W m)
theorem _root_.L2.PI.imp {X : Cx} {tg e : Expr} {t t' : TI} (h : PI X tg e t) (k : ∀ σ H Q, t' σ H Q → t σ H Q) : PI X tg e t' := ⟨fun pins s σ H Q I q => h.run pins s σ H Q I (k σ H Q q)⟩
section
variable {K : Fg} {a : Addr} {vs : List V} {ds : List D} {O : List Addr} {Γ : List Sl} {σ : L2.St} {H H' : Hp}
/-- a list that is data -/
def GL (K : Fg) (a : Addr) (ds : List D) : List Addr → List Sl → L2.St → Hp → Prop := fun O _ _ H => ∃ vs, SqL K (off O H) a vs ∧ AtL K (off O H) ds vs
theorem walk_list : Walk K (Itl K a) ds (GL K a ds) where
  go := fun i O Γ σ H d e R ⟨vs, h, t⟩ => by
    obtain ⟨v, e1, _⟩ := t.get e
    exact ⟨vs, v, off_le.seq h, e1⟩
  yld := fun i O Γ σ H d x H' e R ⟨vs, h, t⟩ ⟨e1, y⟩ => by
    subst e1
    obtain ⟨v, e2, q⟩ := t.get e
    have e3 := y vs (off_le.seq h)
    rw [e2] at e3; cases e3
    exact ⟨fun _ _ z => z, q⟩
  stop := fun O Γ σ H R ⟨vs, h, t⟩ => ⟨vs, off_le.seq h, by rw [t.length]; exact Nat.le_refl _⟩
  stb := fun O Γ σ H O' Γ' σ' H' ⟨vs, h, t⟩ e _ => ⟨vs, e.seq h, t.mono e⟩
def GT (K : Fg) (a : Addr) (ds : List D) : List Addr → List Sl → L2.St → Hp → Prop := fun O _ _ H => ∃ vs, SqT K (off O H) a vs ∧ AtL K (off O H) ds vs
theorem walk_tup : Walk K (Itt K a) ds (GT K a ds) where
  go := fun i O Γ σ H d e R ⟨vs, h, t⟩ => by
    obtain ⟨v, e1, _⟩ := t.get e
    exact ⟨vs, v, Same.seqT off_le h, e1⟩
  yld := fun i O Γ σ H d x H' e R ⟨vs, h, t⟩ ⟨e1, y⟩ => by
    subst e1
    obtain ⟨v, e2, q⟩ := t.get e
    have e3 := y vs (Same.seqT off_le h)
    rw [e2] at e3; cases e3
    exact ⟨fun _ _ z => z, q⟩
  stop := fun O Γ σ H R ⟨vs, h, t⟩ => ⟨vs, Same.seqT off_le h, by rw [t.length]; exact Nat.le_refl _⟩
  stb := fun O Γ σ H O' Γ' σ' H' ⟨vs, h, t⟩ e _ => ⟨vs, Same.seqT e h, t.mono e⟩
/-- a lent slot -/
def GB (i : Nat) (a : Addr) (ds : List D) : List Addr → List Sl → L2.St → Hp → Prop := fun _ Γ σ _ => Γ[i]? = some (.bw ds) ∧ σ[i]? = some (some (.ref a))
theorem GB.list {i : Nat} (R : Rl K O Γ σ H) (g : GB i a ds O Γ σ H) : ∃ vs, H a = some (.lst vs) ∧ AtL K (off O H) ds vs := by
  obtain ⟨o, e1, a', vs, e2, m, h, t⟩ := R.sl i _ g.1
  rw [g.2] at e1; cases e1; cases e2
  exact ⟨vs, h, t⟩
theorem walk_bor {i : Nat} : Walk K (Itl K a) ds (GB i a ds) where
  go := fun j O Γ σ H d e R g => by
    obtain ⟨vs, h, t⟩ := g.list R
    obtain ⟨v, e1, _⟩ := t.get e
    exact ⟨vs, v, SqL.of h, e1⟩
  yld := fun j O Γ σ H d x H' e R g ⟨e1, y⟩ => by
    subst e1
    obtain ⟨vs, h, t⟩ := g.list R
    obtain ⟨v, e2, q⟩ := t.get e
    have e3 := y vs (SqL.of h)
    rw [e2] at e3; cases e3
    exact ⟨fun _ _ z => z, q⟩
  stop := fun O Γ σ H R g => by
    obtain ⟨vs, h, t⟩ := g.list R
    exact ⟨vs, SqL.of h, by rw [t.length]; exact Nat.le_refl _⟩
  stb := fun O Γ σ H O' Γ' σ' H' ⟨g1, g2⟩ _ k => by
    obtain ⟨h1, h2⟩ := k i ⟨.lst, ds⟩ g1
    exact ⟨h1, by rw [h2]; exact g2⟩
def G0 : List Addr → List Sl → L2.St → Hp → Prop := fun _ _ _ _ => True
def rngD (lo : Int) (n : Nat) : List D := (List.range n).map fun (k : Nat) => D.int (lo + (k : Int))
theorem rngD_get {lo : Int} {n i : Nat} : (rngD lo n)[i]? = if i < n then some (D.int (lo + i)) else none := by
  unfold rngD
  rw [List.getElem?_map]
  by_cases h : i < n
  · rw [List.getElem?_range h, if_pos h] <;> rfl
  · rw [List.getElem?_eq_none (by simpa using h), if_neg h] <;> rfl
theorem walk_rng {lo : Int} {n : Nat} : Walk K (Itr lo n) (rngD lo n) G0 where
  go := fun i O Γ σ H d e R _ => by
    rw [rngD_get] at e
    split at e
    · assumption
    · cases e
  yld := fun i O Γ σ H d x H' e R _ ⟨e1, y⟩ => by
    subst e1 y
    rw [rngD_get] at e
    split at e
    · cases e; exact ⟨fun _ _ z => z, rfl⟩
    · cases e
  stop := fun O Γ σ H R _ => by show n ≤ (rngD lo n).length; simp [rngD]
  stb := fun _ _ _ _ _ _ _ _ _ _ _ => trivial
def strD (x : List Nat) : List D := x.map fun c => D.str [c]
theorem walk_str {x : List Nat} : Walk K (Its (toS x)) (strD x) G0 where
  go := fun i O Γ σ H d e R _ => by
    show i < (toS x).cps.size
    unfold strD at e
    rw [List.getElem?_map] at e
    obtain ⟨c, e1, _⟩ := Option.map_eq_some_iff.mp e
    simpa using (List.getElem?_eq_some_iff.mp e1).1
  yld := fun i O Γ σ H d x' H' e R _ ⟨e1, c, y1, y2⟩ => by
    subst e1 y2
    unfold strD at e
    rw [List.getElem?_map] at e
    obtain ⟨c', e2, e3⟩ := Option.map_eq_some_iff.mp e
    have e4 : x[i]? = some c := by simpa using y1
    rw [e2] at e4; cases e4; subst e3
    exact ⟨fun _ _ z => z, rfl⟩
  stop := fun O Γ σ H R _ => by show (toS x).cps.size ≤ _; simp [strD]
  stb := fun _ _ _ _ _ _ _ _ _ _ _ => trivial
end
/-- a list, a tuple, a text -/
def iAny (K : Fg) (te : TE) : TI := fun σ H R => te σ H fun x H1 => (∃ a, x = .ref a ∧ (∃ xs, SqL K H1 a xs) ∧ R (Itl K a) H1) ∨ (∃ a, x = .ref a ∧ (∃ xs, SqT K H1 a xs) ∧ R (Itt K a) H1) ∨ ∃ z, x = .str z ∧ R (Its z) H1
section
variable {X : Cx} {XR : XRel} {W : WX} {tg e e2 : Expr} {m m2 : EM} {p pos : Pos}
theorem pi_any {te : TE} (he : PE X e te) : PI X tg e (iAny X.KW te) := by
  refine ⟨fun pins s σ H R I h => ?_⟩
  refine thn (he.run pins s σ H _ I h) fun v s1 ⟨x, H1, I1, r1, q1⟩ => ?_
  rcases q1 with ⟨a, e, ⟨xs, hq⟩, q⟩ | ⟨a, e, ⟨xs, hq⟩, q⟩ | ⟨z, e, q⟩
  · subst e
    cases r1
    obtain ⟨its, rv, p, hz⟩ := I1.list hq
    refine wpAny_pyIter_list p.isList ?_
    refine ⟨s1.heap.objs.size, [s1.heap.objs.size], _, _, H1, rfl, I1.kept (t' := s1.toks) fun b o e => Heap.get?_push_of_some _ e, turn_list a _, ⟨_, Heap.get?_push_size _ rfl, rfl, rfl⟩, fun b hb => ?_, q⟩
    have e : b = s1.heap.objs.size := by simpa using hb
    subst e
    exact I1.fpOk (Nat.le_refl _) (I1.hok.fresh (Nat.le_refl _))
  · subst e
    cases r1
    obtain ⟨its, rv, p, hz⟩ := I1.tuple hq
    refine wpAny_pyIter_tuple (show s1.heap.IsTuple a its.toArray from p) ?_
    refine ⟨s1.heap.objs.size, [s1.heap.objs.size], _, _, H1, rfl, I1.kept (t' := s1.toks) fun b o e => Heap.get?_push_of_some _ e, turn_tuple a _, ⟨_, Heap.get?_push_size _ rfl, rfl, rfl⟩, fun b hb => ?_, q⟩
    have e : b = s1.heap.objs.size := by simpa using hb
    subst e
    exact I1.fpOk (Nat.le_refl _) (I1.hok.fresh (Nat.le_refl _))
  · subst e
    obtain ⟨t, rfl⟩ := r1
    cases ha : z.cps.all (· < 128)
    · exact wpAny_pyIter_wide ha (pi_one (tk := s1.toks) I1 _ (turn_str _ z t "str_iterator" (.inr rfl)) ⟨_, Heap.get?_push_size _ rfl, rfl, rfl⟩ q)
    · exact wpAny_pyIter_ascii ha (pi_one (tk := s1.toks) I1 _ (turn_str _ z t "str_ascii_iterator" (.inl rfl)) ⟨_, Heap.get?_push_size _ rfl, rfl, rfl⟩ q)
def itemsD : D → Option (List D)
  | .lst ds => some ds
  | .tup ds => some ds
  | .str x => some (strD x)
  | _ => none
def mSeq (m : EM) : IM := fun Γ => (m Γ).bind fun r Γ1 => match r with
  | .va d => (match itemsD d with
    | some ds => .ok (ds, none) Γ1
    | none => .no)
  | .owc ⟨.lst, ds⟩ => .ok (ds, none) Γ1
  | .bo i => match Γ1[i]? with
    | some (.owc ⟨.lst, ds⟩) => .ok (ds, some i) Γ1
    | some (.bwc ⟨.lst, ds⟩) => .ok (ds, none) Γ1
    | some (.sc ns) => .ok (ns.map .int, none) Γ1
    | _ => .no
  | _ => .no
theorem mi_seq (h : ME X XR W e m) : MI X XR W tg e (mSeq m) := (pi_any h).imp fun σ H R' ⟨O, Γ, R, P⟩ => by
  refine ⟨O, Γ, R, (P.bind R).imp fun r Γ1 H1 O1 R1 S1 P1 v hv => ?_⟩
  cases r with
  | va d =>
    cases d with
    | lst ds =>
      obtain ⟨a, vs, rfl, q, t⟩ := hv
      exact .inl ⟨a, rfl, ⟨vs, SqL.of (off_le _ _ q)⟩, (P1 H1 O1 R1 EStp.refl) (fun j ej => by cases ej) (Itl X.KW a) _ walk_list ⟨vs, SqL.of q, t⟩⟩
    | tup ds =>
      obtain ⟨a, vs, rfl, q, t⟩ := hv
      exact .inr (.inl ⟨a, rfl, ⟨vs, Same.seqT off_le q⟩, (P1 H1 O1 R1 EStp.refl) (fun j ej => by cases ej) (Itt X.KW a) _ walk_tup ⟨vs, q, t⟩⟩)
    | str z => exact .inr (.inr ⟨toS z, hv, (P1 H1 O1 R1 EStp.refl) (fun j ej => by cases ej) (Its (toS z)) _ walk_str trivial⟩)
    | _ => exact P1.elim
  | owc tt =>
    obtain ⟨cc, ds⟩ := tt
    cases cc with
    | lst =>
      obtain ⟨a, vs, rfl, n, _, q, t, _⟩ := hv
      exact .inl ⟨a, rfl, ⟨vs, SqL.of q⟩, (P1 H1 O1 R1 EStp.refl) (fun j ej => by cases ej) (Itl X.KW a) _ walk_list ⟨vs, SqL.of (off_some.mpr ⟨n, q⟩), t.mono off_less⟩⟩
    | _ => exact P1.elim
  | bo i =>
    obtain ⟨e1, _⟩ := hv
    cases e2 : Γ1[i]? with
    | none => simp only [e2] at P1; exact P1.elim
    | some s =>
      simp only [e2] at P1
      obtain ⟨o, e3, q⟩ := R1.sl i s e2
      rw [e1] at e3; cases e3
      cases s with
      | owc tt =>
        obtain ⟨cc, ds⟩ := tt
        cases cc with
        | lst =>
          obtain ⟨a, vs, e4, m', q, t⟩ := q
          cases e4
          exact .inl ⟨a, rfl, ⟨vs, SqL.of q⟩, (P1 H1 O1 R1 EStp.refl) (fun j ej => by cases ej; exact e2) (Itl X.KW a) _ walk_bor ⟨get_set_eq e2, e1⟩⟩
        | _ => exact P1.elim
      | bwc tt =>
        obtain ⟨cc, bwds⟩ := tt
        cases cc with
        | lst =>
          obtain ⟨a, vs, e4, m', q, t⟩ := q
          cases e4
          exact .inl ⟨a, rfl, ⟨vs, SqL.of q⟩, (P1 H1 O1 R1 EStp.refl) (fun j ej => by cases ej) (Itl X.KW a) _ walk_bor ⟨e2, e1⟩⟩
        | _ => exact P1.elim
      | sc ns =>
        obtain ⟨a, e4, q⟩ := q
        cases e4
        exact .inl ⟨a, rfl, ⟨_, off_le.seq q⟩, (P1 H1 O1 R1 EStp.refl) (fun j ej => by cases ej) (Itl X.KW a) _ walk_list ⟨_, q, AtL.ints ns⟩⟩
      | _ => exact P1.elim
/-- range(n), range(a, b) -/
def mRng1 (m : EM) : IM := fun Γ => (m Γ).bind fun r Γ1 => match r with
  | .va (.int n) => if n < 4611686018427387904 ∧ -4611686018427387904 ≤ n then .ok (rngD 0 n.toNat, none) Γ1 else .no
  | _ => .no
theorem mi_rng1 (hg : Gl X "range") (hm : X.mg "range" = none) (h : ME X XR W e m) (hs : starEach [e] X.env = [(false, eval e X.env)] := by rfl) (he : starEach [e] X.env = (false, eval e X.env) :: starEach [] X.env := by rfl) : MI X XR W tg (.Call (.Name "range" p) [e] [] pos) (mRng1 m) :=
  (pi_range1 hg hm (pa_cons h pa_nil he) hs).imp fun σ H R' ⟨O, Γ, R, P⟩ => by
    refine ⟨O, Γ, R, (P.bind R).imp fun r Γ1 H1 O1 R1 S1 P1 v hv => ?_⟩
    cases r with
    | va d =>
      cases d with
      | int n =>
        simp only at P1
        split at P1
        · rename_i hz
          exact ⟨n, by rw [show v = V.int n from hv], by omega, by omega, (P1 H1 O1 R1 EStp.refl) (fun j ej => by cases ej) _ _ walk_rng trivial⟩
        · exact P1.elim
      | _ => exact P1.elim
    | _ => exact P1.elim
end

/-! ### targets -/
/-- what is stored at a slot: not at one that is owned and kept for the caller, not at one that is lent -/
abbrev GM := D → List Sl → Option (List Sl)
structure SStp (P : List Nat) (Γ : List Sl) (σ : L2.St) (H : Hp) (O : List Addr) (Γ' : List Sl) (σ' : L2.St) (H' : Hp) (O' : List Addr) : Prop extends Stp Γ σ H O Γ' σ' H' O' where
  par : ∀ (i : Nat), i ∈ P → σ'[i]? = σ[i]? ∧ ((∀ (ds : Ct), Γ[i]? = some (Sl.owc ds) → (∃ es, Γ'[i]? = some (Sl.owc es)) ∨ ∃ es : Ct, Γ'[i]? = some (Sl.va es.data)) ∧ (∀ (s : Sl), Γ[i]? = some s → (∀ ds, s ≠ Sl.owc ds) → Γ'[i]? = some s))
  bwk : ∀ (i : Nat) (ds : Ct), Γ[i]? = some (Sl.bwc ds) → Γ'[i]? = some (Sl.bwc ds) ∧ σ'[i]? = σ[i]?
  bwb : ∀ (i : Nat) (ds : Ct), Γ'[i]? = some (Sl.bwc ds) → Γ[i]? = some (Sl.bwc ds)
section
variable {K : Fg} {P : List Nat} {O O1 O2 O' : List Addr} {Γ Γ1 Γ2 Γ' : List Sl} {σ σ1 σ2 σ' : L2.St} {H H1 H2 H' : Hp}
theorem SStp.refl : SStp P Γ σ H O Γ σ H O := ⟨Stp.refl, fun i _ => ⟨rfl, fun ds h => .inl ⟨ds, h⟩, fun s h _ => h⟩, fun i ds h => ⟨h, rfl⟩, fun i ds h => h⟩
theorem EStp.s (S : EStp Γ σ H O Γ' H' O') : SStp P Γ σ H O Γ' σ H' O' := ⟨S.toStp, fun i _ => ⟨rfl, S.pres i, S.oth i⟩, fun i ds h => ⟨S.oth i _ h (fun _ z => by cases z), rfl⟩, S.bwb⟩
theorem SStp.trans (R : Rl K O Γ σ H) (a : SStp P Γ σ H O Γ1 σ1 H1 O1) (b : SStp P Γ1 σ1 H1 O1 Γ2 σ2 H2 O2) : SStp P Γ σ H O Γ2 σ2 H2 O2 where
  toStp := a.toStp.trans R b.toStp
  par := fun i h => by
    obtain ⟨a1, a2, a3⟩ := a.par i h
    obtain ⟨b1, b2, b3⟩ := b.par i h
    refine ⟨b1.trans a1, fun ds e => ?_, fun s e n => b3 s (a3 s e n) n⟩
    rcases a2 ds e with ⟨es, q⟩ | ⟨es, q⟩
    · exact b2 es q
    · exact .inr ⟨es, b3 _ q fun _ z => nomatch z⟩
  bwk := fun i ds h => by
    obtain ⟨a1, a2⟩ := a.bwk i ds h
    obtain ⟨b1, b2⟩ := b.bwk i ds a1
    exact ⟨b1, b2.trans a2⟩
  bwb := fun i ds h => a.bwb i ds (b.bwb i ds h)
/-- a slot that may be stored -/
def stOk (Γ : List Sl) (i : Nat) : Bool := match Γ[i]? with
  | some (.bwc _) => false
  | some _ => true
  | none => false
def put (i : Nat) (s : Sl) (Γ : List Sl) : Option (List Sl) := if stOk Γ i then some (Γ.set i s) else none
theorem Rl.put {i : Nat} {s : Sl} {v : V} (R : Rl K O Γ σ H) (hp : i ∉ P) (e : Mir.put i s Γ = some Γ') (hs : ∀ ds, s ≠ .owc ds ∧ s ≠ .bwc ds) (h : SlAt K O H s (some v)) : Rl K O Γ' (σ.set i (some v)) H ∧ SStp P Γ σ H O Γ' (σ.set i (some v)) H O := by
  unfold Mir.put at e
  split at e
  · rename_i hk
    cases e
    have hi : i < Γ.length := by
      unfold stOk at hk
      cases z : Γ[i]? with
      | none => rw [z] at hk; cases hk
      | some t => exact (List.getElem?_eq_some_iff.mp z).1
    have hiσ : i < σ.length := by rw [← R.len]; exact hi
    have nb : ∀ ds, Γ[i]? ≠ some (.bwc ds) := fun ds z => by unfold stOk at hk; rw [z] at hk; cases hk
    have mus : ∀ b, Mu (Γ.set i s) (σ.set i (some v)) b → Mu Γ σ b := fun b ⟨j, es, e3, e4⟩ => by
      by_cases hj : i = j
      · subst hj
        rw [List.getElem?_set_self hi] at e3
        exact absurd (Option.some.inj e3) (hs es).1
      · rw [get_set_ne hj] at e3 e4; exact ⟨j, es, e3, e4⟩
    refine ⟨⟨by rw [List.length_set, List.length_set]; exact R.len, fun j t e3 => ?_, fun j k a ds t hjk e3 e4 et e5 e6 => ?_, R.tr⟩, ⟨⟨fun b o _ e => e, fun b m => .inl (mus b m), fun b e => e, fun b m => .inl m, fun b m n => absurd m n⟩, fun j hj => ?_, fun j ds e3 => ?_, fun j ds e3 => ?_⟩⟩
    · by_cases hj : i = j
      · subst hj
        rw [List.getElem?_set_self hi] at e3; cases e3
        exact ⟨some v, List.getElem?_set_self hiσ, h⟩
      · rw [get_set_ne hj] at e3 ⊢; exact R.sl j t e3
    · by_cases hj : i = j
      · subst hj
        rw [List.getElem?_set_self hi] at e3
        exact absurd (Option.some.inj e3) (hs ds).1
      · by_cases hk2 : i = k
        · subst hk2
          rw [List.getElem?_set_self hi] at e4
          have e7 := Option.some.inj e4
          subst e7
          cases s with
          | owc es => exact absurd rfl (hs es).1
          | bwc es => exact absurd rfl (hs es).2
          | _ => cases et
        · rw [get_set_ne hj] at e3 e5; rw [get_set_ne hk2] at e4 e6; exact R.ne j k a ds t hjk e3 e4 et e5 e6
    · have hne : i ≠ j := fun z => hp (z ▸ hj)
      rw [get_set_ne hne, get_set_ne hne]
      exact ⟨rfl, fun ds h => .inl ⟨ds, h⟩, fun s h _ => h⟩
    · have hne : i ≠ j := fun z => nb ds (z ▸ e3)
      rw [get_set_ne hne, get_set_ne hne]
      exact ⟨e3, rfl⟩
    · by_cases hj : i = j
      · subst hj
        rw [List.getElem?_set_self hi] at e3
        exact absurd (Option.some.inj e3) (hs ds).2
      · rw [get_set_ne hj] at e3; exact e3
  · cases e
end
/-- but for the slots of T all is as it was -/
structure Tch (T : List Nat) (Γ : List Sl) (σ : L2.St) (Γ' : List Sl) (σ' : L2.St) : Prop where
  len : Γ'.length = Γ.length
  out : ∀ j, j ∉ T → Γ'[j]? = Γ[j]? ∧ σ'[j]? = σ[j]?
def gM (K : Fg) (P T : List Nat) (f : GM) : TG := fun v σ H Q => ∃ O Γ d Γ', Rl K O Γ σ H ∧ At K (off O H) d v ∧ f d Γ = some Γ' ∧ ∀ σ', Rl K O Γ' σ' H → SStp P Γ σ H O Γ' σ' H O → Tch T Γ σ Γ' σ' → Q σ' H
def MG (X : Cx) (P T : List Nat) (t : Expr) (f : GM) : Prop := PG X t (gM X.KW P T f)
theorem _root_.L2.PG.imp {X : Cx} {e : Expr} {t t' : TG} (h : PG X e t) (k : ∀ v σ H Q, t' v σ H Q → t v σ H Q) : PG X e t' := ⟨fun pins s σ H v u Q I r q => h.run pins s σ H v u Q I r (k v σ H Q q)⟩
def gN (i : Nat) : GM := fun d Γ => put i (.va d) Γ
theorem mg_name {X : Cx} {P : List Nat} {i : Nat} {x : Str} {pos : Pos} (hN : X.N.Nodup) (hi : X.N[i]? = some x) (hx : Loc X.env.scope x) (hp : i ∉ P := by decide) (hf : X.fn x = true ∨ X.env.scope.names.lookup x = some .local := by first | exact .inl rfl | exact .inr rfl | assumption) : MG X P [i] (.Name x pos) (gN i) :=
  (pg_name hN hi hx hf).imp fun v σ H Q ⟨O, Γ, d, Γ', R, h, e, q⟩ => by
    obtain ⟨R', S'⟩ := R.put (v := v) hp e (fun ds => ⟨(fun z => by cases z), (fun z => by cases z)⟩) ⟨v, rfl, h⟩
    refine q _ R' S' ⟨?_, fun j hj => ?_⟩
    · unfold gN put at e
      split at e
      · cases e; rw [List.length_set]
      · cases e
    have hne : i ≠ j := fun z => hj (by simp [z])
    unfold gN put at e
    split at e
    · cases e; exact ⟨get_set_ne hne, get_set_ne hne⟩
    · cases e
/-- (a, b, ..) -/
abbrev GMs := List D → List Sl → Option (List Sl)
theorem _root_.L2.PGs.imp {X : Cx} {e : List Expr} {t t' : TGs} (h : PGs X e t) (k : ∀ v σ H Q, t' v σ H Q → t v σ H Q) : PGs X e t' := ⟨fun pins s σ H v u Q I r q => h.run pins s σ H v u Q I r (k v σ H Q q)⟩
def gsNil : GMs := fun ds Γ => match ds with
  | [] => some Γ
  | _ => none
def gsCons (f : GM) (g : GMs) : GMs := fun ds Γ => match ds with
  | d :: r => (f d Γ).bind fun Γ1 => g r Γ1
  | _ => none
section
variable {X : Cx} {P T T' : List Nat} {t : Expr} {ts : List Expr} {f : GM} {g : GMs} {pos : Pos} {k : Nat}
def gT (n : Nat) (g : GMs) : GM := fun d Γ => match d with
  | .tup ds => if ds.length = n then g ds Γ else none
  | _ => none
end
end Mir

set_option Elab.async false
set_option autoImplicit false
set_option linter.all false
set_option maxRecDepth 100000
set_option maxHeartbeats 4000000
namespace Mir
open PySem PySem.Spec PyProof.Rows L2

section
variable {K : Fg} {P : List Nat} {O O0 O1 O2 O' O'' : List Addr} {Γ Γ0 Γ1 Γ2 Γ' : List Sl} {σ σ0 σ1 σ2 σ' : L2.St} {H H0 H1 H2 H' H'' : Hp} {b : Option Nat} {ds : List D}
/-! ### lent, given back -/
theorem Rl.lend {i : Nat} (R : Rl K O Γ σ H) (h : Γ[i]? = some (.ow ds)) : Rl K O (Γ.set i (.bw ds)) σ H ∧ Stp Γ σ H O (Γ.set i (.bw ds)) σ H O := by
  have mus : ∀ b, Mu (Γ.set i (.bw ds)) σ b → Mu Γ σ b := fun b ⟨j, es, e3, e4⟩ => by
    by_cases hj : i = j
    · subst hj; rw [get_set_eq h] at e3; cases e3
    · rw [get_set_ne hj] at e3; exact ⟨j, es, e3, e4⟩
  refine ⟨⟨by rw [List.length_set]; exact R.len, fun j s e3 => ?_, fun j k a fs t hjk e3 e4 et e5 e6 => ?_, R.tr⟩, ⟨fun b o _ e => e, fun b m => .inl (mus b m), fun b e => e, fun b m => .inl m, fun b m n => absurd m n⟩⟩
  · by_cases hj : i = j
    · subst hj
      rw [get_set_eq h] at e3; cases e3
      obtain ⟨o, e4, q⟩ := R.sl i _ h
      exact ⟨o, e4, q⟩
    · rw [get_set_ne hj] at e3; exact R.sl j s e3
  · by_cases hj : i = j
    · subst hj; rw [get_set_eq h] at e3; cases e3
    · rw [get_set_ne hj] at e3
      by_cases hk : i = k
      · subst hk; exact R.ne j i a fs _ hjk e3 h rfl e5 e6
      · rw [get_set_ne hk] at e4; exact R.ne j k a fs t hjk e3 e4 et e5 e6
theorem bor_rl (R : Rl K O Γ σ H) (h : BorOk Γ (ds, b)) : Rl K O (bor b ds Γ) σ H ∧ Stp Γ σ H O (bor b ds Γ) σ H O := by
  cases b with
  | none => exact ⟨R, Stp.refl⟩
  | some i => exact R.lend (h i rfl)
theorem unb_rl (R0 : Rl K O0 Γ0 σ0 H0) (h : BorOk Γ0 (ds, b)) (mu : ∀ a, Mu Γ' σ' a → Mu (bor b ds Γ0) σ0 a ∨ H0 a = none) (bwk : ∀ (i : Nat), b = some i → Γ'[i]? = some (Sl.bw ds) ∧ σ'[i]? = σ0[i]?)
    (bwb : ∀ (i : Nat) (es : Ct), Γ'[i]? = some (Sl.bwc es) → (bor b ds Γ0)[i]? = some (Sl.bwc es) ∧ σ'[i]? = σ0[i]?) (R : Rl K O'' Γ' σ' H') : Rl K O'' (unb b ds Γ') σ' H' := by
  cases b with
  | none => exact R
  | some i =>
    obtain ⟨g1, g2⟩ := bwk i rfl
    have h0 := h i rfl
    obtain ⟨a, vs, e1, ha, _⟩ := R0.own h0
    have out : ∀ (j : Nat) (es : Ct), Γ'[j]? = some (Sl.owc es) → σ'[j]? = some (some (.ref a)) → False := fun j es e3 e4 => by
      rcases mu a ⟨j, es, e3, e4⟩ with ⟨k, fs, e5, e6⟩ | z
      · have e5' : (Γ0.set i (.bw ds))[k]? = some (.owc fs) := e5
        by_cases hk : i = k
        · subst hk; rw [get_set_eq h0] at e5'; cases e5'
        · rw [get_set_ne hk] at e5'; exact R0.ne i k a ⟨.lst, ds⟩ _ hk h0 e5' rfl e1 e6
      · rw [ha] at z; cases z
    refine ⟨by show (Γ'.set i _).length = _; rw [List.length_set]; exact R.len, fun j s e3 => ?_, fun j k a' fs t hjk e3 e4 et e5 e6 => ?_, R.tr⟩
    · have e3' : (Γ'.set i (.ow ds))[j]? = some s := e3
      by_cases hj : i = j
      · subst hj
        rw [get_set_eq g1] at e3'; cases e3'
        obtain ⟨o, e4, q⟩ := R.sl i _ g1
        exact ⟨o, e4, q⟩
      · rw [get_set_ne hj] at e3'; exact R.sl j s e3'
    · have e3' : (Γ'.set i (.ow ds))[j]? = some (.owc fs) := e3
      have e4' : (Γ'.set i (.ow ds))[k]? = some t := e4
      by_cases hj : i = j
      · subst hj
        rw [g2, e1] at e5; cases e5
        rw [get_set_ne hjk] at e4'
        cases t with
        | owc gs => exact out k gs e4' e6
        | bwc gs =>
          -- two lent slots of one list: the other one was lent ahead
          obtain ⟨z1, z2⟩ := bwb k gs e4'
          have z1' : (Γ0.set i (.bw ds))[k]? = some (.bwc gs) := z1
          rw [get_set_ne hjk] at z1'
          exact R0.ne i k a ⟨.lst, ds⟩ _ hjk h0 z1' rfl e1 (z2 ▸ e6)
        | _ => cases et
      · rw [get_set_ne hj] at e3'
        by_cases hk : i = k
        · subst hk
          rw [g2, e1] at e6; cases e6
          exact out j fs e3' e5
        · rw [get_set_ne hk] at e4'; exact R.ne j k a' fs t hjk e3' e4' et e5 e6
end
end Mir

set_option Elab.async false
set_option autoImplicit false
set_option linter.all false
set_option maxRecDepth 100000
set_option maxHeartbeats 4000000
namespace Mir
open PySem PySem.Spec PyProof.Rows L2

/-! ### statements -/
inductive SR where
  | nx (Γ : List Sl) | rt (r : RV) (Γ : List Sl) | bk (Γ : List Sl) | ct (Γ : List Sl) | ex (c : Nat) (pl : List D) (Γ : List Sl) | no
abbrev SM := List Sl → SR
def SPost (K : Fg) (XR : XRel) (W : WX) (P : List Nat) (σ : L2.St) (Γ : List Sl) (H : Hp) (O : List Addr) (D : Ends) : SR → Prop
  | .nx Γ' => ∀ σ' H' O', Rl K O' Γ' σ' H' → SStp P Γ σ H O Γ' σ' H' O' → D.nx σ' H'
  | .rt r Γ' => ∀ σ' H' O', Rl K O' Γ' σ' H' → SStp P Γ σ H O Γ' σ' H' O' → ∀ v, RvAt K O' σ' Γ' H' H r v → D.rt v H'
  | .bk Γ' => ∀ σ' H' O', Rl K O' Γ' σ' H' → SStp P Γ σ H O Γ' σ' H' O' → D.bk σ' H'
  | .ct Γ' => ∀ σ' H' O', Rl K O' Γ' σ' H' → SStp P Γ σ H O Γ' σ' H' O' → D.ct σ' H'
  | .ex c pl Γ' => ∀ cls d σ' H' O', XR c pl H' cls d → Rl K O' Γ' σ' H' → SStp P Γ σ H O Γ' σ' H' O' → W cls d σ' H'
  | .no => False
def tS (K : Fg) (XR : XRel) (W : WX) (P : List Nat) (m : SM) : TS := fun D σ H => ∃ O Γ, Rl K O Γ σ H ∧ SPost K XR W P σ Γ H O D (m Γ)
def MS (X : Cx) (XR : XRel) (W : WX) (P : List Nat) (s : Stmt) (m : SM) : Prop := PS X s (tS X.KW XR W P m)
def MSs (X : Cx) (XR : XRel) (W : WX) (P : List Nat) (ss : List Stmt) (m : SM) : Prop := PSs X ss (tS X.KW XR W P m)
/-- an expression ahead of what is done with it -/
def Rs.sr {α : Type} (x : Rs α) (f : α → List Sl → SR) : SR := match x with
  | .ok a Γ => f a Γ
  | .ex c pl Γ => .ex c pl Γ
  | .no => .no
section
variable {K : Fg} {XR : XRel} {W : WX} {P : List Nat} {σ : L2.St} {Γ Γ1 : List Sl} {H H1 : Hp} {O O1 : List Addr} {D : Ends}
theorem SPost.after {σ1 : L2.St} {x : SR} (R0 : Rl K O Γ σ H) (S : SStp P Γ σ H O Γ1 σ1 H1 O1) (h : SPost K XR W P σ Γ H O D x) : SPost K XR W P σ1 Γ1 H1 O1 D x := by
  cases x with
  | nx Γ' => exact fun σ' H' O' R' S' => h σ' H' O' R' (S.trans R0 S')
  | rt r Γ' => exact fun σ' H' O' R' S' v hv => h σ' H' O' R' (S.trans R0 S') v (hv.older (none_back S.toStp))
  | bk Γ' => exact fun σ' H' O' R' S' => h σ' H' O' R' (S.trans R0 S')
  | ct Γ' => exact fun σ' H' O' R' S' => h σ' H' O' R' (S.trans R0 S')
  | ex c pl Γ' => exact fun cls d σ' H' O' xr R' S' => h cls d σ' H' O' xr R' (S.trans R0 S')
  | no => exact h
theorem SPost.sr {α : Type} {x : Rs α} {f : α → List Sl → SR} (R0 : Rl K O Γ σ H) (h : SPost K XR W P σ Γ H O D (x.sr f)) : Post K XR W σ Γ H O (fun a Γ1 H1 O1 => SPost K XR W P σ Γ1 H1 O1 D (f a Γ1)) x := by
  cases x with
  | ok a Γ' => exact fun H' O' R' S' => h.after R0 S'.s
  | ex c pl Γ' => exact fun cls d H' O' xr R' S' => h cls d σ H' O' xr R' S'.s
  | no => exact h
end
section
variable {X : Cx} {XR : XRel} {W : WX} {P : List Nat} {st : Stmt} {rest : List Stmt} {m m2 : SM} {e : Expr} {me : EM} {pos : Pos}
def sNil : SM := fun Γ => .nx Γ
def sSeq (m m2 : SM) : SM := fun Γ => match m Γ with
  | .nx Γ1 => m2 Γ1
  | x => x
theorem mss_nil : MSs X XR W P [] sNil := pss_nil.imp fun D σ H ⟨O, Γ, R, h⟩ => h σ H O R SStp.refl
theorem mss_cons (h1 : MS X XR W P st m) (h2 : MSs X XR W P rest m2) : MSs X XR W P (st :: rest) (sSeq m m2) := (pss_cons h1 h2).imp fun D σ H ⟨O, Γ, R, h⟩ => by
  refine ⟨O, Γ, R, ?_⟩
  unfold sSeq at h
  cases e : m Γ with
  | nx Γ1 =>
    rw [e] at h
    exact fun σ' H' O' R' S' => ⟨O', Γ1, R', h.after R S'⟩
  | _ => rw [e] at h; exact h
theorem mss_one (h1 : MS X XR W P st m) : MSs X XR W P [st] m := pss_one h1
def sBreak : SM := fun Γ => .bk Γ
def sCont : SM := fun Γ => .ct Γ
theorem ms_break : MS X XR W P (.Break pos) sBreak := ps_break.imp fun D σ H ⟨O, Γ, R, h⟩ => h σ H O R SStp.refl
def sDrop (me : EM) : SM := fun Γ => (me Γ).sr fun _ Γ1 => .nx Γ1
theorem ms_expr (he : ME X XR W e me) (hs : swapsWith e none pos.line X.env = pure false := by rfl) : MS X XR W P (.Expr e pos) (sDrop me) := (ps_expr he hs).imp fun D σ H ⟨O, Γ, R, h⟩ =>
  ⟨O, Γ, R, (h.sr R).imp fun r Γ1 H1 O1 R1 S1 h1 v _ => h1 σ H1 O1 R1 SStp.refl⟩
def sRet (me : EM) : SM := fun Γ => (me Γ).sr fun r Γ1 => .rt r Γ1
theorem ms_ret (he : ME X XR W e me) : MS X XR W P (.Return (some e) pos) (sRet me) := (ps_ret he).imp fun D σ H ⟨O, Γ, R, h⟩ =>
  ⟨O, Γ, R, by
    unfold sRet at h
    cases e1 : me Γ with
    | ok r Γ1 => rw [e1] at h; exact fun H1 O1 R1 S1 v hv => h σ H1 O1 R1 S1.s v hv
    | ex c pl Γ1 => rw [e1] at h; exact fun cls d H' O' xr R' S' => h cls d σ H' O' xr R' S'.s
    | no => rw [e1] at h; exact h⟩
def sRetN : SM := fun Γ => .rt (.va .non) Γ
def sIf (t : List Sl → Rs Bool) (m m2 : SM) : SM := fun Γ => (t Γ).sr fun b Γ1 => if b = true then m Γ1 else m2 Γ1
theorem ms_if {c : Expr} {a b : List Stmt} {t : List Sl → Rs Bool} (hc : MT X XR W c t) (ha : MSs X XR W P a m) (hb : MSs X XR W P b m2) : MS X XR W P (.If c a b pos) (sIf t m m2) := (ps_if hc ha hb).imp fun D σ H ⟨O, Γ, R, h⟩ => by
  refine ⟨O, Γ, R, (h.sr R).imp fun k Γ1 H1 O1 R1 S1 h1 => ?_⟩
  cases k with
  | true => exact iteT ⟨O1, Γ1, R1, h1⟩
  | false => exact iteF ⟨O1, Γ1, R1, h1⟩

/-! ### stores -/
/-- name = value: a new list is owned, a list of another name is let go -/
def stV (i : Nat) (r : RV) (Γ : List Sl) : Option (List Sl) := match r with
  | .va d => put i (.va d) Γ
  | .owc ds => if stOk Γ i then some (Γ.set i (.owc ds)) else none
  | .bo j => match esc Γ (.bo j) with
    | some (d, Γ1) => put i (.va d) Γ1
    | none => none
def sSet (i : Nat) (me : EM) : SM := fun Γ => (me Γ).sr fun r Γ1 => match stV i r Γ1 with
  | some Γ2 => .nx Γ2
  | none => .no
theorem Rl.putO {K : Fg} {O : List Addr} {Γ : List Sl} {σ : L2.St} {H : Hp} {i : Nat} {a : Addr} {vs : List V} {ds : Ct} (hp : i ∉ P) (hk : stOk Γ i = true) (R : Rl K O Γ σ H) (R2 : Rl K (a :: O) Γ σ H) (na : a ∉ O) (e : H a = some (ds.ho K.w a vs)) (t : AtL K (off (a :: O) H) ds.ds vs) :
    Rl K (a :: O) (Γ.set i (.owc ds)) (σ.set i (some (.ref a))) H := by
  have hi : i < Γ.length := by
    unfold stOk at hk
    cases z : Γ[i]? with
    | none => rw [z] at hk; cases hk
    | some t => exact (List.getElem?_eq_some_iff.mp z).1
  have hiσ : i < σ.length := by rw [← R.len]; exact hi
  have nh : ∀ (j : Nat) (t : Sl), Γ[j]? = some t → t.hd = true → σ[j]? ≠ some (some (.ref a)) := fun j t e3 ht z => by
    obtain ⟨o, e4, q⟩ := R.sl j t e3
    rw [z] at e4; cases e4
    cases t with
    | owc es => obtain ⟨a', _, e5, m, _⟩ := q; cases e5; exact na m
    | bwc es => obtain ⟨a', _, e5, m, _⟩ := q; cases e5; exact na m
    | _ => cases ht
  refine ⟨by rw [List.length_set, List.length_set]; exact R.len, fun j s e3 => ?_, fun j k b fs t' hjk e3 e4 et e5 e6 => ?_, R2.tr⟩
  · by_cases hj : i = j
    · subst hj
      rw [List.getElem?_set_self hi] at e3; cases e3
      exact ⟨_, List.getElem?_set_self hiσ, a, vs, rfl, List.mem_cons_self, e, t⟩
    · rw [get_set_ne hj] at e3 ⊢; exact R2.sl j s e3
  · by_cases hj : i = j
    · subst hj
      rw [List.getElem?_set_self hiσ] at e5; cases e5
      rw [get_set_ne hjk] at e4 e6
      exact nh k t' e4 et e6
    · rw [get_set_ne hj] at e3 e5
      by_cases hk2 : i = k
      · subst hk2
        rw [List.getElem?_set_self hiσ] at e6; cases e6
        exact nh j _ e3 rfl e5
      · rw [get_set_ne hk2] at e4 e6; exact R.ne j k b fs t' hjk e3 e4 et e5 e6
theorem SPost.sr0 {K : Fg} {σ : L2.St} {Γ : List Sl} {H : Hp} {O : List Addr} {D : Ends} {α : Type} {x : Rs α} {f : α → List Sl → SR} (h : SPost K XR W P σ Γ H O D (x.sr f)) : Post K XR W σ Γ H O (fun a Γ1 H1 O1 => SPost K XR W P σ Γ H O D (f a Γ1)) x := by
  cases x with
  | ok a Γ' => exact fun H' O' R' S' => h
  | ex c pl Γ' => exact fun cls d H' O' xr R' S' => h cls d σ H' O' xr R' S'.s
  | no => exact h
theorem sst_own {O O1 : List Addr} {Γ Γ1 : List Sl} {σ : L2.St} {H H1 : Hp} {i : Nat} {a : Addr} {ds : Ct} (hp : i ∉ P) (hk : stOk Γ1 i = true) (S : EStp Γ σ H O Γ1 H1 O1) (n0 : H a = none) (hl : i < σ.length) (hl1 : i < Γ1.length) :
    SStp P Γ σ H O (Γ1.set i (.owc ds)) (σ.set i (some (.ref a))) H1 (a :: O1) := by
  have nb : ∀ es, Γ1[i]? ≠ some (.bwc es) := fun es z => by unfold stOk at hk; rw [z] at hk; cases hk
  refine ⟨⟨S.keep, fun b ⟨j, es, e3, e4⟩ => ?_, S.stay, fun b hb => ?_, fun b h1 h2 => S.lose b h1 fun z => h2 (List.mem_cons_of_mem _ z)⟩, fun j hj => ?_, fun j es e => ?_, fun j es e => ?_⟩
  · by_cases hj : i = j
    · subst hj
      rw [List.getElem?_set_self hl] at e4; cases e4
      exact .inr n0
    · rw [get_set_ne hj] at e3 e4; exact S.mu b ⟨j, es, e3, e4⟩
  · rcases List.mem_cons.mp hb with e | e
    · rw [e]; exact .inr n0
    · exact S.grow b e
  · have hne : i ≠ j := fun z => hp (z ▸ hj)
    rw [get_set_ne hne, get_set_ne hne]
    exact ⟨rfl, S.pres j, S.oth j⟩
  · have e1 := S.oth j _ e (fun _ z => by cases z)
    have hne : i ≠ j := fun z => nb es (z ▸ e1)
    rw [get_set_ne hne, get_set_ne hne]
    exact ⟨e1, rfl⟩
  · by_cases hj : i = j
    · subst hj
      rw [List.getElem?_set_self hl1] at e; cases e
    · rw [get_set_ne hj] at e; exact S.bwb j es e
theorem set_tS {K : Fg} {i : Nat} {D : Ends} {σ : L2.St} {H : Hp} (hp : i ∉ P) (h : tS K XR W P (sSet i me) D σ H) : tAsg (tE K XR W me) (gName i) D σ H := by
  obtain ⟨O, Γ, R, h⟩ := h
  refine ⟨O, Γ, R, h.sr0.imp fun r Γ1 H1 O1 R1 S1 h1 v hv => ?_⟩
  show D.nx (σ.set i (some v)) H1
  cases es : stV i r Γ1 with
  | none => simp only [es] at h1; exact h1.elim
  | some Γ2 =>
    simp only [es] at h1
    cases r with
    | va d =>
      obtain ⟨R2, S2⟩ := R1.put (P := P) (v := v) hp es (fun ds => ⟨(fun z => by cases z), (fun z => by cases z)⟩) ⟨v, rfl, hv⟩
      exact h1 _ _ _ R2 (S1.s.trans R S2)
    | owc ds =>
      simp only [stV] at es
      split at es
      · rename_i hk
        cases es
        obtain ⟨a, vs, rfl, na, n0, e, t, Rh⟩ := hv
        have hi : i < Γ1.length := by
          unfold stOk at hk
          cases z : Γ1[i]? with
          | none => rw [z] at hk; cases hk
          | some t => exact (List.getElem?_eq_some_iff.mp z).1
        exact h1 _ _ (a :: O1) (Rl.putO (P := P) hp hk R1 Rh na e t) (sst_own hp hk S1 n0 (by rw [← R1.len]; exact hi) hi)
      · cases es
    | bo j =>
      simp only [stV] at es
      cases e2 : esc Γ1 (.bo j) with
      | none => rw [e2] at es; cases es
      | some q =>
        obtain ⟨d, Γ3⟩ := q
        rw [e2] at es
        obtain ⟨O3, R3, S3, q3⟩ := RvAt.esc R1 hv EStp.refl R1 e2
        obtain ⟨R4, S4⟩ := R3.put (P := P) (v := v) hp es (fun ds => ⟨(fun z => by cases z), (fun z => by cases z)⟩) ⟨v, rfl, q3⟩
        exact h1 _ _ _ R4 ((S1.s.trans R S3.s).trans R S4)
theorem ms_set {i : Nat} {x : Str} {pos' : Pos} (hN : X.N.Nodup) (hi : X.N[i]? = some x) (hx : Loc X.env.scope x) (he : ME X XR W e me) (hp : i ∉ P := by decide) (hs : swapsWith e (some (.Name x pos')) pos.line X.env = pure false := by rfl) (hf : X.fn x = true ∨ X.env.scope.names.lookup x = some .local := by first | exact .inl rfl | exact .inr rfl | assumption) :
    MS X XR W P (.Assign [.Name x pos'] e pos) (sSet i me) := (ps_set hN hi hx he hs hf).imp fun D σ H h => set_tS hp h
/-- (a, b) = value, the value data -/
def sAsg (f : GM) (me : EM) : SM := fun Γ => (me Γ).sr fun r Γ1 => match r with
  | .va d => (match f d Γ1 with
    | some Γ2 => .nx Γ2
    | none => .no)
  | _ => .no
/-- n, d = a, b -/
def sPar (i j : Nat) (ms : AM) : SM := fun Γ => (ms Γ).sr fun rs Γ1 => match rs with
  | [.va d, .va e] => (match (put i (.va d) Γ1).bind fun Γ2 => put j (.va e) Γ2 with
    | some Γ2 => .nx Γ2
    | none => .no)
  | _ => .no
theorem ms_par {i j : Nat} {x y : Str} {a b : Expr} {ms : AM} {px py pt : Pos} {kt k2 pt2} (hc : X.calm = true) (hN : X.N.Nodup) (hi : X.N[i]? = some x) (hj : X.N[j]? = some y) (hij : i ≠ j)
    (hx : X.env.scope.names.lookup x = some .local) (hy : X.env.scope.names.lookup y = some .local) (ha : MA X XR W [a, b] ms) (hpi : i ∉ P := by decide) (hpj : j ∉ P := by decide)
    (hw : swappedStores [.Tuple [.Name x px, .Name y py] kt pt] (.Tuple [a, b] k2 pt2) X.env = pure (some [x, y]) := by rfl)
    (hs : swapsWithSole [.Tuple [.Name x px, .Name y py] kt pt] (.Tuple [a, b] k2 pt2) pos.line X.env = pure false := by rfl) :
    MS X XR W P (.Assign [.Tuple [.Name x px, .Name y py] kt pt] (.Tuple [a, b] k2 pt2) pos) (sPar i j ms) := (ps_par hc hN hi hj hij hx hy ha hw hs).imp fun D σ H ⟨O, Γ, R, h⟩ => by
  refine ⟨O, Γ, R, (h.sr R).imp fun rs Γ1 H1 O1 R1 S1 h1 vs hvs => ?_⟩
  match rs, h1, hvs with
  | [.va d, .va e], h1, ⟨v, t, e1, ⟨G1, Ha, Oa, Hb, Ra, hv, Sa⟩, u, t2, e2, ⟨G2, Hc, Oc, Hd, Rc, hu, Sc⟩, e3⟩ =>
    subst e1 e2
    cases e3
    cases ep : (put i (.va d) Γ1).bind fun Γ2 => put j (.va e) Γ2 with
    | none => simp only [ep] at h1; exact h1.elim
    | some Γ3 =>
      simp only [ep] at h1
      obtain ⟨Γ2, p1, p2⟩ := Option.bind_eq_some_iff.mp ep
      obtain ⟨R2, S2⟩ := R1.put (P := P) (v := v) hpi p1 (fun ds => ⟨(fun z => by cases z), (fun z => by cases z)⟩) ⟨v, rfl, At.mono (Sa.toStp.same Ra) hv⟩
      obtain ⟨R3, S3⟩ := R2.put (P := P) (v := u) hpj p2 (fun ds => ⟨(fun z => by cases z), (fun z => by cases z)⟩) ⟨u, rfl, At.mono (Sc.toStp.same Rc) hu⟩
      exact ⟨v, u, rfl, h1 _ _ _ R3 (S2.trans R1 S3)⟩
  | [], h1, _ => exact h1.elim
  | [_], h1, _ => exact (by cases ‹RV› <;> exact h1 : False).elim
  | [.va _, .owc _], h1, _ => exact h1.elim
  | [.va _, .bo _], h1, _ => exact h1.elim
  | [.owc _, _], h1, _ => exact h1.elim
  | [.bo _, _], h1, _ => exact h1.elim
  | _ :: _ :: _ :: _, h1, _ => exact (by simpa [SPost] using h1 : False).elim
/-- name op= value, ints -/
def sAug (i : Nat) (f : D → D → FR) (me : EM) : SM := fun Γ => match Γ[i]? with
  | some (.va d) => (me Γ).sr fun r Γ1 => (match r with
    | .va d2 => (match f d d2 with
      | .va d3 => (match put i (.va d3) Γ1 with
        | some Γ2 => .nx Γ2
        | none => .no)
      | _ => .no)
    | _ => .no)
  | _ => .no
def fAddI : D → D → FR
  | .int i, .int j => .va (.int (i + j))
  | _, _ => .no
/-! ### owned lists changed by statements -/
/-- xs[i] = e -/
def sStore (i : Nat) (me mi : EM) : SM := fun Γ => (me Γ).sr fun r Γ1 => match esc Γ1 r with
  | some (d, Γ2) => (match Γ2[i]? with
    | some (.owc ⟨.lst, _⟩) => (mi Γ2).sr fun z Γ3 => (match z, Γ3[i]? with
      | .va (.int k), some (.owc ⟨.lst, es⟩) => (match ixN es.length k with
        | some j => .nx (Γ3.set i (.ow (es.set j d)))
        | none => .no)
      | _, _ => .no)
    | _ => .no)
  | none => .no
/-- xs.m(e ..): append, insert, reverse, .. : a change of the owned list by data -/
def mMut (i : Nat) (f : List D → List D → Option (List D)) (ms : AM) : EM := fun Γ => match Γ[i]? with
  | some (.owc ⟨.lst, _⟩) => (ms Γ).bind fun rs Γ1 => (match escs Γ1 rs with
    | some (ds, Γ2) => (match Γ2[i]? with
      | some (.owc ⟨.lst, es⟩) => (match f es ds with
        | some fs => .ok (.va .non) (Γ2.set i (.ow fs))
        | none => .no)
      | _ => .no)
    | none => .no)
  | _ => .no
def fAppend (es ds : List D) : Option (List D) := match ds with
  | [d] => if es.length < big then some (es ++ [d]) else none
  | _ => none
variable {x : Str} {p apos : Pos} {es : List Expr} {ms : AM} {a : Expr}
theorem me_append {i : Nat} {b : Expr} (hv : PE X (.Name x p) (tVar i)) (ha : MA X XR W [b] ms)
    (hbase : attributeBase (.Name x p) "append" X.env (eval (.Name x p) X.env) = eval (.Name x p) X.env := by rfl)
    (hfew : ((backTo pos (starEach [b] X.env)).all (fun x => !x.1) && (backToKw pos (keywordEach [] X.env)).all (fun x => x.1.isSome)
      && decide ([b].length + ([] : List Keyword).length + (if ([] : List Keyword).isEmpty then 0 else 1) < 30)) = true := by rfl)
    (hline : (apos.endLine == pos.line) = true := by rfl) (hs : starEach [b] X.env = (false, eval b X.env) :: starEach [] X.env := by rfl) (hplain : (backTo pos (starEach [] X.env)).any (·.1) = false := by rfl) :
    ME X XR W (.Call (.Attribute (.Name x p) "append" apos) [b] [] pos) (mMut i fAppend ms) :=
  (pe_bm PySem.F.plainAttrs_list PySem.F.slot_list_append PySem.F.type_list_append mt_append hv ha hbase hfew hline hs hplain).imp fun σ H Q ⟨O, Γ, R, P⟩ => by
    unfold mMut at P
    cases e : Γ[i]? with
    | none => rw [e] at P; exact P.elim
    | some s =>
      rw [e] at P
      cases s with
      | owc tt =>
        obtain ⟨cc, es0⟩ := tt
        cases cc with
        | lst =>
          obtain ⟨a, vs0, e1, ha0, ta0⟩ := R.own e
          refine ⟨.ref a, e1, .inl ⟨rfl, vs0, SqL.of ha0⟩, O, Γ, R, (P.bind R).imp fun rs Γ1 H1 O1 R1 S1 P1 vs hvs => ?_⟩
          cases e2 : escs Γ1 rs with
          | none => simp only [e2] at P1; exact P1.elim
          | some q =>
            obtain ⟨ds, Γ2⟩ := q
            simp only [e2] at P1
            obtain ⟨O2, R2, S2, t⟩ := RvAll.escs R1 hvs EStp.refl R1 e2
            cases e3 : Γ2[i]? with
            | none => simp only [e3] at P1; exact P1.elim
            | some s2 =>
              simp only [e3] at P1
              cases s2 with
              | owc tt =>
                obtain ⟨cc, fs⟩ := tt
                cases cc with
                | lst =>
                  obtain ⟨a', us, e4, ha', ta'⟩ := R2.own e3
                  rw [e1] at e4; cases e4
                  cases e5 : fAppend fs ds with
                  | none => simp only [e5] at P1; exact P1.elim
                  | some gs =>
                    simp only [e5] at P1
                    unfold fAppend at e5
                    split at e5
                    · rename_i d
                      split at e5
                      · rename_i hz
                        cases e5
                        obtain ⟨v, r, rfl, q1, q2⟩ := t
                        cases q2
                        obtain ⟨R3, S3⟩ := R2.write e3 e1 (ta'.append (AtL.cons q1 AtL.nil))
                        exact ⟨a, us, v, rfl, rfl, ha', by rw [← ta'.length, big_eq]; exact hz, P1 _ _ R3 (S2.trans R1 S3) .non rfl⟩
                      · cases e5
                    · cases e5
                | _ => exact P1.elim
              | _ => exact P1.elim
        | _ => exact P.elim
      | _ => exact P.elim
def fReverse (es ds : List D) : Option (List D) := match ds with
  | [] => some es.reverse
  | _ => none
theorem me_reverse {i : Nat} (hv : PE X (.Name x p) (tVar i)) (hbase : attributeBase (.Name x p) "reverse" X.env (eval (.Name x p) X.env) = eval (.Name x p) X.env := by rfl) (hline : (apos.endLine == pos.line) = true := by rfl) :
    ME X XR W (.Call (.Attribute (.Name x p) "reverse" apos) [] [] pos) (mMut i fReverse mNil) := (pe_bm0 PySem.F.plainAttrs_list PySem.F.slot_list_reverse PySem.F.type_list_reverse mt_reverse hv hbase hline).imp fun σ H Q ⟨O, Γ, R, P⟩ => by
  unfold mMut mNil at P
  cases e : Γ[i]? with
  | none => rw [e] at P; exact P.elim
  | some s =>
    rw [e] at P
    cases s with
    | owc tt =>
      obtain ⟨cc, es0⟩ := tt
      cases cc with
      | lst =>
        obtain ⟨a, vs0, e1, ha0, ta0⟩ := R.own e
        simp only [Rs.bind, escs, e, fReverse] at P
        obtain ⟨R3, S3⟩ := R.write e e1 ta0.reverse
        exact ⟨.ref a, e1, .inl ⟨rfl, vs0, SqL.of ha0⟩, a, vs0, rfl, rfl, ha0, P _ _ R3 S3 .non rfl⟩
      | _ => exact P.elim
    | _ => exact P.elim
/-- xs[i] = e -/
theorem ms_store {i : Nat} {b : Expr} {mb : EM} {ps : Pos} (hv : PE X (.Name x p) (tVar i)) (he : ME X XR W e me) (hb : ME X XR W b mb) (hs : swapsWithSole [.Subscript (.Name x p) b ps] e pos.line X.env = pure false := by rfl) (hw : swappedStores [.Subscript (.Name x p) b ps] e X.env = pure none := by rfl)
    (h1 : (assignEach [.Subscript (.Name x p) b ps] X.env).map (·.2) = [assign (.Subscript (.Name x p) b ps) X.env] := by rfl)
    (ha : ∀ v, assign (.Subscript (.Name x p) b ps) X.env v = (do
      let ov ← holding [v] (eval (.Name x p) X.env)
      let iv ← holding [v, ov] (eval b X.env)
      standAt ps
      holding [v, ov, iv] (setItem ov iv v)
      release [v, ov, iv] []) := by intro _; rfl) : MS X XR W P (.Assign [.Subscript (.Name x p) b ps] e pos) (sStore i me mb) := (ps_asg he (pg_sub hv hb set_list ha) hs hw h1).imp fun D σ H ⟨O, Γ, R, h⟩ => by
  refine ⟨O, Γ, R, (h.sr R).imp fun r Γ1 H1 O1 R1 S1 h1 v hv1 => ?_⟩
  cases e2 : esc Γ1 r with
  | none => simp only [e2] at h1; exact h1.elim
  | some q =>
    obtain ⟨d, Γ2⟩ := q
    simp only [e2] at h1
    obtain ⟨O2, R2, S2, t⟩ := RvAt.esc R1 hv1 EStp.refl R1 e2
    cases e3 : Γ2[i]? with
    | none => simp only [e3] at h1; exact h1.elim
    | some s2 =>
      simp only [e3] at h1
      cases s2 with
      | owc tt =>
        obtain ⟨cc, fs⟩ := tt
        cases cc with
        | lst =>
          obtain ⟨a, us, e4, ha', ta'⟩ := R2.own e3
          refine ⟨.ref a, e4, O2, Γ2, R2, ((h1.after R1 S2.s).sr R2).imp fun z Γ3 H3 O3 R3 S3 h3 w hw => ?_⟩
          cases e5 : Γ3[i]? with
          | none => simp only [e5] at h3; exact (by cases z <;> first | exact h3 | (rename_i zd; cases zd <;> exact h3) : False).elim
          | some s3 =>
            simp only [e5] at h3
            cases z with
            | va zd =>
              cases zd with
              | int k =>
                cases s3 with
                | owc tt =>
                  obtain ⟨cc, gs⟩ := tt
                  cases cc with
                  | lst =>
                    obtain ⟨a', us', e6, ha3, ta3⟩ := R3.own e5
                    rw [e4] at e6; cases e6
                    cases e7 : ixN gs.length k with
                    | none => simp only [e7] at h3; exact h3.elim
                    | some j =>
                      simp only [e7] at h3
                      obtain ⟨R4, S4⟩ := R3.write e5 e4 (ta3.set j (t.mono (S3.toStp.same R2)))
                      exact ⟨a, us', k, j, rfl, hw, ha3, by rw [← ta3.length]; exact e7, h3 _ _ _ R4 S4.s⟩
                  | _ => exact h3.elim
                | _ => exact h3.elim
              | _ => exact h3.elim
            | _ => exact h3.elim
        | _ => exact h1.elim
      | _ => exact h1.elim
end
end Mir

set_option Elab.async false
set_option autoImplicit false
set_option linter.all false
set_option maxRecDepth 100000
set_option maxHeartbeats 4000000
namespace Mir
open PySem PySem.Spec PyProof.Rows L2

/-! ### for -/
def loopS (f : GM) (m : SM) : List D → SM
  | [], Γ => .nx Γ
  | d :: ds, Γ => match f d Γ with
    | none => .no
    | some Γ1 => match m Γ1 with
      | .nx Γ2 => loopS f m ds Γ2
      | .ct Γ2 => loopS f m ds Γ2
      | .bk Γ2 => .nx Γ2
      | .rt r Γ2 => .rt r Γ2
      | .ex c pl Γ2 => .ex c pl Γ2
      | .no => .no
def SR.fin (g : List Sl → List Sl) : SR → SR
  | .nx Γ => .nx (g Γ)
  | .rt r Γ => .rt r (g Γ)
  | .bk Γ => .bk (g Γ)
  | .ct Γ => .ct (g Γ)
  | .ex c pl Γ => .ex c pl (g Γ)
  | .no => .no
def sFor (mi : IM) (f : GM) (m : SM) : SM := fun Γ => (mi Γ).sr fun p Γ1 => (loopS f m p.1 (bor p.2 p.1 Γ1)).fin (unb p.2 p.1)
section
variable {K : Fg} {XR : XRel} {W : WX} {P T : List Nat} {O O0 O1 O' : List Addr} {Γ Γ0 Γ1 Γ' : List Sl} {σ σ0 σ' : L2.St} {H H0 H1 H' : Hp} {b : Option Nat} {ds : List D}
theorem bor_sst (h : BorOk Γ0 (ds, b)) (R0 : Rl K O0 Γ0 σ0 H0) (S : SStp P (bor b ds Γ0) σ0 H0 O0 Γ' σ' H' O') : SStp P Γ0 σ0 H0 O0 (unb b ds Γ') σ' H' O' := by
  cases b with
  | none => exact S
  | some i =>
    have h0 := h i rfl
    obtain ⟨a, vs, e1, ha, _⟩ := R0.own h0
    have g0 : (bor (some i) ds Γ0)[i]? = some (.bw ds) := get_set_eq h0
    obtain ⟨g1, g2⟩ := S.bwk i ⟨.lst, ds⟩ g0
    have mus : ∀ b, Mu (bor (some i) ds Γ0) σ0 b → Mu Γ0 σ0 b := fun b ⟨j, es, e3, e4⟩ => by
      have e3' : (Γ0.set i (.bw ds))[j]? = some (.owc es) := e3
      by_cases hj : i = j
      · subst hj; rw [get_set_eq h0] at e3'; cases e3'
      · rw [get_set_ne hj] at e3'; exact ⟨j, es, e3', e4⟩
    refine ⟨⟨fun b o n e => S.keep b o (fun m => n (mus b m)) e, fun b ⟨j, es, e3, e4⟩ => ?_, S.stay, S.grow, fun b h1 h2 => mus b (S.lose b h1 h2)⟩, fun j hj => ?_, fun j es e => ?_, fun j es e => ?_⟩
    · have e3' : (Γ'.set i (.ow ds))[j]? = some (.owc es) := e3
      by_cases hj : i = j
      · subst hj
        exact .inl ⟨i, ⟨.lst, ds⟩, h0, g2 ▸ e4⟩
      · rw [get_set_ne hj] at e3'
        exact (S.mu b ⟨j, es, e3', e4⟩).imp (mus b) id
    · obtain ⟨p1, p2, p3⟩ := S.par j hj
      refine ⟨p1, fun es e => ?_, fun s e n => ?_⟩
      · by_cases hj2 : i = j
        · subst hj2; exact .inl ⟨⟨.lst, ds⟩, get_set_eq g1⟩
        · have := p2 es (by show (Γ0.set i _)[j]? = _; rw [get_set_ne hj2]; exact e)
          show (∃ es, (Γ'.set i _)[j]? = _) ∨ ∃ es, (Γ'.set i _)[j]? = _
          rw [get_set_ne hj2]; exact this
      · by_cases hj2 : i = j
        · subst hj2; rw [h0] at e; cases e; exact absurd rfl (n ⟨.lst, ds⟩)
        · show (Γ'.set i _)[j]? = _
          rw [get_set_ne hj2]
          exact p3 s (by show (Γ0.set i _)[j]? = _; rw [get_set_ne hj2]; exact e) n
    · have hj2 : i ≠ j := fun z => by subst z; rw [h0] at e; cases e
      obtain ⟨q1, q2⟩ := S.bwk j es (by show (Γ0.set i _)[j]? = _; rw [get_set_ne hj2]; exact e)
      exact ⟨by show (Γ'.set i _)[j]? = _; rw [get_set_ne hj2]; exact q1, q2⟩
    · have e' : (Γ'.set i (.ow ds))[j]? = some (.bwc es) := e
      by_cases hj2 : i = j
      · subst hj2; rw [get_set_eq g1] at e'; cases e'
      · rw [get_set_ne hj2] at e'
        have q := S.bwb j es e'
        have q' : (Γ0.set i (.bw ds))[j]? = some (.bwc es) := q
        rw [get_set_ne hj2] at q'; exact q'
theorem unb_all {O'' : List Addr} (h : BorOk Γ0 (ds, b)) (R0 : Rl K O0 Γ0 σ0 H0) (S : SStp P (bor b ds Γ0) σ0 H0 O0 Γ' σ' H' O') (R : Rl K O'' Γ' σ' H') : Rl K O'' (unb b ds Γ') σ' H' := by
  refine unb_rl R0 h S.mu (fun i e => ?_) (fun i es e => ?_) R
  · subst e; exact S.bwk i ⟨.lst, ds⟩ (get_set_eq (h i rfl))
  · have q := S.bwb i es e
    exact ⟨q, (S.bwk i es q).2⟩
theorem unb_rv {r : RV} {v : V} {Hs : Hp} (h : BorOk Γ0 (ds, b)) (R0 : Rl K O0 Γ0 σ0 H0) (S : SStp P (bor b ds Γ0) σ0 H0 O0 Γ' σ' H' O') (hv : RvAt K O' σ' Γ' H' Hs r v) : RvAt K O' σ' (unb b ds Γ') H' Hs r v := by
  cases r with
  | va d => exact hv
  | owc es => obtain ⟨a, vs, e1, n, z, q, t, R⟩ := hv; exact ⟨a, vs, e1, n, z, q, t, unb_all h R0 S R⟩
  | bo j =>
    obtain ⟨e1, e2⟩ := hv
    refine ⟨e1, ?_⟩
    cases b with
    | none => exact e2
    | some i =>
      by_cases hj : i = j
      · subst hj
        exact .inl ⟨⟨.lst, ds⟩, get_set_eq (S.bwk i ⟨.lst, ds⟩ (get_set_eq (h i rfl))).1⟩
      · show (∃ es, (Γ'.set i _)[j]? = _) ∨ (∃ ns, (Γ'.set i _)[j]? = _) ∨ ∃ es, (Γ'.set i _)[j]? = _
        rw [get_set_ne hj]; exact e2
/-- the end of a loop reaches what is wanted -/
theorem SPost.unb {D : Ends} {x : SR} (h : BorOk Γ0 (ds, b)) (R0 : Rl K O0 Γ0 σ0 H0) (hx : SPost K XR W P σ0 Γ0 H0 O0 D (x.fin (Mir.unb b ds))) : SPost K XR W P σ0 (bor b ds Γ0) H0 O0 D x := by
  cases x with
  | nx Γ' => exact fun σ' H' O' R' S' => hx σ' H' O' (unb_all h R0 S' R') (bor_sst h R0 S')
  | rt r Γ' => exact fun σ' H' O' R' S' v hv => hx σ' H' O' (unb_all h R0 S' R') (bor_sst h R0 S') v (unb_rv h R0 S' hv)
  | bk Γ' => exact fun σ' H' O' R' S' => hx σ' H' O' (unb_all h R0 S' R') (bor_sst h R0 S')
  | ct Γ' => exact fun σ' H' O' R' S' => hx σ' H' O' (unb_all h R0 S' R') (bor_sst h R0 S')
  | ex c pl Γ' => exact fun cls d σ' H' O' xr R' S' => hx cls d σ' H' O' xr (unb_all h R0 S' R') (bor_sst h R0 S')
  | no => exact hx
theorem for_tS {D : Ends} {mi : IM} {f : GM} {m : SM} (h : tS K XR W P (sFor mi f m) D σ H) : tFor (tI K XR W mi) (gM K P T f) (tS K XR W P m) D σ H := by
  obtain ⟨O, Γ, R, h⟩ := h
  refine ⟨O, Γ, R, (h.sr R).imp fun p Γ1 H1 O1 R1 S1 h1 => ?_⟩
  · intro hb J G WK hG
    obtain ⟨ds, b⟩ := p
    obtain ⟨R1b, S1b⟩ := bor_rl R1 hb
    have hx := SPost.unb hb R1 h1
    refine ⟨fun i k σ' H' => ∃ O' Γ' rem, ds.drop i = rem ∧ k = rem.length ∧ i ≤ ds.length ∧ Rl K O' Γ' σ' H' ∧ SStp P (bor b ds Γ1) σ H1 O1 Γ' σ' H' O' ∧ G O' Γ' σ' H' ∧ loopS f m rem Γ' = loopS f m ds (bor b ds Γ1),
      ⟨ds.length, O1, _, ds, rfl, rfl, Nat.zero_le _, R1b, SStp.refl, hG, rfl⟩, ?_⟩
    rintro i k σ' H' ⟨O', Γ', rem, e1, e2, hi, R', S', g', hl⟩
    cases rem with
    | nil =>
      have ei : i = ds.length := by
        have := congrArg List.length e1
        rw [List.length_drop] at this
        simp at this; omega
      subst ei
      refine .inl ⟨WK.stop O' Γ' σ' H' R' g', ?_⟩
      rw [← hl] at hx
      exact hx σ' H' O' R' S'
    | cons d rem =>
      have ed : ds[i]? = some d := by
        have := congrArg (·[0]?) e1
        simpa using this
      have e3 : ds.drop (i + 1) = rem := by
        have := congrArg List.tail e1
        simpa using this
      have hi2 : i < ds.length := (List.getElem?_eq_some_iff.mp ed).1
      refine .inr ⟨WK.go i O' Γ' σ' H' d ed R' g', fun σ3 H3 => ∃ O3 Γ3, Rl K O3 Γ3 σ3 H3 ∧ SStp P (bor b ds Γ1) σ H1 O1 Γ3 σ3 H3 O3 ∧ G O3 Γ3 σ3 H3 ∧ loopS f m rem Γ3 = loopS f m ds (bor b ds Γ1), ?_, ?_⟩
      · rintro σ3 H3 ⟨O3, Γ3, R3, S3, g3, hl3⟩
        exact ⟨rem.length, by rw [e2]; simp, O3, Γ3, rem, e3, rfl, hi2, R3, S3, g3, hl3⟩
      · intro x H2 hy
        obtain ⟨sm, hx2⟩ := WK.yld i O' Γ' σ' H' d x H2 ed R' g' hy
        have R2 := R'.same sm
        have S2 : SStp P (bor b ds Γ1) σ H1 O1 Γ' σ' H2 O' := S'.trans R1b (EStp.of_same sm).s
        have g2 : G O' Γ' σ' H2 := WK.stb O' Γ' σ' H' O' Γ' σ' H2 g' ((EStp.of_same (σ := σ') (Γ := Γ') (O := O') sm).toStp.same R') fun i es e => ⟨e, rfl⟩
        simp only [loopS] at hl
        cases ef : f d Γ' with
        | none => rw [ef] at hl; rw [← hl] at hx; exact hx.elim
        | some Γ3 =>
          rw [ef] at hl
          refine ⟨O', Γ', d, Γ3, R2, hx2, ef, fun σ3 R3 S3 _ => ⟨O', Γ3, R3, ?_⟩⟩
          have S3' := S2.trans R1b S3
          have hstb : ∀ {σ4 : L2.St} {H4 : Hp} {O4 : List Addr} {Γ4 : List Sl}, SStp P Γ3 σ3 H2 O' Γ4 σ4 H4 O4 → G O4 Γ4 σ4 H4 := fun {σ4 H4 O4 Γ4} S4 => by
            have S5 := S3.trans R2 S4
            exact WK.stb O' Γ' σ' H2 O4 Γ4 σ4 H4 g2 (S5.toStp.same R2) S5.bwk
          cases em : m Γ3 with
          | nx Γ4 =>
            simp only [em] at hl
            exact fun σ4 H4 O4 R4 S4 => ⟨O4, Γ4, R4, S3'.trans R1b S4, hstb S4, hl⟩
          | ct Γ4 =>
            simp only [em] at hl
            exact fun σ4 H4 O4 R4 S4 => ⟨O4, Γ4, R4, S3'.trans R1b S4, hstb S4, hl⟩
          | bk Γ4 =>
            simp only [em] at hl
            rw [← hl] at hx
            exact fun σ4 H4 O4 R4 S4 => hx σ4 H4 O4 R4 (S3'.trans R1b S4)
          | rt r Γ4 =>
            simp only [em] at hl
            rw [← hl] at hx
            exact fun σ4 H4 O4 R4 S4 v hv => hx σ4 H4 O4 R4 (S3'.trans R1b S4) v (hv.older (none_back S3'.toStp))
          | ex c pl Γ4 =>
            simp only [em] at hl
            rw [← hl] at hx
            exact fun cls dd σ4 H4 O4 xr R4 S4 => hx cls dd σ4 H4 O4 xr R4 (S3'.trans R1b S4)
          | no =>
            simp only [em] at hl
            rw [← hl] at hx
            exact hx.elim
end
section
variable {X : Cx} {XR : XRel} {W : WX} {P T : List Nat} {tg iter : Expr} {body : List Stmt} {mi : IM} {f : GM} {m : SM} {pos : Pos}
theorem ms_for (hp : PassesOwn (model X.prog X.w) X.A X.env X.xe) (hc : X.calm = true) (hi : MI X XR W tg iter mi) (hg : MG X P T tg f) (hb : MSs X XR W P body m) (hs : ∀ x, foldedSetIterable iter X.env x = pure x := by intro _; rfl) :
    MS X XR W P (.For tg iter body [] pos) (sFor mi f m) := (ps_for hp hc hi hg hb hs).imp fun D σ H h => for_tS h
end

/-! ### comprehensions -/
def wipeG (Γ : List Sl) : List Nat → List Sl
  | [] => Γ
  | v :: vs => (wipeG Γ vs).set v .no
/-- the own names as they were -/
def backG (Γ0 Γ : List Sl) : List Nat → List Sl
  | [] => Γ
  | v :: vs => (backG Γ0 Γ vs).set v (Γ0.getD v .no)
def loopC (own : List Nat) (f : GM) (t : List Sl → Rs Bool) (m : EM) : List D → List D → List Sl → Rs (List D)
  | [], acc, Γ => .ok acc Γ
  | d :: ds, acc, Γ => match f d Γ with
    | none => .no
    | some Γ1 => match t Γ1 with
      | .ok true Γ2 => (match m Γ2 with
        | .ok r Γ3 => (match esc Γ3 r with
          | some (d', Γ4) => if acc.length < big then loopC own f t m ds (acc ++ [d']) (wipeG Γ4 own) else .no
          | none => .no)
        | _ => .no)
      | .ok false Γ2 => loopC own f t m ds acc (wipeG Γ2 own)
      | _ => .no
def notHd (Γ : List Sl) (i : Nat) : Bool := match Γ[i]? with
  | some s => !s.hd
  | none => false
def mLc (own : List Nat) (mi : IM) (f : GM) (t : List Sl → Rs Bool) (m : EM) : EM := fun Γ => (mi Γ).bind fun p Γ1 =>
  if own.all (notHd Γ1) then (match loopC own f t m p.1 [] (wipeG (bor p.2 p.1 Γ1) own) with
    | .ok acc Γ2 => .ok (.ow acc) (backG Γ1 (unb p.2 p.1 Γ2) own)
    | _ => .no) else .no
end Mir

set_option Elab.async false
set_option autoImplicit false
set_option linter.all false
set_option maxRecDepth 100000
set_option maxHeartbeats 4000000
namespace Mir
open PySem PySem.Spec PyProof.Rows L2

theorem wipeG_len (Γ : List Sl) : ∀ vs : List Nat, (wipeG Γ vs).length = Γ.length
  | [] => rfl
  | v :: vs => by unfold wipeG; rw [List.length_set, wipeG_len Γ vs]
theorem wipeG_out {Γ : List Sl} {j : Nat} : ∀ {vs : List Nat}, j ∉ vs → (wipeG Γ vs)[j]? = Γ[j]?
  | [], _ => rfl
  | v :: vs, h => by
    simp only [List.mem_cons, not_or] at h
    unfold wipeG
    rw [get_set_ne (Ne.symm h.1), wipeG_out h.2]
theorem wipeG_in {Γ : List Sl} {j : Nat} (hj : j < Γ.length) : ∀ {vs : List Nat}, j ∈ vs → (wipeG Γ vs)[j]? = some .no
  | [], h => by cases h
  | v :: vs, h => by
    unfold wipeG
    by_cases e : v = j
    · subst e; exact List.getElem?_set_self (by rw [wipeG_len]; exact hj)
    · rw [get_set_ne e]
      rcases List.mem_cons.mp h with z | z
      · exact absurd z.symm e
      · exact wipeG_in hj z
theorem wipe_out {σ : L2.St} {j : Nat} : ∀ {vs : List Nat}, j ∉ vs → (L2.wipe σ vs)[j]? = σ[j]?
  | [], _ => rfl
  | v :: vs, h => by
    simp only [List.mem_cons, not_or] at h
    unfold L2.wipe
    rw [get_set_ne (Ne.symm h.1), wipe_out h.2]
theorem wipe_in {σ : L2.St} {j : Nat} (hj : j < σ.length) : ∀ {vs : List Nat}, j ∈ vs → (L2.wipe σ vs)[j]? = some none
  | [], h => by cases h
  | v :: vs, h => by
    unfold L2.wipe
    by_cases e : v = j
    · subst e; exact List.getElem?_set_self (by rw [wipe_length]; exact hj)
    · rw [get_set_ne e]
      rcases List.mem_cons.mp h with z | z
      · exact absurd z.symm e
      · exact wipe_in hj z
theorem wipe_ext {σ τ : L2.St} {vs : List Nat} (hl : σ.length = τ.length) (h : ∀ j, j ∉ vs → σ[j]? = τ[j]?) : L2.wipe σ vs = L2.wipe τ vs := by
  refine List.ext_getElem? fun j => ?_
  by_cases hv : j ∈ vs
  · by_cases hj : j < σ.length
    · rw [wipe_in hj hv, wipe_in (by rw [← hl]; exact hj) hv]
    · rw [List.getElem?_eq_none (by rw [wipe_length]; omega), List.getElem?_eq_none (by rw [wipe_length]; omega)]
  · rw [wipe_out hv, wipe_out hv, h j hv]
theorem wipe_wipe {σ : L2.St} {vs : List Nat} : L2.wipe (L2.wipe σ vs) vs = L2.wipe σ vs := wipe_ext (wipe_length _ _) fun j h => wipe_out h
theorem backG_out {Γ0 Γ : List Sl} {j : Nat} : ∀ {vs : List Nat}, j ∉ vs → (backG Γ0 Γ vs)[j]? = Γ[j]?
  | [], _ => rfl
  | v :: vs, h => by
    simp only [List.mem_cons, not_or] at h
    unfold backG
    rw [get_set_ne (Ne.symm h.1), backG_out h.2]
theorem backG_len (Γ0 Γ : List Sl) : ∀ vs : List Nat, (backG Γ0 Γ vs).length = Γ.length
  | [] => rfl
  | v :: vs => by unfold backG; rw [List.length_set, backG_len Γ0 Γ vs]
theorem backG_in {Γ0 Γ : List Sl} {j : Nat} (hl : Γ0.length = Γ.length) (hj : j < Γ.length) : ∀ {vs : List Nat}, j ∈ vs → (backG Γ0 Γ vs)[j]? = Γ0[j]?
  | [], h => by cases h
  | v :: vs, h => by
    unfold backG
    by_cases e : v = j
    · subst e
      rw [List.getElem?_set_self (by rw [backG_len]; exact hj), List.getD_eq_getElem?_getD, List.getElem?_eq_getElem (by rw [hl]; exact hj)]
      rfl
    · rw [get_set_ne e]
      rcases List.mem_cons.mp h with z | z
      · exact absurd z.symm e
      · exact backG_in hl hj z
section
variable {K : Fg} {O O1 O2 O' : List Addr} {Γ Γ1 Γ2 Γ' : List Sl} {σ σ1 σ2 σ' : L2.St} {H H1 H2 H' : Hp} {own : List Nat}
theorem Rl.wipe (R : Rl K O Γ σ H) : Rl K O (wipeG Γ own) (L2.wipe σ own) H := by
  refine ⟨by rw [wipeG_len, wipe_length]; exact R.len, fun j s h => ?_, fun i j a ds t hij h1 h2 ht h3 h4 => ?_, R.tr⟩
  · by_cases hv : j ∈ own
    · have hj : j < Γ.length := by rw [← wipeG_len Γ own]; exact (List.getElem?_eq_some_iff.mp h).1
      rw [wipeG_in hj hv] at h; cases h
      exact ⟨none, wipe_in (by rw [← R.len]; exact hj) hv, trivial⟩
    · rw [wipeG_out hv] at h; rw [wipe_out hv]; exact R.sl j s h
  · have nin : ∀ {k : Nat} {s : Sl}, (wipeG Γ own)[k]? = some s → s.hd = true → k ∉ own := fun {k s} e hs hv => by
      have hj : k < Γ.length := by rw [← wipeG_len Γ own]; exact (List.getElem?_eq_some_iff.mp e).1
      rw [wipeG_in hj hv] at e; cases e; cases hs
    have n1 := nin h1 rfl
    have n2 := nin h2 ht
    rw [wipeG_out n1] at h1; rw [wipe_out n1] at h3
    rw [wipeG_out n2] at h2; rw [wipe_out n2] at h4
    exact R.ne i j a ds t hij h1 h2 ht h3 h4
/-- what is hidden and held by no slot may change -/
theorem Rl.other (R : Rl K O Γ σ H) {a : Addr} {o : HO} (m : a ∈ O) (nh : ∀ (j : Nat) (t : Sl), Γ[j]? = some t → t.hd = true → σ[j]? ≠ some (some (.ref a))) : Rl K O Γ σ (upd H a o) ∧ Same (off O H) (off O (upd H a o)) := by
  have eo : Same (off O H) (off O (upd H a o)) := off_mono (fun b x n e => by rw [upd_ne (show b ≠ a from fun z => n (z ▸ m))]; exact e) fun b h n => absurd h n
  refine ⟨⟨R.len, fun j s h => ?_, R.ne, fun b hb => ?_⟩, eo⟩
  · obtain ⟨o', h1, h2⟩ := R.sl j s h
    refine ⟨o', h1, ?_⟩
    cases s with
    | no => trivial
    | va d => obtain ⟨v, e1, q⟩ := h2; exact ⟨v, e1, q.mono eo⟩
    | owc ds =>
      obtain ⟨b, vs, e1, mb, q, t⟩ := h2
      exact ⟨b, vs, e1, mb, by rw [upd_ne (show b ≠ a from fun z => nh j _ h rfl (by rw [h1, e1, z]))]; exact q, t.mono eo⟩
    | bwc ds =>
      obtain ⟨b, vs, e1, mb, q, t⟩ := h2
      exact ⟨b, vs, e1, mb, by rw [upd_ne (show b ≠ a from fun z => nh j _ h rfl (by rw [h1, e1, z]))]; exact q, t.mono eo⟩
    | sc ns => obtain ⟨b, e1, q⟩ := h2; exact ⟨b, e1, eo.seq q⟩
  · by_cases z : b = a
    · subst z; rw [upd_same]; exact fun z => by cases z
    · rw [upd_ne z]; exact R.tr b hb
theorem Rl.congr (h : ∀ b, b ∈ O ↔ b ∈ O') (R : Rl K O Γ σ H) : Rl K O' Γ σ H := by
  have e : off O H = off O' H := by
    funext b
    by_cases z : b ∈ O
    · rw [off_in z, off_in ((h b).mp z)]
    · rw [off_out z, off_out (fun z' => z ((h b).mpr z'))]
  refine ⟨R.len, fun j s hj => ?_, R.ne, fun b hb => R.tr b ((h b).mpr hb)⟩
  obtain ⟨o, h1, h2⟩ := R.sl j s hj
  refine ⟨o, h1, ?_⟩
  cases s with
  | no => trivial
  | va d => obtain ⟨v, e1, q⟩ := h2; exact ⟨v, e1, e ▸ q⟩
  | owc ds => obtain ⟨b, vs, e1, mb, q, t⟩ := h2; exact ⟨b, vs, e1, (h b).mp mb, q, e ▸ t⟩
  | bwc ds => obtain ⟨b, vs, e1, mb, q, t⟩ := h2; exact ⟨b, vs, e1, (h b).mp mb, q, e ▸ t⟩
  | sc ns => obtain ⟨b, e1, q⟩ := h2; exact ⟨b, e1, e ▸ q⟩
/-- what no slot holds need not be hidden -/
theorem Rl.show {a : Addr} (R : Rl K (a :: O) Γ σ H) (nh : ∀ (j : Nat) (t : Sl), Γ[j]? = some t → t.hd = true → σ[j]? ≠ some (some (.ref a))) : Rl K O Γ σ H := by
  refine ⟨R.len, fun j s h => ?_, R.ne, fun b hb => R.tr b (List.mem_cons_of_mem _ hb)⟩
  obtain ⟨o', h1, h2⟩ := R.sl j s h
  refine ⟨o', h1, ?_⟩
  cases s with
  | no => trivial
  | va d => obtain ⟨v, e1, q⟩ := h2; exact ⟨v, e1, q.mono off_less⟩
  | owc ds =>
    obtain ⟨b, vs, e1, mb, q, t⟩ := h2
    exact ⟨b, vs, e1, (List.mem_cons.mp mb).resolve_left fun z => nh j _ h rfl (by rw [h1, e1, z]), q, t.mono off_less⟩
  | bwc ds =>
    obtain ⟨b, vs, e1, mb, q, t⟩ := h2
    exact ⟨b, vs, e1, (List.mem_cons.mp mb).resolve_left fun z => nh j _ h rfl (by rw [h1, e1, z]), q, t.mono off_less⟩
  | sc ns => obtain ⟨b, e1, q⟩ := h2; exact ⟨b, e1, off_less.seq q⟩
theorem EStp.shadow {a : Addr} {o : HO} (S : EStp Γ σ H O Γ' H' O') (h : H a ≠ none) : EStp Γ σ (upd H a o) O Γ' (upd H' a o) O' := by
  have back : ∀ b, H b = none → upd H a o b = none := fun b e => by rw [upd_ne (show b ≠ a from fun z => h (z ▸ e))]; exact e
  refine ⟨⟨fun b x n e => ?_, fun b m => (S.mu b m).imp id (back b), fun b e => ?_, fun b m => (S.grow b m).imp id (back b), S.lose⟩, S.sub, S.pres, S.oth, S.bwb⟩
  · by_cases z : b = a
    · subst z; rw [upd_same] at e ⊢; exact e
    · rw [upd_ne z] at e ⊢; exact S.keep b x n e
  · by_cases z : b = a
    · subst z; rw [upd_same]; exact fun z => by cases z
    · rw [upd_ne z] at e ⊢; exact S.stay b e
theorem EStp.hdb (S : EStp Γ σ H O Γ' H' O') (hl : Γ'.length = Γ.length) {j : Nat} {t : Sl} (h : Γ'[j]? = some t) (ht : t.hd = true) : ∃ s, Γ[j]? = some s ∧ s.hd = true := by
  have hj : j < Γ.length := by rw [← hl]; exact (List.getElem?_eq_some_iff.mp h).1
  have e := List.getElem?_eq_getElem hj
  cases t with
  | bwc ds => exact ⟨_, S.bwb j ds h, rfl⟩
  | owc ds =>
    refine ⟨_, e, ?_⟩
    cases es : Γ[j] with
    | owc _ => rfl
    | _ =>
      rw [es] at e
      have := S.oth j _ e (fun _ z => by cases z)
      rw [h] at this; cases this
  | _ => cases ht
/-- one turn of a block: the target, what is evaluated, the own names forgotten -/
theorem turn_C {T : List Nat} {Γ3 : List Sl} {O3 : List Addr} {H3 : Hp} (R : Rl K O Γ σ H) (R2 : Rl K O Γ1 σ1 H) (hT : ∀ i, i ∈ T → i ∈ own) (hno : ∀ i, i ∈ own → Γ[i]? = some .no) (hσ : L2.wipe σ own = σ) (t : Tch T Γ σ Γ1 σ1) (s1 : SStp [] Γ σ H O Γ1 σ1 H O) (s2 : EStp Γ1 σ1 H O Γ3 H3 O3) (R3 : Rl K O3 Γ3 σ1 H3) :
    L2.wipe σ1 own = σ ∧ EStp Γ σ H O (wipeG Γ3 own) H3 O3 ∧ Rl K O3 (wipeG Γ3 own) σ H3 := by
  have hl1 : σ1.length = σ.length := by rw [← R2.len, ← R.len, t.len]
  have hw : L2.wipe σ1 own = σ := by
    rw [← hσ]
    exact wipe_ext hl1 fun j hj => (t.out j fun z => hj (hT j z)).2
  have hl3 : Γ3.length = Γ.length := by rw [R3.len, ← R2.len, t.len]
  have R5 : Rl K O3 (wipeG Γ3 own) σ H3 := by
    have q := R3.wipe (own := own)
    rw [hw] at q; exact q
  have out : ∀ j, j ∉ own → Γ1[j]? = Γ[j]? ∧ σ1[j]? = σ[j]? := fun j hj => t.out j fun z => hj (hT j z)
  have S := s1.toStp.trans R s2.toStp
  have inn : ∀ {j : Nat} {s : Sl}, (wipeG Γ3 own)[j]? = some s → j ∈ own → s = .no := fun {j s} e hj => by
    have hl : j < Γ3.length := by rw [← wipeG_len Γ3 own]; exact (List.getElem?_eq_some_iff.mp e).1
    rw [wipeG_in hl hj] at e; cases e; rfl
  refine ⟨hw, ⟨⟨S.keep, fun b ⟨j, ds, e1, e2⟩ => ?_, S.stay, S.grow, S.lose⟩, s2.sub, fun j ds e => ?_, fun j s e n => ?_, fun j ds e => ?_⟩, R5⟩
  · by_cases hj : j ∈ own
    · cases inn e1 hj
    · rw [wipeG_out hj] at e1
      exact S.mu b ⟨j, ds, e1, by rw [(out j hj).2]; exact e2⟩
  · have hj : j ∉ own := fun z => by rw [hno j z] at e; cases e
    rw [wipeG_out hj]
    exact s2.pres j ds (by rw [(out j hj).1]; exact e)
  · by_cases hj : j ∈ own
    · rw [hno j hj] at e; cases e
      exact wipeG_in (by rw [hl3]; exact (List.getElem?_eq_some_iff.mp (hno j hj)).1) hj
    · rw [wipeG_out hj]
      exact s2.oth j s (by rw [(out j hj).1]; exact e) n
  · by_cases hj : j ∈ own
    · cases inn e hj
    · rw [wipeG_out hj] at e
      have q := s2.bwb j ds e
      rw [(out j hj).1] at q; exact q
/-- the own names as they were ahead of the block -/
theorem Rl.back (R0 : Rl K O1 Γ1 σ H1) (hn : own.all (notHd Γ1) = true) (e : Same (off O1 H1) (off O H)) (R : Rl K O Γ (L2.wipe σ own) H) : Rl K O (backG Γ1 Γ own) σ H := by
  have hl : Γ1.length = Γ.length := by rw [R0.len, R.len, wipe_length]
  have nh : ∀ {j : Nat} {s : Sl}, j ∈ own → Γ1[j]? = some s → s.hd = false := fun {j s} hj e => by
    have := List.all_eq_true.mp hn j hj
    unfold notHd at this
    rw [e] at this
    simpa using this
  have nin : ∀ {k : Nat} {s : Sl}, (backG Γ1 Γ own)[k]? = some s → s.hd = true → k ∉ own := fun {k s} e hs hv => by
    have hj : k < Γ.length := by rw [← backG_len Γ1 Γ own]; exact (List.getElem?_eq_some_iff.mp e).1
    rw [backG_in hl hj hv] at e
    rw [nh hv e] at hs; cases hs
  refine ⟨by rw [backG_len, ← hl]; exact R0.len, fun j s h => ?_, fun i j a ds t hij h1 h2 ht h3 h4 => ?_, R.tr⟩
  · by_cases hv : j ∈ own
    · have hj : j < Γ.length := by rw [← backG_len Γ1 Γ own]; exact (List.getElem?_eq_some_iff.mp h).1
      rw [backG_in hl hj hv] at h
      obtain ⟨o, e1, q⟩ := R0.sl j s h
      refine ⟨o, e1, ?_⟩
      cases s with
      | no => trivial
      | va d => obtain ⟨v, e2, q⟩ := q; exact ⟨v, e2, q.mono e⟩
      | sc ns => obtain ⟨b, e2, q⟩ := q; exact ⟨b, e2, e.seq q⟩
      | owc ds => have := nh hv h; cases this
      | bwc ds => have := nh hv h; cases this
    · rw [backG_out hv] at h
      have q := R.sl j s h
      rw [wipe_out hv] at q; exact q
  · have n1 := nin h1 rfl
    have n2 := nin h2 ht
    rw [backG_out n1] at h1
    rw [backG_out n2] at h2
    exact R.ne i j a ds t hij h1 h2 ht (by rw [wipe_out n1]; exact h3) (by rw [wipe_out n2]; exact h4)
end
/-- nothing is let out -/
abbrev W0 : WX := fun _ _ _ _ => False
section
variable {K : Fg} {XR : XRel} {W : WX} {T own : List Nat} {mi : IM} {f : GM} {t : List Sl → Rs Bool} {m : EM}
theorem bor_wipe {Γ : List Sl} {b : Option Nat} {ds : List D} (h : BorOk Γ (ds, b)) (hn : own.all (notHd Γ) = true) : wipeG (bor b ds Γ) own = bor b ds (wipeG Γ own) ∧ BorOk (wipeG Γ own) (ds, b) := by
  cases b with
  | none => exact ⟨rfl, fun i e => by cases e⟩
  | some i =>
    have h0 := h i rfl
    have hi : i ∉ own := fun z => by
      have := List.all_eq_true.mp hn i z
      unfold notHd at this
      rw [h0] at this; cases this
    refine ⟨?_, fun j e => ?_⟩
    · refine List.ext_getElem? fun j => ?_
      show (wipeG (Γ.set i _) own)[j]? = ((wipeG Γ own).set i _)[j]?
      have hil : i < Γ.length := (List.getElem?_eq_some_iff.mp h0).1
      by_cases hv : j ∈ own
      · have hne : i ≠ j := fun z => hi (z ▸ hv)
        rw [get_set_ne hne]
        by_cases hj : j < Γ.length
        · rw [wipeG_in (by rw [List.length_set]; exact hj) hv, wipeG_in hj hv]
        · rw [List.getElem?_eq_none (by rw [wipeG_len, List.length_set]; omega), List.getElem?_eq_none (by rw [wipeG_len]; omega)]
      · rw [wipeG_out hv]
        by_cases hj : i = j
        · subst hj
          rw [List.getElem?_set_self hil, List.getElem?_set_self (by rw [wipeG_len]; exact hil)]
        · rw [get_set_ne hj, get_set_ne hj, wipeG_out hv]
    · cases e
      show (wipeG Γ own)[i]? = _
      rw [wipeG_out hi]; exact h0
theorem lc_tE (hT : ∀ i, i ∈ T → i ∈ own) {σ : L2.St} {H : Hp} {Q : VK} (h : tE K XR W (mLc own mi f t m) σ H Q) : tLc (tI K XR W mi) (gM K [] T f) (tT K XR W0 t) (tE K XR W0 m) own σ H Q := by
  obtain ⟨O, Γ, R, P⟩ := h
  refine ⟨O, Γ, R, (P.bind R).imp fun p Γ1 H1 O1 R1 S1 P1 hb J G WK hG D hD => ?_⟩
  obtain ⟨ds, b⟩ := p
  by_cases hn : own.all (notHd Γ1) = true
  · simp only [hn, if_true] at P1
    obtain ⟨ebw, hbw⟩ := bor_wipe hb hn
    rw [ebw] at P1
    -- the start: own names forgotten, the new list hidden
    have Rw : Rl K O1 (wipeG Γ1 own) (L2.wipe σ own) H1 := R1.wipe
    have sD : Same H1 (upd H1 D (.lst [])) := same_up hD
    have Rh : Rl K (D :: O1) (wipeG Γ1 own) (L2.wipe σ own) (upd H1 D (.lst [])) := Rw.hide sD hD (by rw [upd_same]; exact fun z => by cases z)
    obtain ⟨Rb, Sb⟩ := bor_rl Rh hbw
    have hlen : (wipeG Γ1 own).length = Γ1.length := wipeG_len _ _
    have hbl : (bor b ds (wipeG Γ1 own)).length = Γ1.length := by
      cases b with
      | none => exact hlen
      | some i => show ((wipeG Γ1 own).set i _).length = _; rw [List.length_set]; exact hlen
    have hown : ∀ i, i ∈ own → (bor b ds (wipeG Γ1 own))[i]? = some .no := fun i hi => by
      have hil : i < Γ1.length := by
        have := List.all_eq_true.mp hn i hi
        unfold notHd at this
        cases z : Γ1[i]? with
        | none => rw [z] at this; cases this
        | some s => exact (List.getElem?_eq_some_iff.mp z).1
      rw [← ebw]
      refine wipeG_in ?_ hi
      cases b with
      | none => exact hil
      | some j => show i < (Γ1.set j _).length; rw [List.length_set]; exact hil
    have nD : D ∉ O1 := fun z => R1.tr D z hD
    -- no slot of the start holds D
    have nh0 : ∀ (j : Nat) (s : Sl), (bor b ds (wipeG Γ1 own))[j]? = some s → s.hd = true → (L2.wipe σ own)[j]? ≠ some (some (.ref D)) := fun j s e hs z => by
      obtain ⟨Rb2, _⟩ := bor_rl Rw hbw
      obtain ⟨o, e1, q⟩ := Rb2.sl j s e
      rw [z] at e1; cases e1
      cases s with
      | owc es => obtain ⟨a, vs, e2, _, ha, _⟩ := q; cases e2; rw [hD] at ha; cases ha
      | bwc es => obtain ⟨a, vs, e2, _, ha, _⟩ := q; cases e2; rw [hD] at ha; cases ha
      | _ => cases hs
    have hG1 : G (D :: O1) (bor b ds (wipeG Γ1 own)) (L2.wipe σ own) (upd H1 D (.lst [])) := by
      refine WK.stb O1 (bor b ds Γ1) σ H1 _ _ _ _ hG (off_mono (fun b o _ e => sD b o e) fun b h n => ?_) fun i es e => ?_
      · rcases List.mem_cons.mp h with z | z
        · rw [z]; exact hD
        · exact absurd z n
      · have hi : i ∉ own := fun z => by
          have := hown i z
          rw [← ebw, wipeG_in (by exact (List.getElem?_eq_some_iff.mp e).1) z] at this
          have h2 := List.all_eq_true.mp hn i z
          unfold notHd at h2
          cases b with
          | none =>
            have e' : Γ1[i]? = some (.bwc es) := e
            rw [e'] at h2; cases h2
          | some k =>
            have e' : (Γ1.set k (.bw ds))[i]? = some (.bwc es) := e
            by_cases hk : k = i
            · subst hk
              rw [hb k rfl] at h2; cases h2
            · rw [get_set_ne hk] at e'
              rw [e'] at h2; cases h2
        rw [← ebw, wipeG_out hi, wipe_out hi]
        exact ⟨e, rfl⟩
    refine ⟨fun i k H' => ∃ Ox Γ' rem acc accV, ds.drop i = rem ∧ k = rem.length ∧ i ≤ ds.length ∧ Rl K Ox Γ' (L2.wipe σ own) H' ∧ D ∈ Ox ∧ EStp (bor b ds (wipeG Γ1 own)) (L2.wipe σ own) (upd H1 D (.lst [])) (D :: O1) Γ' (upd H' D (.lst [])) Ox ∧
        G Ox Γ' (L2.wipe σ own) H' ∧ H' D = some (.lst accV) ∧ AtL K (off Ox H') acc accV ∧ loopC own f t m rem acc Γ' = loopC own f t m ds [] (bor b ds (wipeG Γ1 own)),
      ⟨ds.length, D :: O1, _, ds, [], [], rfl, rfl, Nat.zero_le _, Rb, List.mem_cons_self, ?_, hG1, upd_same, rfl, rfl⟩, ?_⟩
    · rw [upd_upd]; exact EStp.refl
    rintro i k H' ⟨Ox, Γ', rem, acc, accV, e1, e2, hi, R', mD, S', g', eD, tD, hl⟩
    have hlen' : Γ'.length = (bor b ds (wipeG Γ1 own)).length := by rw [R'.len, ← Rb.len]
    have nh' : ∀ (j : Nat) (s : Sl), Γ'[j]? = some s → s.hd = true → (L2.wipe σ own)[j]? ≠ some (some (.ref D)) := fun j s e hs => by
      obtain ⟨s0, e0, h0⟩ := S'.hdb hlen' e hs
      exact nh0 j s0 e0 h0
    have hno' : ∀ i, i ∈ own → Γ'[i]? = some .no := fun i hi => S'.oth i _ (hown i hi) fun _ z => by cases z
    cases rem with
    | nil =>
      have ei : i = ds.length := by
        have := congrArg List.length e1
        rw [List.length_drop] at this
        simp at this; omega
      subst ei
      refine .inl ⟨WK.stop Ox Γ' _ H' R' g', ?_⟩
      rw [← hl] at P1
      simp only [loopC] at P1
      -- what was lent is given back, the own names are as they were
      have Ru : Rl K Ox (unb b ds Γ') (L2.wipe σ own) H' := by
        refine unb_rl Rh hbw (fun a ma => S'.mu a ma) (fun i e => ?_) (fun i es e => ⟨S'.bwb i es e, rfl⟩) R'
        subst e
        exact ⟨S'.oth i _ (get_set_eq (hbw i rfl)) (fun _ z => by cases z), rfl⟩
      have eo : Same (off O1 H1) (off Ox H') := by
        have q1 : Same (off (D :: O1) (upd H1 D (.lst []))) (off Ox (upd H' D (.lst []))) := S'.toStp.same Rb
        intro b' o e
        obtain ⟨z1, z2⟩ := off_some.mp e
        have nb : b' ≠ D := fun z => by rw [z, hD] at z2; cases z2
        have q2 := q1 b' o (off_some.mpr ⟨fun z => (List.mem_cons.mp z).elim nb z1, by rw [upd_ne nb]; exact z2⟩)
        obtain ⟨z3, z4⟩ := off_some.mp q2
        rw [upd_ne nb] at z4
        exact off_some.mpr ⟨z3, z4⟩
      have Rf : Rl K Ox (backG Γ1 (unb b ds Γ') own) σ H' := R1.back hn eo Ru
      have hlu : (unb b ds Γ').length = Γ1.length := by
        cases b with
        | none => show Γ'.length = _; rw [hlen', hbl]
        | some i => show (Γ'.set i _).length = _; rw [List.length_set, hlen', hbl]
      have nhf : ∀ (j : Nat) (s : Sl), (backG Γ1 (unb b ds Γ') own)[j]? = some s → s.hd = true → σ[j]? ≠ some (some (.ref D)) := fun j s e hs z => by
        have hj : j ∉ own := fun hv => by
          have hjl : j < (unb b ds Γ').length := by rw [← backG_len Γ1 (unb b ds Γ') own]; exact (List.getElem?_eq_some_iff.mp e).1
          rw [backG_in (by rw [hlu]) hjl hv] at e
          have h2 := List.all_eq_true.mp hn j hv
          unfold notHd at h2
          rw [e] at h2
          simp [hs] at h2
        rw [backG_out hj] at e
        have zw : (L2.wipe σ own)[j]? = some (some (.ref D)) := by rw [wipe_out hj]; exact z
        cases b with
        | none => exact nh' j s e hs zw
        | some i =>
          have e' : (Γ'.set i (.ow ds))[j]? = some s := e
          by_cases hij : i = j
          · subst hij
            exact nh' i (.bwc ⟨.lst, ds⟩) (S'.oth i _ (get_set_eq (hbw i rfl)) (fun _ z => by cases z)) rfl zw
          · rw [get_set_ne hij] at e'; exact nh' j s e' hs zw
      have hO : ∀ b', b' ∈ Ox ↔ b' ∈ D :: Ox.filter fun c => decide (c ≠ D) := fun b' => by
        by_cases z : b' = D
        · subst z; exact ⟨fun _ => List.mem_cons_self, fun _ => mD⟩
        · exact ⟨fun h => List.mem_cons_of_mem _ (List.mem_filter.mpr ⟨h, decide_eq_true z⟩), fun h => (List.mem_cons.mp h).elim (fun q => absurd q z) fun q => (List.mem_filter.mp q).1⟩
      have Rc := Rl.congr hO Rf
      have Rs := Rc.show nhf
      -- the step, seen from the outside
      have inO1 : ∀ b', b' ∈ Ox.filter (fun c => decide (c ≠ D)) → b' ∈ O1 := fun b' h => by
        obtain ⟨h1, h2⟩ := List.mem_filter.mp h
        exact (List.mem_cons.mp (S'.sub b' h1)).resolve_left (by simpa using h2)
      have muw : ∀ b', Mu (bor b ds (wipeG Γ1 own)) (L2.wipe σ own) b' → Mu Γ1 σ b' := fun b' ⟨j, es, z1, z2⟩ => by
        obtain ⟨_, Sb2⟩ := bor_rl Rw hbw
        rcases Sb2.mu b' ⟨j, es, z1, z2⟩ with ⟨j', es', z3, z4⟩ | z
        · have hj : j' ∉ own := fun hv => by
            have hjl : j' < Γ1.length := by rw [← hlen]; exact (List.getElem?_eq_some_iff.mp z3).1
            rw [wipeG_in hjl hv] at z3; cases z3
          rw [wipeG_out hj] at z3; rw [wipe_out hj] at z4
          exact ⟨j', es', z3, z4⟩
        · obtain ⟨o, q1, a', vs', q2, _, q3, _⟩ := (bor_rl Rw hbw).1.sl j _ z1
          rw [z2] at q1; cases q1; cases q2
          rw [z] at q3; cases q3
      have ES : EStp Γ1 σ H1 O1 (backG Γ1 (unb b ds Γ') own) H' (Ox.filter fun c => decide (c ≠ D)) := by
        refine ⟨⟨fun b' o n e => ?_, fun b' ⟨j, es, z1, z2⟩ => ?_, fun b' e => ?_, fun b' m => .inl (inO1 b' m), fun b' h1 h2 => ?_⟩, inO1, fun j es e => ?_, fun j s e n => ?_, fun j es e => ?_⟩
        · have nb : b' ≠ D := fun z => by rw [z, hD] at e; cases e
          have := S'.keep b' o (fun mm => n (muw b' mm)) (by rw [upd_ne nb]; exact e)
          rw [upd_ne nb] at this; exact this
        · have hj : j ∉ own := fun hv => by
            have hjl : j < (unb b ds Γ').length := by rw [← backG_len Γ1 (unb b ds Γ') own]; exact (List.getElem?_eq_some_iff.mp z1).1
            rw [backG_in (by rw [hlu]) hjl hv] at z1
            have h2 := List.all_eq_true.mp hn j hv
            unfold notHd at h2
            rw [z1] at h2; cases h2
          rw [backG_out hj] at z1
          have zw : (L2.wipe σ own)[j]? = some (some (.ref b')) := by rw [wipe_out hj]; exact z2
          cases b with
          | none =>
            rcases S'.mu b' ⟨j, es, z1, zw⟩ with q | q
            · exact .inl (muw b' q)
            · by_cases nb : b' = D
              · subst nb; exact .inr hD
              · rw [upd_ne nb] at q; exact .inr q
          | some i =>
            have z1' : (Γ'.set i (.ow ds))[j]? = some (.owc es) := z1
            by_cases hij : i = j
            · subst hij; exact .inl ⟨i, ⟨.lst, ds⟩, hb i rfl, z2⟩
            · rw [get_set_ne hij] at z1'
              rcases S'.mu b' ⟨j, es, z1', zw⟩ with q | q
              · exact .inl (muw b' q)
              · by_cases nb : b' = D
                · subst nb; exact .inr hD
                · rw [upd_ne nb] at q; exact .inr q
        · have nb : b' ≠ D := fun z => by rw [z] at e; exact e hD
          have := S'.stay b' (by rw [upd_ne nb]; exact e)
          rw [upd_ne nb] at this; exact this
        · have nb : b' ≠ D := fun z => nD (z ▸ h1)
          exact muw b' (S'.lose b' (List.mem_cons_of_mem _ h1) fun z => h2 (List.mem_filter.mpr ⟨z, decide_eq_true nb⟩))
        · have hj : j ∉ own := fun hv => by
            have h2 := List.all_eq_true.mp hn j hv
            unfold notHd at h2
            rw [e] at h2; cases h2
          rw [backG_out hj]
          cases b with
          | none => exact S'.pres j es (by show (wipeG Γ1 own)[j]? = _; rw [wipeG_out hj]; exact e)
          | some i =>
            by_cases hij : i = j
            · subst hij
              exact .inl ⟨⟨.lst, ds⟩, get_set_eq (S'.oth i _ (get_set_eq (hbw i rfl)) (fun _ z => by cases z))⟩
            · show (∃ es, (Γ'.set i _)[j]? = _) ∨ ∃ es, (Γ'.set i _)[j]? = _
              rw [get_set_ne hij]
              exact S'.pres j es (by show ((wipeG Γ1 own).set i _)[j]? = _; rw [get_set_ne hij, wipeG_out hj]; exact e)
        · by_cases hj : j ∈ own
          · rw [backG_in (by rw [hlu]) (by rw [hlu]; exact (List.getElem?_eq_some_iff.mp e).1) hj]; exact e
          · rw [backG_out hj]
            cases b with
            | none => exact S'.oth j s (by show (wipeG Γ1 own)[j]? = _; rw [wipeG_out hj]; exact e) n
            | some i =>
              have hij : i ≠ j := fun z => by subst z; rw [hb i rfl] at e; cases e; exact n ⟨.lst, ds⟩ rfl
              show (Γ'.set i _)[j]? = _
              rw [get_set_ne hij]
              exact S'.oth j s (by show ((wipeG Γ1 own).set i _)[j]? = _; rw [get_set_ne hij, wipeG_out hj]; exact e) n
        · by_cases hj : j ∈ own
          · have hjl : j < (unb b ds Γ').length := by rw [← backG_len Γ1 (unb b ds Γ') own]; exact (List.getElem?_eq_some_iff.mp e).1
            rw [backG_in (by rw [hlu]) hjl hj] at e; exact e
          · rw [backG_out hj] at e
            cases b with
            | none =>
              have q := S'.bwb j es e
              have q' : (wipeG Γ1 own)[j]? = some (.bwc es) := q
              rw [wipeG_out hj] at q'; exact q'
            | some i =>
              have e' : (Γ'.set i (.ow ds))[j]? = some (.bwc es) := e
              by_cases hij : i = j
              · subst hij
                rw [get_set_eq (S'.oth i _ (get_set_eq (hbw i rfl)) (fun _ z => by cases z))] at e'; cases e'
              · rw [get_set_ne hij] at e'
                have q := S'.bwb j es e'
                have q' : ((wipeG Γ1 own).set i (.bw ds))[j]? = some (.bwc es) := q
                rw [get_set_ne hij, wipeG_out hj] at q'; exact q'
      refine P1 H' _ Rs ES (.ref D) ⟨D, accV, rfl, fun z => by simpa using (List.mem_filter.mp z).2, none_back S1.toStp D hD, eD, ?_, Rc⟩
      refine tD.mono fun b' o e => ?_
      obtain ⟨z1, z2⟩ := off_some.mp e
      exact off_some.mpr ⟨fun z => z1 ((hO b').mpr z), z2⟩
    | cons d rem =>
      have ed : ds[i]? = some d := by
        have := congrArg (·[0]?) e1
        simpa using this
      have e3 : ds.drop (i + 1) = rem := by
        have := congrArg List.tail e1
        simpa using this
      have hi2 : i < ds.length := (List.getElem?_eq_some_iff.mp ed).1
      refine .inr ⟨WK.go i Ox Γ' _ H' d ed R' g', fun H3 => ∃ O3 Γ3 acc3 accV3, Rl K O3 Γ3 (L2.wipe σ own) H3 ∧ D ∈ O3 ∧ EStp (bor b ds (wipeG Γ1 own)) (L2.wipe σ own) (upd H1 D (.lst [])) (D :: O1) Γ3 (upd H3 D (.lst [])) O3 ∧
        G O3 Γ3 (L2.wipe σ own) H3 ∧ H3 D = some (.lst accV3) ∧ AtL K (off O3 H3) acc3 accV3 ∧ loopC own f t m rem acc3 Γ3 = loopC own f t m ds [] (bor b ds (wipeG Γ1 own)), ?_, ?_⟩
      · rintro H3 ⟨O3, Γ3, acc3, accV3, a1, a2, a3, a4, a5, a6, a7⟩
        exact ⟨rem.length, by rw [e2]; simp, O3, Γ3, rem, acc3, accV3, e3, rfl, hi2, a1, a2, a3, a4, a5, a6, a7⟩
      · intro x H2 hy
        obtain ⟨sm, hx2⟩ := WK.yld i Ox Γ' _ H' d x H2 ed R' g' hy
        have R2 := R'.same sm
        have eD2 : H2 D = some (.lst accV) := sm D _ eD
        have hDn : H' D ≠ none := by rw [eD]; exact fun z => by cases z
        have ES1 : EStp Γ' (L2.wipe σ own) H' Ox Γ' H2 Ox := EStp.of_same sm
        have S2 : EStp (bor b ds (wipeG Γ1 own)) (L2.wipe σ own) (upd H1 D (.lst [])) (D :: O1) Γ' (upd H2 D (.lst [])) Ox := S'.trans Rb (ES1.shadow hDn)
        have g2 : G Ox Γ' (L2.wipe σ own) H2 := WK.stb Ox Γ' _ H' Ox Γ' _ H2 g' (ES1.toStp.same R') fun i es e => ⟨e, rfl⟩
        have tD2 : AtL K (off Ox H2) acc accV := tD.mono (ES1.toStp.same R')
        have hDn2 : H2 D ≠ none := by rw [eD2]; exact fun z => by cases z
        simp only [loopC] at hl
        cases ef : f d Γ' with
        | none => rw [ef] at hl; rw [← hl] at P1; exact P1.elim
        | some Γ3 =>
          rw [ef] at hl
          refine ⟨Ox, Γ', d, Γ3, R2, hx2, ef, fun σ3 R3 S3 tch => ?_⟩
          have hw3 : L2.wipe σ3 own = L2.wipe σ own := (turn_C R2 R3 hT hno' wipe_wipe tch S3 (EStp.refl) R3).1
          refine ⟨hw3, Ox, Γ3, R3, ?_⟩
          cases et : t Γ3 with
          | ex c pl Γ4 => simp only [et] at hl; rw [← hl] at P1; exact P1.elim
          | no => simp only [et] at hl; rw [← hl] at P1; exact P1.elim
          | ok k4 Γ4 =>
            intro H4 O4 R4 S4
            cases k4 with
            | false =>
              simp only [et] at hl
              obtain ⟨_, S5, R5⟩ := turn_C R2 R3 hT hno' wipe_wipe tch S3 S4 R4
              have mD4 : D ∈ O4 := Classical.byContradiction fun z => by
                obtain ⟨j, es, z1, z2⟩ := S5.lose D mD z
                exact nh' j _ z1 rfl z2
              have eD4 : H4 D = some (.lst accV) := S5.keep D _ (fun ⟨j, es, z1, z2⟩ => nh' j _ z1 rfl z2) eD2
              exact iteF ⟨O4, wipeG Γ4 own, acc, accV, R5, mD4, S2.trans Rb (S5.shadow hDn2), WK.stb Ox Γ' _ H2 O4 _ _ H4 g2 (S5.toStp.same R2) (fun i es e => ⟨S5.oth i _ e (fun _ z => by cases z), rfl⟩), eD4, tD2.mono (S5.toStp.same R2), hl⟩
            | true =>
              simp only [et] at hl
              refine iteT ⟨O4, Γ4, R4, ?_⟩
              cases em : m Γ4 with
              | ex c pl Γ5 => simp only [em] at hl; rw [← hl] at P1; exact P1.elim
              | no => simp only [em] at hl; rw [← hl] at P1; exact P1.elim
              | ok r Γ5 =>
                simp only [em] at hl
                intro H5 O5 R5 S5 v hv
                cases ee : esc Γ5 r with
                | none => simp only [ee] at hl; rw [← hl] at P1; exact P1.elim
                | some q =>
                  obtain ⟨d', Γ6⟩ := q
                  simp only [ee] at hl
                  obtain ⟨O6, R6, S6, q6⟩ := hv.esc R5 EStp.refl R5 ee
                  split at hl
                  · rename_i hz
                    obtain ⟨_, S7, R7⟩ := turn_C R2 R3 hT hno' wipe_wipe tch S3 ((S4.trans R3 S5).trans R3 S6) R6
                    have mD6 : D ∈ O6 := Classical.byContradiction fun z => by
                      obtain ⟨j, es, z1, z2⟩ := S7.lose D mD z
                      exact nh' j _ z1 rfl z2
                    have eD6 : H5 D = some (.lst accV) := S7.keep D _ (fun ⟨j, es, z1, z2⟩ => nh' j _ z1 rfl z2) eD2
                    have tD6 := tD2.mono (S7.toStp.same R2)
                    have hl6 : (wipeG Γ6 own).length = Γ'.length := by rw [R7.len, R'.len]
                    have nh6 : ∀ (j : Nat) (s : Sl), (wipeG Γ6 own)[j]? = some s → s.hd = true → (L2.wipe σ own)[j]? ≠ some (some (.ref D)) := fun j s e hs => by
                      obtain ⟨s0, e0, h0⟩ := S7.hdb hl6 e hs
                      exact nh' j s0 e0 h0
                    obtain ⟨R8, eo8⟩ := R7.other (o := .lst (accV ++ [v])) mD6 nh6
                    refine ⟨accV, eD6, by rw [← tD6.length, big_eq]; exact hz, O6, wipeG Γ6 own, acc ++ [d'], accV ++ [v], R8, mD6, ?_, ?_, upd_same, (tD6.append (AtL.cons q6 AtL.nil)).mono eo8, hl⟩
                    · rw [upd_upd]; exact S2.trans Rb (S7.shadow hDn2)
                    · exact WK.stb O6 _ _ H5 O6 _ _ _ (WK.stb Ox Γ' _ H2 O6 _ _ H5 g2 (S7.toStp.same R2) (fun i es e => ⟨S7.oth i _ e (fun _ z => by cases z), rfl⟩)) eo8 fun i es e => ⟨e, rfl⟩
                  · rw [← hl] at P1; exact P1.elim
  · simp only [hn] at P1
    exact P1.elim
end
section
variable {X : Cx} {XR : XRel} {W : WX} {T : List Nat} {elt tg iter : Expr} {ifs : List Expr} {scope : Scope} {own : List (Str × Nat)} {pos : Pos} {mi : IM} {f : GM} {t : List Sl → Rs Bool} {m : EM}
def MTs (X : Cx) (XR : XRel) (W : WX) (es : List Expr) (m : List Sl → Rs Bool) : Prop := PTs X es (tT X.KW XR W m)
def tYesM : List Sl → Rs Bool := fun Γ => .ok true Γ
theorem mts_nil : MTs X XR W [] tYesM := ⟨fun pins s σ H Q I ⟨O, Γ, R, h⟩ => pts_nil.run pins s σ H Q I (h H O R EStp.refl)⟩
theorem me_lc (hc : X.calm = true) (hN : X.N.Nodup) (hi : MI X XR W tg iter mi) (ok : BlkOk X.N X.env.scope scope own) (hT : ∀ i, i ∈ T → i ∈ own.map (·.2))
    (hg : ∀ (s : Shared) (H : Hp) (C : Addr) (cl : List (Str × Addr)) (fp : List Addr), MG (X.blk s H scope (compEnvC scope cl C X.env) fp) [] T tg f) (ht : ∀ (s : Shared) (H : Hp) (C : Addr) (cl : List (Str × Addr)) (fp : List Addr), MTs (X.blk s H scope (compEnvC scope cl C X.env) fp) XR W0 ifs t)
    (he : ∀ (s : Shared) (H : Hp) (C : Addr) (cl : List (Str × Addr)) (fp : List Addr), ME (X.blk s H scope (compEnvC scope cl C X.env) fp) XR W0 elt m) (hs : ∀ x, foldedSetIterable iter X.env x = pure x := by intro _; rfl) :
    ME X XR W (.ListComp elt [⟨tg, iter, ifs, 0⟩] scope pos) (mLc (own.map (·.2)) mi f t m) :=
  (pe_lc (g := gM X.KW [] T f) (tt := tT X.KW XR W0 t) (te := tE X.KW XR W0 m) hc hN hi ok hg ht he hs).imp fun σ H Q h => lc_tE hT h
end
end Mir

set_option Elab.async false
set_option autoImplicit false
set_option linter.all false
set_option maxRecDepth 100000
set_option maxHeartbeats 4000000
namespace Mir
open PySem PySem.Spec PyProof.Rows L2

section
variable {X : Cx} {XR : XRel} {W : WX} {P T : List Nat} {elt tg iter : Expr} {ifs : List Expr} {scope : Scope} {own : List (Str × Nat)} {pos spos : Pos} {mi : IM} {f : GM} {t : List Sl → Rs Bool} {m : EM}
/-- name = [.. for ..] on one line -/
theorem ms_setLc {i : Nat} {y : Str} {py : Pos} (hc : X.calm = true) (hN : X.N.Nodup) (hy : X.N[i]? = some y) (hyl : X.env.scope.names.lookup y = some .local)
    (hsw : swapsWith (.ListComp elt [⟨tg, iter, ifs, 0⟩] scope pos) (some (.Name y py)) spos.line X.env = pure true) (hi : MI X XR W tg iter mi) (ok : BlkOk X.N X.env.scope scope own) (hT : ∀ i, i ∈ T → i ∈ own.map (·.2))
    (hg : ∀ (s : Shared) (H : Hp) (C : Addr) (cl : List (Str × Addr)) (fp : List Addr), MG (X.blk s H scope (compEnvC scope cl C X.env) fp) [] T tg f) (ht : ∀ (s : Shared) (H : Hp) (C : Addr) (cl : List (Str × Addr)) (fp : List Addr), MTs (X.blk s H scope (compEnvC scope cl C X.env) fp) XR W0 ifs t)
    (he : ∀ (s : Shared) (H : Hp) (C : Addr) (cl : List (Str × Addr)) (fp : List Addr), ME (X.blk s H scope (compEnvC scope cl C X.env) fp) XR W0 elt m) (hp : i ∉ P := by decide) (hs : ∀ x, foldedSetIterable iter X.env x = pure x := by intro _; rfl) :
    MS X XR W P (.Assign [.Name y py] (.ListComp elt [⟨tg, iter, ifs, 0⟩] scope pos) spos) (sSet i (mLc (own.map (·.2)) mi f t m)) :=
  (ps_setLc (g := gM X.KW [] T f) (tt := tT X.KW XR W0 t) (te := tE X.KW XR W0 m) hc hN hy hyl hsw hi ok hg ht he hs).imp fun D σ H h => lc_tE hT (set_tS hp h)
/-- raise C('..') -/
def sRaise (c : Nat) : SM := fun Γ => .ex c [] Γ
theorem ms_raise {C : Addr} {c : Nat} {e : Expr} (hc : X.calm = true) (tk : Takes X W) (he : PMk X e (fun _ H Q => Q (.ref C) none H)) (hx : ∀ H, XR c [] H (.ref C) none) : MS X XR W P (.Raise (some e) none pos) (sRaise c) :=
  (ps_raise hc tk he).imp fun D σ H ⟨O, Γ, R, h⟩ => h (.ref C) none σ H O (hx H) R SStp.refl
end

/-! ### a def -/
def finD : List Sl → List Sl → List Sl
  | [], _ => []
  | s :: Δ, [] => s :: finD Δ []
  | s :: Δ, g :: Γ => (match s with
    | .owc _ => g
    | s => s) :: finD Δ Γ
def pOk (P : List Nat) : Nat → List Sl → Bool
  | _, [] => true
  | j, s :: t => (match s with
    | .owc _ => P.contains j
    | _ => true) && pOk P (j + 1) t
def pad (nN : Nat) (Δ : List Sl) : List Sl := Δ ++ List.replicate (nN - Δ.length) .no
def endD (P : List Nat) (Δ : List Sl) : SR → Rs RV
  | .nx Γ => .ok (.va .non) (finD Δ Γ)
  | .rt (.va d) Γ => .ok (.va d) (finD Δ Γ)
  | .rt (.owc ds) Γ => .ok (.owc ds) (finD Δ Γ)
  | .rt (.bo i) Γ => match Γ[i]? with
    | some (.owc ds) => if P.contains i then .no else .ok (.owc ds) (finD Δ Γ)
    | some (.va d) => .ok (.va d) (finD Δ Γ)
    | _ => .no
  | .ex c pl Γ => .ex c pl (finD Δ Γ)
  | _ => .no
def mDef (nN np : Nat) (P : List Nat) (body : SM) : DM := fun Δ => if pOk P 0 Δ && decide (Δ.length = np) then endD P Δ (body (pad nN Δ)) else .no
theorem finD_get : ∀ (Δ Γ : List Sl) (j : Nat), (finD Δ Γ)[j]? = (Δ[j]?).map fun s => match s with
    | .owc ds => (Γ[j]?).getD (.owc ds)
    | s => s
  | [], Γ, j => by simp [finD]
  | s :: Δ, [], 0 => by cases s <;> simp [finD]
  | s :: Δ, [], j + 1 => by
    simp only [finD, List.getElem?_cons_succ]
    rw [finD_get Δ [] j]
    cases Δ[j]? with
    | none => rfl
    | some s => cases s <;> simp
  | s :: Δ, g :: Γ, 0 => by cases s <;> simp [finD]
  | s :: Δ, g :: Γ, j + 1 => by
    simp only [finD, List.getElem?_cons_succ]
    rw [finD_get Δ Γ j]
theorem finD_len : ∀ (Δ Γ : List Sl), (finD Δ Γ).length = Δ.length
  | [], _ => rfl
  | s :: Δ, [] => by simp [finD, finD_len Δ []]
  | s :: Δ, g :: Γ => by simp [finD, finD_len Δ Γ]
theorem pOk_get {P : List Nat} : ∀ {Δ : List Sl} {i j : Nat} {ds : Ct}, pOk P i Δ = true → Δ[j]? = some (.owc ds) → i + j ∈ P
  | [], _, _, _, _, h => by simp at h
  | s :: t, i, 0, ds, e, h => by
    simp at h; subst h
    simp only [pOk, Bool.and_eq_true] at e
    simpa using e.1
  | s :: t, i, j + 1, ds, e, h => by
    simp only [pOk, Bool.and_eq_true] at e
    have := pOk_get (j := j) e.2 (by simpa using h)
    rw [show i + (j + 1) = i + 1 + j by omega]; exact this
section
variable {K : Fg} {XR : XRel} {P : List Nat} {O O' E E'' : List Addr} {Δ Γ' : List Sl} {vs : List V} {σ σ' : L2.St} {H H' : Hp} {N : List Str}
theorem start_get {vs : List V} {j : Nat} (h : j < vs.length) : (L2.start N vs)[j]? = (vs.map some)[j]? := by
  unfold L2.start
  rw [List.getElem?_append_left (by simpa using h)]
theorem pad_get {nN j : Nat} (h : j < Δ.length) : (pad nN Δ)[j]? = Δ[j]? := by
  unfold pad
  rw [List.getElem?_append_left h]
theorem pad_out {nN j : Nat} {s : Sl} (h : ¬ j < Δ.length) (e : (pad nN Δ)[j]? = some s) : s = .no := by
  unfold pad at e
  rw [List.getElem?_append_right (by omega), List.getElem?_replicate] at e
  split at e
  · cases e; rfl
  · cases e
theorem Rl.start (R : Rl K O Δ (vs.map some) H) (hN : vs.length ≤ N.length) : Rl K O (pad N.length Δ) (L2.start N vs) H := by
  have hl : Δ.length = vs.length := by rw [R.len, List.length_map]
  refine ⟨by unfold pad L2.start; simp [hl], fun j s h => ?_, fun i j a ds t hij h1 h2 ht h3 h4 => ?_, R.tr⟩
  · by_cases hj : j < Δ.length
    · rw [pad_get hj] at h
      rw [start_get (by omega)]; exact R.sl j s h
    · have e := pad_out hj h
      subst e
      have hjn : j < (L2.start N vs).length := by
        have := (List.getElem?_eq_some_iff.mp h).1
        unfold pad at this
        unfold L2.start
        simp only [List.length_append, List.length_replicate, List.length_map] at this ⊢
        omega
      exact ⟨_, List.getElem?_eq_getElem hjn, trivial⟩
  · have g1 : i < Δ.length := Classical.byContradiction fun z => by have := pad_out z h1; cases this
    have g2 : j < Δ.length := Classical.byContradiction fun z => by have := pad_out z h2; subst this; cases ht
    rw [pad_get g1] at h1; rw [pad_get g2] at h2
    rw [start_get (by omega)] at h3 h4
    exact R.ne i j a ds t hij h1 h2 ht h3 h4
theorem start_mu {b : Addr} (hl : Δ.length = vs.length) : Mu (pad N.length Δ) (L2.start N vs) b ↔ Mu Δ (vs.map some) b := by
  constructor
  · rintro ⟨i, ds, h1, h2⟩
    have g1 : i < Δ.length := Classical.byContradiction fun z => by have := pad_out z h1; cases this
    rw [pad_get g1] at h1; rw [start_get (by omega)] at h2
    exact ⟨i, ds, h1, h2⟩
  · rintro ⟨i, ds, h1, h2⟩
    have g1 : i < Δ.length := (List.getElem?_eq_some_iff.mp h1).1
    exact ⟨i, ds, by rw [pad_get g1]; exact h1, by rw [start_get (by omega)]; exact h2⟩
/-- the end of a def: the slots of its parameters, for the caller -/
theorem fin_rl (R : Rl K O Δ (vs.map some) H) (hp : pOk P 0 Δ = true) (S : SStp P (pad N.length Δ) (L2.start N vs) H O Γ' σ' H' O') (hsame : Same (off O H) (off E'' H')) (hE : Same (off E H') (off E'' H')) (hsub : ∀ b, b ∈ E'' → b ∈ E)
    (hlose : ∀ b, b ∈ O → b ∈ E → b ∈ E'') (hk : ∀ b, b ∈ O → ¬ Mu Δ (vs.map some) b → b ∈ E'') (R' : Rl K E Γ' σ' H') : Rl K E'' (finD Δ Γ') (vs.map some) H' := by
  have hl : Δ.length = vs.length := by rw [R.len, List.length_map]
  -- an owned parameter at the end
  have own : ∀ {j : Nat} {ds : Ct}, Δ[j]? = some (.owc ds) → ∃ s, Γ'[j]? = some s ∧ ((∃ es, s = .owc es) ∨ ∃ es : Ct, s = .va es.data) ∧ σ'[j]? = (vs.map some)[j]? := fun {j ds} h => by
    have g1 : j < Δ.length := (List.getElem?_eq_some_iff.mp h).1
    have hP : j ∈ P := by have := pOk_get (i := 0) hp h; rwa [Nat.zero_add] at this
    obtain ⟨p1, p2, _⟩ := S.par j hP
    rw [start_get (by omega)] at p1
    rcases p2 ds (by rw [pad_get g1]; exact h) with ⟨es, e⟩ | ⟨es, e⟩
    · exact ⟨_, e, .inl ⟨es, rfl⟩, p1⟩
    · exact ⟨_, e, .inr ⟨es, rfl⟩, p1⟩
  refine ⟨by rw [finD_len]; exact R.len, fun j s h => ?_, fun i j a ds t hij h1 h2 ht h3 h4 => ?_, fun b hb => R'.tr b (hsub b hb)⟩
  · rw [finD_get] at h
    obtain ⟨s0, e1, e2⟩ := Option.map_eq_some_iff.mp h
    obtain ⟨o, e3, q⟩ := R.sl j s0 e1
    refine ⟨o, e3, ?_⟩
    cases s0 with
    | no => subst e2; trivial
    | va d => subst e2; obtain ⟨v, e4, q⟩ := q; exact ⟨v, e4, q.mono hsame⟩
    | sc ns => subst e2; obtain ⟨a, e4, q⟩ := q; exact ⟨a, e4, hsame.seq q⟩
    | bwc ds =>
      subst e2
      obtain ⟨a, us, e4, m, ha, t⟩ := q
      subst e4
      have nm : ¬ Mu Δ (vs.map some) a := fun ⟨k, es, z1, z2⟩ => by
        by_cases z : k = j
        · subst z; rw [e1] at z1; cases z1
        · exact R.ne k j a es _ z z1 e1 rfl z2 e3
      exact ⟨a, us, rfl, hk a m nm, S.keep a _ (fun mm => nm ((start_mu hl).mp mm)) ha, t.mono hsame⟩
    | owc ds =>
      obtain ⟨s', g1, g2, g3⟩ := own e1
      simp only [g1, Option.getD_some] at e2
      subst e2
      obtain ⟨o', g4, q'⟩ := R'.sl j s' g1
      rw [g3, e3] at g4; cases g4
      obtain ⟨a0, us0, e4, m0, _⟩ := q
      rcases g2 with ⟨es, rfl⟩ | ⟨es, rfl⟩
      · obtain ⟨a, us, e5, m, ha, t⟩ := q'
        rw [e4] at e5; cases e5
        exact ⟨a0, us, e4, hlose a0 m0 m, ha, t.mono hE⟩
      · obtain ⟨v, e5, q'⟩ := q'
        exact ⟨v, e5, q'.mono hE⟩
  · have src : ∀ {k : Nat} {s : Sl}, (finD Δ Γ')[k]? = some s → s.hd = true → ∃ s0, Δ[k]? = some s0 ∧ s0.hd = true := fun {k s} z hs => by
      rw [finD_get] at z
      obtain ⟨s0, e1, e2⟩ := Option.map_eq_some_iff.mp z
      refine ⟨s0, e1, ?_⟩
      cases s0 with
      | owc _ => rfl
      | bwc _ => rfl
      | _ => subst e2; cases hs
    have src1 : ∃ es, Δ[i]? = some (.owc es) := by
      rw [finD_get] at h1
      obtain ⟨s0, e1, e2⟩ := Option.map_eq_some_iff.mp h1
      cases s0 with
      | owc es => exact ⟨es, e1⟩
      | _ => cases e2
    obtain ⟨es, g1⟩ := src1
    obtain ⟨s0, g2, g3⟩ := src h2 ht
    exact R.ne i j a es s0 hij g1 g2 g3 h3 h4
theorem fin_st (R : Rl K O Δ (vs.map some) H) (hp : pOk P 0 Δ = true) (S : SStp P (pad N.length Δ) (L2.start N vs) H O Γ' σ' H' O') (hsub : ∀ b, b ∈ E'' → b ∈ O) (hlose : ∀ b, b ∈ O → b ∈ O' → b ∈ E'') : EStp Δ (vs.map some) H O (finD Δ Γ') H' E'' := by
  have hl : Δ.length = vs.length := by rw [R.len, List.length_map]
  refine ⟨⟨fun b o n e => S.keep b o (fun m => n ((start_mu hl).mp m)) e, fun b ⟨j, ds, h1, h2⟩ => ?_, S.stay, fun b h => .inl (hsub b h), fun b h1 h2 => (start_mu hl).mp (S.lose b h1 fun z => h2 (hlose b h1 z))⟩, hsub, fun j ds h => ?_, fun j s h n => ?_, fun j ds h => ?_⟩
  · rw [finD_get] at h1
    obtain ⟨s0, e1, e2⟩ := Option.map_eq_some_iff.mp h1
    cases s0 with
    | owc es => exact .inl ⟨j, es, e1, h2⟩
    | _ => cases e2
  · have g1 : j < Δ.length := (List.getElem?_eq_some_iff.mp h).1
    have hP : j ∈ P := by have := pOk_get (i := 0) hp h; rwa [Nat.zero_add] at this
    obtain ⟨p1, p2, _⟩ := S.par j hP
    rw [finD_get, h]
    rcases p2 ds (by rw [pad_get g1]; exact h) with ⟨es, e⟩ | ⟨es, e⟩
    · exact .inl ⟨es, by simp [e]⟩
    · exact .inr ⟨es, by simp [e]⟩
  · rw [finD_get, h]
    cases s with
    | owc ds => exact absurd rfl (n ds)
    | _ => rfl
  · rw [finD_get] at h
    obtain ⟨s0, e1, e2⟩ := Option.map_eq_some_iff.mp h
    cases s0 with
    | owc es =>
      exfalso
      have g1 : j < Δ.length := (List.getElem?_eq_some_iff.mp e1).1
      have hP : j ∈ P := by have := pOk_get (i := 0) hp e1; rwa [Nat.zero_add] at this
      obtain ⟨_, p2, _⟩ := S.par j hP
      rcases p2 es (by rw [pad_get g1]; exact e1) with ⟨fs, e⟩ | ⟨fs, e⟩
      · simp [e] at e2
      · simp [e] at e2
    | bwc es => rw [e1]; exact congrArg some e2
    | _ => cases e2
theorem def_tS {W : WX} {np : Nat} {body : SM} {Q : VK} {E : XK} (hN : vs.length ≤ N.length) (hW : W = fun cls d _ H => E cls d H) (R : Rl K O Δ (vs.map some) H)
    (h : Post K XR (fun cls d _ H' => E cls d H') (vs.map some) Δ H O (fun r Δ' H' O' => ∀ v, RvAt K O' (vs.map some) Δ' H' H r v → Q v H') (mDef N.length np P body Δ)) :
    tS K XR W P body { nx := fun _ H' => Q .non H', rt := Q } (L2.start N vs) H := by
  subst hW
  unfold mDef at h
  by_cases hp : (pOk P 0 Δ && decide (Δ.length = np)) = true
  · simp only [hp, if_true] at h
    rw [Bool.and_eq_true] at hp
    have hl : Δ.length = vs.length := by rw [R.len, List.length_map]
    refine ⟨O, pad N.length Δ, R.start hN, ?_⟩
    -- the caller's view of the end
    have fin : ∀ {Γ' : List Sl} {σ' : L2.St} {H' : Hp} {O' : List Addr}, Rl K O' Γ' σ' H' → SStp P (pad N.length Δ) (L2.start N vs) H O Γ' σ' H' O' →
        Rl K (O'.filter fun b => decide (b ∈ O)) (finD Δ Γ') (vs.map some) H' ∧ EStp Δ (vs.map some) H O (finD Δ Γ') H' (O'.filter fun b => decide (b ∈ O)) := fun {Γ' σ' H' O'} R' S' => by
      have sub : ∀ b, b ∈ O'.filter (fun b => decide (b ∈ O)) → b ∈ O' := fun b hb => (List.mem_filter.mp hb).1
      have subO : ∀ b, b ∈ O'.filter (fun b => decide (b ∈ O)) → b ∈ O := fun b hb => of_decide_eq_true (List.mem_filter.mp hb).2
      have mem : ∀ b, b ∈ O → b ∈ O' → b ∈ O'.filter (fun b => decide (b ∈ O)) := fun b h1 h2 => List.mem_filter.mpr ⟨h2, decide_eq_true h1⟩
      have hE : Same (off O' H') (off (O'.filter fun b => decide (b ∈ O)) H') := off_mono (fun b o _ e => e) fun b h n => absurd (sub b h) n
      have hs : Same (off O H) (off (O'.filter fun b => decide (b ∈ O)) H') := fun b o e => hE b o (S'.toStp.same (R.start hN) b o e)
      exact ⟨fin_rl R hp.1 S' hs hE sub mem (fun b h1 n => mem b h1 (Classical.byContradiction fun z => n ((start_mu hl).mp (S'.lose b h1 z)))) R', fin_st R hp.1 S' subO mem⟩
    have finV : ∀ {Γ' : List Sl} {σ' : L2.St} {H' : Hp} {O' : List Addr} {a : Addr} {us : List V} {ds : Ct}, Rl K O' Γ' σ' H' → SStp P (pad N.length Δ) (L2.start N vs) H O Γ' σ' H' O' → H a = none → a ∉ O → H' a = some (ds.ho K.w a us) →
        (∃ E1, Rl K E1 Γ' σ' H' ∧ (∀ b, b ∈ E1 ↔ b ∈ a :: O') ∧ AtL K (off E1 H') ds.ds us) → RvAt K (O'.filter fun b => decide (b ∈ O)) (vs.map some) (finD Δ Γ') H' H (.owc ds) (.ref a) := fun {Γ' σ' H' O' a us ds} R' S' n0 na e ⟨E1, R1, hE1, t⟩ => by
      have sub : ∀ b, b ∈ a :: O'.filter (fun b => decide (b ∈ O)) → b ∈ E1 := fun b hb => (hE1 b).mpr ((List.mem_cons.mp hb).elim (fun z => by rw [z]; exact List.mem_cons_self) fun z => List.mem_cons_of_mem _ (List.mem_filter.mp z).1)
      have hE : Same (off E1 H') (off (a :: O'.filter fun b => decide (b ∈ O)) H') := off_mono (fun b o _ e => e) fun b h n => absurd (sub b h) n
      have hs : Same (off O H) (off (a :: O'.filter fun b => decide (b ∈ O)) H') := fun b o e => by
        obtain ⟨z1, z2⟩ := off_some.mp (S'.toStp.same (R.start hN) b o e)
        refine off_some.mpr ⟨fun m => ?_, z2⟩
        rcases List.mem_cons.mp m with m | m
        · rw [m] at e; rw [(off_some.mp e).2] at n0; cases n0
        · exact z1 (List.mem_filter.mp m).1
      refine ⟨a, us, rfl, fun z => na (of_decide_eq_true (List.mem_filter.mp z).2), n0, e, t.mono hE, ?_⟩
      refine fin_rl R hp.1 S' hs hE sub (fun b h1 h2 => ?_) (fun b h1 n => ?_) R1
      · exact ((List.mem_cons.mp ((hE1 b).mp h2)).elim (fun z => by rw [z]; exact List.mem_cons_self) fun z => List.mem_cons_of_mem _ (List.mem_filter.mpr ⟨z, decide_eq_true h1⟩))
      · exact List.mem_cons_of_mem _ (List.mem_filter.mpr ⟨Classical.byContradiction fun z => n ((start_mu hl).mp (S'.lose b h1 z)), decide_eq_true h1⟩)
    cases hb : body (pad N.length Δ) with
    | no => rw [hb] at h; exact h.elim
    | bk Γ' => rw [hb] at h; exact h.elim
    | ct Γ' => rw [hb] at h; exact h.elim
    | nx Γ' =>
      rw [hb] at h
      intro σ' H' O' R' S'
      obtain ⟨R2, S2⟩ := fin R' S'
      exact h H' _ R2 S2 .non rfl
    | ex c pl Γ' =>
      rw [hb] at h
      intro cls d σ' H' O' xr R' S'
      obtain ⟨R2, S2⟩ := fin R' S'
      exact h cls d H' _ xr R2 S2
    | rt r Γ' =>
      rw [hb] at h
      intro σ' H' O' R' S' v hv
      obtain ⟨R2, S2⟩ := fin R' S'
      have hE : Same (off O' H') (off (O'.filter fun b => decide (b ∈ O)) H') := off_mono (fun b o _ e => e) fun b h n => absurd (List.mem_filter.mp h).1 n
      cases r with
      | va d => exact h H' _ R2 S2 v (At.mono hE hv)
      | owc ds =>
        obtain ⟨a, us, rfl, n1, n0, e, t, R3⟩ := hv
        exact h H' _ R2 S2 _ (finV R' S' n0 (fun z => R.tr a z n0) e ⟨a :: O', R3, fun b => Iff.rfl, t⟩)
      | bo i =>
        obtain ⟨e1, _⟩ := hv
        simp only [endD] at h
        cases e2 : Γ'[i]? with
        | none => simp only [e2] at h; exact h.elim
        | some s =>
          simp only [e2] at h
          obtain ⟨o, e3, q⟩ := R'.sl i s e2
          rw [e1] at e3; cases e3
          cases s with
          | va d =>
            obtain ⟨v', e4, q⟩ := q
            cases e4
            exact h H' _ R2 S2 v (At.mono hE q)
          | owc ds =>
            obtain ⟨a, us, e4, m, ha, t⟩ := q
            cases e4
            simp only at h
            split at h
            · exact h.elim
            · rename_i hi
              have hi' : i ∉ P := by simpa using hi
              have n0 : H a = none := by
                rcases S'.mu a ⟨i, ds, e2, e1⟩ with ⟨j, es, z1, z2⟩ | z
                · exfalso
                  have g1 : j < Δ.length := Classical.byContradiction fun z => by have := pad_out z z1; cases this
                  rw [pad_get g1] at z1
                  have hP : j ∈ P := by have := pOk_get (i := 0) hp.1 z1; rwa [Nat.zero_add] at this
                  obtain ⟨p1, p2, _⟩ := S'.par j hP
                  have hij : i ≠ j := fun z => hi' (z ▸ hP)
                  rcases p2 es (by rw [pad_get g1]; exact z1) with ⟨fs, e⟩ | ⟨fs, e⟩
                  · exact R'.ne i j a ds _ hij e2 e rfl e1 (p1.trans z2)
                  · obtain ⟨o, w1, w2, w3, w6⟩ := R'.sl j _ e
                    obtain ⟨a', us', w4, w5, _⟩ := at_data.mp w6
                    rw [p1.trans z2] at w1; cases w1; cases w3; cases w4
                    exact (off_some.mp w5).1 m
                · exact z
              exact h H' _ R2 S2 _ (finV R' S' n0 (fun z => R.tr a z n0) ha ⟨O', R', fun b => ⟨fun z => List.mem_cons_of_mem _ z, fun z => (List.mem_cons.mp z).elim (fun q => q ▸ m) id⟩, t⟩)
          | _ => exact h.elim
  · simp only [hp] at h
    exact h.elim
end
section
variable {Pr : Program} {w : World} {K : PySem.W.Frag} {mg : Str → Option Value} {base : Heap} {XR : XRel}
/-- THE RULE: a def whose body keeps the mirror of its rows keeps its own mirror -/
theorem fun_mir {x qual : Str} {st : Stmt} {f : Addr} {fd : FuncData} {N ps : List Str} {k : Nat} {P : List Nat} {body : SM} (F : Fun K x qual st f fd) (S : FnScope N ps (defScope st)) (hn : ps.length ≤ N.length)
    (hbody : ∀ (cdv : Value) (A : Around) (outer : List Env) (s : Shared) (H : Hp) (E : XK), Room k (A.deeper (envOfC qual (defScope st) s.heap.objs.size f cdv)) →
      MSs (cxOf (L2.CX Pr w) Pr w K mg base N qual (defScope st) f cdv A outer s H E) XR (fun cls d _ H => E cls d H) P (defBody st) body) :
    FnOk Pr w K mg base (L2.CX Pr w) (k + 1) f fd ps (spM ⟨K, w⟩ XR (mDef N.length ps.length P body) ps.length) :=
  F.okX S (fun vs H Q E h => h.1) fun cdv A outer s H vs Q E hr ⟨hl, O, Δ, R, h⟩ => ⟨_, hbody cdv A outer s H E hr, def_tS (by omega) rfl R h⟩
end
end Mir

set_option Elab.async false
set_option autoImplicit false
set_option linter.all false
set_option maxRecDepth 100000
set_option maxHeartbeats 4000000
namespace Mir
open PySem PySem.Spec PyProof.Rows L2
/-! ### exception classes of the program by numbers; defs of the program by names -/
def XRt (xt : Nat → Option Addr) : XRel := fun c pl _ cls d => pl = [] ∧ d = none ∧ ∃ C, xt c = some C ∧ cls = .ref C
structure ExcT (K : PySem.W.Frag) (mg : Str → Option Value) (xt : Nat → Option Addr) (x : Str) (c : Nat) (C : Addr) : Prop where
  at_ : xt c = some C
  gC : mg x = some (.ref C)
  xC : PySem.W.excIn K C [.type "ValueError", .type "Exception", .type "BaseException", .type "object"] "ValueError.__new__" = true
  kC : PySem.W.keepIn K (.ref C) = true
  bC : PySem.W.subIn K (.ref C) (.type "BaseException") = some true
  tC : PySem.W.typeIn K (.ref C) = some (.type "type")
section
variable {X : Cx} {W : WX} {P : List Nat} {xt : Nat → Option Addr}
theorem ms_raiseT {c j : Nat} {C : Addr} {x m : Str} {p p2 pos pos2 : Pos} (T : ExcT X.K X.mg xt x c C) (hc : X.calm = true) (tk : Takes X W) (hg : Gl X x) (hdb : (x == ("__debug__" : Str)) = false := by decide) :
    MS X (XRt xt) W P (.Raise (some (.Call (.Name x p) [.Constant (.str m) j p2] [] pos)) none pos2) (sRaise c) :=
  ms_raise hc tk (pmk_own PySem.F.excBase_ValueError T.xC T.gC T.kC (raises_own T.bC T.tC) hg hdb) fun H => ⟨rfl, rfl, C, T.at_, rfl⟩
end
/-- a def of the program keeps its mirror -/
structure Use (Pr : Program) (w : World) (K : PySem.W.Frag) (mg : Str → Option Value) (base : Heap) (XR : XRel) (x : Str) (ps : List Str) (k : Nat) (F : DM) : Prop where
  ex : ∃ (f : Addr) (fd : FuncData), FnOk Pr w K mg base (L2.CX Pr w) k f fd ps (spM ⟨K, w⟩ XR F ps.length) ∧ mg x = some (.ref f) ∧ PySem.W.keepIn K (.ref f) = true ∧ Binds K fd ps []
section
variable {X : Cx} {XR : XRel} {W : WX} {x : Str} {ps : List Str} {k : Nat} {F : DM} {ms : AM} {e : Expr} {es : List Expr} {p pos : Pos}
theorem me_use (U : Use X.prog X.w X.K X.mg X.base XR x ps k F) (hr : Room k X.A) (hg : Gl X x) (tk : Takes X W) (hn : ArgN ms ps.length) (ha : MA X XR W (e :: es) ms) (hdb : (x == ("__debug__" : Str)) = false := by decide)
    (he : starEach (e :: es) X.env = (false, eval e X.env) :: starEach es X.env := by rfl) (hpl : (backTo pos (starEach es X.env)).any (·.1) = false := by rfl) :
    ME X XR W (.Call (.Name x p) (e :: es) [] pos) (mCall F ms) := by
  obtain ⟨f, fd, h1, h2, h3, h4⟩ := U.ex
  exact me_callX h1 hr hg h2 h3 h4 tk hn ha hdb he hpl
end
section
variable {Pr : Program} {w : World} {K : PySem.W.Frag} {mg : Str → Option Value} {base : Heap} {XR : XRel}
theorem Use.mk' {x : Str} {ps : List Str} {k : Nat} {F : DM} {f : Addr} {fd : FuncData} (h1 : FnOk Pr w K mg base (L2.CX Pr w) k f fd ps (spM ⟨K, w⟩ XR F ps.length)) (h2 : mg x = some (.ref f)) (h3 : PySem.W.keepIn K (.ref f) = true) (h4 : Binds K fd ps []) : Use Pr w K mg base XR x ps k F := ⟨f, fd, h1, h2, h3, h4⟩
/-- a mirror that is stuck promises nothing -/
theorem fnOk_no {k : Nat} {f : Addr} {fd : FuncData} {ps : List Str} : FnOk Pr w K mg base (L2.CX Pr w) k f fd ps (spM ⟨K, w⟩ XR (fun _ => .no) ps.length) :=
  ⟨fun vs H Q E h => h.1, fun A outer s H args us vs Q E _ _ _ _ h => by obtain ⟨_, O, Δ, R, q⟩ := h; exact q.elim⟩
end
end Mir

set_option Elab.async false
set_option autoImplicit false
set_option linter.all false
set_option maxRecDepth 100000
set_option maxHeartbeats 4000000
namespace Mir
open PySem PySem.Spec PyProof.Rows L2
/-- the law's promise, whatever the table of exceptions -/
def spT (K : Fg) (m : DM) (n : Nat) : Sp := fun vs H Q E => ∀ XR : XRel, spM K XR m n vs H Q E
theorem fnOk_T {Pr : Program} {w : World} {K : PySem.W.Frag} {mg : Str → Option Value} {base : Heap} {XR : XRel} {k n : Nat} {f : Addr} {fd : FuncData} {ps : List Str} {m : DM} (h : FnOk Pr w K mg base (L2.CX Pr w) k f fd ps (spM ⟨K, w⟩ XR m n)) : FnOk Pr w K mg base (L2.CX Pr w) k f fd ps (spT ⟨K, w⟩ m n) := h.imp fun vs H Q E z => z XR
theorem law_sp {K : Fg} {m : DM} {ns : List Int} {H : Hp} {a : Addr} (h : ∃ Γ, m [.sc ns] = .ok (.va (.bl true)) Γ) (hS : SqL K H a (ns.map V.int)) : spT K m 1 [.ref a] H (fun v _ => v = .bl true) fun _ _ _ => False := by
  intro XR
  obtain ⟨Γ, e⟩ := h
  have h0 : Same H (off [] H) := fun b o e => off_some.mpr ⟨by simp, e⟩
  refine ⟨rfl, [], [.sc ns], ⟨rfl, fun i s hs => ?_, fun i j a ds t _ h1 => ?_, fun b hb => by cases hb⟩, ?_⟩
  · cases i with
    | zero => cases hs; exact ⟨_, rfl, a, rfl, h0.seq hS⟩
    | succ i => cases hs
  · cases i with
    | zero => cases h1
    | succ i => cases h1
  · rw [e]
    intro H' O' R S v hv
    exact hv
theorem law_cx {P : Program} {w : World} {H : Hp} {s : Shared} {e : Value} {s' : Shared} (h : L2.CX P w [] H s (fun _ _ _ => False) e s') : False := by
  obtain ⟨_, _, _, _, _, _, _, _, _, _, _, _, _, z⟩ := h

end Mir

set_option Elab.async false
set_option autoImplicit false
set_option linter.all false
set_option maxRecDepth 100000
set_option maxHeartbeats 4000000
namespace Mir
open PySem PySem.Spec PyProof.Rows L2
/-! ### a sign times a number -/
section
variable {X : Cx} {XR : XRel} {W : WX} {ma mb : EM} {ms : AM}
/-! ### '..'.join(list) -/
/-! ### xs.insert(k, y) -/
variable {x : Str} {p apos pos : Pos}
end
end Mir

set_option Elab.async false
set_option autoImplicit false
set_option linter.all false
set_option maxRecDepth 100000
set_option maxHeartbeats 4000000
namespace Mir
open PySem PySem.Spec PyProof.Rows L2
section
variable {X : Cx} {XR : XRel} {W : WX} {ms : AM} {x : Str} {p apos pos : Pos}
end
/-! ### sorted(list of texts) -/
/-! ### names of the module that hold data -/
section
variable {X : Cx} {XR : XRel} {W : WX} {x : Str} {pos : Pos} {d : D}
end
end Mir

set_option Elab.async false
set_option autoImplicit false
set_option linter.all false
set_option maxRecDepth 100000
set_option maxHeartbeats 4000000
namespace Mir
open PySem
/-! ### what a mirror answers: weakest preconditions over plain data -/
def Rs.wp {α : Type} (x : Rs α) (Q : α → List Sl → Prop) (E : Nat → List D → List Sl → Prop) : Prop := match x with
  | .ok a Γ => Q a Γ
  | .ex c pl Γ => E c pl Γ
  | .no => False
structure SK where
  nx : List Sl → Prop
  rt : RV → List Sl → Prop
  bk : List Sl → Prop
  ct : List Sl → Prop
  ex : Nat → List D → List Sl → Prop
def SR.wp (x : SR) (K : SK) : Prop := match x with
  | .nx Γ => K.nx Γ
  | .rt r Γ => K.rt r Γ
  | .bk Γ => K.bk Γ
  | .ct Γ => K.ct Γ
  | .ex c pl Γ => K.ex c pl Γ
  | .no => False
def opt {β : Type} (x : Option β) (Q : β → Prop) : Prop := match x with
  | some b => Q b
  | none => False
section
variable {α β : Type} {x : Rs α} {Q : α → List Sl → Prop} {Qb : β → List Sl → Prop} {Qr : RV → List Sl → Prop} {Qs : List RV → List Sl → Prop} {Qt : Bool → List Sl → Prop} {E : Nat → List D → List Sl → Prop} {K : SK} {Γ : List Sl} {ma mb mc : EM} {ms : AM} {t u : List Sl → Rs Bool} {m m2 : SM}
theorem wp_ok {a : α} : (Rs.ok a Γ).wp Q E = Q a Γ := rfl
theorem wp_ex {c : Nat} {pl : List D} : (Rs.ex c pl Γ : Rs α).wp Q E = E c pl Γ := rfl
theorem wp_no : (Rs.no : Rs α).wp Q E = False := rfl
theorem wp_bind {f : α → List Sl → Rs β} : (x.bind f).wp Qb E = x.wp (fun a Γ => (f a Γ).wp Qb E) E := by cases x <;> rfl
theorem wp_sr {f : α → List Sl → SR} : (x.sr f).wp K = x.wp (fun a Γ => (f a Γ).wp K) K.ex := by cases x <;> rfl
theorem swp_nx : (SR.nx Γ).wp K = K.nx Γ := rfl
theorem swp_rt {r : RV} : (SR.rt r Γ).wp K = K.rt r Γ := rfl
theorem swp_bk : (SR.bk Γ).wp K = K.bk Γ := rfl
theorem swp_ct : (SR.ct Γ).wp K = K.ct Γ := rfl
theorem swp_ex {c : Nat} {pl : List D} : (SR.ex c pl Γ).wp K = K.ex c pl Γ := rfl
theorem swp_no : SR.no.wp K = False := rfl
theorem seq_wp (h : ∀ R : List Sl → Prop, (∀ Γ', (m2 Γ').wp K → R Γ') → (m Γ).wp { K with nx := R }) : (sSeq m m2 Γ).wp K := by
  have h := h (fun Γ' => (m2 Γ').wp K) fun _ z => z
  unfold sSeq
  cases e : m Γ <;> rw [e] at h <;> exact h
theorem wp_if : (sIf t m m2 Γ).wp K = (t Γ).wp (fun b Γ1 => if b = true then (m Γ1).wp K else (m2 Γ1).wp K) K.ex := by
  unfold sIf
  rw [wp_sr]
  congr 1
  funext b Γ1
  cases b <;> rfl
theorem wp_nil : (sNil Γ).wp K = K.nx Γ := rfl
theorem wp_break : (sBreak Γ).wp K = K.bk Γ := rfl
theorem wp_cont : (sCont Γ).wp K = K.ct Γ := rfl
theorem wp_drop : (sDrop ma Γ).wp K = (ma Γ).wp (fun _ Γ1 => K.nx Γ1) K.ex := by unfold sDrop; rw [wp_sr]; rfl
theorem wp_ret : (sRet ma Γ).wp K = (ma Γ).wp (fun r Γ1 => K.rt r Γ1) K.ex := by unfold sRet; rw [wp_sr]; rfl
theorem wp_retN : (sRetN Γ).wp K = K.rt (.va .non) Γ := rfl
theorem wp_raise {c : Nat} : (sRaise c Γ).wp K = K.ex c [] Γ := rfl
theorem wp_set {i : Nat} : (sSet i ma Γ).wp K = (ma Γ).wp (fun r Γ1 => match stV i r Γ1 with | some Γ2 => K.nx Γ2 | none => False) K.ex := by
  unfold sSet; rw [wp_sr]; congr 1; funext r Γ1
  cases stV i r Γ1 <;> rfl
theorem wp_asg {f : GM} : (sAsg f ma Γ).wp K = (ma Γ).wp (fun r Γ1 => match r with | .va d => (match f d Γ1 with | some Γ2 => K.nx Γ2 | none => False) | _ => False) K.ex := by
  unfold sAsg; rw [wp_sr]; congr 1; funext r Γ1
  cases r with
  | va d => simp only; cases f d Γ1 <;> rfl
  | _ => rfl
theorem wp_par {i j : Nat} : (sPar i j ms Γ).wp K = (ms Γ).wp (fun rs Γ1 => match rs with | [.va d, .va e] => (match (put i (.va d) Γ1).bind fun Γ2 => put j (.va e) Γ2 with | some Γ2 => K.nx Γ2 | none => False) | _ => False) K.ex := by
  unfold sPar; rw [wp_sr]; congr 1; funext rs Γ1
  rcases rs with _ | ⟨r1, _ | ⟨r2, _ | ⟨r3, rs⟩⟩⟩
  · rfl
  · cases r1 <;> rfl
  · cases r1 with
    | va d => cases r2 with
      | va e => simp only; cases (put i (.va d) Γ1).bind fun Γ2 => put j (.va e) Γ2 <;> rfl
      | _ => rfl
    | _ => first | rfl | (cases r2 <;> rfl)
  · cases r1 <;> first | rfl | (cases r2 <;> rfl)
theorem wp_store {i : Nat} : (sStore i ma mb Γ).wp K = (ma Γ).wp (fun r Γ1 => match esc Γ1 r with
  | some (d, Γ2) => (match Γ2[i]? with
    | some (.owc ⟨.lst, _⟩) => (mb Γ2).wp (fun z Γ3 => match z, Γ3[i]? with
      | .va (.int k), some (.owc ⟨.lst, es⟩) => (match L2.ixN es.length k with
        | some j => K.nx (Γ3.set i (.ow (es.set j d)))
        | none => False)
      | _, _ => False) K.ex
    | _ => False)
  | none => False) K.ex := by
  unfold sStore; rw [wp_sr]; congr 1; funext r Γ1
  cases esc Γ1 r with
  | none => rfl
  | some p =>
    obtain ⟨d, Γ2⟩ := p
    simp only
    cases Γ2[i]? with
    | none => rfl
    | some s => cases s with
      | owc tt =>
        obtain ⟨cc, ds⟩ := tt
        cases cc with
        | lst =>
          simp only; rw [wp_sr]; congr 1; funext z Γ3
          cases z with
          | va d' => cases d' with
            | int k => cases Γ3[i]? with
              | none => rfl
              | some s => cases s with
                | owc tt =>
                  obtain ⟨cc, es⟩ := tt
                  cases cc with
                  | lst => simp only; cases L2.ixN es.length k <;> rfl
                  | _ => rfl
                | _ => rfl
            | _ => rfl
          | _ => rfl
        | _ => rfl
      | _ => rfl
/-- what comes back from a call -/
def backK (Q : RV → List Sl → Prop) (rs : List RV) (Γ : List Sl) : RV → List Sl → Prop := fun r Δ => match r with
  | .va d => Q (.va d) (wb rs Δ 0 Γ)
  | .owc ds => Q (.owc ds) (wb rs Δ 0 Γ)
  | .bo _ => False
theorem backK_owc {rs : List RV} {Δ : List Sl} {ds : Ct} : backK Qr rs Γ (.owc ds) Δ = Qr (.owc ds) (wb rs Δ 0 Γ) := rfl
theorem backK_va {rs : List RV} {Δ : List Sl} {d : D} : backK Qr rs Γ (.va d) Δ = Qr (.va d) (wb rs Δ 0 Γ) := rfl
theorem backK_ow {rs : List RV} {Δ : List Sl} {ds : List D} : backK Qr rs Γ (.ow ds) Δ = Qr (.ow ds) (wb rs Δ 0 Γ) := rfl
theorem wp_call {F : DM} : (mCall F ms Γ).wp Qr E = (ms Γ).wp (fun rs Γ1 => opt (argsSl Γ1 rs) fun Δ => if uniqBo rs = true then (F Δ).wp (backK Qr rs Γ1) (fun c pl Δ' => E c pl (wb rs Δ' 0 Γ1)) else False) E := by
  unfold mCall; rw [wp_bind]; congr 1; funext rs Γ1
  cases argsSl Γ1 rs with
  | none => rfl
  | some Δ =>
    simp only [opt]
    split
    · cases F Δ with
      | ok r Δ' => cases r <;> rfl
      | ex => rfl
      | no => rfl
    · rfl
theorem wp_mte : (mTE ma Γ).wp Qt E = (ma Γ).wp (fun r Γ1 => match r with | .va (.bl b) => Qt b Γ1 | _ => False) E := by
  unfold mTE; rw [wp_bind]; congr 1; funext r Γ1
  cases r with
  | va d => cases d <;> rfl
  | _ => rfl
theorem wp_mtru : (mTru ma Γ).wp Qt E = (ma Γ).wp (fun r Γ1 => match (peek Γ1 r).bind truD with | some k => Qt k Γ1 | none => False) E := by
  unfold mTru; rw [wp_bind]; congr 1; funext r Γ1
  cases (peek Γ1 r).bind truD <;> rfl
theorem wp_tnot : (tNotM t Γ).wp Qt E = (t Γ).wp (fun b Γ1 => Qt (!b) Γ1) E := by unfold tNotM; rw [wp_bind]; rfl
theorem wp_tand : (tAndM t u Γ).wp Qt E = (t Γ).wp (fun b Γ1 => if b = true then (u Γ1).wp Qt E else Qt false Γ1) E := by
  unfold tAndM; rw [wp_bind]; congr 1; funext b Γ1; cases b <;> rfl
theorem wp_tor : (tOrM t u Γ).wp Qt E = (t Γ).wp (fun b Γ1 => if b = true then Qt true Γ1 else (u Γ1).wp Qt E) E := by
  unfold tOrM; rw [wp_bind]; congr 1; funext b Γ1; cases b <;> rfl
theorem wp_andV : (mAndV ma mb Γ).wp Qr E = (ma Γ).wp (fun r Γ1 => match r with | .va (.bl b) => if b = true then (mb Γ1).wp Qr E else Qr (.va (.bl false)) Γ1 | _ => False) E := by
  unfold mAndV; rw [wp_bind]; congr 1; funext r Γ1
  cases r with
  | va d => cases d with
    | bl b => cases b <;> rfl
    | _ => rfl
  | _ => rfl
theorem wp_orV : (mOrV ma mb Γ).wp Qr E = (ma Γ).wp (fun r Γ1 => match r with | .va (.bl b) => if b = true then Qr (.va (.bl true)) Γ1 else (mb Γ1).wp Qr E | _ => False) E := by
  unfold mOrV; rw [wp_bind]; congr 1; funext r Γ1
  cases r with
  | va d => cases d with
    | bl b => cases b <;> rfl
    | _ => rfl
  | _ => rfl
theorem wp_notV : (mNotV ma Γ).wp Qr E = (ma Γ).wp (fun r Γ1 => match r with | .va (.bl b) => Qr (.va (.bl (!b))) Γ1 | _ => False) E := by
  unfold mNotV; rw [wp_bind]; congr 1; funext r Γ1
  cases r with
  | va d => cases d <;> rfl
  | _ => rfl
theorem wp_neg : (mNeg ma Γ).wp Qr E = (ma Γ).wp (fun r Γ1 => match r with | .va (.int i) => Qr (.va (.int (-i))) Γ1 | _ => False) E := by
  unfold mNeg; rw [wp_bind]; congr 1; funext r Γ1
  cases r with
  | va d => cases d <;> rfl
  | _ => rfl
theorem wp_mif : (mIf t ma mb Γ).wp Qr E = (t Γ).wp (fun b Γ1 => if b = true then (ma Γ1).wp Qr E else (mb Γ1).wp Qr E) E := by
  unfold mIf; rw [wp_bind]; congr 1; funext b Γ1; cases b <;> rfl
def FR.wp (x : FR) (Q : RV → Prop) : Prop := match x with
  | .va d => Q (.va d)
  | .owc ds => Q (.owc ds)
  | .no => False
theorem wp_res {x : FR} : (x.res Γ).wp Qr E = x.wp fun r => Qr r Γ := by cases x <;> rfl
theorem wp_bin {f : D → D → FR} : (mBin f ma mb Γ).wp Qr E = (ma Γ).wp (fun ra Γ1 => (mb Γ1).wp (fun rb Γ2 => opt (peek Γ2 ra) fun d => opt (peek Γ2 rb) fun e => (f d e).wp fun r => Qr r Γ2) E) E := by
  unfold mBin; rw [wp_bind]; congr 1; funext ra Γ1; rw [wp_bind]; congr 1; funext rb Γ2
  unfold op2
  cases peek Γ2 ra with
  | none => rfl
  | some d => cases peek Γ2 rb with
    | none => rfl
    | some e => exact wp_res
theorem wp_binT {f : D → D → FR} : (mBinT f ma mb Γ).wp Qr E = (ma Γ).wp (fun ra Γ1 => (mb Γ1).wp (fun rb Γ2 => opt (peekT Γ2 ra) fun d => opt (peekT Γ2 rb) fun e => (f d e).wp fun r => Qr r Γ2) E) E := by
  unfold mBinT; rw [wp_bind]; congr 1; funext ra Γ1; rw [wp_bind]; congr 1; funext rb Γ2
  unfold op2T
  cases peekT Γ2 ra with
  | none => rfl
  | some d => cases peekT Γ2 rb with
    | none => rfl
    | some e => exact wp_res
theorem wp_cons : (mCons ma ms Γ).wp Qs E = (ma Γ).wp (fun r Γ1 => (ms Γ1).wp (fun rs Γ2 => Qs (r :: rs) Γ2) E) E := by
  unfold mCons; rw [wp_bind]; congr 1; funext r Γ1; rw [wp_bind]; rfl
theorem wp_mnil : (mNil Γ).wp Qs E = Qs [] Γ := rfl
theorem wp_c {d : D} : (mC d Γ).wp Qr E = Qr (.va d) Γ := rfl
theorem wp_var {i : Nat} : (mVar i Γ).wp Qr E = opt (Γ[i]?) fun s => match s with | .no => False | .va d => Qr (.va d) Γ | _ => Qr (.bo i) Γ := by
  unfold mVar
  cases Γ[i]? with
  | none => rfl
  | some s => cases s <;> rfl
theorem wp_fn {f : List D → FR} : (mFn f ms Γ).wp Qr E = (ms Γ).wp (fun rs Γ1 => opt (peeks Γ1 rs) fun ds => (f ds).wp fun r => Qr r Γ1) E := by
  unfold mFn; rw [wp_bind]; congr 1; funext rs Γ1
  cases peeks Γ1 rs with
  | none => rfl
  | some ds => exact wp_res
theorem wp_tup : (mTup ms Γ).wp Qr E = (ms Γ).wp (fun rs Γ1 => opt (escs Γ1 rs) fun p => if p.1.length ≤ big then Qr (.va (.tup p.1)) p.2 else False) E := by
  unfold mTup; rw [wp_bind]; congr 1; funext rs Γ1
  cases escs Γ1 rs with
  | none => rfl
  | some p =>
    obtain ⟨ds, Γ2⟩ := p
    simp only [opt]
    split <;> rfl
theorem wp_lst : (mLst ms Γ).wp Qr E = (ms Γ).wp (fun rs Γ1 => opt (escs Γ1 rs) fun p => if p.1.length ≤ big then Qr (.ow p.1) p.2 else False) E := by
  unfold mLst; rw [wp_bind]; congr 1; funext rs Γ1
  cases escs Γ1 rs with
  | none => rfl
  | some p =>
    obtain ⟨ds, Γ2⟩ := p
    simp only [opt]
    split <;> rfl
theorem wp_aug {i : Nat} : (sAug i fAddI ma Γ).wp K = opt (Γ[i]?) fun s => match s with
    | .va d => (ma Γ).wp (fun r Γ1 => match r with
      | .va d2 => (fAddI d d2).wp fun r3 => match r3 with
        | .va d3 => opt (put i (.va d3) Γ1) K.nx
        | _ => False
      | _ => False) K.ex
    | _ => False := by
  unfold sAug
  cases Γ[i]? with
  | none => rfl
  | some s => cases s with
    | va d =>
      simp only [opt]; rw [wp_sr]; congr 1; funext r Γ1
      cases r with
      | va d2 =>
        simp only
        cases fAddI d d2 with
        | va d3 => simp only [FR.wp]; cases put i (.va d3) Γ1 <;> rfl
        | _ => rfl
      | _ => rfl
    | _ => rfl
theorem wp_sl {ml mh : List Sl → Rs (Option Int)} : (mSl ma ml mh Γ).wp Qr E = (ma Γ).wp (fun r Γ1 => (ml Γ1).wp (fun l Γ2 => (mh Γ2).wp (fun h Γ3 => opt (peek Γ3 r) fun d => (fSl d l h).wp fun r => Qr r Γ3) E) E) E := by
  unfold mSl; rw [wp_bind]; congr 1; funext r Γ1; rw [wp_bind]; congr 1; funext l Γ2; rw [wp_bind]; congr 1; funext h Γ3
  cases peek Γ3 r with
  | none => rfl
  | some d => exact wp_res
theorem wp_onone {Qo : Option Int → List Sl → Prop} : (oNone Γ).wp Qo E = Qo none Γ := rfl
theorem wp_osome {Qo : Option Int → List Sl → Prop} : (oSome ma Γ).wp Qo E = (ma Γ).wp (fun r Γ1 => match r with | .va (.int i) => Qo (some i) Γ1 | _ => False) E := by
  unfold oSome; rw [wp_bind]; congr 1; funext r Γ1
  cases r with
  | va d => cases d <;> rfl
  | _ => rfl
theorem wp_isi {T : String} : (mIsi T ma Γ).wp Qr E = (ma Γ).wp (fun r Γ1 => opt (peek Γ1 r) fun d => if isPl d = true then Qr (.va (.bl (isiD d T))) Γ1 else False) E := by
  unfold mIsi; rw [wp_bind]; congr 1; funext r Γ1
  cases peek Γ1 r with
  | none => rfl
  | some d => simp only [opt]; split <;> rfl
theorem wp_isi2 {T T' : String} : (mIsi2 T T' ma Γ).wp Qr E = (ma Γ).wp (fun r Γ1 => opt (peek Γ1 r) fun d => if isPl d = true then Qr (.va (.bl (isiD d T || isiD d T'))) Γ1 else False) E := by
  unfold mIsi2; rw [wp_bind]; congr 1; funext r Γ1
  cases peek Γ1 r with
  | none => rfl
  | some d => simp only [opt]; split <;> rfl
theorem wp_chain {f g : D → D → FR} : (mChain f g ma mb mc Γ).wp Qr E = (ma Γ).wp (fun ra Γ1 => (mb Γ1).wp (fun rb Γ2 => opt (peek Γ2 ra) fun d => opt (peek Γ2 rb) fun e => (f d e).wp fun z => match z with
    | .va (.bl true) => (mc Γ2).wp (fun rc Γ4 => opt (peek Γ4 rb) fun d => opt (peek Γ4 rc) fun e => (g d e).wp fun r => Qr r Γ4) E
    | .va (.bl false) => Qr (.va (.bl false)) Γ2
    | _ => False) E) E := by
  unfold mChain; rw [wp_bind]; congr 1; funext ra Γ1; rw [wp_bind]; congr 1; funext rb Γ2; rw [wp_bind]
  unfold op2
  cases peek Γ2 ra with
  | none => rfl
  | some d => cases peek Γ2 rb with
    | none => rfl
    | some e =>
      simp only [opt, wp_res]
      congr 1; funext z
      cases z with
      | va d => cases d with
        | bl b => cases b with
          | true =>
            simp only; rw [wp_bind]; congr 1; funext rc Γ4
            cases peek Γ4 rb with
            | none => rfl
            | some d => cases peek Γ4 rc with
              | none => rfl
              | some e => exact wp_res
          | false => rfl
        | _ => rfl
      | _ => rfl
/-! ### walks -/
abbrev IQ := List D × Option Nat → List Sl → Prop
theorem wp_seqI {Qi : IQ} : (mSeq ma Γ).wp Qi E = (ma Γ).wp (fun r Γ1 => match r with
  | .va d => opt (itemsD d) fun ds => Qi (ds, none) Γ1
  | .owc ⟨.lst, ds⟩ => Qi (ds, none) Γ1
  | .bo i => opt (Γ1[i]?) fun s => match s with
    | .owc ⟨.lst, ds⟩ => Qi (ds, some i) Γ1
    | .bwc ⟨.lst, ds⟩ => Qi (ds, none) Γ1
    | .sc ns => Qi (ns.map .int, none) Γ1
    | _ => False
  | _ => False) E := by
  unfold mSeq; rw [wp_bind]; congr 1; funext r Γ1
  cases r with
  | va d => simp only; cases itemsD d <;> rfl
  | owc tt =>
    obtain ⟨cc, ds⟩ := tt
    cases cc <;> rfl
  | bo i =>
    simp only
    cases Γ1[i]? with
    | none => rfl
    | some s => cases s with
      | owc tt =>
        obtain ⟨cc, ds⟩ := tt
        cases cc <;> rfl
      | bwc tt =>
        obtain ⟨cc, ds⟩ := tt
        cases cc <;> rfl
      | _ => rfl
theorem wp_rng1 {Qi : IQ} : (mRng1 ma Γ).wp Qi E = (ma Γ).wp (fun r Γ1 => match r with
  | .va (.int n) => (n < 4611686018427387904 ∧ -4611686018427387904 ≤ n) ∧ Qi (rngD 0 n.toNat, none) Γ1
  | _ => False) E := by
  unfold mRng1; rw [wp_bind]; congr 1; funext r Γ1
  cases r with
  | va d => cases d with
    | int n =>
      simp only
      split
      · rename_i h; exact propext ⟨fun q => ⟨h, q⟩, fun q => q.2⟩
      · rename_i h; exact propext ⟨fun q => q.elim, fun q => h q.1⟩
    | _ => rfl
  | _ => rfl
theorem wp_for {mi : IM} {f : GM} : (sFor mi f m Γ).wp K = (mi Γ).wp (fun p Γ1 => (loopS f m p.1 (bor p.2 p.1 Γ1)).wp { nx := fun Γ => K.nx (unb p.2 p.1 Γ), rt := fun r Γ => K.rt r (unb p.2 p.1 Γ), bk := fun Γ => K.bk (unb p.2 p.1 Γ), ct := fun Γ => K.ct (unb p.2 p.1 Γ), ex := fun c pl Γ => K.ex c pl (unb p.2 p.1 Γ) }) K.ex := by
  unfold sFor; rw [wp_sr]; congr 1; funext p Γ1
  cases loopS f m p.1 (bor p.2 p.1 Γ1) <;> rfl
/-- a loop, by an invariant over the items still to come -/
theorem loop_wp {f : GM} (I : List D → List Sl → Prop) {ds : List D} (h0 : I ds Γ)
    (step : ∀ d r Γ, I (d :: r) Γ → opt (f d Γ) fun Γ1 => (m Γ1).wp { nx := I r, rt := K.rt, bk := K.nx, ct := I r, ex := K.ex }) (done : ∀ Γ, I [] Γ → K.nx Γ) : (loopS f m ds Γ).wp K := by
  induction ds generalizing Γ with
  | nil => exact done Γ h0
  | cons d r ih =>
    have h := step d r Γ h0
    unfold loopS
    cases e : f d Γ with
    | none => rw [e] at h; exact h.elim
    | some Γ1 =>
      rw [e] at h
      simp only
      simp only [opt] at h
      cases e2 : m Γ1 with
      | nx Γ2 => rw [e2] at h; exact ih h
      | ct Γ2 => rw [e2] at h; exact ih h
      | _ => rw [e2] at h; exact h
theorem wp_lc {own : List Nat} {mi : IM} {f : GM} : (mLc own mi f t ma Γ).wp Qr E = (mi Γ).wp (fun p Γ1 => if own.all (notHd Γ1) = true then (loopC own f t ma p.1 [] (wipeG (bor p.2 p.1 Γ1) own)).wp (fun acc Γ2 => Qr (.ow acc) (backG Γ1 (unb p.2 p.1 Γ2) own)) (fun _ _ _ => False) else False) E := by
  unfold mLc; rw [wp_bind]; congr 1; funext p Γ1
  split
  · cases loopC own f t ma p.1 [] (wipeG (bor p.2 p.1 Γ1) own) <;> rfl
  · rfl
/-- a comprehension, by an invariant over the items still to come and those made -/
theorem lc_wp {own : List Nat} {f : GM} {Qa : List D → List Sl → Prop} (I : List D → List D → List Sl → Prop) {ds acc : List D} (h0 : I ds acc Γ)
    (step : ∀ d r acc Γ, I (d :: r) acc Γ → opt (f d Γ) fun Γ1 => (t Γ1).wp (fun b Γ2 => if b = true then (ma Γ2).wp (fun v Γ3 => opt (esc Γ3 v) fun p => acc.length < big ∧ I r (acc ++ [p.1]) (wipeG p.2 own)) (fun _ _ _ => False) else I r acc (wipeG Γ2 own)) (fun _ _ _ => False))
    (done : ∀ acc Γ, I [] acc Γ → Qa acc Γ) : (loopC own f t ma ds acc Γ).wp Qa (fun _ _ _ => False) := by
  induction ds generalizing acc Γ with
  | nil => exact done acc Γ h0
  | cons d r ih =>
    have h := step d r acc Γ h0
    unfold loopC
    cases e : f d Γ with
    | none => rw [e] at h; exact h.elim
    | some Γ1 =>
      rw [e] at h
      simp only
      simp only [opt] at h
      cases e2 : t Γ1 with
      | ok b Γ2 =>
        rw [e2] at h
        simp only [Rs.wp] at h
        cases b with
        | true =>
          simp only [if_true] at h
          simp only
          cases e3 : ma Γ2 with
          | ok v Γ3 =>
            rw [e3] at h
            simp only at h
            cases e4 : esc Γ3 v with
            | none => rw [e4] at h; exact h.elim
            | some p =>
              obtain ⟨d', Γ4⟩ := p
              rw [e4] at h
              simp only at h ⊢
              simp only [e4, h.1, if_true]
              exact ih h.2
          | ex => rw [e3] at h; exact h.elim
          | no => rw [e3] at h; exact h.elim
        | false =>
          simp only [Bool.false_eq_true, if_false] at h
          exact ih h
      | ex => rw [e2] at h; exact h.elim
      | no => rw [e2] at h; exact h.elim
theorem wp_tyes : (tYesM Γ).wp Qt E = Qt true Γ := rfl
/-! ### a def -/
def endK (P : List Nat) (Δ : List Sl) (Q : RV → List Sl → Prop) (E : Nat → List D → List Sl → Prop) : SK where
  nx := fun Γ => Q (.va .non) (finD Δ Γ)
  rt := fun r Γ => match r with
    | .va d => Q (.va d) (finD Δ Γ)
    | .owc ds => Q (.owc ds) (finD Δ Γ)
    | .bo i => opt (Γ[i]?) fun s => match s with
      | .owc ds => if P.contains i = true then False else Q (.owc ds) (finD Δ Γ)
      | .va d => Q (.va d) (finD Δ Γ)
      | _ => False
  bk := fun _ => False
  ct := fun _ => False
  ex := fun c pl Γ => E c pl (finD Δ Γ)
theorem def_wp {nN np : Nat} {P : List Nat} {Δ : List Sl} (h1 : (pOk P 0 Δ && decide (Δ.length = np)) = true) (h : (m (pad nN Δ)).wp (endK P Δ Qr E)) : (mDef nN np P m Δ).wp Qr E := by
  unfold mDef
  rw [if_pos h1]
  cases e : m (pad nN Δ) with
  | rt r Γ =>
    rw [e] at h
    cases r with
    | bo i =>
      simp only [SR.wp, endK, opt] at h
      simp only [endD]
      cases e2 : Γ[i]? with
      | none => rw [e2] at h; exact h.elim
      | some s =>
        rw [e2] at h
        cases s with
        | owc ds =>
          simp only at h ⊢
          split at h
          · exact h.elim
          · rename_i z; simp only [z, if_false]; exact h
        | va d => exact h
        | _ => exact h.elim
    | _ => exact h
  | _ => rw [e] at h; exact h
theorem wp_bits : (mBits ma Γ).wp Qr E = (ma Γ).wp (fun r Γ1 => match r with | .va (.int i) => Qr (.va (.int (Builtin.Int.intBits i : Nat))) Γ1 | _ => False) E := by
  unfold mBits; rw [wp_bind]; congr 1; funext r Γ1
  cases r with
  | va d => cases d <;> rfl
  | _ => rfl
theorem wp_pop {i : Nat} : (mPop i Γ).wp Qr E = opt (Γ[i]?) fun s => match s with | .owc ⟨.lst, ds⟩ => opt ds.getLast? fun d => Qr (.va d) (Γ.set i (.ow ds.dropLast)) | _ => False := by
  unfold mPop
  cases Γ[i]? with
  | none => rfl
  | some s => cases s with
    | owc tt =>
      obtain ⟨cc, ds⟩ := tt
      cases cc with
      | lst => simp only [opt]; cases ds.getLast? <;> rfl
      | _ => rfl
    | _ => rfl
theorem wp_mut {i : Nat} {f : List D → List D → Option (List D)} : (mMut i f ms Γ).wp Qr E = opt (Γ[i]?) fun s => match s with
    | .owc ⟨.lst, _⟩ => (ms Γ).wp (fun rs Γ1 => opt (escs Γ1 rs) fun p => opt (p.2[i]?) fun s => match s with
      | .owc ⟨.lst, es⟩ => opt (f es p.1) fun fs => Qr (.va .non) (p.2.set i (.ow fs))
      | _ => False) E
    | _ => False := by
  unfold mMut
  cases Γ[i]? with
  | none => rfl
  | some s => cases s with
    | owc tt =>
      obtain ⟨cc, ds⟩ := tt
      cases cc with
      | lst =>
        simp only [opt]; rw [wp_bind]; congr 1; funext rs Γ1
        cases escs Γ1 rs with
        | none => rfl
        | some p =>
          obtain ⟨ds, Γ2⟩ := p
          simp only
          cases e : Γ2[i]? with
          | none => rfl
          | some s => cases s with
            | owc tt =>
              obtain ⟨cc, es⟩ := tt
              cases cc with
              | lst => simp only; cases f es ds <;> rfl
              | _ => rfl
            | _ => rfl
      | _ => rfl
    | _ => rfl
end
end Mir

set_option Elab.async false
set_option autoImplicit false
set_option linter.all false
set_option maxRecDepth 100000
set_option maxHeartbeats 4000000
namespace Mir
open PySem
section
variable {Q : RV → Prop} {i j : Int} {a b : Bool} {x y : List Nat} {ds es : List D} {d e : D} {Γ : List Sl}
theorem opt_some {β : Type} {b : β} {Q : β → Prop} : opt (some b) Q = Q b := rfl
theorem opt_none {β : Type} {Q : β → Prop} : opt none Q = False := rfl
theorem add_int : (fAdd (.int i) (.int j)).wp Q = Q (.va (.int (i + j))) := rfl
theorem addI_int : (fAddI (.int i) (.int j)).wp Q = Q (.va (.int (i + j))) := rfl
theorem sub_int : (fSub (.int i) (.int j)).wp Q = Q (.va (.int (i - j))) := rfl
theorem mul_int : (fMul (.int i) (.int j)).wp Q = (Builtin.Int.intBits i + Builtin.Int.intBits j ≤ 134217728 ∧ Q (.va (.int (i * j)))) := by
  simp only [fMul]; split <;> rename_i h <;> simp [FR.wp, h]
theorem div_int : (fDiv (.int i) (.int j)).wp Q = ((0 < j ∧ Builtin.divisionGoesByPylong i j = false) ∧ Q (.va (.int (i / j)))) := by
  simp only [fDiv]; split <;> rename_i h
  · simp only [FR.wp]; exact propext ⟨fun q => ⟨h, q⟩, fun q => q.2⟩
  · simp only [FR.wp]; exact propext ⟨fun q => q.elim, fun q => h q.1⟩
theorem mod_int : (fMod (.int i) (.int j)).wp Q = (0 < j ∧ Q (.va (.int (i % j)))) := by
  simp only [fMod]; split <;> rename_i h <;> simp [FR.wp, h]
theorem pow_int : (fPow (.int i) (.int j)).wp Q = ((0 ≤ j ∧ j ≤ 1000000 ∧ i.natAbs < 2 ^ 64) ∧ Q (.va (.int (i ^ j.toNat)))) := by
  simp only [fPow]; split <;> rename_i h
  · simp only [FR.wp]; exact propext ⟨fun q => ⟨h, q⟩, fun q => q.2⟩
  · simp only [FR.wp]; exact propext ⟨fun q => q.elim, fun q => h q.1⟩
theorem eq_int : (fEq (.int i) (.int j)).wp Q = Q (.va (.bl (decide (i = j)))) := by
  show Q (.va (.bl (i == j))) = _
  rw [Bool.beq_eq_decide_eq]
theorem ne_int : (fNe (.int i) (.int j)).wp Q = Q (.va (.bl (decide (i ≠ j)))) := by
  show Q (.va (.bl (!(i == j)))) = _
  rw [Bool.beq_eq_decide_eq, decide_not]
theorem eq_bl : (fEq (.bl a) (.bl b)).wp Q = Q (.va (.bl (a == b))) := rfl
theorem ne_bl : (fNe (.bl a) (.bl b)).wp Q = Q (.va (.bl (!(a == b)))) := rfl
theorem eq_str : (fEq (.str x) (.str y)).wp Q = Q (.va (.bl (x == y))) := rfl
theorem ne_str : (fNe (.str x) (.str y)).wp Q = Q (.va (.bl (!(x == y)))) := rfl
theorem isi_non_int : isiD (.non) "int" = false := rfl
theorem isi_non_str : isiD (.non) "str" = false := rfl
theorem isi_non_bool : isiD (.non) "bool" = false := rfl
theorem isi_non_tuple : isiD (.non) "tuple" = false := rfl
theorem isi_non_list : isiD (.non) "list" = false := rfl
theorem isi_bl_int : isiD (.bl a) "int" = true := rfl
theorem isi_bl_str : isiD (.bl a) "str" = false := rfl
theorem isi_bl_bool : isiD (.bl a) "bool" = true := rfl
theorem isi_bl_tuple : isiD (.bl a) "tuple" = false := rfl
theorem isi_bl_list : isiD (.bl a) "list" = false := rfl
theorem isi_int_int : isiD (.int i) "int" = true := rfl
theorem isi_int_str : isiD (.int i) "str" = false := rfl
theorem isi_int_bool : isiD (.int i) "bool" = false := rfl
theorem isi_int_tuple : isiD (.int i) "tuple" = false := rfl
theorem isi_int_list : isiD (.int i) "list" = false := rfl
theorem isi_str_int : isiD (.str x) "int" = false := rfl
theorem isi_str_str : isiD (.str x) "str" = true := rfl
theorem isi_str_bool : isiD (.str x) "bool" = false := rfl
theorem isi_str_tuple : isiD (.str x) "tuple" = false := rfl
theorem isi_str_list : isiD (.str x) "list" = false := rfl
theorem isi_tup_int : isiD (.tup ds) "int" = false := rfl
theorem isi_tup_str : isiD (.tup ds) "str" = false := rfl
theorem isi_tup_bool : isiD (.tup ds) "bool" = false := rfl
theorem isi_tup_tuple : isiD (.tup ds) "tuple" = true := rfl
theorem isi_tup_list : isiD (.tup ds) "list" = false := rfl
theorem isi_lst_int : isiD (.lst ds) "int" = false := rfl
theorem isi_lst_str : isiD (.lst ds) "str" = false := rfl
theorem isi_lst_bool : isiD (.lst ds) "bool" = false := rfl
theorem isi_lst_tuple : isiD (.lst ds) "tuple" = false := rfl
theorem isi_lst_list : isiD (.lst ds) "list" = true := rfl
theorem isN_non : isN .non = true := rfl
theorem isN_bl : isN (.bl a) = false := rfl
theorem isN_int : isN (.int i) = false := rfl
theorem isN_str : isN (.str x) = false := rfl
theorem isN_tup : isN (.tup ds) = false := rfl
theorem isN_lst : isN (.lst ds) = false := rfl
theorem eq_non : (fEq .non .non).wp Q = Q (.va (.bl true)) := rfl
theorem lt_int : (fLt (.int i) (.int j)).wp Q = Q (.va (.bl (decide (i < j)))) := rfl
theorem le_int : (fLe (.int i) (.int j)).wp Q = Q (.va (.bl (decide (i ≤ j)))) := rfl
theorem gt_int : (fGt (.int i) (.int j)).wp Q = Q (.va (.bl (decide (j < i)))) := rfl
theorem ge_int : (fGe (.int i) (.int j)).wp Q = Q (.va (.bl (decide (j ≤ i)))) := rfl
theorem is_non : (fIs d .non).wp Q = Q (.va (.bl (isN d))) := by cases d <;> rfl
theorem isnot_non : (fIsNot d .non).wp Q = Q (.va (.bl (!isN d))) := by cases d <;> rfl
theorem notin_lst (h : gd 60 d = true) (h2 : gds 60 ds = true) : (fNotIn d (.lst ds)).wp Q = Q (.va (.bl (!ds.any fun z => eqD z d))) := by
  cases d <;> (unfold fNotIn; simp [h, h2, FR.wp])
theorem ix_lst : (fIx (.lst ds) (.int i)).wp Q = opt (L2.atI ds i) fun d => Q (.va d) := by
  show (match L2.atI ds i with | some d => FR.va d | none => FR.no).wp Q = _
  cases L2.atI ds i <;> rfl
theorem ix_tup : (fIx (.tup ds) (.int i)).wp Q = opt (L2.atI ds i) fun d => Q (.va d) := by
  show (match L2.atI ds i with | some d => FR.va d | none => FR.no).wp Q = _
  cases L2.atI ds i <;> rfl
theorem len_lst : (fLen [.lst ds]).wp Q = Q (.va (.int ds.length)) := rfl
theorem len_tup : (fLen [.tup ds]).wp Q = Q (.va (.int ds.length)) := rfl
theorem int_int : (fInt [.int i]).wp Q = Q (.va (.int i)) := rfl
theorem abs_int : (fAbs [.int i]).wp Q = Q (.va (.int (if i < 0 then -i else i))) := rfl
theorem list_lst : (fList [.lst ds]).wp Q = Q (.ow ds) := rfl
theorem list_tup : (fList [.tup ds]).wp Q = Q (.ow ds) := rfl
theorem tuple_lst : (fTuple [.lst ds]).wp Q = Q (.va (.tup ds)) := rfl
theorem tuple_tup : (fTuple [.tup ds]).wp Q = Q (.va (.tup ds)) := rfl
theorem gcd_int : (fGcd [.int i, .int j]).wp Q = Q (.va (.int ((Nat.gcd i.natAbs j.natAbs : Nat) : Int))) := rfl
/-- a slot behind a call: as it was, unless its list was handed on -/
def wb2 (Δ : List Sl) (j : Nat) : Sl → Sl
  | .owc ds => match Δ[j]? with
    | some s => s
    | none => .owc ds
  | s => s
theorem wb1_eq {rs : List RV} {Δ : List Sl} {i : Nat} {s : Sl} : wb1 rs Δ i s = match posBo i rs with
    | none => s
    | some j => wb2 Δ j s := by
  cases s with
  | owc ds =>
    unfold wb1
    cases posBo i rs <;> rfl
  | _ => cases h : posBo i rs <;> simp only [wb1, wb2]
/-- a slot that may be stored -/
def nb : Sl → Bool
  | .bwc _ => false
  | _ => true
theorem nb_no : nb .no = true := rfl
theorem nb_va : nb (.va d) = true := rfl
theorem nb_ow : nb (.ow ds) = true := rfl
theorem nb_sc {ns : List Int} : nb (.sc ns) = true := rfl
theorem stOk_eq {k : Nat} : stOk Γ k = match Γ[k]? with
    | some s => nb s
    | none => false := by
  unfold stOk
  cases Γ[k]? with
  | none => rfl
  | some s => cases s <;> rfl
theorem nb_owc {t : Ct} : nb (.owc t) = true := rfl
theorem isPl_non : isPl .non = true := rfl
theorem isPl_bl {b : Bool} : isPl (.bl b) = true := rfl
theorem isPl_int {i : Int} : isPl (.int i) = true := rfl
theorem isPl_str {x : List Nat} : isPl (.str x) = true := rfl
theorem isPl_tup {ds : List D} : isPl (.tup ds) = true := rfl
theorem isPl_lst {ds : List D} : isPl (.lst ds) = true := rfl
theorem append_one : opt (fAppend es [d]) = fun Q => es.length < big ∧ Q (es ++ [d]) := by
  funext Q
  unfold fAppend
  simp only
  by_cases h : es.length < big
  · simp [h, opt]
  · simp [h, opt]
theorem reverse_nil : fReverse es [] = some es.reverse := rfl
end
/-! ### sizes -/
open PySem.Builtin.Int in
theorem bits_lt {z : Int} {m : Nat} (h : -(2 : Int) ^ m < z) (h2 : z < (2 : Int) ^ m) : intBits z ≤ m := by
  refine intBits_le_iff.mpr ?_
  have e : ((2 ^ m : Nat) : Int) = (2 : Int) ^ m := by push_cast; rfl
  rw [← e] at h h2
  omega
open PySem.Builtin.Int in
theorem lt_bits {z : Int} {m : Nat} (h : intBits z ≤ m) : -(2 : Int) ^ m < z ∧ z < (2 : Int) ^ m := by
  have h := intBits_le_iff.mp h
  have e : ((2 ^ m : Nat) : Int) = (2 : Int) ^ m := by push_cast; rfl
  rw [← e]
  omega
open PySem.Builtin.Int in
theorem nopy {x y : Int} (h : intBits y ≤ 9000) : Builtin.divisionGoesByPylong x y = false := by
  refine PyProof.noPylong_of_log2 ?_
  have h2 := intBits_le_iff.mp h
  by_cases z : y.natAbs = 0
  · rw [z]; decide
  · exact (Nat.log2_lt z).mpr h2
/-! ### lists by places -/
theorem atI_0 {α : Type} {x : α} {l : List α} : L2.atI (x :: l) 0 = some x := L2.atI_nat (j := 0) rfl
theorem atI_1 {α : Type} {x y : α} {l : List α} : L2.atI (x :: y :: l) 1 = some y := L2.atI_nat (j := 1) rfl
theorem atI_2 {α : Type} {x y z : α} {l : List α} : L2.atI (x :: y :: z :: l) 2 = some z := L2.atI_nat (j := 2) rfl
theorem atI_of {α : Type} {l : List α} {i : Int} (h0 : 0 ≤ i) (h1 : i < l.length) : ∃ a, L2.atI l i = some a ∧ a ∈ l := by
  obtain ⟨n, rfl⟩ := Int.eq_ofNat_of_zero_le h0
  have hn : n < l.length := by omega
  exact ⟨l[n], L2.atI_nat (List.getElem?_eq_getElem hn), List.getElem_mem hn⟩
theorem ixN_of {n : Nat} {i : Int} (h0 : 0 ≤ i) (h1 : i < n) : L2.ixN n i = some i.toNat := by
  unfold L2.ixN
  rw [if_pos h0, if_pos h1]
end Mir

set_option Elab.async false
set_option autoImplicit false
set_option linter.all false
set_option maxRecDepth 100000
set_option maxHeartbeats 4000000
/-! The order of nested data where only the first difference must be comparable. -/
namespace Mir.So
open PySem PySem.W PySem.Calls PyProof.Rows PySem.SeqAt
abbrev Tk := List (Int ⊕ List Nat)
/-! ### signs -/
/-! ### tuples: < by the first difference -/
section
variable {A : Around} {s : Shared} {k : Bool}
/-! ### < of nested data -/
end
/-! ### as sorting compares -/
section
variable {prog : Program} {w : World} {A : Around} {E : Value → Shared → Prop} {s : Shared}
end
/-! ### the kinds of keys -/
/-- the keys ds, as the heap h lays them -/
noncomputable def kindOf (h : Heap) (ds : List PyData) : KeyKind where
  toKeyOrd := listOrd itemOrd
  keyOf v := open Classical in if q : ∃ d, (d ∈ ds ∧ d.canLay0 = true) ∧ ∃ as, Reads h v d as then some (keyToks q.choose) else none
  dflt := ([] : Tk)
section
variable {prog : Program} {w : World} {A : Around} {s : Shared}
end
end Mir.So

set_option Elab.async false
set_option autoImplicit false
set_option linter.all false
set_option maxRecDepth 100000
set_option maxHeartbeats 4000000
/-! sorted(xs, key=f), f a def of the program. -/
namespace Mir
open PySem PySem.Spec PyProof.Rows L2
open PySem.W (EachIs sortVals)
/-! ### the sorted data -/
/-! ### a pinned record of ours is changed -/
section
variable {X : Cx} {pins : List (Addr × Obj)} {σ : L2.St} {H : Hp} {s : Shared}
theorem _root_.L2.Inv.less {p : Addr × Obj} (I : Inv X (p :: pins) σ H s) : Inv X pins σ H s := I.pins_of fun q hq => I.pin q (List.mem_append_right _ (List.mem_cons_of_mem _ hq))
/-- an address of ours that nothing else holds -/
structure Ours (X : Cx) (pins : List (Addr × Obj)) (c : Addr) : Prop where
  old : X.s_0.heap.objs.size ≤ c
  loc : c ≠ X.env.locals
  fs : c ∉ X.fs
  cell : ∀ x d, X.env.cells.lookup x = some d → d ≠ c
  pin : ∀ p ∈ X.pn ++ pins, p.1 ≠ c
theorem Ours.of (I : Inv X pins σ H s) {c : Addr} (h : s.heap.objs.size ≤ c) : Ours X pins c := by
  obtain ⟨_, h1, h2, h3, h4, h5⟩ := I.fpOk (H' := fun _ => none) h rfl
  exact ⟨Nat.le_trans I.sz h, h1, h2, h4, h5⟩
end
section
variable {X : Cx} {XR : XRel} {W : WX} {x p : Str} {k : Nat} {F : DM} {ma : EM} {e : Expr} {pn pf pos kp : Pos}
end
end Mir

set_option Elab.async false
set_option autoImplicit false
set_option linter.all false
set_option maxRecDepth 100000
set_option maxHeartbeats 4000000
/-! Shifts, bits; ints as texts, f-strings. -/
namespace Mir
open PySem PySem.Spec PyProof.Rows L2
section
variable {X : Cx}
end
/-! ### ints as texts -/
section
variable {X : Cx} {XR : XRel} {W : WX} {e : Expr} {es : List Expr} {m : EM} {pos : Pos}
end
end Mir

set_option Elab.async false
set_option autoImplicit false
set_option linter.all false
set_option maxRecDepth 100000
set_option maxHeartbeats 4000000
/-! sorted(xs) of anything that Python can compare. -/
namespace Mir
open PySem PySem.Spec PyProof.Rows L2
open PySem.W (EachIs sortVals)
section
variable {X : Cx} {pins : List (Addr × Obj)} {σ : L2.St} {H : Hp} {s : Shared}
end
end Mir

set_option Elab.async false
set_option autoImplicit false
set_option linter.all false
set_option maxRecDepth 100000
set_option maxHeartbeats 4000000
/-! try: .. except C as e: a suite that asks isinstance(e, ..) and gives constants. -/
namespace Mir
open PySem PySem.Spec PyProof.Rows L2
/-- isinstance(e, (c, c', ..)), e the exception that the suite holds -/
def rIsET (K : Fg) (D a : Addr) : List V → Hp → VK → Prop := fun xs H Q => ∃ (tp : Addr) (cs : List V) (us : List Value) (b : Bool), xs = [.ref a, .ref tp] ∧ H tp = some (.tup cs) ∧ Paired ClsV cs us ∧ PySem.W.kitAny K (.ref D) us = some b ∧ Q (.bl b) H
theorem call_isET {X : Cx} {a D : Addr} {oe : Obj} {pn : List (Addr × Obj)} (C : ExcC X.KW D) (hz : Zc (.ref D) none oe) (hf : ∃ vs, oe.data = .fields vs) : CallR (X.suite a ((a, oe) :: pn)) (.builtin "isinstance") (rIsET X.KW D a) := by
  intro pins s σ H xs us Q I r h
  obtain ⟨tp, cs, ws, b, rfl, hT, k, e, q⟩ := h
  obtain ⟨u1, u2, rfl, r1, r2⟩ := vals2 r
  cases (show u2 = Value.ref tp from r2)
  cases (show u1 = Value.ref a from r1)
  obtain ⟨hget, _⟩ := I.pin (a, oe) (List.mem_append.mpr (.inl List.mem_cons_self))
  obtain ⟨vs, hv⟩ := hf
  have J : PySem.W.InstAt s.heap a oe D none := by
    obtain ⟨oc, od, oda, osl⟩ := oe
    obtain ⟨h1, h2⟩ := hz
    dsimp only at h1 h2 hv
    subst h1 h2 hv
    exact ⟨hget, rfl, rfl, trivial⟩
  obtain ⟨_, its, rv, o, h1, h2, n, h3⟩ := (show ObjOk X.prog X.w H s.heap tp (.tup cs) from I.hok tp _ hT)
  have e3 := ClsV.all k rv
  subst e3
  obtain ⟨oc, od, dt, sl⟩ := o
  simp only at h2 h3
  subst h2 h3
  exact PySem.W.kia_tup (PySem.W.handS_kitx_exc C.hg C.hk C.hs C.hd C.ha C.hn C.ht C.hm) I.kIn J h1 e (fun z => nomatch z) fun tk => ⟨.bl b, H, I.tok tk, rfl, q⟩

/-! ### the suite: slot i holds the exception at a -/
def tX (K : Fg) (XR : XRel) (P : List Nat) (i : Nat) (a : Addr) (b : Bool) : TT := fun σ H Q => σ[i]? = some (some (.ref a)) ∧ ∃ O Γ, Rl K O Γ σ H ∧ ∀ H' O', Rl K O' Γ σ H' → EStp Γ σ H O Γ H' O' → Q b H'
def sE (K : Fg) (XR : XRel) (P : List Nat) (i : Nat) (a : Addr) (m : SM) : TS := fun D σ H => σ[i]? = some (some (.ref a)) ∧ tS K XR W0 P m D σ H
section
variable {X : Cx} {XR : XRel} {P : List Nat} {i : Nat} {a : Addr} {b b' : Bool} {c c' : Expr} {body rest : List Stmt} {m : SM} {d : D} {pos p px pe p3 : Pos}
theorem px_is {C : Addr} {oe : Obj} {pn : List (Addr × Obj)} {x : Str} {cv : V} {u : Value} (EC : ExcC X.KW C) (hz : Zc (.ref C) none oe) (hf : ∃ vs, oe.data = .fields vs) (hg : Gl X "isinstance") (hm : X.mg "isinstance" = none) (hv : PE (X.suite a ((a, oe) :: pn)) (.Name x px) (tVar i))
    (hc : PE (X.suite a ((a, oe) :: pn)) c (tC cv)) (k : ClsV cv u) (e : PySem.W.kitOne X.KW (.ref C) u = some b)
    (he : starEach [.Name x px, c] X.env = (false, eval (.Name x px) X.env) :: starEach [c] X.env := by rfl) (he2 : starEach [c] X.env = (false, eval c X.env) :: starEach [] X.env := by rfl) (hpl : (backTo pos (starEach [c] X.env)).any (·.1) = false := by rfl) :
    PT (X.suite a ((a, oe) :: pn)) (.Call (.Name "isinstance" p) [.Name x px, c] [] pos) (tX X.KW XR P i a b) :=
  (pt_val (pe_callB (X := X.suite a ((a, oe) :: pn)) (call_isE EC hz hf) hg hm (by decide +kernel) (pa_cons hv (pa_cons hc pa_nil he2) he) (by decide) (by decide) he hpl)).imp fun σ H Q ⟨hσ, O, Γ, R, h⟩ =>
    ⟨.ref a, hσ, cv, u, b, rfl, fun w r => k.eq r, e, b, rfl, h H O R EStp.refl⟩
theorem px_isT {C : Addr} {oe : Obj} {pn : List (Addr × Obj)} {x : Str} {es : List Expr} {cs : List V} {us : List Value} {k1 : Nat} (EC : ExcC X.KW C) (hz : Zc (.ref C) none oe) (hf : ∃ vs, oe.data = .fields vs) (hg : Gl X "isinstance") (hm : X.mg "isinstance" = none) (hv : PE (X.suite a ((a, oe) :: pn)) (.Name x px) (tVar i))
    (hc : PA (X.suite a ((a, oe) :: pn)) es (fun _ H Q => Q cs H)) (hl : cs.length ≤ 1000) (k : Paired ClsV cs us) (e : PySem.W.kitAny X.KW (.ref C) us = some b)
    (he : starEach [.Name x px, .Tuple es k1 p3] X.env = (false, eval (.Name x px) X.env) :: starEach [.Tuple es k1 p3] X.env := by rfl) (he2 : starEach [.Tuple es k1 p3] X.env = (false, eval (.Tuple es k1 p3) X.env) :: starEach [] X.env := by rfl) (hpl : (backTo pos (starEach [.Tuple es k1 p3] X.env)).any (·.1) = false := by rfl) :
    PT (X.suite a ((a, oe) :: pn)) (.Call (.Name "isinstance" p) [.Name x px, .Tuple es k1 p3] [] pos) (tX X.KW XR P i a b) :=
  (pt_val (pe_callB (X := X.suite a ((a, oe) :: pn)) (call_isET EC hz hf) hg hm (by decide +kernel) (pa_cons hv (pa_cons (pe_tup hc) pa_nil he2) he) (by decide) (by decide) he hpl)).imp fun σ H Q ⟨hσ, O, Γ, R, h⟩ => by
    refine ⟨.ref a, hσ, ⟨by show cs.length ≤ sizeLine; exact Nat.le_trans hl (by decide), fun q hq => ?_⟩⟩
    have sm : Same H (upd H q (.tup cs)) := same_up hq
    exact ⟨q, cs, us, b, rfl, upd_same, k, e, b, rfl, h _ O (R.same sm) (EStp.of_same sm)⟩
theorem px_and (h1 : PT X c (tX X.KW XR P i a b)) (h2 : PT X c' (tX X.KW XR P i a b')) : PT X (.BoolOp .And [c, c'] pos) (tX X.KW XR P i a (b && b')) := (pw_and h1 (pw_and1 h2)).pt.imp fun σ H Q ⟨hσ, O, Γ, R, h⟩ => by
  refine ⟨hσ, O, Γ, R, fun H' O' R' S' => ?_⟩
  cases b with
  | true => exact ⟨hσ, O', Γ, R', fun H2 O2 R2 S2 => h H2 O2 R2 (S'.trans R S2)⟩
  | false => exact h H' O' R' S'
/-- if <false>: .. -/
theorem psx_no {t : TS} (hc : PT X c (tX X.KW XR P i a false)) (ha : PSs X body t) (hr : PSs X rest (sE X.KW XR P i a m)) : PSs X (.If c body [] pos :: rest) (sE X.KW XR P i a m) := (pss_cons (ps_if hc ha pss_nil) hr).imp fun D σ H ⟨hσ, O, Γ, R, h⟩ =>
  ⟨hσ, O, Γ, R, fun H' O' R' S' => ⟨hσ, O', Γ, R', h.after R S'.s⟩⟩
/-- if <true>: return constant -/
theorem psx_yes {mr : SM} {u : TS} (hm : ∀ Γ, mr Γ = .rt (.va d) Γ) (hc : PT X c (tX X.KW XR P i a true)) (ha : MSs X XR W0 P body mr) (hr : PSs X rest u) : PSs X (.If c body [] pos :: rest) (sE X.KW XR P i a (fun Γ => .rt (.va d) Γ)) := (pss_cons (ps_if hc ha pss_nil) hr).imp fun D σ H ⟨hσ, O, Γ, R, h⟩ => by
  refine ⟨hσ, O, Γ, R, fun H' O' R' S' => ⟨O', Γ, R', ?_⟩⟩
  rw [hm]
  exact h.after (D := { D with nx := _ }) R S'.s
end
/-- a slot of which nothing is known takes anything -/
theorem Rl.any {K : Fg} {O : List Addr} {Γ : List Sl} {σ : L2.St} {H : Hp} {i : Nat} {o : Option V} (h : Γ[i]? = some .no) (R : Rl K O Γ σ H) : Rl K O Γ (σ.set i o) H := by
  have hi : i < σ.length := by rw [← R.len]; exact (List.getElem?_eq_some_iff.mp h).1
  refine ⟨by rw [List.length_set]; exact R.len, fun j s e3 => ?_, fun j k b ds t hjk e3 e4 et e5 e6 => ?_, R.tr⟩
  · by_cases hj : i = j
    · subst hj
      rw [h] at e3; cases e3
      exact ⟨_, List.getElem?_set_self hi, trivial⟩
    · rw [get_set_ne hj]; exact R.sl j s e3
  · have n1 : i ≠ j := fun z => by subst z; rw [h] at e3; cases e3
    have n2 : i ≠ k := fun z => by subst z; rw [h] at e4; cases e4; cases et
    rw [get_set_ne n1] at e5
    rw [get_set_ne n2] at e6
    exact R.ne j k b ds t hjk e3 e4 et e5 e6
theorem sst_any {P : List Nat} {K : Fg} {O : List Addr} {Γ : List Sl} {σ : L2.St} {H : Hp} {i : Nat} {o : Option V} (hp : i ∉ P) (h : Γ[i]? = some .no) : SStp P Γ σ H O Γ (σ.set i o) H O := by
  have ne : ∀ (j : Nat) (ds : Ct), (Γ[j]? = some (.owc ds) ∨ Γ[j]? = some (.bwc ds)) → i ≠ j := fun j ds e z => by subst z; rw [h] at e; rcases e with e | e <;> cases e
  refine ⟨⟨fun b o _ e => e, fun b ⟨j, ds, e1, e2⟩ => ?_, fun b hb => hb, fun b hb => .inl hb, fun b h1 h2 => absurd h1 h2⟩, fun j hj => ⟨?_, fun ds e => .inl ⟨ds, e⟩, fun s e _ => e⟩, fun j ds e => ⟨e, ?_⟩, fun j ds e => e⟩
  · rw [get_set_ne (ne j ds (.inl e1))] at e2
    exact .inl ⟨j, ds, e1, e2⟩
  · have nj : i ≠ j := fun z => hp (by rw [z]; exact hj)
    rw [get_set_ne nj]
  · rw [get_set_ne (ne j ds (.inr e))]
/-- try: .. except C as e (slot i): what the suite gives, by the number of the class; none: it isn't caught -/
def sTry (mb : SM) (i : Nat) (h : Nat → Option D) : SM := fun Γ => match mb Γ with
  | .ex c pl Γ' => match h c with
    | some d => match Γ'[i]? with
      | some .no => .rt (.va d) Γ'
      | _ => .no
    | none => .ex c pl Γ'
  | r => r
/-- what the suite wishes -/
def tsT (K : Fg) (P : List Nat) (xt : Nat → Option Addr) (i : Nat) (h : Nat → Option D) (a : Addr) (cls : Value) (d : Option Addr) : TS := fun D σ H => ∃ c C dv, cls = .ref C ∧ d = none ∧ xt c = some C ∧ h c = some dv ∧ sE K (XRt xt) P i a (fun Γ => .rt (.va dv) Γ) D σ H
section
variable {X : Cx} {W : WX} {P : List Nat} {xt : Nat → Option Addr} {x n : Str} {cv : Value} {i : Nat} {body suite : List Stmt} {b₀ : Stmt} {np pos pos' : Pos} {mb : SM} {h : Nat → Option D}
theorem ms_try (hs : X.stack = X.env :: X.outer) (hf : X.env.frame = some X.env.locals) (hN : X.N.Nodup) (hi : X.N[i]? = some n) (hln : X.env.kindOf n = some .local) (hc : Names X x cv) (tk : Takes X W) (hp : i ∉ P)
    (hb : ∀ (W' : WX) (pn : List (Addr × Obj)) (xe : Value → Shared → Prop), Takes (X.tr pn xe) W' → PassesOwn (model X.prog X.w) X.A X.env xe → MSs (X.tr pn xe) (XRt xt) W' P body mb)
    (hx : ∀ c C, xt c = some C → PySem.W.exmOne X.KW (.ref C) cv = some (h c).isSome)
    (hsu : ∀ (c : Nat) (C : Addr) (dv : D) (a : Addr) (oe : Obj) (pn : List (Addr × Obj)), xt c = some C → h c = some dv → Zc (.ref C) none oe → (∃ vs, oe.data = .fields vs) → PSs (X.suite a ((a, oe) :: pn)) (b₀ :: suite) (sE X.KW (XRt xt) P i a (fun Γ => .rt (.va dv) Γ))) :
    MS X (XRt xt) W P (.Try body [.ExceptHandler (some (.Name x np)) (some n) (b₀ :: suite) pos'] [] [] pos) (sTry mb i h) :=
  PS.imp (ps_try_as (tb := fun W' => tS X.KW (XRt xt) W' P mb) (ts := tsT X.KW P xt i h) hs hf hN hi hln hc tk hb (fun a oe cls d pn hz hd => ⟨fun pins s σ H D I ⟨c, C, dv, e1, e2, e3, e4, q⟩ => by
    subst e1 e2
    exact (hsu c C dv a oe pn e3 e4 hz hd).run pins s σ H D I q⟩)) fun D σ H ⟨O, Γ, R, q⟩ => by
    refine ⟨O, Γ, R, ?_⟩
    unfold sTry at q
    cases em : mb Γ with
    | ex c pl Γ' =>
      rw [em] at q
      intro cls d σ' H' O' xr R' S'
      obtain ⟨rfl, rfl, C, hC, rfl⟩ := xr
      refine ⟨(h c).isSome, hx c C hC, fun hb a na => ?_, fun hb => ?_⟩
      · cases hh : h c with
        | none => rw [hh] at hb; cases hb
        | some dv =>
          simp only [hh] at q
          cases hno : Γ'[i]? with
          | none => rw [hno] at q; exact q.elim
          | some s =>
            rw [hno] at q
            cases s with
            | no =>
              have hl : i < σ'.length := by rw [← R'.len]; exact (List.getElem?_eq_some_iff.mp hno).1
              refine ⟨c, C, dv, rfl, rfl, hC, hh, List.getElem?_set_self hl, O', Γ', R'.any hno, fun σ2 H2 O2 R2 S2 v hv => ?_⟩
              exact q σ2 H2 O2 R2 (S'.trans R ((sst_any (K := X.KW) hp hno).trans R' S2)) v (hv.older (none_back S'.toStp))
            | _ => exact q.elim
      · cases hh : h c with
        | some dv => rw [hh] at hb; cases hb
        | none =>
          simp only [hh] at q
          exact q _ _ σ' H' O' ⟨rfl, rfl, C, hC, rfl⟩ R' S'
    | _ => rw [em] at q; exact q
end
end Mir

set_option Elab.async false
set_option autoImplicit false
set_option linter.all false
set_option maxRecDepth 100000
set_option maxHeartbeats 4000000
/-! zip of a tuple with a list; reversed(range(n)). -/
namespace Mir
open PySem PySem.Spec PyProof.Rows L2
section
variable {X : Cx} {XR : XRel} {W : WX} {e e2 : Expr} {m m2 : EM} {p p2 pos tpos : Pos} {elts : List Expr} {kk : Nat} {tg : Expr}
end
end Mir

set_option Elab.async false
set_option autoImplicit false
set_option linter.all false
set_option maxRecDepth 100000
set_option maxHeartbeats 4000000
/-! Sets of texts: set(xs), {.. for ..}, sorted and len of them. -/
namespace Mir
open PySem PySem.Spec PyProof.Rows L2

/-! ### the object -/
def txt (e : Int × Value) : Str := match e.2 with
  | .str x _ => x
  | _ => Str.empty
def TxtE (w : World) (e : Int × Value) : Prop := ∃ x t, e = (hashStr w x, Value.str x t)
/-- the set at a holds just the texts ks, and it can be walked -/
def SetTx (w : World) (h : Heap) (a : Addr) (ks : List Str) : Prop :=
  ∃ (o : Obj) (es : Array (Int × Value)) (ep : Nat) (t : SetTable), (h.get? a = some o ∧ o.ExactSet ∧ o.data = .set es ep t) ∧ (∀ e ∈ es.toList, TxtE w e) ∧
    ((es.toList.map txt).Perm ks ∧ ks.Nodup) ∧ (es.size < scanBound ∧ t.fits es.size = true) ∧ Ris t.place.toList ∧ (w.params.followText "set-order" = true ∨ t.led = true)
section
variable {P : Program} {w : World} {h h' : Heap} {a : Addr} {ks : List Str}
theorem SetTx.at (R : SetTx w h a ks) (k : ∀ o, h.get? a = some o → h'.get? a = some o) : SetTx w h' a ks := by
  obtain ⟨o, es, ep, t, ⟨h1, h2⟩, r⟩ := R
  exact ⟨o, es, ep, t, ⟨k o h1, h2⟩, r⟩
theorem SetTx.ob (R : SetTx w h a ks) : ∃ o, h.get? a = some o := by
  obtain ⟨o, es, ep, t, ⟨h1, h2⟩, r⟩ := R
  exact ⟨o, h1⟩
end

/-! ### add -/
section
variable {P : Program} {w : World} {A : Around} {E : Value → Shared → Prop} {s : Shared} {a : Addr} {ks : List Str}
end
/-! ### set(xs) -/
section
variable {P : Program} {w : World} {A : Around} {I S : Addr} {fp wr : List Addr} {G : Array GenState → Array GenState → Prop} {n : Nat} {Pv : Nat → Value → Prop} {St : Nat → Shared → Prop} {R : Result → Shared → Prop}
end
section
variable {P : Program} {w : World} {A : Around} {E : Value → Shared → Prop} {s : Shared}
set_option maxHeartbeats 3200000 in
end
end Mir

set_option Elab.async false
set_option autoImplicit false
set_option linter.all false
set_option maxRecDepth 100000
set_option maxHeartbeats 4000000
/-! sorted(set(xs)), len(set(xs)), sorted({.. for ..}) of texts. -/
namespace Mir
open PySem PySem.Spec PyProof.Rows L2
open PySem.W (EachIs sortVals)
/-! ### the data -/
/-! ### as tracked objects -/
section
variable {X : Cx} {pins : List (Addr × Obj)} {σ : L2.St} {H : Hp} {s : Shared}
end
end Mir

set_option Elab.async false
set_option autoImplicit false
set_option linter.all false
set_option maxRecDepth 100000
set_option maxHeartbeats 4000000
/-! sorted(set(xs)), len(set(xs)) of texts, as mirrors. -/
namespace Mir
open PySem PySem.Spec PyProof.Rows L2
section
variable {X : Cx} {XR : XRel} {W : WX} {e : Expr} {m : EM} {p p2 pos pos2 : Pos}
end
end Mir

set_option Elab.async false
set_option autoImplicit false
set_option linter.all false
set_option maxRecDepth 100000
set_option maxHeartbeats 4000000
/-! x in a tuple; enumerate(list or tuple). -/
namespace Mir
open PySem PySem.Spec PyProof.Rows L2
section
variable {X : Cx}
end
/-! ### enumerate of a tuple -/
end Mir

set_option Elab.async false
set_option autoImplicit false
set_option linter.all false
set_option maxRecDepth 100000
set_option maxHeartbeats 4000000
/-! {.. for ..} of texts, as a tracked object. -/
namespace Mir
open PySem PySem.Spec PyProof.Rows L2
end Mir

set_option Elab.async false
set_option autoImplicit false
set_option linter.all false
set_option maxRecDepth 100000
set_option maxHeartbeats 4000000
/-! sorted({.. for ..}) of texts; len(set(xs)). -/
namespace Mir
open PySem PySem.Spec PyProof.Rows L2
section
variable {K : Fg} {XR : XRel} {W : WX} {T own : List Nat} {mi : IM} {f : GM} {t : List Sl → Rs Bool} {m : EM}
end
section
variable {X : Cx} {XR : XRel} {W : WX} {T : List Nat} {elt tg iter : Expr} {ifs : List Expr} {scope : Scope} {own : List (Str × Nat)} {pos pos2 p : Pos} {mi : IM} {f : GM} {t : List Sl → Rs Bool} {m : EM}
end
/-! ### len(set(xs)) -/
section
variable {X : Cx}
variable {XR : XRel} {W : WX} {e : Expr} {m : EM} {p p2 pos pos2 : Pos}
end
end Mir

set_option Elab.async false
set_option autoImplicit false
set_option linter.all false
set_option maxRecDepth 100000
set_option maxHeartbeats 4000000
/-! comprehensions of two clauses, the second over what is not lent. -/
namespace Mir
open PySem PySem.Spec PyProof.Rows L2
/-- the names of a block forgotten on both sides of a step, where none of them held -/
theorem EStp.wipe {own : List Nat} {Γ Γ' : List Sl} {σ : L2.St} {H H' : Hp} {O O' : List Addr} (S : EStp Γ σ H O Γ' H' O') (hn : own.all (notHd Γ) = true) (hl : Γ'.length = Γ.length) : EStp (wipeG Γ own) (L2.wipe σ own) H O (wipeG Γ' own) H' O' := by
  have out : ∀ {j : Nat} {s : Sl}, Γ[j]? = some s → s.hd = true → j ∉ own := fun {j s} e hs hv => by
    have := List.all_eq_true.mp hn j hv
    unfold notHd at this
    rw [e] at this
    simp [hs] at this
  have out' : ∀ {Δ : List Sl} {j : Nat} {s : Sl}, (wipeG Δ own)[j]? = some s → s.hd = true → j ∉ own := fun {Δ j s} e hs hv => by
    rw [wipeG_in (by rw [← wipeG_len Δ own]; exact (List.getElem?_eq_some_iff.mp e).1) hv] at e
    cases e; cases hs
  have muw : ∀ b, Mu Γ σ b → Mu (wipeG Γ own) (L2.wipe σ own) b := fun b ⟨j, es, z1, z2⟩ =>
    ⟨j, es, by rw [wipeG_out (out z1 rfl)]; exact z1, by rw [wipe_out (out z1 rfl)]; exact z2⟩
  refine ⟨⟨fun b o n e => S.keep b o (fun z => n (muw b z)) e, fun b ⟨j, es, z1, z2⟩ => ?_, S.stay, S.grow, fun b h n => muw b (S.lose b h n)⟩, S.sub, fun j es e => ?_, fun j s e n => ?_, fun j es e => ?_⟩
  · have hj := out' z1 rfl
    rw [wipeG_out hj] at z1; rw [wipe_out hj] at z2
    exact (S.mu b ⟨j, es, z1, z2⟩).imp (muw b) id
  · have hj := out' e rfl
    rw [wipeG_out hj] at e ⊢
    exact S.pres j es e
  · by_cases hj : j ∈ own
    · have hjl : j < Γ.length := by rw [← wipeG_len Γ own]; exact (List.getElem?_eq_some_iff.mp e).1
      rw [wipeG_in hjl hj] at e; cases e
      exact wipeG_in (by rw [hl]; exact hjl) hj
    · rw [wipeG_out hj] at e ⊢; exact S.oth j s e n
  · have hj := out' e rfl
    rw [wipeG_out hj] at e ⊢; exact S.bwb j es e
section
variable {K : Fg} {XR : XRel} {W : WX} {T own T1 own1 : List Nat} {mi mi1 : IM} {f f1 : GM} {t t1 : List Sl → Rs Bool} {m : EM}
end
section
variable {X : Cx} {XR : XRel} {W : WX} {T T1 : List Nat} {elt tg iter tg1 iter1 : Expr} {ifs ifs1 : List Expr} {scope : Scope} {own : List (Str × Nat)} {vs1 : List Nat} {pos : Pos} {mi mi1 : IM} {f f1 : GM} {t t1 : List Sl → Rs Bool} {m : EM}
end
end Mir

set_option Elab.async false
set_option autoImplicit false
set_option linter.all false
set_option maxRecDepth 100000
set_option maxHeartbeats 4000000
/-! what comprehensions of texts and of two clauses answer. -/
namespace Mir
open PySem PySem.Spec PyProof.Rows L2
section
variable {own own1 : List Nat} {mi mi1 : IM} {f f1 : GM} {t t1 : List Sl → Rs Bool} {ma : EM} {Γ : List Sl} {E : Nat → List D → List Sl → Prop} {Qr : RV → List Sl → Prop}
end
end Mir

set_option Elab.async false
set_option autoImplicit false
set_option linter.all false
set_option maxRecDepth 100000
set_option maxHeartbeats 4000000
/-! < and > of flat tuples: the first difference tells. -/
namespace Mir.So
open PySem PySem.W PySem.Calls PyProof.Rows PySem.SeqAt
section
variable {A : Around} {s : Shared} {k : Bool}
end
end Mir.So
namespace Mir
open PySem PySem.Spec PyProof.Rows L2
open PySem.SeqAt (EqAt RcLt RcOp)
section
variable {K : Fg} {H : Hp} {A : Around} {s : Shared}
end
section
variable {X : Cx}
end
end Mir

set_option Elab.async false
set_option autoImplicit false
set_option linter.all false
set_option maxRecDepth 100000
set_option maxHeartbeats 4000000
/-! t.index(u) of texts, where u is in t. -/
namespace Mir
open PySem PySem.Spec PyProof.Rows L2
section
variable {X : Cx} {XR : XRel} {W : WX} {ms : AM} {x : Str} {p apos pos : Pos}
end
section
variable {i : Nat} {ms : AM} {Γ : List Sl} {Q : RV → List Sl → Prop} {E : Nat → List D → List Sl → Prop}
end
end Mir

set_option Elab.async false
set_option autoImplicit false
set_option linter.all false
set_option maxRecDepth 100000
set_option maxHeartbeats 4000000
/-! Dicts: keys, look-ups, stores. -/
namespace Mir
open PySem PySem.Spec PyProof.Rows L2

/-! ### keys as data -/
mutual
theorem nk_eq : ∀ {d e : D} {a b : NestedKey}, nkD d = some a → nkD e = some b → eqD d e = decide (a = b)
  | .non, e, a, b, ha, hb => by
    cases ha
    cases e with
    | non => cases hb; simp [eqD]
    | int j => cases hb; simp [eqD]
    | str y => cases hb; simp [eqD]
    | tup ys => obtain ⟨ks, _, rfl⟩ := Option.map_eq_some_iff.mp (show (nkDs ys).map NestedKey.tup = some b from hb); simp [eqD]
    | _ => cases hb
  | .int i, e, a, b, ha, hb => by
    cases ha
    cases e with
    | non => cases hb; simp [eqD]
    | int j => cases hb; simp [eqD, Bool.beq_eq_decide_eq]
    | str y => cases hb; simp [eqD]
    | tup ys => obtain ⟨ks, _, rfl⟩ := Option.map_eq_some_iff.mp (show (nkDs ys).map NestedKey.tup = some b from hb); simp [eqD]
    | _ => cases hb
  | .str x, e, a, b, ha, hb => by
    cases ha
    cases e with
    | non => cases hb; simp [eqD]
    | int j => cases hb; simp [eqD]
    | str y => cases hb; simp [eqD, toS_inj, Bool.beq_eq_decide_eq]
    | tup ys => obtain ⟨ks, _, rfl⟩ := Option.map_eq_some_iff.mp (show (nkDs ys).map NestedKey.tup = some b from hb); simp [eqD]
    | _ => cases hb
  | .tup xs, e, a, b, ha, hb => by
    obtain ⟨ks, h1, rfl⟩ := Option.map_eq_some_iff.mp (show (nkDs xs).map NestedKey.tup = some a from ha)
    cases e with
    | non => cases hb; simp [eqD]
    | int j => cases hb; simp [eqD]
    | str y => cases hb; simp [eqD]
    | tup ys =>
      obtain ⟨ls, h2, rfl⟩ := Option.map_eq_some_iff.mp (show (nkDs ys).map NestedKey.tup = some b from hb)
      simp only [eqD, NestedKey.tup.injEq]
      exact nks_eq h1 h2
    | _ => cases hb
  | .bl _, _, _, _, ha, _ => by cases ha
  | .lst _, _, _, _, ha, _ => by cases ha
  | .dic _, _, _, _, ha, _ => by cases ha
  | .set _, _, _, _, ha, _ => by cases ha
theorem nks_eq : ∀ {ds es : List D} {a b : List NestedKey}, nkDs ds = some a → nkDs es = some b → eqDs ds es = decide (a = b)
  | [], [], a, b, ha, hb => by cases ha; cases hb; simp [eqDs]
  | [], e :: es, a, b, ha, hb => by
    cases ha
    unfold nkDs at hb
    split at hb
    · cases hb; simp [eqDs]
    · cases hb
  | d :: ds, [], a, b, ha, hb => by
    cases hb
    unfold nkDs at ha
    split at ha
    · cases ha; simp [eqDs]
    · cases ha
  | d :: ds, e :: es, a, b, ha, hb => by
    unfold nkDs at ha hb
    split at ha
    · rename_i k ks h1 h2
      split at hb
      · rename_i l ls h3 h4
        cases ha; cases hb
        simp only [eqDs, nk_eq h1 h3, nks_eq h2 h4, List.cons.injEq, Bool.decide_and]
      · cases hb
    · cases ha
end
theorem nkT_nk {d : D} {k : NestedKey} (h : nkT d = some k) : nkD d = some k ∧ k.depth ≤ 8 ∧ ∃ xs, d = .tup xs := by
  cases d with
  | tup xs =>
    obtain ⟨k', h1, h2⟩ := Option.bind_eq_some_iff.mp (show (nkD (.tup xs)).bind (fun k => if k.depth ≤ 8 then some k else none) = some k from h)
    split at h2
    · rename_i hd; cases h2; exact ⟨h1, hd, xs, rfl⟩
    · cases h2
  | _ => cases h
theorem nkT_eq {d e : D} {a b : NestedKey} (h : nkT d = some a) (h2 : nkT e = some b) : eqD d e = decide (a = b) := nk_eq (nkT_nk h).1 (nkT_nk h2).1
section
variable {X : Cx} {pins : List (Addr × Obj)} {σ : L2.St} {H : Hp} {s : Shared}
end

/-! ### look-ups and stores as data: keys and values by turns -/
section
variable {K : Fg} {H : Hp}
theorem AtL.two {k d : D} {r : List D} {vs : List V} (t : AtL K H (k :: d :: r) vs) : ∃ kv v vr, vs = kv :: v :: vr ∧ At K H k kv ∧ At K H d v ∧ AtL K H r vr := by
  obtain ⟨kv, t1, rfl, h1, v, vr, rfl, h2, h3⟩ := t
  exact ⟨kv, v, vr, rfl, h1, h2, h3⟩
end
/-! ### tuples as keys -/
section
theorem NM.nil {xs : List (NestedKey × Addr × Value)} (h : NM [] [] xs) : xs = [] := by cases xs with | nil => rfl | cons => exact h.elim
theorem NM.two {k d : D} {r : List D} {kv v : V} {vr : List V} {xs : List (NestedKey × Addr × Value)} (h : NM (k :: d :: r) (kv :: v :: vr) xs) : ∃ x xr, xs = x :: xr ∧ nkT k = some x.1 ∧ kv = .ref x.2.1 ∧ RelV v x.2.2 ∧ NM r vr xr := by
  cases xs with
  | nil => exact h.elim
  | cons x xr => exact ⟨x, xr, rfl, h⟩
variable {K : Fg} {H : Hp}
end
end Mir

set_option Elab.async false
set_option autoImplicit false
set_option linter.all false
set_option maxRecDepth 100000
set_option maxHeartbeats 4000000
/-! Dicts: the rules at the heap. -/
namespace Mir
open PySem PySem.Spec PyProof.Rows L2

section
variable {X : Cx} {pins : List (Addr × Obj)} {σ : L2.St} {H Hd : Hp} {s : Shared} {a : Addr} {ds : List D} {vs : List V}
variable {q d x : D} {y v z : V} {u r : Value} {A : Around} {E : Value → Shared → Prop}
end
end Mir

set_option Elab.async false
set_option autoImplicit false
set_option linter.all false
set_option maxRecDepth 100000
set_option maxHeartbeats 4000000
/-! Dicts: mirrors and their rules. -/
namespace Mir
open PySem PySem.Spec PyProof.Rows L2

/-- a new thing -/
theorem FPost.ct {K : Fg} {Hd H : Hp} {Q : VK} {t : Ct} {vs : List V} {p : Addr} (h : FPost K Hd H Q (.owc t)) (s : Same Hd H) (n : H p = none) (q : AtL K Hd t.ds vs) : Q (.ref p) (upd H p (t.ho K.w p vs)) := by
  have nd : Hd p = none := by
    cases e : Hd p with
    | none => rfl
    | some o => rw [s p o e] at n; cases n
  exact h p vs _ Hd (same_up n) (fun _ _ e => e) (fun b o e => by rw [upd_ne (ne_of_none (s b o e) n)]; exact s b o e) (fun b m => .inl m) n upd_same nd q
section
variable {X : Cx} {XR : XRel} {W : WX} {P : List Nat} {pos : Pos} {a b e : Expr} {ma mb me : EM}
/-! ### d[k] = x -/
end
end Mir

set_option Elab.async false
set_option autoImplicit false
set_option linter.all false
set_option maxRecDepth 100000
set_option maxHeartbeats 4000000
/-! Methods of dicts. -/
namespace Mir
open PySem PySem.Spec PyProof.Rows L2

section
variable {X : Cx} {o e : Expr} {es : List Expr} {to : TE} {t : TA} {name : Str} {apos cpos : Pos} {id : String} {r : V → List V → Hp → VK → Prop}
end
/-! ### d.get(k, x) -/
section
variable {X : Cx} {XR : XRel} {W : WX} {o e : Expr} {es : List Expr} {mo : EM} {ms : AM} {name : Str} {apos cpos : Pos} {id : String} {f : D → List D → FR}
/-! ### d.setdefault(k, x), d an owned dict of the def -/
end
end Mir

set_option Elab.async false
set_option autoImplicit false
set_option linter.all false
set_option maxRecDepth 100000
set_option maxHeartbeats 4000000
/-! zip of two tuples, of two lists. -/
namespace Mir
open PySem PySem.Spec PyProof.Rows L2
theorem Same.seqL {K : Fg} {H H' : Hp} {a : Addr} {xs : List V} (e : Same H H') (h : SqL K H a xs) : SqL K H' a xs := e.seq h

section
variable {X : Cx} {XR : XRel} {W : WX} {e e2 : Expr} {m m2 : EM} {p p2 pos tpos : Pos} {elts : List Expr} {kk : Nat} {tg : Expr}
end
end Mir

set_option Elab.async false
set_option autoImplicit false
set_option linter.all false
set_option maxRecDepth 100000
set_option maxHeartbeats 4000000
/-! Dicts: the rules of the mathematics. -/
namespace Mir
open PySem
section
variable {Q : RV → List Sl → Prop} {E : Nat → List D → List Sl → Prop} {Γ : List Sl} {K : SK} {ma mb mo : EM} {ms : AM} {i : Nat} {ds : List D} {d e v : D} {F : RV → Prop}
end
/-! ### finding behind storing -/
end Mir

set_option Elab.async false
set_option autoImplicit false
set_option linter.all false
set_option maxRecDepth 100000
set_option maxHeartbeats 4000000
/-! try: .. except C as e: a suite of statements that ask what e is; lists times numbers. -/
namespace Mir
open PySem PySem.Spec PyProof.Rows L2
/-! ### a list times a number -/
/-! ### the exception stays in its slot -/
section
variable {X : Cx} {XR : XRel} {P : List Nat} {i : Nat} {a : Addr} {b : Bool} {x y c e : Expr} {rest : List Stmt} {ma mb me : EM} {m m2 : SM} {pos p px : Pos} {f : D → D → FR} {g : List D → FR}
end
section
variable {X : Cx} {W : WX} {P : List Nat} {xt : Nat → Option Addr} {x n : Str} {cv : Value} {i : Nat} {body suite : List Stmt} {b₀ : Stmt} {np pos pos' : Pos} {mb : SM} {h : Nat → Option SM}
end
end Mir

set_option Elab.async false
set_option autoImplicit false
set_option linter.all false
set_option maxRecDepth 100000
set_option maxHeartbeats 4000000
/-! l.index(x) of data. -/
namespace Mir
open PySem PySem.Spec PyProof.Rows L2
section
variable {X : Cx} {XR : XRel} {W : WX} {o e : Expr} {mo : EM} {ms : AM} {apos cpos : Pos}
end
section
variable {Q : RV → List Sl → Prop} {E : Nat → List D → List Sl → Prop} {Γ : List Sl} {mo : EM} {ms : AM} {F : RV → Prop}
end
end Mir

set_option Elab.async false
set_option autoImplicit false
set_option linter.all false
set_option maxRecDepth 100000
set_option maxHeartbeats 4000000
/-! {.. for .. for ..} of texts. -/
namespace Mir
open PySem PySem.Spec PyProof.Rows L2
/-- both clauses -/
abbrev S2 (elt t0 i0 t1 i1 : Expr) (ifs0 ifs1 : List Expr) (scope : Scope) (pos : Pos) : Expr := .SetComp elt [⟨t0, i0, ifs0, 0⟩, ⟨t1, i1, ifs1, 0⟩] scope pos
section
variable {prog : Program} {w : World} {A : Around} {R : Result → Shared → Prop} {s : Shared} {elt t0 i0 t1 i1 : Expr} {ifs0 ifs1 : List Expr} {scope : Scope} {pos : Pos} {it acc : Value} {env : Env}
end
end Mir

set_option Elab.async false
set_option autoImplicit false
set_option linter.all false
set_option maxRecDepth 100000
set_option maxHeartbeats 4000000
/-! sorted({.. for .. for ..}) of texts. -/
namespace Mir
open PySem PySem.Spec PyProof.Rows L2
section
variable {K : Fg} {XR : XRel} {W : WX} {T own T1 own1 : List Nat} {mi mi1 : IM} {f f1 : GM} {t t1 : List Sl → Rs Bool} {m : EM}
end
section
variable {X : Cx} {XR : XRel} {W : WX} {T T1 : List Nat} {elt tg iter tg1 iter1 : Expr} {ifs ifs1 : List Expr} {scope : Scope} {own : List (Str × Nat)} {vs1 : List Nat} {pos pos2 p : Pos} {mi mi1 : IM} {f f1 : GM} {t t1 : List Sl → Rs Bool} {m : EM}
end
section
variable {own own1 : List Nat} {mi mi1 : IM} {f f1 : GM} {t t1 : List Sl → Rs Bool} {ma : EM} {Γ : List Sl} {E : Nat → List D → List Sl → Prop} {Qr : RV → List Sl → Prop}
end
end Mir

set_option Elab.async false
set_option autoImplicit false
set_option linter.all false
set_option maxRecDepth 100000
set_option maxHeartbeats 4000000
/-! set(xs) of nested tuples, in of such a set: calls and mirrors. -/
namespace Mir
open PySem PySem.Spec PyProof.Rows L2
section
variable {P : Program} {w : World} {A : Around} {E : Value → Shared → Prop} {s : Shared}
end
end Mir

set_option Elab.async false
set_option autoImplicit false
set_option linter.all false
set_option maxRecDepth 100000
set_option maxHeartbeats 4000000
/-! set(xs) of nested tuples, in of such a set: mirrors. -/
namespace Mir
open PySem PySem.Spec PyProof.Rows L2
/-! ### as data -/
section
variable {K : Fg} {H : Hp}
theorem NS.keys : ∀ {ds : List D} {vs : List V} {M : List (Addr × NestedKey)}, NS ds vs M → ds.map nkT = M.map (fun x => some x.2) ∧ vs = M.map fun x => V.ref x.1
  | [], [], [], _ => ⟨rfl, rfl⟩
  | d :: ds, v :: vs, x :: xs, ⟨h1, h2, h3⟩ => by
    obtain ⟨a, b⟩ := NS.keys h3
    exact ⟨by rw [List.map_cons, List.map_cons, h1, a], by rw [List.map_cons, h2, b]⟩
  | [], [], _ :: _, h => h.elim
  | [], _ :: _, _, h => h.elim
  | _ :: _, [], _, h => h.elim
  | _ :: _, _ :: _, [], h => h.elim
theorem NS.has {ds : List D} {vs : List V} {M : List (Addr × NestedKey)} (h : NS ds vs M) {d : D} {k : NestedKey} (hd : nkT d = some k) : ds.any (fun y => eqD y d) = decide (k ∈ M.map (·.2)) := by
  have e := h.keys.1
  clear h
  induction ds generalizing M with
  | nil => cases M with
    | nil => simp
    | cons => cases e
  | cons c ds ih =>
    cases M with
    | nil => cases e
    | cons x M =>
      rw [List.map_cons, List.map_cons] at e
      have e1 := (List.cons.inj e).1
      rw [List.any_cons, ih (List.cons.inj e).2, nkT_eq e1 hd, List.map_cons]
      by_cases h : x.2 = k
      · simp [h]
      · have h' : ¬ k = x.2 := fun z => h z.symm
        simp [h, h', List.mem_cons]
theorem NS.append : ∀ {ds : List D} {vs : List V} {M : List (Addr × NestedKey)} {d : D} {v : V} {x : Addr × NestedKey}, NS ds vs M → nkT d = some x.2 → v = .ref x.1 → NS (ds ++ [d]) (vs ++ [v]) (M ++ [x])
  | [], [], [], _, _, _, _, h1, h2 => ⟨h1, h2, trivial⟩
  | _ :: _, _ :: _, _ :: _, _, _, _, ⟨a, b, c⟩, h1, h2 => ⟨a, b, c.append h1 h2⟩
  | [], [], _ :: _, _, _, _, h, _, _ => h.elim
  | [], _ :: _, _, _, _, _, h, _, _ => h.elim
  | _ :: _, [], _, _, _, _, h, _, _ => h.elim
  | _ :: _, _ :: _, [], _, _, _, h, _, _ => h.elim
end
section
variable {X : Cx} {pins : List (Addr × Obj)} {σ : L2.St} {H : Hp} {s : Shared}
end
section
variable {X : Cx} {XR : XRel} {W : WX} {e : Expr} {m : EM} {p pos : Pos}
/-! ### in -/
end
end Mir

set_option Elab.async false
set_option autoImplicit false
set_option linter.all false
set_option maxRecDepth 100000
set_option maxHeartbeats 4000000
/-! Sets of texts: set(xs), {.. for ..}, sorted and len of them. -/
namespace Mir
open PySem PySem.Spec PyProof.Rows L2

/-! ### the object -/
def txtZ (e : Int × Value) : Int := match e.2 with
  | .int x _ => x
  | _ => 0
def TxtEZ (w : World) (e : Int × Value) : Prop := ∃ x t, e = (hashInt x, Value.int x t)
/-- the set at a holds just the texts ks, and it can be walked -/
def SetTxZ (w : World) (h : Heap) (a : Addr) (ks : List Int) : Prop :=
  ∃ (o : Obj) (es : Array (Int × Value)) (ep : Nat) (t : SetTable), (h.get? a = some o ∧ o.ExactSet ∧ o.data = .set es ep t) ∧ (∀ e ∈ es.toList, TxtEZ w e) ∧
    ((es.toList.map txtZ).Perm ks ∧ ks.Nodup) ∧ (es.size < scanBound ∧ t.fits es.size = true) ∧ Ris t.place.toList ∧ (w.params.followText "set-order" = true ∨ t.led = true)
section
variable {P : Program} {w : World} {h h' : Heap} {a : Addr} {ks : List Int}
theorem SetTxZ.at (R : SetTxZ w h a ks) (k : ∀ o, h.get? a = some o → h'.get? a = some o) : SetTxZ w h' a ks := by
  obtain ⟨o, es, ep, t, ⟨h1, h2⟩, r⟩ := R
  exact ⟨o, es, ep, t, ⟨k o h1, h2⟩, r⟩
theorem SetTxZ.ob (R : SetTxZ w h a ks) : ∃ o, h.get? a = some o := by
  obtain ⟨o, es, ep, t, ⟨h1, h2⟩, r⟩ := R
  exact ⟨o, h1⟩
end

/-! ### add -/
section
variable {P : Program} {w : World} {A : Around} {E : Value → Shared → Prop} {s : Shared} {a : Addr} {ks : List Int}
end
/-! ### set(xs) -/
section
variable {P : Program} {w : World} {A : Around} {I S : Addr} {fp wr : List Addr} {G : Array GenState → Array GenState → Prop} {n : Nat} {Pv : Nat → Value → Prop} {St : Nat → Shared → Prop} {R : Result → Shared → Prop}
end
section
variable {P : Program} {w : World} {A : Around} {E : Value → Shared → Prop} {s : Shared}
set_option maxHeartbeats 3200000 in
end
end Mir

set_option Elab.async false
set_option autoImplicit false
set_option linter.all false
set_option maxRecDepth 100000
set_option maxHeartbeats 4000000
/-! sorted(set(xs)), len(set(xs)), sorted({.. for ..}) of texts. -/
namespace Mir
open PySem PySem.Spec PyProof.Rows L2
open PySem.W (EachIs sortVals)
/-! ### the data -/
/-! ### as tracked objects -/
section
variable {X : Cx} {pins : List (Addr × Obj)} {σ : L2.St} {H : Hp} {s : Shared}
end
end Mir

set_option Elab.async false
set_option autoImplicit false
set_option linter.all false
set_option maxRecDepth 100000
set_option maxHeartbeats 4000000
/-! sorted(set(xs)), len(set(xs)) of texts, as mirrors. -/
namespace Mir
open PySem PySem.Spec PyProof.Rows L2
section
variable {X : Cx} {XR : XRel} {W : WX} {e : Expr} {m : EM} {p p2 pos pos2 : Pos}
end
end Mir

set_option Elab.async false
set_option autoImplicit false
set_option linter.all false
set_option maxRecDepth 100000
set_option maxHeartbeats 4000000
/-! {.. for ..} of texts, as a tracked object. -/
namespace Mir
open PySem PySem.Spec PyProof.Rows L2
end Mir

set_option Elab.async false
set_option autoImplicit false
set_option linter.all false
set_option maxRecDepth 100000
set_option maxHeartbeats 4000000
/-! sorted({.. for ..}) of texts; len(set(xs)). -/
namespace Mir
open PySem PySem.Spec PyProof.Rows L2
section
variable {K : Fg} {XR : XRel} {W : WX} {T own : List Nat} {mi : IM} {f : GM} {t : List Sl → Rs Bool} {m : EM}
end
section
variable {X : Cx} {XR : XRel} {W : WX} {T : List Nat} {elt tg iter : Expr} {ifs : List Expr} {scope : Scope} {own : List (Str × Nat)} {pos pos2 p : Pos} {mi : IM} {f : GM} {t : List Sl → Rs Bool} {m : EM}
end
/-! ### len(set(xs)) -/
section
variable {X : Cx}
variable {XR : XRel} {W : WX} {e : Expr} {m : EM} {p p2 pos pos2 : Pos}
end
end Mir

set_option Elab.async false
set_option autoImplicit false
set_option linter.all false
set_option maxRecDepth 100000
set_option maxHeartbeats 4000000
/-! while; what sorted({.. for ..}) of ints answers. -/
namespace Mir
open PySem PySem.Spec PyProof.Rows L2
section
variable {X : Cx} {XR : XRel} {W : WX} {P : List Nat} {t : List Sl → Rs Bool} {m : SM}
end
section
variable {own own1 : List Nat} {mi mi1 : IM} {f f1 : GM} {t t1 : List Sl → Rs Bool} {ma : EM} {Γ : List Sl} {E : Nat → List D → List Sl → Prop} {Qr : RV → List Sl → Prop}
end
/-! ### xs.extend(ys), ys a list -/
section
variable {X : Cx} {XR : XRel} {W : WX} {P : List Nat} {pos : Pos}
variable {x : Str} {p apos : Pos} {es : List Expr} {ms : AM} {a : Expr}
end
end Mir

set_option Elab.async false
set_option autoImplicit false
set_option linter.all false
set_option maxRecDepth 100000
set_option maxHeartbeats 4000000
/-! sorted(d), d a dict whose keys are texts. -/
namespace Mir
open PySem PySem.Spec PyProof.Rows L2
section
variable {prog : Program} {w : World} {d : Addr} {es : Array DictEntry} {ep : Nat}
end
section
variable {X : Cx} {pins : List (Addr × Obj)} {σ : L2.St} {H : Hp} {s : Shared}
end
end Mir

set_option Elab.async false
set_option autoImplicit false
set_option linter.all false
set_option maxRecDepth 100000
set_option maxHeartbeats 4000000
/-! A set of ints that is owned: set(), in, add, len. -/
namespace Mir
open PySem PySem.Spec PyProof.Rows L2
section
variable {X : Cx} {pins : List (Addr × Obj)} {σ : L2.St} {H : Hp} {s : Shared}
end
section
variable {X : Cx} {XR : XRel} {W : WX} {x : Str} {p pos apos : Pos} {ms : AM}
end
/-! ### add -/
section
variable {X : Cx}
variable {o e : Expr} {es : List Expr} {to : TE} {t : TA} {apos cpos : Pos}
end
section
variable {X : Cx} {XR : XRel} {W : WX} {x : Str} {p pos apos : Pos} {ms : AM}
end
/-! ### their wp rules -/
/-! ### name = [.. for .. for ..] on one line -/
section
variable {X : Cx} {XR : XRel} {W : WX} {P T T1 vs1 : List Nat} {elt tg iter tg1 iter1 : Expr} {ifs ifs1 : List Expr} {scope : Scope} {own : List (Str × Nat)} {pos spos : Pos} {mi mi1 : IM} {f f1 : GM} {t t1 : List Sl → Rs Bool} {m : EM}
end
end Mir

set_option Elab.async false
set_option autoImplicit false
set_option linter.all false
set_option maxRecDepth 100000
set_option maxHeartbeats 4000000
/-! xs.extend(ys), ys a tuple. -/
namespace Mir
open PySem PySem.Spec PyProof.Rows L2
section
variable {X : Cx}
end
section
variable {X : Cx} {XR : XRel} {W : WX} {P : List Nat} {pos : Pos}
variable {x : Str} {p apos : Pos} {es : List Expr} {ms : AM} {a : Expr}
end
end Mir

set_option Elab.async false
set_option autoImplicit false
set_option linter.all false
set_option maxRecDepth 100000
set_option maxHeartbeats 4000000
/-! list(range(n)). -/
namespace Mir
open PySem PySem.Spec PyProof.Rows L2
section
variable {X : Cx} {XR : XRel} {W : WX} {a : Expr} {m : EM} {p p2 pos pos2 : Pos}
end
end Mir

set_option Elab.async false
set_option autoImplicit false
set_option linter.all false
set_option maxRecDepth 100000
set_option maxHeartbeats 4000000
/-! x is not True, x a bool. -/
namespace Mir
open PySem PySem.Spec PyProof.Rows L2
section
variable {X : Cx}
end
end Mir

set_option Elab.async false
set_option autoImplicit false
set_option linter.all false
set_option maxRecDepth 100000
set_option maxHeartbeats 4000000
/-! xs[::-1], and sep.join(xs) where sep is reckoned. -/
namespace Mir
open PySem PySem.Spec PyProof.Rows L2
section
variable {X : Cx} {XR : XRel} {W : WX} {a o e : Expr} {ma mo mb : EM} {pos apos p1 p2 p3 : Pos} {k : Nat}
end
section
variable {Qr : RV → List Sl → Prop} {E : Nat → List D → List Sl → Prop} {ma mb : EM} {Γ : List Sl}
end
end Mir

set_option Elab.async false
set_option autoImplicit false
set_option linter.all false
set_option maxRecDepth 100000
set_option maxHeartbeats 4000000
/-! {.. : .. for ..}, the dict as a tracked object. -/
namespace Mir
open PySem PySem.Spec PyProof.Rows L2
section
variable {X : Cx} {pins : List (Addr × Obj)} {σ : L2.St} {H Hd : Hp} {s : Shared} {a : Addr} {ds : List D} {vs : List V}
variable {q d x : D} {y v z : V} {u r : Value} {A : Around} {E : Value → Shared → Prop}
end
end Mir

set_option Elab.async false
set_option autoImplicit false
set_option linter.all false
set_option maxRecDepth 100000
set_option maxHeartbeats 4000000
/-! {.. : .. for ..}: the mirror. -/
namespace Mir
open PySem PySem.Spec PyProof.Rows L2
section
variable {K : Fg} {XR : XRel} {W : WX} {T own : List Nat} {mi : IM} {f : GM} {t : List Sl → Rs Bool} {m mv : EM}
variable {X : Cx} {kx vx tg iter : Expr} {ifs : List Expr} {scope : Scope} {own : List (Str × Nat)} {pos : Pos}
end
end Mir

set_option Elab.async false
set_option autoImplicit false
set_option linter.all false
set_option maxRecDepth 100000
set_option maxHeartbeats 4000000
/-! list(d) of a dict; the wp rule of a dict comprehension. -/
namespace Mir
open PySem PySem.Spec PyProof.Rows L2
section
variable {X : Cx} {pins : List (Addr × Obj)} {σ : L2.St} {H Hd : Hp} {s : Shared} {a : Addr} {ds : List D} {vs : List V}
end
section
variable {Γ : List Sl} {t : List Sl → Rs Bool} {ma mv : EM} {E : D → List D → List Sl → Prop} {Qr : RV → List Sl → Prop}
end
end Mir

set_option Elab.async false
set_option autoImplicit false
set_option linter.all false
set_option maxRecDepth 100000
set_option maxHeartbeats 4000000
/-! for k, x in d.items(): the iterator. -/
namespace Mir
open PySem PySem.Spec PyProof.Rows L2
section
variable {P : Program} {w : World} {K : PySem.W.Frag}
end
/-! ### walked -/
end Mir

set_option Elab.async false
set_option autoImplicit false
set_option linter.all false
set_option maxRecDepth 100000
set_option maxHeartbeats 4000000
/-! [.. for k, x in d.items() ..]: the mirror. -/
namespace Mir
open PySem PySem.Spec PyProof.Rows L2
section
variable {K : Fg} {XR : XRel} {W : WX} {T own : List Nat} {mi : IM} {f : GM} {t : List Sl → Rs Bool} {m : EM}
end
/-! ### a dict taken out of the slots while it is walked -/
section
variable {K : Fg} {H1 H2 H : Hp} {a : Addr} {o : Obj} {es : List D} {us : List V}
end
section
variable {K : Fg} {O O' O'' : List Addr} {Γ Γ' : List Sl} {σ : L2.St} {H H' H0 : Hp} {i : Nat} {a : Addr} {o : Obj} {ds : List D} {us : List V}
end
section
variable {X : Cx} {XR : XRel} {W : WX} {T : List Nat} {elt : Expr} {ifs : List Expr} {scope : Scope} {own : List (Str × Nat)} {pos apos cpos tpos : Pos} {elts : List Expr} {kk : Nat} {f : GM} {t : List Sl → Rs Bool} {m : EM}
end
section
variable {Γ : List Sl} {t : List Sl → Rs Bool} {ma : EM} {Qr : RV → List Sl → Prop} {E : Nat → List D → List Sl → Prop}
end
end Mir

set_option Elab.async false
set_option autoImplicit false
set_option linter.all false
set_option maxRecDepth 100000
set_option maxHeartbeats 4000000
/-! Division of ints of any size: it may go by the interpreter's own other way, which wants that nobody listens; the heap under the law says so, and the promise of a def may say it of its base. -/
namespace Mir
open PySem PySem.Spec PyProof.Rows L2
def fDivB : D → D → FR
  | .int i, .int j => if 0 < j then .va (.int (i / j)) else .no
  | _, _ => .no
/-- where a def's body runs, nobody listens -/
theorem seer_here {X : Cx} {pins : List (Addr × Obj)} {σ : L2.St} {H : Hp} {s : Shared} (I : Inv X pins σ H s) (hN : X.base.NoSeer) (ht : X.prog.given.tree = none) (hs : X.stack = X.env :: X.outer) (hg : X.env.scope.isGenerator = false) (hc : X.env.scope.isCoroutine = false) : SeerAt (model X.prog X.w) X.A s.heap :=
  SeerAt.of (hN.keeps I.bk) ht (I.ok.frames.trans (congrArg some hs)) hg hc I.ok.blt I.ok.glob
theorem od_divB {X : Cx} {k : Nat} (hr : Room k X.A) (hN : X.base.NoSeer) (ht : X.prog.given.tree = none) (hk : 33 ≤ k := by decide) (hs : X.stack = X.env :: X.outer := by rfl) (hg : X.env.scope.isGenerator = false := by rfl) (hc : X.env.scope.isCoroutine = false := by rfl) : OpR X (binaryOp .FloorDiv) (rOf X.KW fDivB) :=
  od_mk fun pins s σ H x y v u Q Hd d e I rx ry s1 a b q => by
    cases d with
    | int i =>
      cases e with
      | int j =>
        simp only [fDivB] at q
        split at q
        · rename_i hj
          have hx := a.int
          have hy := b.int
          subst hx hy
          obtain ⟨t, rfl⟩ := (rx : ∃ t, v = Value.int i t)
          obtain ⟨t2, rfl⟩ := (ry : ∃ t, u = Value.int j t)
          have room : PylongRoom (model X.prog X.w) X.A s := PylongRoom.of I.nolimit (by
            have h1 := hr.dp
            have h2 : Builtin.pylongFrames = 100 := rfl
            omega) (seer_here I hN ht hs hg hc)
          refine floordiv_int (by omega) ?_ (.inr room)
          rw [Int.fdiv_eq_ediv_of_nonneg i (by omega)]
          exact ⟨.int (i / j), H, I.tok _, ⟨_, rfl⟩, q.int s1⟩
        · exact q.elim
      | _ => exact q.elim
    | _ => cases e <;> exact q.elim
/-- the heap without the script still has nobody who listens -/
theorem seer_hid {h : Heap} {H : Hp} {a : Addr} {o : Obj} (N : h.NoSeer) (ha : h.get? a = some o) (hd : ∀ es ep, o.data ≠ .dict es ep) (hm : o.cls ≠ .type "module") (hA : ∀ b, H b ≠ none → b = a) : (hidT h H).NoSeer := by
  have free : ∀ {b : Addr} {u : Obj}, h.get? b = some u → u ≠ o → H b = none := fun {b u} e ne => Classical.byContradiction fun z => by
    rw [hA b z, ha] at e
    exact ne (Option.some.inj e).symm
  have ns : ∀ {b : Addr} {m : Str → Option Value}, h.Ns b m → (hidT h H).Ns b m := fun {b m} n => by
    obtain ⟨u, es, ep, e, d, r⟩ := n
    exact ⟨u, es, ep, hidT_get e (free e fun z => hd es ep (z ▸ d)), d, r⟩
  obtain ⟨mc, a1, a2⟩ := N.statics
  obtain ⟨mm, b1, b2⟩ := N.mods
  obtain ⟨mb, c1, c2⟩ := N.imp
  obtain ⟨mg, bm, ob, d1, d2, d3, d4, d5⟩ := N.main
  exact ⟨⟨mc, ns a1, a2⟩, ⟨mm, ns b1, b2⟩, ⟨mb, ns c1, c2⟩, mg, bm, ob, ns d1, d2, hidT_get d3 (free d3 fun z => hm (z ▸ d4)), d4, d5⟩
section
variable {P : Program} {w : World} {K : PySem.W.Frag} {mg mb : Str → Option Value} {k : Nat} {fa a : Addr} {fd : FuncData} {x : Str} {sp : Sp} {S0 : Shared} {us : List Value} {zs : List Int}
/-- what the law's call leaves -/
def Left (S0 : Shared) (r : Result) (s' : Shared) : Prop :=
  r = .ok (.ret (.bool true)) ∧ OldK S0.heap s'.heap ∧
    s'.os = S0.os ∧ AllBare s'.gens
/-- the law's call from a heap of which at most the script is told; its base has nobody who listens -/
theorem callS1 (N : S0.heap.NoSeer) (KX : K.In S0.heap) (Tg : S0.heap.Ns mainGlobals mg) (Tb : S0.heap.Ns builtinsNs mb) (Tbb : ∀ y : Str, y ≠ "__name__" → mb y = bootBuiltins y) (Tl : S0.heap.NoLimit) (Tn : S0.gens = #[])
    (ha : S0.heap.get? a = some { cls := .type "list", data := .seq us.toArray }) (hr : Room k callerA)
    (F : ∀ B : Heap, K.In B → B.Ns mainGlobals mg → B.NoSeer → FnOk P w K mg B (L2.CX P w) k fa fd [x] sp) (hb : ∀ (s : Shared) (u : Value), BindsTo s fd ⟨[u], []⟩ [(x, u)])
    {H : Hp} (hO : Only H) (hsp : sp [.ref a] H (fun v _ => v = .bl true) fun _ _ _ => False) (hok : HOk P w H S0.heap) (hA : ∀ b, H b ≠ none → b = a) (hK : H a ≠ none → K.lookup a = none) :
    codeAny (model P w) callerA (.call (.ref fa) ⟨[.ref a], []⟩) (Left S0) S0 := by
  have out : ∀ {b : Addr} {u : Obj}, S0.heap.get? b = some u → b ≠ a → (hidT S0.heap H).get? b = some u := fun {b u} e ne =>
    hidT_get e (Classical.byContradiction fun z => ne (hA b z))
  have ns : ∀ {b : Addr} {m : Str → Option Value}, S0.heap.Ns b m → (hidT S0.heap H).Ns b m := fun {b m} n => by
    obtain ⟨u, es, ep, e, d, r⟩ := n
    refine ⟨u, es, ep, out e fun z => ?_, d, r⟩
    rw [z, ha] at e
    cases Option.some.inj e
    cases d
  have kin : K.In (hidT S0.heap H) := fun b u e => by
    by_cases hba : b = a
    · subst hba
      refine hidT_get (KX b u e) (Classical.byContradiction fun z => ?_)
      have n := hK z
      rw [e] at n
      cases n
    · exact out (KX b u e) hba
  have M : Mod K mg (hidT S0.heap H) := by
    refine ⟨kin, ns Tg, ⟨mb, ns Tb, Tbb⟩, ?_⟩
    obtain ⟨mc, l1, l2⟩ := Tl
    exact ⟨mc, ns l1, l2⟩
  have seer := seer_hid N ha (fun es ep z => by cases z) (fun z => absurd (show Value.type "list" = Value.type "module" from z) (by decide)) hA
  have E0 : Env0 P w K mg (hidT S0.heap H) callerA [] S0 H := by
    refine ⟨rfl, M, fun b o e => of_hidT e, ?_, trivial, ?_, hok, .of_eq Tn⟩
    · rw [hidT_size]; exact Nat.le_refl _
    · intro b hb; cases hb
  have R := (F _ kin (ns Tg) seer).run callerA [] S0 H ⟨[.ref a], []⟩ [.ref a] [.ref a] _ _ hr E0 (hb S0 _) (.cons rfl .nil) hsp
  refine codeAny_mono R fun r s' h => ?_
  cases r with
  | error e => exact (law_cx h).elim
  | ok fl =>
    cases fl with
    | ret u =>
      obtain ⟨v, H2, os, bare, un, ok2, rv, q⟩ := h
      cases (show v = V.bl true from q)
      cases (show u = Value.bool true from rv)
      refine ⟨rfl, OldK.of_keep (fun b o e => ?_), os, bare⟩
      rcases hO b with z | ⟨o2, ys, z⟩
      · exact un.keep b o e z (by intro m; cases (show b ∈ ([] : List Addr) from m)) (by simp)
      · obtain ⟨e1, _⟩ := hok b _ z
        obtain ⟨e2, _⟩ := ok2 b _ (un.frzs b o2 _ z)
        rw [e] at e1
        cases e1
        exact e2
    | _ => exact False.elim h
end
theorem walk_seer {l : PySem.W.OpenLaw} {n k : Nat} {q : Program} {loose : List Str} {XP : (Str → Option Value) → Heap → Prop} {YP : World → Heap → Prop} {d : DefRec} {K : Params → PySem.W.Frag} {m : DM} {x : Str}
    (hq : importsNone q = true) (hn : l.most = some n) (hn2 : n ≤ sizeLine) (hdf : d.params.defaults = []) (hr : Room k callerA) (hY : ∀ (w : World) (h : Heap), YP w h → (K w.params).In h)
    (F : ∀ (w : World) (mg : Str → Option Value) (fa : Addr) (h : Heap), (K w.params).In h → h.Ns mainGlobals mg → mg d.name = some (.ref fa) → ∃ fd : FuncData, (∀ (s : Shared) (u : Value), BindsTo s fd ⟨[u], []⟩ [(x, u)]) ∧
      ∀ B : Heap, (K w.params).In B → B.Ns mainGlobals mg → B.NoSeer → FnOk l.prog w (K w.params) mg B (L2.CX l.prog w) k fa fd [x] (spT ⟨K w.params, w⟩ m 1))
    (pure : ∀ ns : List Int, ns.length ≤ n → (∀ z ∈ ns, Builtin.Int.intBits z ≤ 1048576) → ∃ Γ, m [.sc ns] = .ok (.va (.bl true)) Γ) :
    PySem.W.WalkO q loose XP YP l.row.toRowW d [] fun f vs => PySem.call f vs := by
  refine Att.attach_callB hn hdf fun w _ S0 mg mb fa o pm cd doc a vs ns G Y _ _ _ hmg hobj hints hlen hbits hg => ?_
  have KX := hY w _ Y
  obtain ⟨fd, bnd, FB⟩ := F w mg fa _ KX G.T.g hmg
  have go := fun {H : Hp} (hO : Only H) (hS : SqL (K w.params) H a (ns.map V.int)) => callS1 (H := H) (G.T.seer hq) KX G.T.g G.T.b G.T.builtins G.T.nolimit hg hobj hr FB bnd hO (law_sp (pure ns hlen hbits) hS)
  have rv := vals_ints hints
  have lv : vs.length = ns.length := hints.length
  have hz : ns.length ≤ sizeLine := Nat.le_trans hlen hn2
  cases hk : (K w.params).lookup a with
  | some u =>
    have e := KX a u hk
    rw [hobj] at e
    cases e
    refine go (H := fun _ => none) (fun _ => .inl rfl) (.inr ⟨_, vs.toArray, _, hk, rfl, rfl, rfl, ?_, ?_⟩) (fun b o z => ?_) (fun b z => absurd rfl z) fun z => absurd rfl z
    · rw [List.size_toArray, lv]; exact hz
    · simpa using rv
    · cases (show (none : Option HO) = some o from z)
  | none =>
    have h1 : ∀ b, b ≠ a → (fun b => if b = a then some (HO.frz { cls := .type "list", data := .seq vs.toArray } (.lst (ns.map V.int))) else none : Hp) b = none := fun b ne => if_neg ne
    have h2 : (fun b => if b = a then some (HO.frz { cls := .type "list", data := .seq vs.toArray } (.lst (ns.map V.int))) else none : Hp) a = some (.frz { cls := .type "list", data := .seq vs.toArray } (.lst (ns.map V.int))) := if_pos rfl
    generalize (fun b => if b = a then some (HO.frz { cls := .type "list", data := .seq vs.toArray } (.lst (ns.map V.int))) else none : Hp) = H at h1 h2
    have h3 : ∀ b, H b ≠ none → b = a := fun b z => Classical.byContradiction fun ne => z (h1 b ne)
    refine go (H := H) (fun b => ?_) (.inl (.inr ⟨_, h2⟩)) (fun b o z => ?_) h3 fun _ => hk
    · by_cases hba : b = a
      · rw [hba]; exact .inr ⟨_, _, h2⟩
      · exact .inl (h1 b hba)
    · have hba := h3 b (by rw [z]; simp)
      subst hba
      rw [h2] at z
      cases z
      exact ⟨hobj, by rw [List.length_map]; exact hz, vs, _, rv, hobj⟩
end Mir

set_option Elab.async false
set_option autoImplicit false
set_option linter.all false
set_option maxRecDepth 100000
set_option maxHeartbeats 4000000
namespace Law
open PySem PySem.Spec PyProof.Rows L2 Mir
def topS (i : Nat) : Stmt := PySem.Challenge.pw_rightchance_k01_made_shares.main.body.getD i (.Pass ⟨0, 0, 0, 0⟩)
theorem sc_make_share : FnScope ["n", "d", "common"] ["n", "d"] (defScope (topS 14)) := ⟨rfl, rfl, rfl, by decide +kernel, rfl, by decide +kernel, by decide +kernel⟩
def b_make_share : SM := (sSeq (sIf (mTE (mBin fEq (mVar 1) (mC (.int 0))))
  (sRaise 0)
  sNil)
  (sSeq (sIf (mTE (mBin fLt (mVar 1) (mC (.int 0))))
  (sPar 0 1 (mCons (mNeg (mVar 0)) (mCons (mNeg (mVar 1)) mNil)))
  sNil)
  (sSeq (sIf (mTE (mBin fLt (mVar 0) (mC (.int 0))))
  (sRaise 0)
  sNil)
  (sSeq (sSet 2 (mFn fGcd (mCons (mVar 0) (mCons (mVar 1) mNil))))
  (sRet (mTup (mCons (mBin fDivB (mVar 0) (mVar 2)) (mCons (mBin fDivB (mVar 1) (mVar 2)) mNil))))))))
def m_make_share : DM := mDef 3 2 [] b_make_share
theorem sc__law_draws : FnScope ["script", "many", "cells", "rest", "draws", "k", "at", "mixed", "cell"] ["script", "many"] (defScope (topS 16)) := ⟨rfl, rfl, rfl, by decide +kernel, rfl, by decide +kernel, by decide +kernel⟩
def b__law_draws : SM := (sSeq (sSet 2 (mLc [8] (mSeq (mVar 0)) (gN 8) tYesM (mFn fInt (mCons (mVar 8) mNil))))
  (sSeq (sIf (mTE (mBin fEq (mFn fLen (mCons (mVar 2) mNil)) (mC (.int 0))))
  (sDrop (mMut 2 fAppend (mCons (mC (.int 0)) mNil)))
  sNil)
  (sSeq (sSet 3 (mFn fList (mCons (mVar 2) mNil)))
  (sSeq (sSet 4 (mLst mNil))
  (sSeq (sFor (mRng1 (mVar 1)) (gN 5)
  (sSeq (sSet 6 (mBin fMod (mVar 5) (mFn fLen (mCons (mVar 2) mNil))))
  (sIf (mTE (mBin fGe (mBin fIx (mVar 2) (mVar 6)) (mBin fPow (mC (.int 10)) (mC (.int 18)))))
  (sSeq (sDrop (mMut 4 fAppend (mCons (mBin fMod (mFn fInt (mCons (mBin fIx (mVar 3) (mVar 6)) mNil)) (mC (.int 1000))) mNil)))
  (sStore 3 (mBin fDiv (mBin fIx (mVar 3) (mVar 6)) (mC (.int 1000))) (mVar 6)))
  (sSeq (sSet 7 (mBin fMod (mFn fInt (mCons (mBinT fAdd (mBinT fAdd (mBin fMul (mBin fIx (mVar 2) (mVar 6)) (mC (.int 48271))) (mBin fMul (mVar 5) (mC (.int 69621)))) (mC (.int 11))) mNil)) (mC (.int 2147483647))))
  (sDrop (mMut 4 fAppend (mCons (mBin fMod (mFn fInt (mCons (mBinT fAdd (mBinT fAdd (mBin fMul (mVar 7) (mVar 7)) (mBin fMul (mC (.int 3)) (mVar 7))) (mVar 5)) mNil)) (mC (.int 1000003))) mNil)))))))
  (sSeq (sDrop (mMut 4 fReverse mNil))
  (sRet (mVar 4))))))))
def m__law_draws : DM := mDef 9 2 [0, 1] b__law_draws
theorem sc__law_take : FnScope ["draws", "many"] ["draws", "many"] (defScope (topS 17)) := ⟨rfl, rfl, rfl, by decide +kernel, rfl, by decide +kernel, by decide +kernel⟩
def b__law_take : SM := (sSeq (sIf (mTE (mBin fEq (mFn fLen (mCons (mVar 0) mNil)) (mC (.int 0))))
  (sRet (mC (.int 0)))
  sNil)
  (sRet (mBin fMod (mFn fInt (mCons (mPop 0) mNil)) (mVar 1))))
def m__law_take : DM := mDef 2 2 [0, 1] b__law_take
theorem sc__law_size : FnScope ["draws", "script", "kind", "number", "k"] ["draws", "script"] (defScope (topS 18)) := ⟨rfl, rfl, rfl, by decide +kernel, rfl, by decide +kernel, by decide +kernel⟩
def b__law_size : SM := (sSeq (sSet 2 (mCall m__law_take (mCons (mVar 0) (mCons (mC (.int 8)) mNil))))
  (sSeq (sIf (mTE (mBin fLt (mVar 2) (mC (.int 5))))
  (sRet (mCall m__law_take (mCons (mVar 0) (mCons (mC (.int 12)) mNil))))
  sNil)
  (sSeq (sIf (mTE (mBin fEq (mVar 2) (mC (.int 5))))
  (sRet (mCall m__law_take (mCons (mVar 0) (mCons (mC (.int 100)) mNil))))
  sNil)
  (sSeq (sIf (tOrM (mTE (mBin fEq (mVar 2) (mC (.int 6)))) (mTE (mBin fEq (mFn fLen (mCons (mVar 1) mNil)) (mC (.int 0)))))
  (sSeq (sSet 3 (mC (.int 0)))
  (sSeq (sFor (mRng1 (mC (.int 5))) (gN 4)
  (sSet 3 (mBinT fAdd (mBin fMul (mVar 3) (mC (.int 1000))) (mCall m__law_take (mCons (mVar 0) (mCons (mC (.int 1000)) mNil))))))
  (sRet (mVar 3))))
  sNil)
  (sRet (mFn fAbs (mCons (mFn fInt (mCons (mBin fIx (mVar 1) (mCall m__law_take (mCons (mVar 0) (mCons (mFn fLen (mCons (mVar 1) mNil)) mNil)))) mNil)) mNil)))))))
def m__law_size : DM := mDef 5 2 [0, 1] b__law_size
theorem sc__law_same : FnScope ["actual", "due", "k"] ["actual", "due"] (defScope (topS 19)) := ⟨rfl, rfl, rfl, by decide +kernel, rfl, by decide +kernel, by decide +kernel⟩
def b__law_same (r : DM) : SM := (sSeq (sIf (mTE (mIsi2 "tuple" "list" (mVar 1)))
  (sSeq (sIf (tOrM (mTE (mBin fNe (mIsi "tuple" (mVar 0)) (mIsi "tuple" (mVar 1)))) (mTE (mBin fNe (mIsi "list" (mVar 0)) (mIsi "list" (mVar 1)))))
  (sRet (mC (.bl false)))
  sNil)
  (sSeq (sIf (mTE (mBin fNe (mFn fLen (mCons (mVar 0) mNil)) (mFn fLen (mCons (mVar 1) mNil))))
  (sRet (mC (.bl false)))
  sNil)
  (sRet (mBin fNotIn (mC (.bl false)) (mLc [2] (mRng1 (mFn fLen (mCons (mVar 1) mNil))) (gN 2) tYesM (mCall r (mCons (mBin fIx (mVar 0) (mVar 2)) (mCons (mBin fIx (mVar 1) (mVar 2)) mNil))))))))
  sNil)
  (sSeq (sIf (tOrM (mTE (mBin fNe (mIsi "bool" (mVar 0)) (mIsi "bool" (mVar 1)))) (mTE (mBin fNe (mIsi "int" (mVar 0)) (mIsi "int" (mVar 1)))))
  (sRet (mC (.bl false)))
  sNil)
  (sSeq (sIf (tOrM (mTE (mBin fNe (mIsi "str" (mVar 0)) (mIsi "str" (mVar 1)))) (mTE (mBin fNe (mBin fIs (mVar 0) (mC .non)) (mBin fIs (mVar 1) (mC .non)))))
  (sRet (mC (.bl false)))
  sNil)
  (sRet (mBin fEq (mVar 0) (mVar 1))))))
def m__law_same : Nat → DM
  | 0 => fun _ => .no
  | n + 1 => mDef 3 2 [0, 1] (b__law_same (m__law_same n))
theorem sc__law_share : FnScope ["n", "d", "a", "b", "k", "rest"] ["n", "d"] (defScope (topS 20)) := ⟨rfl, rfl, rfl, by decide +kernel, rfl, by decide +kernel, by decide +kernel⟩
def b__law_share : SM := (sSeq (sSet 2 (mVar 0))
  (sSeq (sSet 3 (mVar 1))
  (sSeq (sFor (mRng1 (mBinT fAdd (mBin fMul (mC (.int 2)) (mBits (mVar 1))) (mC (.int 4)))) (gN 4)
  (sSeq (sIf (mTE (mBin fEq (mVar 3) (mC (.int 0))))
  sBreak
  sNil)
  (sSeq (sSet 5 (mBin fMod (mFn fInt (mCons (mVar 2) mNil)) (mVar 3)))
  (sSeq (sSet 2 (mVar 3))
  (sSet 3 (mVar 5))))))
  (sRet (mTup (mCons (mBin fDiv (mVar 0) (mVar 2)) (mCons (mBin fDiv (mVar 1) (mVar 2)) mNil)))))))
def m__law_share : DM := mDef 6 2 [0, 1] b__law_share
theorem sc__law_short : FnScope ["script", "cell"] ["script"] (defScope (topS 21)) := ⟨rfl, rfl, rfl, by decide +kernel, rfl, by decide +kernel, by decide +kernel⟩
def b__law_short : SM := (sRet (mLc [1] (mSeq (mVar 0)) (gN 1) tYesM (mBin fMod (mFn fInt (mCons (mVar 1) mNil)) (mBin fPow (mC (.int 10)) (mC (.int 59))))))
def m__law_short : DM := mDef 2 1 [0] b__law_short
theorem sc__law_great_share : FnScope ["draws", "script", "n"] ["draws", "script"] (defScope (topS 22)) := ⟨rfl, rfl, rfl, by decide +kernel, rfl, by decide +kernel, by decide +kernel⟩
def b__law_great_share : SM := (sSeq (sSet 2 (mCall m__law_size (mCons (mVar 0) (mCons (mVar 1) mNil))))
  (sRet (mTup (mCons (mVar 2) (mCons (mBinT fAdd (mBin fMul (mVar 2) (mCall m__law_take (mCons (mVar 0) (mCons (mC (.int 9)) mNil)))) (mC (.int 1))) mNil)))))
def m__law_great_share : DM := mDef 3 2 [0, 1] b__law_great_share
theorem sc__law_told : FnScope ["n", "d", "e"] ["n", "d"] (defScope (topS 23)) := ⟨rfl, rfl, rfl, by decide +kernel, rfl, by decide +kernel, by decide +kernel⟩
def b__law_told : SM := (sSeq (sTry (sRet (mCall m_make_share (mCons (mVar 0) (mCons (mVar 1) mNil)))) 2 (fun c => match c with | 0 => some (.tup [(.str [114, 101, 102, 117, 115, 101, 100]), (.int 0)]) | _ => none))
  (sRet (mTup (mCons (mC (.str [114, 101, 102, 117, 115, 101, 100])) (mCons (mC (.int 1)) mNil)))))
def m__law_told : DM := mDef 3 2 [0, 1] b__law_told
theorem sc_law : FnScope ["script", "draws", "short", "factor", "n", "d", "due", "great"] ["script"] (defScope (topS 24)) := ⟨rfl, rfl, rfl, by decide +kernel, rfl, by decide +kernel, by decide +kernel⟩
def b_law : SM := (sSeq (sSet 1 (mCall m__law_draws (mCons (mVar 0) (mCons (mC (.int 100)) mNil))))
  (sSeq (sSet 2 (mCall m__law_short (mCons (mVar 0) mNil)))
  (sSeq (sSet 3 (mBin fIx (mLst (mCons (mC (.int 1)) (mCons (mC (.int 2)) (mCons (mC (.int 6)) (mCons (mBinT fAdd (mC (.int 1)) (mCall m__law_size (mCons (mVar 1) (mCons (mVar 2) mNil)))) mNil))))) (mCall m__law_take (mCons (mVar 1) (mCons (mC (.int 4)) mNil)))))
  (sSeq (sSet 4 (mBin fMul (mBin fMul (mVar 3) (mCall m__law_size (mCons (mVar 1) (mCons (mVar 2) mNil)))) (mBin fSub (mC (.int 1)) (mBin fMul (mC (.int 2)) (mCall m__law_take (mCons (mVar 1) (mCons (mC (.int 2)) mNil)))))))
  (sSeq (sSet 5 (mBin fMul (mBin fMul (mVar 3) (mCall m__law_size (mCons (mVar 1) (mCons (mVar 2) mNil)))) (mBin fSub (mC (.int 1)) (mBin fMul (mC (.int 2)) (mCall m__law_take (mCons (mVar 1) (mCons (mC (.int 2)) mNil)))))))
  (sSeq (sSet 6 (mTup (mCons (mC (.str [114, 101, 102, 117, 115, 101, 100])) (mCons (mC (.int 0)) mNil))))
  (sSeq (sIf (tAndM (mTE (mBin fEq (mVar 4) (mC (.int 0)))) (mTE (mBin fNe (mVar 5) (mC (.int 0)))))
  (sSet 6 (mTup (mCons (mC (.int 0)) (mCons (mC (.int 1)) mNil))))
  (sIf (tAndM (mTE (mBin fNe (mVar 5) (mC (.int 0)))) (mTE (mBin fEq (mBin fLt (mVar 4) (mC (.int 0))) (mBin fLt (mVar 5) (mC (.int 0))))))
  (sSet 6 (mCall m__law_share (mCons (mFn fAbs (mCons (mVar 4) mNil)) (mCons (mFn fAbs (mCons (mVar 5) mNil)) mNil))))
  sNil))
  (sSeq (sIf (tNotM (mTE (mCall (m__law_same 12) (mCons (mCall m__law_told (mCons (mVar 4) (mCons (mVar 5) mNil))) (mCons (mVar 6) mNil)))))
  (sRet (mC (.bl false)))
  sNil)
  (sSeq (sSet 7 (mCall m__law_great_share (mCons (mVar 1) (mCons (mVar 0) mNil))))
  (sSeq (sSet 3 (mBin fMul (mBinT fAdd (mC (.int 1)) (mCall m__law_size (mCons (mVar 1) (mCons (mVar 0) mNil)))) (mBin fSub (mC (.int 1)) (mBin fMul (mC (.int 2)) (mCall m__law_take (mCons (mVar 1) (mCons (mC (.int 2)) mNil)))))))
  (sSeq (sIf (tNotM (mTE (mCall (m__law_same 12) (mCons (mCall m__law_told (mCons (mBin fMul (mBin fIx (mVar 7) (mC (.int 0))) (mVar 3)) (mCons (mBin fMul (mBin fIx (mVar 7) (mC (.int 1))) (mVar 3)) mNil))) (mCons (mVar 7) mNil)))))
  (sRet (mC (.bl false)))
  sNil)
  (sSeq (sSet 6 (mTup (mCons (mC (.str [114, 101, 102, 117, 115, 101, 100])) (mCons (mC (.int 0)) mNil))))
  (sSeq (sIf (mTE (mBin fEq (mBin fIx (mVar 7) (mC (.int 0))) (mC (.int 0))))
  (sSet 6 (mTup (mCons (mC (.int 0)) (mCons (mC (.int 1)) mNil))))
  sNil)
  (sSeq (sIf (tNotM (mTE (mCall (m__law_same 12) (mCons (mCall m__law_told (mCons (mBin fMul (mBin fIx (mVar 7) (mC (.int 0))) (mVar 3)) (mCons (mBin fSub (mC (.int 0)) (mBin fMul (mBin fIx (mVar 7) (mC (.int 1))) (mVar 3))) mNil))) (mCons (mVar 6) mNil)))))
  (sRet (mC (.bl false)))
  sNil)
  (sRet (mCall (m__law_same 12) (mCons (mCall m__law_told (mCons (mVar 3) (mCons (mC (.int 0)) mNil))) (mCons (mTup (mCons (mC (.str [114, 101, 102, 117, 115, 101, 100])) (mCons (mC (.int 0)) mNil))) mNil))))))))))))))))))
def m_law : DM := mDef 8 1 [0] b_law
section
variable {Pr : Program} {w : World} {K : PySem.W.Frag} {mg : Str → Option Value} {base : Heap} {xt : Nat → Option Addr}
theorem ok_make_share {C_NoShare : Addr} {f : Addr} {fd : FuncData} (F : Fun K "make_share" "make_share" (topS 14) f fd) (i_gcd : mg "gcd" = some (.builtin "math.gcd")) (x_NoShare : ExcT K mg xt "NoShare" 0 C_NoShare) (hN : base.NoSeer) (hT : Pr.given.tree = none) : FnOk Pr w K mg base (L2.CX Pr w) 34 f fd ["n", "d"] (spM ⟨K, w⟩ (XRt xt) m_make_share 2) :=
  fun_mir (k := 33) (P := []) F sc_make_share (by decide) fun cdv A outer s H E hr => by
    have tk := takes_of (X := cxOf (L2.CX Pr w) Pr w K mg base ["n", "d", "common"] "make_share" (defScope (topS 14)) f cdv A outer s H E) (E := E) rfl rfl rfl rfl
    exact (mss_cons (ms_if (mt_cmp (od_eq hr) (me_var (pv 1)) me_int (nomark _))
  (mss_one (ms_raiseT x_NoShare rfl tk (by rfl)))
  mss_nil)
  (mss_cons (ms_if (mt_cmp od_lt (me_var (pv 1)) me_int (nomark _))
  (mss_one (ms_par (i := 0) (j := 1) rfl sc_make_share.nd rfl rfl (by decide) rfl rfl (ma_cons (me_neg (me_var (pv 0))) (ma_cons (me_neg (me_var (pv 1))) ma_nil))))
  mss_nil)
  (mss_cons (ms_if (mt_cmp od_lt (me_var (pv 0)) me_int (nomark _))
  (mss_one (ms_raiseT x_NoShare rfl tk (by rfl)))
  mss_nil)
  (mss_cons (ms_set (i := 2) sc_make_share.nd rfl (by first | exact .inl rfl | exact .inr rfl) (me_callBf cd_gcd (by rfl) i_gcd (ma_cons (me_var (pv 0)) (ma_cons (me_var (pv 1)) ma_nil))))
  (mss_one (ms_ret (me_tup (ma_cons (me_bin (od_divB hr hN hT) (me_var (pv 0)) (me_var (pv 2))) (ma_cons (me_bin (od_divB hr hN hT) (me_var (pv 1)) (me_var (pv 2))) ma_nil)))))))))
theorem ok__law_draws  {f : Addr} {fd : FuncData} (F : Fun K "_law_draws" "_law_draws" (topS 16) f fd) (z_int : mg "int" = none) (z_len : mg "len" = none) (z_list : mg "list" = none) (z_range : mg "range" = none) : FnOk Pr w K mg base (L2.CX Pr w) 1 f fd ["script", "many"] (spM ⟨K, w⟩ (XRt xt) m__law_draws 2) :=
  fun_mir (k := 0) (P := [0, 1]) F sc__law_draws (by decide) fun cdv A outer s H E hr => by
    have tk := takes_of (X := cxOf (L2.CX Pr w) Pr w K mg base ["script", "many", "cells", "rest", "draws", "k", "at", "mixed", "cell"] "_law_draws" (defScope (topS 16)) f cdv A outer s H E) (E := E) rfl rfl rfl rfl
    exact (mss_cons (ms_setLc (i := 2) rfl sc__law_draws.nd rfl (by rfl) (by rfl) (own := [("cell", 8)]) (T := [8]) (mi_seq (me_var (pv 0))) (blkOk_by (by first | rfl | kernel_rfl)) (by decide) (fun _ _ _ _ _ => (mg_name (i := 8) sc__law_draws.nd rfl (by first | exact .inl rfl | exact .inr rfl))) (fun _ _ _ _ _ => mts_nil) (fun _ _ _ _ _ => (me_callTy cd_int (by rfl) z_int (by decide +kernel) (ma_cons (me_var (pv 8)) ma_nil))))
  (mss_cons (ms_if (mt_cmp (od_eq hr) (me_callB cd_len (by rfl) z_len (by decide +kernel) (ma_cons (me_var (pv 2)) ma_nil)) me_int (nomark _))
  (mss_one (ms_expr (me_append (pv 2) (ma_cons me_int ma_nil))))
  mss_nil)
  (mss_cons (ms_set (i := 3) sc__law_draws.nd rfl (by first | exact .inl rfl | exact .inr rfl) (me_callTy cd_list (by rfl) z_list (by decide +kernel) (ma_cons (me_var (pv 2)) ma_nil)))
  (mss_cons (ms_set (i := 4) sc__law_draws.nd rfl (by first | exact .inl rfl | exact .inr rfl) (me_lst ma_nil))
  (mss_cons (ms_for (passes_of rfl) rfl (mi_rng1 (by rfl) z_range (me_var (pv 1))) (mg_name (i := 5) sc__law_draws.nd rfl (by first | exact .inl rfl | exact .inr rfl))
  (mss_cons (ms_set (i := 6) sc__law_draws.nd rfl (by first | exact .inl rfl | exact .inr rfl) (me_bin od_mod (me_var (pv 5)) (me_callB cd_len (by rfl) z_len (by decide +kernel) (ma_cons (me_var (pv 2)) ma_nil))))
  (mss_one (ms_if (mt_cmp od_ge (me_ix (me_var (pv 2)) (me_var (pv 6))) (me_bin od_pow me_int me_int) (nomark _))
  (mss_cons (ms_expr (me_append (pv 4) (ma_cons (me_bin od_mod (me_callTy cd_int (by rfl) z_int (by decide +kernel) (ma_cons (me_ix (me_var (pv 3)) (me_var (pv 6))) ma_nil)) me_int) ma_nil)))
  (mss_one (ms_store (i := 3) (pv 3) (me_bin od_div (me_ix (me_var (pv 3)) (me_var (pv 6))) me_int) (me_var (pv 6)))))
  (mss_cons (ms_set (i := 7) sc__law_draws.nd rfl (by first | exact .inl rfl | exact .inr rfl) (me_bin od_mod (me_callTy cd_int (by rfl) z_int (by decide +kernel) (ma_cons (me_binT od_add (me_binT od_add (me_bin od_mul (me_ix (me_var (pv 2)) (me_var (pv 6))) me_int) (me_bin od_mul (me_var (pv 5)) me_int)) me_int) ma_nil)) me_int))
  (mss_one (ms_expr (me_append (pv 4) (ma_cons (me_bin od_mod (me_callTy cd_int (by rfl) z_int (by decide +kernel) (ma_cons (me_binT od_add (me_binT od_add (me_bin od_mul (me_var (pv 7)) (me_var (pv 7))) (me_bin od_mul me_int (me_var (pv 7)))) (me_var (pv 5))) ma_nil)) me_int) ma_nil)))))))))
  (mss_cons (ms_expr (me_reverse (pv 4)))
  (mss_one (ms_ret (me_var (pv 4))))))))))
theorem ok__law_take  {f : Addr} {fd : FuncData} (F : Fun K "_law_take" "_law_take" (topS 17) f fd) (z_len : mg "len" = none) (z_int : mg "int" = none) : FnOk Pr w K mg base (L2.CX Pr w) 1 f fd ["draws", "many"] (spM ⟨K, w⟩ (XRt xt) m__law_take 2) :=
  fun_mir (k := 0) (P := [0, 1]) F sc__law_take (by decide) fun cdv A outer s H E hr => by
    have tk := takes_of (X := cxOf (L2.CX Pr w) Pr w K mg base ["draws", "many"] "_law_take" (defScope (topS 17)) f cdv A outer s H E) (E := E) rfl rfl rfl rfl
    exact (mss_cons (ms_if (mt_cmp (od_eq hr) (me_callB cd_len (by rfl) z_len (by decide +kernel) (ma_cons (me_var (pv 0)) ma_nil)) me_int (nomark _))
  (mss_one (ms_ret me_int))
  mss_nil)
  (mss_one (ms_ret (me_bin od_mod (me_callTy cd_int (by rfl) z_int (by decide +kernel) (ma_cons (me_pop (pv 0)) ma_nil)) (me_var (pv 1))))))
theorem ok__law_size  {f : Addr} {fd : FuncData} (F : Fun K "_law_size" "_law_size" (topS 18) f fd) (z_len : mg "len" = none) (z_range : mg "range" = none) (z_int : mg "int" = none) (z_abs : mg "abs" = none) (u__law_take : Use Pr w K mg base (XRt xt) "_law_take" ["draws", "many"] 1 m__law_take) : FnOk Pr w K mg base (L2.CX Pr w) 2 f fd ["draws", "script"] (spM ⟨K, w⟩ (XRt xt) m__law_size 2) :=
  fun_mir (k := 1) (P := [0, 1]) F sc__law_size (by decide) fun cdv A outer s H E hr => by
    have tk := takes_of (X := cxOf (L2.CX Pr w) Pr w K mg base ["draws", "script", "kind", "number", "k"] "_law_size" (defScope (topS 18)) f cdv A outer s H E) (E := E) rfl rfl rfl rfl
    exact (mss_cons (ms_set (i := 2) sc__law_size.nd rfl (by first | exact .inl rfl | exact .inr rfl) (me_use u__law_take (hr.mono (by first | decide | omega)) (by rfl) tk (argN_cons (argN_cons argN_nil)) (ma_cons (me_var (pv 0)) (ma_cons me_int ma_nil))))
  (mss_cons (ms_if (mt_cmp od_lt (me_var (pv 2)) me_int (nomark _))
  (mss_one (ms_ret (me_use u__law_take (hr.mono (by first | decide | omega)) (by rfl) tk (argN_cons (argN_cons argN_nil)) (ma_cons (me_var (pv 0)) (ma_cons me_int ma_nil)))))
  mss_nil)
  (mss_cons (ms_if (mt_cmp (od_eq hr) (me_var (pv 2)) me_int (nomark _))
  (mss_one (ms_ret (me_use u__law_take (hr.mono (by first | decide | omega)) (by rfl) tk (argN_cons (argN_cons argN_nil)) (ma_cons (me_var (pv 0)) (ma_cons me_int ma_nil)))))
  mss_nil)
  (mss_cons (ms_if (MW.mt (mw_or (mt_cmp (od_eq hr) (me_var (pv 2)) me_int (nomark _)) (mw_or1 (mt_cmp (od_eq hr) (me_callB cd_len (by rfl) z_len (by decide +kernel) (ma_cons (me_var (pv 1)) ma_nil)) me_int (nomark _)))))
  (mss_cons (ms_set (i := 3) sc__law_size.nd rfl (by first | exact .inl rfl | exact .inr rfl) me_int)
  (mss_cons (ms_for (passes_of rfl) rfl (mi_rng1 (by rfl) z_range me_int) (mg_name (i := 4) sc__law_size.nd rfl (by first | exact .inl rfl | exact .inr rfl))
  (mss_one (ms_set (i := 3) sc__law_size.nd rfl (by first | exact .inl rfl | exact .inr rfl) (me_binT od_add (me_bin od_mul (me_var (pv 3)) me_int) (me_use u__law_take (hr.mono (by first | decide | omega)) (by rfl) tk (argN_cons (argN_cons argN_nil)) (ma_cons (me_var (pv 0)) (ma_cons me_int ma_nil)))))))
  (mss_one (ms_ret (me_var (pv 3))))))
  mss_nil)
  (mss_one (ms_ret (me_callB cd_abs (by rfl) z_abs (by decide +kernel) (ma_cons (me_callTy cd_int (by rfl) z_int (by decide +kernel) (ma_cons (me_ix (me_var (pv 1)) (me_use u__law_take (hr.mono (by first | decide | omega)) (by rfl) tk (argN_cons (argN_cons argN_nil)) (ma_cons (me_var (pv 0)) (ma_cons (me_callB cd_len (by rfl) z_len (by decide +kernel) (ma_cons (me_var (pv 1)) ma_nil)) ma_nil)))) ma_nil)) ma_nil))))))))
theorem ok__law_same  {f : Addr} {fd : FuncData} (F : Fun K "_law_same" "_law_same" (topS 19) f fd) (gf : mg "_law_same" = some (.ref f)) (hb : Binds K fd ["actual", "due"] []) (z_isinstance : mg "isinstance" = none) (z_tuple : mg "tuple" = none) (z_list : mg "list" = none) (z_len : mg "len" = none) (z_range : mg "range" = none) (z_bool : mg "bool" = none) (z_int : mg "int" = none) (z_str : mg "str" = none) : ∀ n : Nat, FnOk Pr w K mg base (L2.CX Pr w) (1 + n) f fd ["actual", "due"] (spM ⟨K, w⟩ (XRt xt) (m__law_same n) 2)
  | 0 => fnOk_no (k := 1) (ps := ["actual", "due"])
  | n + 1 => by
    have ih := ok__law_same F gf hb z_isinstance z_tuple z_list z_len z_range z_bool z_int z_str n
    have u__law_same : Use Pr w K mg base (XRt xt) "_law_same" ["actual", "due"] (1 + n) (m__law_same n) := .mk' ih gf F.kp hb
    exact fun_mir (k := 1 + n) (P := [0, 1]) F sc__law_same (by decide) fun cdv A outer s H E hr => by
      have tk := takes_of (X := cxOf (L2.CX Pr w) Pr w K mg base ["actual", "due", "k"] "_law_same" (defScope (topS 19)) f cdv A outer s H E) (E := E) rfl rfl rfl rfl
      exact (mss_cons (ms_if (mt_val (me_isi2 (T := "tuple") (T' := "list") (by decide) (by decide) (by rfl) z_isinstance (me_var (pv 1)) (pe_bltn (v := .ty "tuple") (by rfl) z_tuple (by decide +kernel) rfl) (pe_bltn (v := .ty "list") (by rfl) z_list (by decide +kernel) rfl)))
  (mss_cons (ms_if (MW.mt (mw_or (mt_cmp (od_ne hr) (me_isi (T := "tuple") (by decide) (by rfl) z_isinstance (me_var (pv 0)) (pe_bltn (v := .ty "tuple") (by rfl) z_tuple (by decide +kernel) rfl)) (me_isi (T := "tuple") (by decide) (by rfl) z_isinstance (me_var (pv 1)) (pe_bltn (v := .ty "tuple") (by rfl) z_tuple (by decide +kernel) rfl)) (nomark _)) (mw_or1 (mt_cmp (od_ne hr) (me_isi (T := "list") (by decide) (by rfl) z_isinstance (me_var (pv 0)) (pe_bltn (v := .ty "list") (by rfl) z_list (by decide +kernel) rfl)) (me_isi (T := "list") (by decide) (by rfl) z_isinstance (me_var (pv 1)) (pe_bltn (v := .ty "list") (by rfl) z_list (by decide +kernel) rfl)) (nomark _)))))
  (mss_one (ms_ret me_bl))
  mss_nil)
  (mss_cons (ms_if (mt_cmp (od_ne hr) (me_callB cd_len (by rfl) z_len (by decide +kernel) (ma_cons (me_var (pv 0)) ma_nil)) (me_callB cd_len (by rfl) z_len (by decide +kernel) (ma_cons (me_var (pv 1)) ma_nil)) (nomark _))
  (mss_one (ms_ret me_bl))
  mss_nil)
  (mss_one (ms_ret (me_cmp (od_notin hr) me_bl (me_lc (own := [("k", 2)]) (T := [2]) rfl sc__law_same.nd (mi_rng1 (by rfl) z_range (me_callB cd_len (by rfl) z_len (by decide +kernel) (ma_cons (me_var (pv 1)) ma_nil))) (blkOk_by (by first | rfl | kernel_rfl)) (by decide) (fun _ _ _ _ _ => (mg_name (i := 2) sc__law_same.nd rfl (by first | exact .inl rfl | exact .inr rfl))) (fun _ _ _ _ _ => mts_nil) (fun _ _ _ _ _ => (me_use u__law_same hr (by rfl) takes0 (argN_cons (argN_cons argN_nil)) (ma_cons (me_ix (me_var (pv 0)) (me_var (pv 2))) (ma_cons (me_ix (me_var (pv 1)) (me_var (pv 2))) ma_nil))))) (by rfl))))))
  mss_nil)
  (mss_cons (ms_if (MW.mt (mw_or (mt_cmp (od_ne hr) (me_isi (T := "bool") (by decide) (by rfl) z_isinstance (me_var (pv 0)) (pe_bltn (v := .ty "bool") (by rfl) z_bool (by decide +kernel) rfl)) (me_isi (T := "bool") (by decide) (by rfl) z_isinstance (me_var (pv 1)) (pe_bltn (v := .ty "bool") (by rfl) z_bool (by decide +kernel) rfl)) (nomark _)) (mw_or1 (mt_cmp (od_ne hr) (me_isi (T := "int") (by decide) (by rfl) z_isinstance (me_var (pv 0)) (pe_bltn (v := .ty "int") (by rfl) z_int (by decide +kernel) rfl)) (me_isi (T := "int") (by decide) (by rfl) z_isinstance (me_var (pv 1)) (pe_bltn (v := .ty "int") (by rfl) z_int (by decide +kernel) rfl)) (nomark _)))))
  (mss_one (ms_ret me_bl))
  mss_nil)
  (mss_cons (ms_if (MW.mt (mw_or (mt_cmp (od_ne hr) (me_isi (T := "str") (by decide) (by rfl) z_isinstance (me_var (pv 0)) (pe_bltn (v := .ty "str") (by rfl) z_str (by decide +kernel) rfl)) (me_isi (T := "str") (by decide) (by rfl) z_isinstance (me_var (pv 1)) (pe_bltn (v := .ty "str") (by rfl) z_str (by decide +kernel) rfl)) (nomark _)) (mw_or1 (mt_cmp (od_ne hr) (me_cmp od_is (me_var (pv 0)) me_non (nomark _)) (me_cmp od_is (me_var (pv 1)) me_non (nomark _)) (nomark _)))))
  (mss_one (ms_ret me_bl))
  mss_nil)
  (mss_one (ms_ret (me_cmp (od_eq hr) (me_var (pv 0)) (me_var (pv 1)) (nomark _)))))))
theorem ok__law_share  {f : Addr} {fd : FuncData} (F : Fun K "_law_share" "_law_share" (topS 20) f fd) (z_range : mg "range" = none) (z_int : mg "int" = none) : FnOk Pr w K mg base (L2.CX Pr w) 1 f fd ["n", "d"] (spM ⟨K, w⟩ (XRt xt) m__law_share 2) :=
  fun_mir (k := 0) (P := [0, 1]) F sc__law_share (by decide) fun cdv A outer s H E hr => by
    have tk := takes_of (X := cxOf (L2.CX Pr w) Pr w K mg base ["n", "d", "a", "b", "k", "rest"] "_law_share" (defScope (topS 20)) f cdv A outer s H E) (E := E) rfl rfl rfl rfl
    exact (mss_cons (ms_set (i := 2) sc__law_share.nd rfl (by first | exact .inl rfl | exact .inr rfl) (me_var (pv 0)))
  (mss_cons (ms_set (i := 3) sc__law_share.nd rfl (by first | exact .inl rfl | exact .inr rfl) (me_var (pv 1)))
  (mss_cons (ms_for (passes_of rfl) rfl (mi_rng1 (by rfl) z_range (me_binT od_add (me_bin od_mul me_int (me_bits (me_var (pv 1)))) me_int)) (mg_name (i := 4) sc__law_share.nd rfl (by first | exact .inl rfl | exact .inr rfl))
  (mss_cons (ms_if (mt_cmp (od_eq hr) (me_var (pv 3)) me_int (nomark _))
  (mss_one ms_break)
  mss_nil)
  (mss_cons (ms_set (i := 5) sc__law_share.nd rfl (by first | exact .inl rfl | exact .inr rfl) (me_bin od_mod (me_callTy cd_int (by rfl) z_int (by decide +kernel) (ma_cons (me_var (pv 2)) ma_nil)) (me_var (pv 3))))
  (mss_cons (ms_set (i := 2) sc__law_share.nd rfl (by first | exact .inl rfl | exact .inr rfl) (me_var (pv 3)))
  (mss_one (ms_set (i := 3) sc__law_share.nd rfl (by first | exact .inl rfl | exact .inr rfl) (me_var (pv 5))))))))
  (mss_one (ms_ret (me_tup (ma_cons (me_bin od_div (me_var (pv 0)) (me_var (pv 2))) (ma_cons (me_bin od_div (me_var (pv 1)) (me_var (pv 2))) ma_nil))))))))
theorem ok__law_short  {f : Addr} {fd : FuncData} (F : Fun K "_law_short" "_law_short" (topS 21) f fd) (z_int : mg "int" = none) : FnOk Pr w K mg base (L2.CX Pr w) 1 f fd ["script"] (spM ⟨K, w⟩ (XRt xt) m__law_short 1) :=
  fun_mir (k := 0) (P := [0]) F sc__law_short (by decide) fun cdv A outer s H E hr => by
    have tk := takes_of (X := cxOf (L2.CX Pr w) Pr w K mg base ["script", "cell"] "_law_short" (defScope (topS 21)) f cdv A outer s H E) (E := E) rfl rfl rfl rfl
    exact (mss_one (ms_ret (me_lc (own := [("cell", 1)]) (T := [1]) rfl sc__law_short.nd (mi_seq (me_var (pv 0))) (blkOk_by (by first | rfl | kernel_rfl)) (by decide) (fun _ _ _ _ _ => (mg_name (i := 1) sc__law_short.nd rfl (by first | exact .inl rfl | exact .inr rfl))) (fun _ _ _ _ _ => mts_nil) (fun _ _ _ _ _ => (me_bin od_mod (me_callTy cd_int (by rfl) z_int (by decide +kernel) (ma_cons (me_var (pv 1)) ma_nil)) (me_bin od_pow me_int me_int))))))
theorem ok__law_great_share  {f : Addr} {fd : FuncData} (F : Fun K "_law_great_share" "_law_great_share" (topS 22) f fd) (u__law_size : Use Pr w K mg base (XRt xt) "_law_size" ["draws", "script"] 2 m__law_size) (u__law_take : Use Pr w K mg base (XRt xt) "_law_take" ["draws", "many"] 1 m__law_take) : FnOk Pr w K mg base (L2.CX Pr w) 3 f fd ["draws", "script"] (spM ⟨K, w⟩ (XRt xt) m__law_great_share 2) :=
  fun_mir (k := 2) (P := [0, 1]) F sc__law_great_share (by decide) fun cdv A outer s H E hr => by
    have tk := takes_of (X := cxOf (L2.CX Pr w) Pr w K mg base ["draws", "script", "n"] "_law_great_share" (defScope (topS 22)) f cdv A outer s H E) (E := E) rfl rfl rfl rfl
    exact (mss_cons (ms_set (i := 2) sc__law_great_share.nd rfl (by first | exact .inl rfl | exact .inr rfl) (me_use u__law_size (hr.mono (by first | decide | omega)) (by rfl) tk (argN_cons (argN_cons argN_nil)) (ma_cons (me_var (pv 0)) (ma_cons (me_var (pv 1)) ma_nil))))
  (mss_one (ms_ret (me_tup (ma_cons (me_var (pv 2)) (ma_cons (me_binT od_add (me_bin od_mul (me_var (pv 2)) (me_use u__law_take (hr.mono (by first | decide | omega)) (by rfl) tk (argN_cons (argN_cons argN_nil)) (ma_cons (me_var (pv 0)) (ma_cons me_int ma_nil)))) me_int) ma_nil))))))
theorem ok__law_told {C_NoShare : Addr} {C_BadText : Addr} {C_DoubleFact : Addr} {C_NoChance : Addr} {C_NoFact : Addr} {C_NoKept : Addr} {C_NoPlan : Addr} {C_NoQuestion : Addr} {C_NoRow : Addr} {C_NoSchema : Addr} {C_ChanceError : Addr} {f : Addr} {fd : FuncData} (F : Fun K "_law_told" "_law_told" (topS 23) f fd) (z_isinstance : mg "isinstance" = none) (z_ValueError : mg "ValueError" = none) (gC_NoShare : mg "NoShare" = some (.ref C_NoShare)) (gC_BadText : mg "BadText" = some (.ref C_BadText)) (gC_DoubleFact : mg "DoubleFact" = some (.ref C_DoubleFact)) (gC_NoChance : mg "NoChance" = some (.ref C_NoChance)) (gC_NoFact : mg "NoFact" = some (.ref C_NoFact)) (gC_NoKept : mg "NoKept" = some (.ref C_NoKept)) (gC_NoPlan : mg "NoPlan" = some (.ref C_NoPlan)) (gC_NoQuestion : mg "NoQuestion" = some (.ref C_NoQuestion)) (gC_NoRow : mg "NoRow" = some (.ref C_NoRow)) (gC_NoSchema : mg "NoSchema" = some (.ref C_NoSchema)) (gC_ChanceError : mg "ChanceError" = some (.ref C_ChanceError)) (EC_NoShare : ExcC K C_NoShare) (fx_NoShare_NoShare : PySem.W.exmOne K (.ref C_NoShare) (.ref C_NoShare) = some true) (fa_NoShare_BadText_DoubleFact_NoChance_NoFact_NoKept_NoPlan_NoQuestion_NoRow_NoSchema : PySem.W.kitAny K (.ref C_NoShare) [(.ref C_BadText), (.ref C_DoubleFact), (.ref C_NoChance), (.ref C_NoFact), (.ref C_NoKept), (.ref C_NoPlan), (.ref C_NoQuestion), (.ref C_NoRow), (.ref C_NoSchema)] = some false) (fo_NoShare_ChanceError : PySem.W.kitOne K (.ref C_NoShare) (.ref C_ChanceError) = some true) (fo_NoShare_ValueError : PySem.W.kitOne K (.ref C_NoShare) (.type "ValueError") = some true) (hxt : ∀ c C, xt c = some C → (c = 0 ∧ C = C_NoShare)) (u_make_share : Use Pr w K mg base (XRt xt) "make_share" ["n", "d"] 34 m_make_share) : FnOk Pr w K mg base (L2.CX Pr w) 35 f fd ["n", "d"] (spM ⟨K, w⟩ (XRt xt) m__law_told 2) :=
  fun_mir (k := 34) (P := [0, 1]) F sc__law_told (by decide) fun cdv A outer s H E hr => by
    have tk := takes_of (X := cxOf (L2.CX Pr w) Pr w K mg base ["n", "d", "e"] "_law_told" (defScope (topS 23)) f cdv A outer s H E) (E := E) rfl rfl rfl rfl
    exact (mss_cons (ms_try (i := 2) (cv := (.ref C_NoShare)) (mb := (sRet (mCall m_make_share (mCons (mVar 0) (mCons (mVar 1) mNil))))) (h := (fun c => match c with | 0 => some (.tup [(.str [114, 101, 102, 117, 115, 101, 100]), (.int 0)]) | _ => none)) rfl rfl sc__law_told.nd rfl (by rfl) ⟨by rfl, by decide, .inl gC_NoShare⟩ tk (by decide) (fun W1 pn xe tk hpo => (mss_one (ms_ret (me_use u_make_share (hr.mono (by first | decide | omega)) (by rfl) tk (argN_cons (argN_cons argN_nil)) (ma_cons (me_var (pv 0)) (ma_cons (me_var (pv 1)) ma_nil))))))
    (fun c C hxc => by
      rcases hxt c C hxc with ⟨rfl, rfl⟩
      · exact fx_NoShare_NoShare)
    (fun c C dv a oe pn hxc hc hz hf => by
      rcases hxt c C hxc with ⟨rfl, rfl⟩
      · cases hc; exact (psx_no (px_isT (X := cxOf (L2.CX Pr w) Pr w K mg base ["n", "d", "e"] "_law_told" (defScope (topS 23)) f cdv A outer s H E) (a := a) (oe := oe) (pn := pn) (i := 2) (cs := [(.ref C_BadText), (.ref C_DoubleFact), (.ref C_NoChance), (.ref C_NoFact), (.ref C_NoKept), (.ref C_NoPlan), (.ref C_NoQuestion), (.ref C_NoRow), (.ref C_NoSchema)]) (us := [(.ref C_BadText), (.ref C_DoubleFact), (.ref C_NoChance), (.ref C_NoFact), (.ref C_NoKept), (.ref C_NoPlan), (.ref C_NoQuestion), (.ref C_NoRow), (.ref C_NoSchema)]) EC_NoShare hz hf (by rfl) z_isinstance (pv 2) (pa_cons (pe_glob (v := .ref C_BadText) (u := .ref C_BadText) (by rfl) gC_BadText rfl) (pa_cons (pe_glob (v := .ref C_DoubleFact) (u := .ref C_DoubleFact) (by rfl) gC_DoubleFact rfl) (pa_cons (pe_glob (v := .ref C_NoChance) (u := .ref C_NoChance) (by rfl) gC_NoChance rfl) (pa_cons (pe_glob (v := .ref C_NoFact) (u := .ref C_NoFact) (by rfl) gC_NoFact rfl) (pa_cons (pe_glob (v := .ref C_NoKept) (u := .ref C_NoKept) (by rfl) gC_NoKept rfl) (pa_cons (pe_glob (v := .ref C_NoPlan) (u := .ref C_NoPlan) (by rfl) gC_NoPlan rfl) (pa_cons (pe_glob (v := .ref C_NoQuestion) (u := .ref C_NoQuestion) (by rfl) gC_NoQuestion rfl) (pa_cons (pe_glob (v := .ref C_NoRow) (u := .ref C_NoRow) (by rfl) gC_NoRow rfl) (pa_cons (pe_glob (v := .ref C_NoSchema) (u := .ref C_NoSchema) (by rfl) gC_NoSchema rfl) pa_nil))))))))) (by show 9 ≤ 1000; decide) (.cons (.own _) (.cons (.own _) (.cons (.own _) (.cons (.own _) (.cons (.own _) (.cons (.own _) (.cons (.own _) (.cons (.own _) (.cons (.own _) .nil))))))))) fa_NoShare_BadText_DoubleFact_NoChance_NoFact_NoKept_NoPlan_NoQuestion_NoRow_NoSchema) (t := tS ⟨K, w⟩ (XRt xt) W0 [0, 1] (sRet (mTup (mCons (mC (.str [114, 101, 102, 117, 115, 101, 100])) (mCons (mC (.int 1)) mNil))))) (mss_one (ms_ret (me_tup (ma_cons (me_str [114, 101, 102, 117, 115, 101, 100]) (ma_cons me_int ma_nil))))) (psx_yes (mr := (sRet (mTup (mCons (mC (.str [114, 101, 102, 117, 115, 101, 100])) (mCons (mC (.int 0)) mNil))))) (fun _ => rfl) (px_and (px_is (X := cxOf (L2.CX Pr w) Pr w K mg base ["n", "d", "e"] "_law_told" (defScope (topS 23)) f cdv A outer s H E) (a := a) (oe := oe) (pn := pn) (i := 2) (cv := (.ref C_ChanceError)) (u := (.ref C_ChanceError)) EC_NoShare hz hf (by rfl) z_isinstance (pv 2) (pe_glob (v := .ref C_ChanceError) (u := .ref C_ChanceError) (by rfl) gC_ChanceError rfl) (.own _) fo_NoShare_ChanceError) (px_is (X := cxOf (L2.CX Pr w) Pr w K mg base ["n", "d", "e"] "_law_told" (defScope (topS 23)) f cdv A outer s H E) (a := a) (oe := oe) (pn := pn) (i := 2) (cv := (.ty "ValueError")) (u := (.type "ValueError")) EC_NoShare hz hf (by rfl) z_isinstance (pv 2) (pe_bltn (v := .ty "ValueError") (by rfl) z_ValueError (by decide +kernel) rfl) (.ty _) fo_NoShare_ValueError)) (mss_one (ms_ret (me_tup (ma_cons (me_str [114, 101, 102, 117, 115, 101, 100]) (ma_cons me_int ma_nil))))) (pss_nil)))))
  (mss_one (ms_ret (me_tup (ma_cons (me_str [114, 101, 102, 117, 115, 101, 100]) (ma_cons me_int ma_nil))))))
theorem ok_law  {f : Addr} {fd : FuncData} (F : Fun K "law" "law" (topS 24) f fd) (z_abs : mg "abs" = none) (u__law_draws : Use Pr w K mg base (XRt xt) "_law_draws" ["script", "many"] 1 m__law_draws) (u__law_short : Use Pr w K mg base (XRt xt) "_law_short" ["script"] 1 m__law_short) (u__law_size : Use Pr w K mg base (XRt xt) "_law_size" ["draws", "script"] 2 m__law_size) (u__law_take : Use Pr w K mg base (XRt xt) "_law_take" ["draws", "many"] 1 m__law_take) (u__law_share : Use Pr w K mg base (XRt xt) "_law_share" ["n", "d"] 1 m__law_share) (u__law_same : Use Pr w K mg base (XRt xt) "_law_same" ["actual", "due"] 13 (m__law_same 12)) (u__law_told : Use Pr w K mg base (XRt xt) "_law_told" ["n", "d"] 35 m__law_told) (u__law_great_share : Use Pr w K mg base (XRt xt) "_law_great_share" ["draws", "script"] 3 m__law_great_share) : FnOk Pr w K mg base (L2.CX Pr w) 36 f fd ["script"] (spM ⟨K, w⟩ (XRt xt) m_law 1) :=
  fun_mir (k := 35) (P := [0]) F sc_law (by decide) fun cdv A outer s H E hr => by
    have tk := takes_of (X := cxOf (L2.CX Pr w) Pr w K mg base ["script", "draws", "short", "factor", "n", "d", "due", "great"] "law" (defScope (topS 24)) f cdv A outer s H E) (E := E) rfl rfl rfl rfl
    exact (mss_cons (ms_set (i := 1) sc_law.nd rfl (by first | exact .inl rfl | exact .inr rfl) (me_use u__law_draws (hr.mono (by first | decide | omega)) (by rfl) tk (argN_cons (argN_cons argN_nil)) (ma_cons (me_var (pv 0)) (ma_cons me_int ma_nil))))
  (mss_cons (ms_set (i := 2) sc_law.nd rfl (by first | exact .inl rfl | exact .inr rfl) (me_use u__law_short (hr.mono (by first | decide | omega)) (by rfl) tk (argN_cons argN_nil) (ma_cons (me_var (pv 0)) ma_nil)))
  (mss_cons (ms_set (i := 3) sc_law.nd rfl (by first | exact .inl rfl | exact .inr rfl) (me_ix (me_lst (ma_cons me_int (ma_cons me_int (ma_cons me_int (ma_cons (me_binT od_add me_int (me_use u__law_size (hr.mono (by first | decide | omega)) (by rfl) tk (argN_cons (argN_cons argN_nil)) (ma_cons (me_var (pv 1)) (ma_cons (me_var (pv 2)) ma_nil)))) ma_nil))))) (me_use u__law_take (hr.mono (by first | decide | omega)) (by rfl) tk (argN_cons (argN_cons argN_nil)) (ma_cons (me_var (pv 1)) (ma_cons me_int ma_nil)))))
  (mss_cons (ms_set (i := 4) sc_law.nd rfl (by first | exact .inl rfl | exact .inr rfl) (me_bin od_mul (me_bin od_mul (me_var (pv 3)) (me_use u__law_size (hr.mono (by first | decide | omega)) (by rfl) tk (argN_cons (argN_cons argN_nil)) (ma_cons (me_var (pv 1)) (ma_cons (me_var (pv 2)) ma_nil)))) (me_bin od_sub me_int (me_bin od_mul me_int (me_use u__law_take (hr.mono (by first | decide | omega)) (by rfl) tk (argN_cons (argN_cons argN_nil)) (ma_cons (me_var (pv 1)) (ma_cons me_int ma_nil)))))))
  (mss_cons (ms_set (i := 5) sc_law.nd rfl (by first | exact .inl rfl | exact .inr rfl) (me_bin od_mul (me_bin od_mul (me_var (pv 3)) (me_use u__law_size (hr.mono (by first | decide | omega)) (by rfl) tk (argN_cons (argN_cons argN_nil)) (ma_cons (me_var (pv 1)) (ma_cons (me_var (pv 2)) ma_nil)))) (me_bin od_sub me_int (me_bin od_mul me_int (me_use u__law_take (hr.mono (by first | decide | omega)) (by rfl) tk (argN_cons (argN_cons argN_nil)) (ma_cons (me_var (pv 1)) (ma_cons me_int ma_nil)))))))
  (mss_cons (ms_set (i := 6) sc_law.nd rfl (by first | exact .inl rfl | exact .inr rfl) (me_tup (ma_cons (me_str [114, 101, 102, 117, 115, 101, 100]) (ma_cons me_int ma_nil))))
  (mss_cons (ms_if (MW.mt (mw_and (mt_cmp (od_eq hr) (me_var (pv 4)) me_int (nomark _)) (mw_and1 (mt_cmp (od_ne hr) (me_var (pv 5)) me_int (nomark _)))))
  (mss_one (ms_set (i := 6) sc_law.nd rfl (by first | exact .inl rfl | exact .inr rfl) (me_tup (ma_cons me_int (ma_cons me_int ma_nil)))))
  (mss_one (ms_if (MW.mt (mw_and (mt_cmp (od_ne hr) (me_var (pv 5)) me_int (nomark _)) (mw_and1 (mt_cmp (od_eq hr) (me_cmp od_lt (me_var (pv 4)) me_int (nomark _)) (me_cmp od_lt (me_var (pv 5)) me_int (nomark _)) (nomark _)))))
  (mss_one (ms_set (i := 6) sc_law.nd rfl (by first | exact .inl rfl | exact .inr rfl) (me_use u__law_share (hr.mono (by first | decide | omega)) (by rfl) tk (argN_cons (argN_cons argN_nil)) (ma_cons (me_callB cd_abs (by rfl) z_abs (by decide +kernel) (ma_cons (me_var (pv 4)) ma_nil)) (ma_cons (me_callB cd_abs (by rfl) z_abs (by decide +kernel) (ma_cons (me_var (pv 5)) ma_nil)) ma_nil)))))
  mss_nil)))
  (mss_cons (ms_if (mt_not (mt_val (me_use u__law_same (hr.mono (by first | decide | omega)) (by rfl) tk (argN_cons (argN_cons argN_nil)) (ma_cons (me_use u__law_told (hr.mono (by first | decide | omega)) (by rfl) tk (argN_cons (argN_cons argN_nil)) (ma_cons (me_var (pv 4)) (ma_cons (me_var (pv 5)) ma_nil))) (ma_cons (me_var (pv 6)) ma_nil)))))
  (mss_one (ms_ret me_bl))
  mss_nil)
  (mss_cons (ms_set (i := 7) sc_law.nd rfl (by first | exact .inl rfl | exact .inr rfl) (me_use u__law_great_share (hr.mono (by first | decide | omega)) (by rfl) tk (argN_cons (argN_cons argN_nil)) (ma_cons (me_var (pv 1)) (ma_cons (me_var (pv 0)) ma_nil))))
  (mss_cons (ms_set (i := 3) sc_law.nd rfl (by first | exact .inl rfl | exact .inr rfl) (me_bin od_mul (me_binT od_add me_int (me_use u__law_size (hr.mono (by first | decide | omega)) (by rfl) tk (argN_cons (argN_cons argN_nil)) (ma_cons (me_var (pv 1)) (ma_cons (me_var (pv 0)) ma_nil)))) (me_bin od_sub me_int (me_bin od_mul me_int (me_use u__law_take (hr.mono (by first | decide | omega)) (by rfl) tk (argN_cons (argN_cons argN_nil)) (ma_cons (me_var (pv 1)) (ma_cons me_int ma_nil)))))))
  (mss_cons (ms_if (mt_not (mt_val (me_use u__law_same (hr.mono (by first | decide | omega)) (by rfl) tk (argN_cons (argN_cons argN_nil)) (ma_cons (me_use u__law_told (hr.mono (by first | decide | omega)) (by rfl) tk (argN_cons (argN_cons argN_nil)) (ma_cons (me_bin od_mul (me_ix (me_var (pv 7)) me_int) (me_var (pv 3))) (ma_cons (me_bin od_mul (me_ix (me_var (pv 7)) me_int) (me_var (pv 3))) ma_nil))) (ma_cons (me_var (pv 7)) ma_nil)))))
  (mss_one (ms_ret me_bl))
  mss_nil)
  (mss_cons (ms_set (i := 6) sc_law.nd rfl (by first | exact .inl rfl | exact .inr rfl) (me_tup (ma_cons (me_str [114, 101, 102, 117, 115, 101, 100]) (ma_cons me_int ma_nil))))
  (mss_cons (ms_if (mt_cmp (od_eq hr) (me_ix (me_var (pv 7)) me_int) me_int (nomark _))
  (mss_one (ms_set (i := 6) sc_law.nd rfl (by first | exact .inl rfl | exact .inr rfl) (me_tup (ma_cons me_int (ma_cons me_int ma_nil)))))
  mss_nil)
  (mss_cons (ms_if (mt_not (mt_val (me_use u__law_same (hr.mono (by first | decide | omega)) (by rfl) tk (argN_cons (argN_cons argN_nil)) (ma_cons (me_use u__law_told (hr.mono (by first | decide | omega)) (by rfl) tk (argN_cons (argN_cons argN_nil)) (ma_cons (me_bin od_mul (me_ix (me_var (pv 7)) me_int) (me_var (pv 3))) (ma_cons (me_bin od_sub me_int (me_bin od_mul (me_ix (me_var (pv 7)) me_int) (me_var (pv 3)))) ma_nil))) (ma_cons (me_var (pv 6)) ma_nil)))))
  (mss_one (ms_ret me_bl))
  mss_nil)
  (mss_one (ms_ret (me_use u__law_same (hr.mono (by first | decide | omega)) (by rfl) tk (argN_cons (argN_cons argN_nil)) (ma_cons (me_use u__law_told (hr.mono (by first | decide | omega)) (by rfl) tk (argN_cons (argN_cons argN_nil)) (ma_cons (me_var (pv 3)) (ma_cons me_int ma_nil))) (ma_cons (me_tup (ma_cons (me_str [114, 101, 102, 117, 115, 101, 100]) (ma_cons me_int ma_nil))) ma_nil)))))))))))))))))))
end
theorem all_mk {l : PySem.W.OpenLaw} {w : World} {K : PySem.W.Frag} {h : Heap} {mg : Str → Option Value} {fa f14 f16 f17 f18 f19 f20 f21 f22 f23 f24 C_NoShare C_BadText C_DoubleFact C_NoChance C_NoFact C_NoKept C_NoPlan C_NoQuestion C_NoRow C_NoSchema C_ChanceError : Addr} (X : K.In h) (G : h.Ns mainGlobals mg) (hfa : mg "law" = some (.ref fa))
    {od14 an14 od16 an16 od17 an17 od18 an18 od19 an19 od20 an20 od21 an21 od22 an22 od23 an23 od24 an24 : Option Addr} {sl14 sl16 sl17 sl18 sl19 sl20 sl21 sl22 sl23 sl24 : Array (Option Value)} {oc14 kV14 dc14 pm14 cd14 ct14 oc16 kV16 dc16 pm16 cd16 ct16 oc17 kV17 dc17 pm17 cd17 ct17 oc18 kV18 dc18 pm18 cd18 ct18 oc19 kV19 dc19 pm19 cd19 ct19 oc20 kV20 dc20 pm20 cd20 ct20 oc21 kV21 dc21 pm21 cd21 ct21 oc22 kV22 dc22 pm22 cd22 ct22 oc23 kV23 dc23 pm23 cd23 ct23 oc24 kV24 dc24 pm24 cd24 ct24 : Value}
    (a14 : PySem.W.nsIn K mainGlobals "make_share" = some (some (.ref f14))) (l14 : K.lookup f14 = some ⟨oc14, od14, .func (PySem.W.fnOf "make_share" "make_share" (defArgs (topS 14)) (defBody (topS 14)) (defScope (topS 14)) .none kV14 dc14 pm14 an14 cd14 ct14), sl14⟩) (c14 : PySem.W.codeIn K cd14 "make_share" = true) (k14 : PySem.W.keepIn K (.ref f14) = true)
    (a16 : PySem.W.nsIn K mainGlobals "_law_draws" = some (some (.ref f16))) (l16 : K.lookup f16 = some ⟨oc16, od16, .func (PySem.W.fnOf "_law_draws" "_law_draws" (defArgs (topS 16)) (defBody (topS 16)) (defScope (topS 16)) .none kV16 dc16 pm16 an16 cd16 ct16), sl16⟩) (c16 : PySem.W.codeIn K cd16 "_law_draws" = true) (k16 : PySem.W.keepIn K (.ref f16) = true)
    (a17 : PySem.W.nsIn K mainGlobals "_law_take" = some (some (.ref f17))) (l17 : K.lookup f17 = some ⟨oc17, od17, .func (PySem.W.fnOf "_law_take" "_law_take" (defArgs (topS 17)) (defBody (topS 17)) (defScope (topS 17)) .none kV17 dc17 pm17 an17 cd17 ct17), sl17⟩) (c17 : PySem.W.codeIn K cd17 "_law_take" = true) (k17 : PySem.W.keepIn K (.ref f17) = true)
    (a18 : PySem.W.nsIn K mainGlobals "_law_size" = some (some (.ref f18))) (l18 : K.lookup f18 = some ⟨oc18, od18, .func (PySem.W.fnOf "_law_size" "_law_size" (defArgs (topS 18)) (defBody (topS 18)) (defScope (topS 18)) .none kV18 dc18 pm18 an18 cd18 ct18), sl18⟩) (c18 : PySem.W.codeIn K cd18 "_law_size" = true) (k18 : PySem.W.keepIn K (.ref f18) = true)
    (a19 : PySem.W.nsIn K mainGlobals "_law_same" = some (some (.ref f19))) (l19 : K.lookup f19 = some ⟨oc19, od19, .func (PySem.W.fnOf "_law_same" "_law_same" (defArgs (topS 19)) (defBody (topS 19)) (defScope (topS 19)) .none kV19 dc19 pm19 an19 cd19 ct19), sl19⟩) (c19 : PySem.W.codeIn K cd19 "_law_same" = true) (k19 : PySem.W.keepIn K (.ref f19) = true)
    (a20 : PySem.W.nsIn K mainGlobals "_law_share" = some (some (.ref f20))) (l20 : K.lookup f20 = some ⟨oc20, od20, .func (PySem.W.fnOf "_law_share" "_law_share" (defArgs (topS 20)) (defBody (topS 20)) (defScope (topS 20)) .none kV20 dc20 pm20 an20 cd20 ct20), sl20⟩) (c20 : PySem.W.codeIn K cd20 "_law_share" = true) (k20 : PySem.W.keepIn K (.ref f20) = true)
    (a21 : PySem.W.nsIn K mainGlobals "_law_short" = some (some (.ref f21))) (l21 : K.lookup f21 = some ⟨oc21, od21, .func (PySem.W.fnOf "_law_short" "_law_short" (defArgs (topS 21)) (defBody (topS 21)) (defScope (topS 21)) .none kV21 dc21 pm21 an21 cd21 ct21), sl21⟩) (c21 : PySem.W.codeIn K cd21 "_law_short" = true) (k21 : PySem.W.keepIn K (.ref f21) = true)
    (a22 : PySem.W.nsIn K mainGlobals "_law_great_share" = some (some (.ref f22))) (l22 : K.lookup f22 = some ⟨oc22, od22, .func (PySem.W.fnOf "_law_great_share" "_law_great_share" (defArgs (topS 22)) (defBody (topS 22)) (defScope (topS 22)) .none kV22 dc22 pm22 an22 cd22 ct22), sl22⟩) (c22 : PySem.W.codeIn K cd22 "_law_great_share" = true) (k22 : PySem.W.keepIn K (.ref f22) = true)
    (a23 : PySem.W.nsIn K mainGlobals "_law_told" = some (some (.ref f23))) (l23 : K.lookup f23 = some ⟨oc23, od23, .func (PySem.W.fnOf "_law_told" "_law_told" (defArgs (topS 23)) (defBody (topS 23)) (defScope (topS 23)) .none kV23 dc23 pm23 an23 cd23 ct23), sl23⟩) (c23 : PySem.W.codeIn K cd23 "_law_told" = true) (k23 : PySem.W.keepIn K (.ref f23) = true)
    (a24 : PySem.W.nsIn K mainGlobals "law" = some (some (.ref f24))) (l24 : K.lookup f24 = some ⟨oc24, od24, .func (PySem.W.fnOf "law" "law" (defArgs (topS 24)) (defBody (topS 24)) (defScope (topS 24)) .none kV24 dc24 pm24 an24 cd24 ct24), sl24⟩) (c24 : PySem.W.codeIn K cd24 "law" = true) (k24 : PySem.W.keepIn K (.ref f24) = true)
    (z_int : PySem.W.nsIn K mainGlobals "int" = some none)
    (z_len : PySem.W.nsIn K mainGlobals "len" = some none)
    (z_list : PySem.W.nsIn K mainGlobals "list" = some none)
    (z_range : PySem.W.nsIn K mainGlobals "range" = some none)
    (z_abs : PySem.W.nsIn K mainGlobals "abs" = some none)
    (z_isinstance : PySem.W.nsIn K mainGlobals "isinstance" = some none)
    (z_tuple : PySem.W.nsIn K mainGlobals "tuple" = some none)
    (z_bool : PySem.W.nsIn K mainGlobals "bool" = some none)
    (z_str : PySem.W.nsIn K mainGlobals "str" = some none)
    (z_ValueError : PySem.W.nsIn K mainGlobals "ValueError" = some none)
    (i_gcd : PySem.W.nsIn K mainGlobals "gcd" = some (some (.builtin "math.gcd")))
    (aC_NoShare : PySem.W.nsIn K mainGlobals "NoShare" = some (some (.ref C_NoShare))) (xC_NoShare : PySem.W.excIn K C_NoShare [.type "ValueError", .type "Exception", .type "BaseException", .type "object"] "ValueError.__new__" = true) (kC_NoShare : PySem.W.keepIn K (.ref C_NoShare) = true) (bC_NoShare : PySem.W.subIn K (.ref C_NoShare) (.type "BaseException") = some true) (tC_NoShare : PySem.W.typeIn K (.ref C_NoShare) = some (.type "type"))
    (aC_BadText : PySem.W.nsIn K mainGlobals "BadText" = some (some (.ref C_BadText)))
    (aC_DoubleFact : PySem.W.nsIn K mainGlobals "DoubleFact" = some (some (.ref C_DoubleFact)))
    (aC_NoChance : PySem.W.nsIn K mainGlobals "NoChance" = some (some (.ref C_NoChance)))
    (aC_NoFact : PySem.W.nsIn K mainGlobals "NoFact" = some (some (.ref C_NoFact)))
    (aC_NoKept : PySem.W.nsIn K mainGlobals "NoKept" = some (some (.ref C_NoKept)))
    (aC_NoPlan : PySem.W.nsIn K mainGlobals "NoPlan" = some (some (.ref C_NoPlan)))
    (aC_NoQuestion : PySem.W.nsIn K mainGlobals "NoQuestion" = some (some (.ref C_NoQuestion)))
    (aC_NoRow : PySem.W.nsIn K mainGlobals "NoRow" = some (some (.ref C_NoRow)))
    (aC_NoSchema : PySem.W.nsIn K mainGlobals "NoSchema" = some (some (.ref C_NoSchema)))
    (aC_ChanceError : PySem.W.nsIn K mainGlobals "ChanceError" = some (some (.ref C_ChanceError)))
    (ec_NoShare_hg : PySem.W.findIn K (.ref C_NoShare) "__getattribute__" = some (some (.builtin "BaseException.__getattribute__")))
    (ec_NoShare_hk : PySem.W.findIn K (.ref C_NoShare) "__getattr__" = some none)
    (ec_NoShare_hs : PySem.W.subIn K (.ref C_NoShare) (.type "BaseException") = some true)
    (ec_NoShare_hd : PySem.W.hasDictIn K C_NoShare = true)
    (ec_NoShare_ha : PySem.W.findIn K (.ref C_NoShare) "__class__" = some (some (.builtin "object.__class__")))
    (ec_NoShare_hn : PySem.W.specialIn K (.builtin "object.__class__") "__get__" = some (some (.builtin "getset_descriptor.__get__")))
    (ec_NoShare_ht : PySem.W.takesIn K (.builtin "object.__class__") = some true)
    (ec_NoShare_hm : PySem.W.mroIn K C_NoShare (.type "object") = some true)
    (fx_NoShare_NoShare : PySem.W.exmOne K (.ref C_NoShare) (.ref C_NoShare) = some true)
    (fa_NoShare_BadText_DoubleFact_NoChance_NoFact_NoKept_NoPlan_NoQuestion_NoRow_NoSchema : PySem.W.kitAny K (.ref C_NoShare) [(.ref C_BadText), (.ref C_DoubleFact), (.ref C_NoChance), (.ref C_NoFact), (.ref C_NoKept), (.ref C_NoPlan), (.ref C_NoQuestion), (.ref C_NoRow), (.ref C_NoSchema)] = some false)
    (fo_NoShare_ChanceError : PySem.W.kitOne K (.ref C_NoShare) (.ref C_ChanceError) = some true)
    (fo_NoShare_ValueError : PySem.W.kitOne K (.ref C_NoShare) (.type "ValueError") = some true)
    (hT : l.prog.given.tree = none) :
    ∃ fd : FuncData, (∀ (s : Shared) (v : Value), BindsTo s fd ⟨[v], []⟩ [("script", v)]) ∧ ∀ base : Heap, K.In base → base.Ns mainGlobals mg → base.NoSeer → FnOk l.prog w K mg base (L2.CX l.prog w) 36 fa fd ["script"] (spT ⟨K, w⟩ m_law 1) := by
  have e := hfa.symm.trans (PySem.W.mg_of X G a24)
  cases e
  let xt : Nat → Option Addr := fun c => ([C_NoShare] : List Addr)[c]?
  have z_int := PySem.W.mg_none_of X G z_int
  have z_len := PySem.W.mg_none_of X G z_len
  have z_list := PySem.W.mg_none_of X G z_list
  have z_range := PySem.W.mg_none_of X G z_range
  have z_abs := PySem.W.mg_none_of X G z_abs
  have z_isinstance := PySem.W.mg_none_of X G z_isinstance
  have z_tuple := PySem.W.mg_none_of X G z_tuple
  have z_bool := PySem.W.mg_none_of X G z_bool
  have z_str := PySem.W.mg_none_of X G z_str
  have z_ValueError := PySem.W.mg_none_of X G z_ValueError
  have i_gcd := PySem.W.mg_of X G i_gcd
  have x_NoShare : ExcT K mg xt "NoShare" 0 C_NoShare := ⟨rfl, PySem.W.mg_of X G aC_NoShare, xC_NoShare, kC_NoShare, bC_NoShare, tC_NoShare⟩
  have gC_BadText := PySem.W.mg_of X G aC_BadText
  have gC_DoubleFact := PySem.W.mg_of X G aC_DoubleFact
  have gC_NoChance := PySem.W.mg_of X G aC_NoChance
  have gC_NoFact := PySem.W.mg_of X G aC_NoFact
  have gC_NoKept := PySem.W.mg_of X G aC_NoKept
  have gC_NoPlan := PySem.W.mg_of X G aC_NoPlan
  have gC_NoQuestion := PySem.W.mg_of X G aC_NoQuestion
  have gC_NoRow := PySem.W.mg_of X G aC_NoRow
  have gC_NoSchema := PySem.W.mg_of X G aC_NoSchema
  have gC_ChanceError := PySem.W.mg_of X G aC_ChanceError
  have gC_NoShare := PySem.W.mg_of X G aC_NoShare
  have EC_NoShare : ExcC K C_NoShare := ⟨ec_NoShare_hg, ec_NoShare_hk, ec_NoShare_hs, ec_NoShare_hd, ec_NoShare_ha, ec_NoShare_hn, ec_NoShare_ht, ec_NoShare_hm⟩
  have hxt : ∀ c C, xt c = some C → (c = 0 ∧ C = C_NoShare) := fun c C e => by
    have e : ([C_NoShare] : List Addr)[c]? = some C := e
    match c, e with
    | 0, rfl => exact ⟨rfl, rfl⟩
    | c + 1, e => simp at e
  have F14 := fun_mk (st := topS 14) l14 c14 k14
  have b14 := F14.binds (ps := ["n", "d"]) fun _ _ _ _ _ _ us hl => match us, hl with | [_, _], _ => rfl
  have F16 := fun_mk (st := topS 16) l16 c16 k16
  have b16 := F16.binds (ps := ["script", "many"]) fun _ _ _ _ _ _ us hl => match us, hl with | [_, _], _ => rfl
  have F17 := fun_mk (st := topS 17) l17 c17 k17
  have b17 := F17.binds (ps := ["draws", "many"]) fun _ _ _ _ _ _ us hl => match us, hl with | [_, _], _ => rfl
  have F18 := fun_mk (st := topS 18) l18 c18 k18
  have b18 := F18.binds (ps := ["draws", "script"]) fun _ _ _ _ _ _ us hl => match us, hl with | [_, _], _ => rfl
  have F19 := fun_mk (st := topS 19) l19 c19 k19
  have b19 := F19.binds (ps := ["actual", "due"]) fun _ _ _ _ _ _ us hl => match us, hl with | [_, _], _ => rfl
  have F20 := fun_mk (st := topS 20) l20 c20 k20
  have b20 := F20.binds (ps := ["n", "d"]) fun _ _ _ _ _ _ us hl => match us, hl with | [_, _], _ => rfl
  have F21 := fun_mk (st := topS 21) l21 c21 k21
  have b21 := F21.binds (ps := ["script"]) fun _ _ _ _ _ _ us hl => match us, hl with | [_], _ => rfl
  have F22 := fun_mk (st := topS 22) l22 c22 k22
  have b22 := F22.binds (ps := ["draws", "script"]) fun _ _ _ _ _ _ us hl => match us, hl with | [_, _], _ => rfl
  have F23 := fun_mk (st := topS 23) l23 c23 k23
  have b23 := F23.binds (ps := ["n", "d"]) fun _ _ _ _ _ _ us hl => match us, hl with | [_, _], _ => rfl
  have F24 := fun_mk (st := topS 24) l24 c24 k24
  have b24 := F24.binds (ps := ["script"]) fun _ _ _ _ _ _ us hl => match us, hl with | [_], _ => rfl
  refine ⟨PySem.W.fnOf "law" "law" (defArgs (topS 24)) (defBody (topS 24)) (defScope (topS 24)) .none kV24 dc24 pm24 an24 cd24 ct24, fun s v => .of_eq rfl, fun base _ _ hN => ?_⟩
  have u_make_share : Use l.prog w K mg base (XRt xt) "make_share" ["n", "d"] 34 m_make_share := .mk' (ok_make_share F14 i_gcd x_NoShare hN hT) (PySem.W.mg_of X G a14) F14.kp b14
  have u__law_draws : Use l.prog w K mg base (XRt xt) "_law_draws" ["script", "many"] 1 m__law_draws := .mk' (ok__law_draws F16 z_int z_len z_list z_range) (PySem.W.mg_of X G a16) F16.kp b16
  have u__law_take : Use l.prog w K mg base (XRt xt) "_law_take" ["draws", "many"] 1 m__law_take := .mk' (ok__law_take F17 z_len z_int) (PySem.W.mg_of X G a17) F17.kp b17
  have u__law_size : Use l.prog w K mg base (XRt xt) "_law_size" ["draws", "script"] 2 m__law_size := .mk' (ok__law_size F18 z_len z_range z_int z_abs u__law_take) (PySem.W.mg_of X G a18) F18.kp b18
  have u__law_same : Use l.prog w K mg base (XRt xt) "_law_same" ["actual", "due"] 13 (m__law_same 12) := .mk' (ok__law_same F19 (PySem.W.mg_of X G a19) b19 z_isinstance z_tuple z_list z_len z_range z_bool z_int z_str 12) (PySem.W.mg_of X G a19) F19.kp b19
  have u__law_share : Use l.prog w K mg base (XRt xt) "_law_share" ["n", "d"] 1 m__law_share := .mk' (ok__law_share F20 z_range z_int) (PySem.W.mg_of X G a20) F20.kp b20
  have u__law_short : Use l.prog w K mg base (XRt xt) "_law_short" ["script"] 1 m__law_short := .mk' (ok__law_short F21 z_int) (PySem.W.mg_of X G a21) F21.kp b21
  have u__law_great_share : Use l.prog w K mg base (XRt xt) "_law_great_share" ["draws", "script"] 3 m__law_great_share := .mk' (ok__law_great_share F22 u__law_size u__law_take) (PySem.W.mg_of X G a22) F22.kp b22
  have u__law_told : Use l.prog w K mg base (XRt xt) "_law_told" ["n", "d"] 35 m__law_told := .mk' (ok__law_told F23 z_isinstance z_ValueError gC_NoShare gC_BadText gC_DoubleFact gC_NoChance gC_NoFact gC_NoKept gC_NoPlan gC_NoQuestion gC_NoRow gC_NoSchema gC_ChanceError EC_NoShare fx_NoShare_NoShare fa_NoShare_BadText_DoubleFact_NoChance_NoFact_NoKept_NoPlan_NoQuestion_NoRow_NoSchema fo_NoShare_ChanceError fo_NoShare_ValueError hxt u_make_share) (PySem.W.mg_of X G a23) F23.kp b23
  exact fnOk_T (XR := XRt xt) (ok_law F24 z_abs u__law_draws u__law_short u__law_size u__law_take u__law_share u__law_same u__law_told u__law_great_share)
end Law

set_option Elab.async false
set_option autoImplicit false
set_option linter.all false
set_option maxRecDepth 100000
set_option maxHeartbeats 4000000
namespace Law
open PySem Mir
local macro_rules | `(tactic| simp only [evA, $ts,*]) => `(tactic| simp (maxSteps := 100000000) only [$ts,*, big, wp_ok, wp_ex, wp_no, wp_bind, wp_sr, swp_nx, swp_rt, swp_bk, swp_ct, swp_ex, swp_no, wp_if, wp_nil, wp_break, wp_cont, wp_drop, wp_ret, wp_retN, wp_raise, wp_set, wp_asg, wp_par, wp_aug, wp_store, wp_call, wp_mte, wp_mtru, wp_tnot, wp_tand, wp_tor, wp_andV, wp_orV, wp_notV, wp_neg, wp_mif, wp_res, wp_bin, wp_binT, wp_cons, wp_mnil, wp_c, wp_var, wp_fn, wp_tup, wp_lst, wp_bits, wp_pop, wp_mut, wp_sl, wp_onone, wp_osome, wp_isi, wp_isi2, wp_chain, wp_seqI, wp_rng1, wp_for, wp_lc, wp_tyes, opt_some, opt_none, add_int, addI_int, sub_int, mul_int, div_int, mod_int, pow_int, eq_int, ne_int, eq_bl, ne_bl, eq_str, ne_str, lt_int, le_int, gt_int, ge_int, is_non, isnot_non, ix_lst, ix_tup, len_lst, len_tup, int_int, abs_int, list_lst, list_tup, tuple_lst, tuple_tup, gcd_int, nb_no, nb_va, nb_ow, nb_sc, stOk_eq, append_one, reverse_nil, peek, peekT, peeks, esc, escs, stV, put, argSl, argsSl, uniqBo, isBo, posBo, wb, wb1_eq, wb2, bor, unb, gN, gT, gsCons, gsNil, finD, wipeG, backG, notHd, Sl.hd, endK, List.getElem?_cons_zero, List.getElem?_cons_succ, List.set_cons_zero, List.set_cons_succ, List.all_cons, List.all_nil, List.any_cons, List.any_nil, List.length_cons, List.length_nil, Nat.reduceAdd, Nat.reduceLeDiff, Nat.reduceBEq, Nat.reduceEqDiff, Bool.false_eq_true, Bool.not_true, Bool.not_false, Bool.and_true, Bool.true_and, Bool.or_false, Bool.and_self, Bool.or_self, Bool.and_false, Bool.false_and, Bool.or_true, Bool.true_or, ↓reduceIte, if_true, if_false, decide_eq_true_eq, decide_true, decide_false, Bool.not_eq_true', decide_eq_false_iff_not, Option.map_some, Option.map_none, Option.bind_some, List.getD_cons_zero, List.getD_cons_succ, List.contains_cons, List.contains_nil, List.elem_cons, List.elem_nil, beq_self_eq_true, Option.getD_some, true_and, and_true, Int.reduceLT, Int.reduceLE, Int.reduceNeg, isi_non_int, isi_non_str, isi_non_bool, isi_non_tuple, isi_non_list, isi_bl_int, isi_bl_str, isi_bl_bool, isi_bl_tuple, isi_bl_list, isi_int_int, isi_int_str, isi_int_bool, isi_int_tuple, isi_int_list, isi_str_int, isi_str_str, isi_str_bool, isi_str_tuple, isi_str_list, isi_tup_int, isi_tup_str, isi_tup_bool, isi_tup_tuple, isi_tup_list, isi_lst_int, isi_lst_str, isi_lst_bool, isi_lst_tuple, isi_lst_list, isN_non, isN_bl, isN_int, isN_str, isN_tup, isN_lst, eq_non, ne_eq, not_true_eq_false, not_false_eq_true, atI_0, atI_1, atI_2, backK_va, backK_ow, isPl_non, isPl_bl, isPl_int, isPl_str, isPl_tup, isPl_lst, backK_owc, nb_owc, Ct.data])
local macro_rules | `(tactic| simp only [evA]) => `(tactic| simp (maxSteps := 100000000) only [big, wp_ok, wp_ex, wp_no, wp_bind, wp_sr, swp_nx, swp_rt, swp_bk, swp_ct, swp_ex, swp_no, wp_if, wp_nil, wp_break, wp_cont, wp_drop, wp_ret, wp_retN, wp_raise, wp_set, wp_asg, wp_par, wp_aug, wp_store, wp_call, wp_mte, wp_mtru, wp_tnot, wp_tand, wp_tor, wp_andV, wp_orV, wp_notV, wp_neg, wp_mif, wp_res, wp_bin, wp_binT, wp_cons, wp_mnil, wp_c, wp_var, wp_fn, wp_tup, wp_lst, wp_bits, wp_pop, wp_mut, wp_sl, wp_onone, wp_osome, wp_isi, wp_isi2, wp_chain, wp_seqI, wp_rng1, wp_for, wp_lc, wp_tyes, opt_some, opt_none, add_int, addI_int, sub_int, mul_int, div_int, mod_int, pow_int, eq_int, ne_int, eq_bl, ne_bl, eq_str, ne_str, lt_int, le_int, gt_int, ge_int, is_non, isnot_non, ix_lst, ix_tup, len_lst, len_tup, int_int, abs_int, list_lst, list_tup, tuple_lst, tuple_tup, gcd_int, nb_no, nb_va, nb_ow, nb_sc, stOk_eq, append_one, reverse_nil, peek, peekT, peeks, esc, escs, stV, put, argSl, argsSl, uniqBo, isBo, posBo, wb, wb1_eq, wb2, bor, unb, gN, gT, gsCons, gsNil, finD, wipeG, backG, notHd, Sl.hd, endK, List.getElem?_cons_zero, List.getElem?_cons_succ, List.set_cons_zero, List.set_cons_succ, List.all_cons, List.all_nil, List.any_cons, List.any_nil, List.length_cons, List.length_nil, Nat.reduceAdd, Nat.reduceLeDiff, Nat.reduceBEq, Nat.reduceEqDiff, Bool.false_eq_true, Bool.not_true, Bool.not_false, Bool.and_true, Bool.true_and, Bool.or_false, Bool.and_self, Bool.or_self, Bool.and_false, Bool.false_and, Bool.or_true, Bool.true_or, ↓reduceIte, if_true, if_false, decide_eq_true_eq, decide_true, decide_false, Bool.not_eq_true', decide_eq_false_iff_not, Option.map_some, Option.map_none, Option.bind_some, List.getD_cons_zero, List.getD_cons_succ, List.contains_cons, List.contains_nil, List.elem_cons, List.elem_nil, beq_self_eq_true, Option.getD_some, true_and, and_true, Int.reduceLT, Int.reduceLE, Int.reduceNeg, isi_non_int, isi_non_str, isi_non_bool, isi_non_tuple, isi_non_list, isi_bl_int, isi_bl_str, isi_bl_bool, isi_bl_tuple, isi_bl_list, isi_int_int, isi_int_str, isi_int_bool, isi_int_tuple, isi_int_list, isi_str_int, isi_str_str, isi_str_bool, isi_str_tuple, isi_str_list, isi_tup_int, isi_tup_str, isi_tup_bool, isi_tup_tuple, isi_tup_list, isi_lst_int, isi_lst_str, isi_lst_bool, isi_lst_tuple, isi_lst_list, isN_non, isN_bl, isN_int, isN_str, isN_tup, isN_lst, eq_non, ne_eq, not_true_eq_false, not_false_eq_true, atI_0, atI_1, atI_2, backK_va, backK_ow, isPl_non, isPl_bl, isPl_int, isPl_str, isPl_tup, isPl_lst, backK_owc, nb_owc, Ct.data])
/-- draws: ints from 0 -/
def Dr (ds : List D) : Prop := ∀ d ∈ ds, ∃ n : Nat, d = .int n
theorem take_wp {ds : List D} {many : Int} {Q : RV → List Sl → Prop} {E : Nat → List D → List Sl → Prop} (hD : Dr ds) (hm : 0 < many) (k : ∀ (r : Int) (es : List D), 0 ≤ r → r < many → Dr es → Q (.va (.int r)) [.ow es, .va (.int many)]) :
    (m__law_take [.ow ds, .va (.int many)]).wp Q E := by
  refine def_wp rfl ?_
  show (b__law_take [.ow ds, .va (.int many)]).wp _
  unfold b__law_take
  refine seq_wp fun R hR => ?_; simp only [evA]
  split
  · exact k 0 ds (by decide) hm hD
  · rename_i hne
    refine hR _ ?_; clear hR R
    simp only [evA]
    have hne' : ds ≠ [] := fun z => hne (by rw [z]; rfl)
    rw [List.getLast?_eq_some_getLast hne']
    obtain ⟨n, en⟩ := hD _ (List.getLast_mem hne')
    rw [en]
    simp only [evA]
    exact ⟨hm, k _ _ (Int.emod_nonneg _ (by omega)) (Int.emod_lt_of_pos _ hm) fun d hd => hD d (List.dropLast_subset _ hd)⟩
theorem size_wp {ds : List D} {ns : List Int} {B : Int} {s1 : Sl} {Q : RV → List Sl → Prop} {E : Nat → List D → List Sl → Prop} (hD : Dr ds) (hs : s1 = .sc ns ∨ s1 = .ow (ns.map .int)) (hB : 1000000000000000 ≤ B) (hn : ∀ z ∈ ns, -B < z ∧ z < B)
    (k : ∀ (r : Int) (es : List D), 0 ≤ r → r < B → Dr es → Q (.va (.int r)) [.ow es, s1]) :
    (m__law_size [.ow ds, s1]).wp Q E := by
  rcases hs with rfl | rfl
  all_goals
    refine def_wp rfl ?_
    refine (show (b__law_size [.ow ds, _, .no, .no, .no]).wp _ from ?_)
    unfold b__law_size
    refine seq_wp fun R hR => ?_; simp only [evA]
    refine take_wp hD (by decide) fun r es h0 h1 hE => ?_
    simp only [evA]
    refine hR _ ?_; clear hR R
    refine seq_wp fun R hR => ?_; simp only [evA]
    split
    · refine take_wp hE (by decide) fun r2 es2 g0 g1 hE2 => ?_
      simp only [evA]
      exact k _ _ g0 (by omega) hE2
    refine hR _ ?_; clear hR R
    refine seq_wp fun R hR => ?_; simp only [evA]
    split
    · refine take_wp hE (by decide) fun r2 es2 g0 g1 hE2 => ?_
      simp only [evA]
      exact k _ _ g0 (by omega) hE2
    refine hR _ ?_; clear hR R
    refine seq_wp fun R hR => ?_; simp only [evA]
    split
    · refine seq_wp fun R hR => ?_; simp only [evA]
      refine hR _ ?_; clear hR R
      refine seq_wp fun R hR => ?_; simp only [evA]
      refine loop_wp (fun (rest : List D) Γ => ∃ (es : List D) (num : Int) (s4 : Sl), Γ = [.ow es, _, .va (.int r), .va (.int num), s4] ∧ nb s4 = true ∧ Dr es ∧ 0 ≤ num ∧ (num + 1) * 1000 ^ rest.length ≤ 1000 ^ 5) ⟨es, 0, _, rfl, rfl, hE, by decide, by decide⟩ ?_ ?_
      · rintro d rest _ ⟨es, num, s4, rfl, n4, hE, p0, p1⟩
        simp (maxSteps := 100000000) only [big, wp_ok, wp_ex, wp_no, wp_bind, wp_sr, swp_nx, swp_rt, swp_bk, swp_ct, swp_ex, swp_no, wp_if, wp_nil, wp_break, wp_cont, wp_drop, wp_ret, wp_retN, wp_raise, wp_set, wp_asg, wp_par, wp_aug, wp_store, wp_call, wp_mte, wp_mtru, wp_tnot, wp_tand, wp_tor, wp_andV, wp_orV, wp_notV, wp_neg, wp_mif, wp_res, wp_bin, wp_binT, wp_cons, wp_mnil, wp_c, wp_var, wp_fn, wp_tup, wp_lst, wp_bits, wp_pop, wp_mut, wp_sl, wp_onone, wp_osome, wp_isi, wp_isi2, wp_chain, wp_seqI, wp_rng1, wp_for, wp_lc, wp_tyes, opt_some, opt_none, add_int, addI_int, sub_int, mul_int, div_int, mod_int, pow_int, eq_int, ne_int, eq_bl, ne_bl, eq_str, ne_str, lt_int, le_int, gt_int, ge_int, is_non, isnot_non, ix_lst, ix_tup, len_lst, len_tup, int_int, abs_int, list_lst, list_tup, tuple_lst, tuple_tup, gcd_int, nb_no, nb_va, nb_ow, nb_sc, stOk_eq, append_one, reverse_nil, peek, peekT, peeks, esc, escs, stV, put, argSl, argsSl, uniqBo, isBo, posBo, wb, wb1_eq, wb2, bor, unb, gN, gT, gsCons, gsNil, finD, wipeG, backG, notHd, Sl.hd, endK, List.getElem?_cons_zero, List.getElem?_cons_succ, List.set_cons_zero, List.set_cons_succ, List.all_cons, List.all_nil, List.any_cons, List.any_nil, List.length_cons, List.length_nil, Nat.reduceAdd, Nat.reduceLeDiff, Nat.reduceBEq, Nat.reduceEqDiff, Bool.false_eq_true, Bool.not_true, Bool.not_false, Bool.and_true, Bool.true_and, Bool.or_false, Bool.and_self, Bool.or_self, Bool.and_false, Bool.false_and, Bool.or_true, Bool.true_or, ↓reduceIte, if_true, if_false, decide_eq_true_eq, decide_true, decide_false, Bool.not_eq_true', decide_eq_false_iff_not, Option.map_some, Option.map_none, Option.bind_some, List.getD_cons_zero, List.getD_cons_succ, List.contains_cons, List.contains_nil, List.elem_cons, List.elem_nil, beq_self_eq_true, Option.getD_some, true_and, and_true, Int.reduceLT, Int.reduceLE, Int.reduceNeg, isi_non_int, isi_non_str, isi_non_bool, isi_non_tuple, isi_non_list, isi_bl_int, isi_bl_str, isi_bl_bool, isi_bl_tuple, isi_bl_list, isi_int_int, isi_int_str, isi_int_bool, isi_int_tuple, isi_int_list, isi_str_int, isi_str_str, isi_str_bool, isi_str_tuple, isi_str_list, isi_tup_int, isi_tup_str, isi_tup_bool, isi_tup_tuple, isi_tup_list, isi_lst_int, isi_lst_str, isi_lst_bool, isi_lst_tuple, isi_lst_list, isN_non, isN_bl, isN_int, isN_str, isN_tup, isN_lst, eq_non, ne_eq, not_true_eq_false, not_false_eq_true, atI_0, atI_1, atI_2, backK_va, backK_ow, isPl_non, isPl_bl, isPl_int, isPl_str, isPl_tup, isPl_lst, backK_owc, nb_owc, Ct.data, n4]
        have pw : 1000 ^ rest.length > (0 : Int) := Int.pow_pos (by decide)
        have p2 : num + 1 ≤ 1000 ^ 5 := by
          rw [List.length_cons, Int.pow_succ] at p1
          have q : (num + 1) * 1 ≤ (num + 1) * (1000 ^ rest.length * 1000) := Int.mul_le_mul_of_nonneg_left (by omega) (by omega)
          rw [Int.mul_one] at q
          exact Int.le_trans q p1
        refine ⟨by
          have := bits_lt (z := num) (m := 50) (by omega) (by omega)
          have : PySem.Builtin.Int.intBits 1000 = 10 := by decide
          omega, ?_⟩
        refine take_wp hE (by decide) fun r2 es2 g0 g1 hE2 => ?_
        simp only [evA]
        refine ⟨es2, _, _, rfl, rfl, hE2, by omega, ?_⟩
        rw [List.length_cons, Int.pow_succ] at p1
        refine Int.le_trans ?_ p1
        rw [show (num + 1) * (1000 ^ rest.length * 1000) = ((num + 1) * 1000) * 1000 ^ rest.length by rw [Int.mul_comm (1000 ^ rest.length) 1000, Int.mul_assoc]]
        exact Int.mul_le_mul_of_nonneg_right (by omega) (by omega)
      · rintro _ ⟨es, num, s4, rfl, n4, hE, p0, p1⟩
        refine hR _ ?_; clear hR R
        simp only [evA]
        simp only [List.length_nil, Int.pow_zero, Int.mul_one] at p1
        exact k _ _ p0 (by omega) hE
    split
    · refine seq_wp fun R hR => ?_; simp only [evA]
      refine hR _ ?_; clear hR R
      refine seq_wp fun R hR => ?_; simp only [evA]
      refine loop_wp (fun (rest : List D) Γ => ∃ (es : List D) (num : Int) (s4 : Sl), Γ = [.ow es, _, .va (.int r), .va (.int num), s4] ∧ nb s4 = true ∧ Dr es ∧ 0 ≤ num ∧ (num + 1) * 1000 ^ rest.length ≤ 1000 ^ 5) ⟨es, 0, _, rfl, rfl, hE, by decide, by decide⟩ ?_ ?_
      · rintro d rest _ ⟨es, num, s4, rfl, n4, hE, p0, p1⟩
        simp (maxSteps := 100000000) only [big, wp_ok, wp_ex, wp_no, wp_bind, wp_sr, swp_nx, swp_rt, swp_bk, swp_ct, swp_ex, swp_no, wp_if, wp_nil, wp_break, wp_cont, wp_drop, wp_ret, wp_retN, wp_raise, wp_set, wp_asg, wp_par, wp_aug, wp_store, wp_call, wp_mte, wp_mtru, wp_tnot, wp_tand, wp_tor, wp_andV, wp_orV, wp_notV, wp_neg, wp_mif, wp_res, wp_bin, wp_binT, wp_cons, wp_mnil, wp_c, wp_var, wp_fn, wp_tup, wp_lst, wp_bits, wp_pop, wp_mut, wp_sl, wp_onone, wp_osome, wp_isi, wp_isi2, wp_chain, wp_seqI, wp_rng1, wp_for, wp_lc, wp_tyes, opt_some, opt_none, add_int, addI_int, sub_int, mul_int, div_int, mod_int, pow_int, eq_int, ne_int, eq_bl, ne_bl, eq_str, ne_str, lt_int, le_int, gt_int, ge_int, is_non, isnot_non, ix_lst, ix_tup, len_lst, len_tup, int_int, abs_int, list_lst, list_tup, tuple_lst, tuple_tup, gcd_int, nb_no, nb_va, nb_ow, nb_sc, stOk_eq, append_one, reverse_nil, peek, peekT, peeks, esc, escs, stV, put, argSl, argsSl, uniqBo, isBo, posBo, wb, wb1_eq, wb2, bor, unb, gN, gT, gsCons, gsNil, finD, wipeG, backG, notHd, Sl.hd, endK, List.getElem?_cons_zero, List.getElem?_cons_succ, List.set_cons_zero, List.set_cons_succ, List.all_cons, List.all_nil, List.any_cons, List.any_nil, List.length_cons, List.length_nil, Nat.reduceAdd, Nat.reduceLeDiff, Nat.reduceBEq, Nat.reduceEqDiff, Bool.false_eq_true, Bool.not_true, Bool.not_false, Bool.and_true, Bool.true_and, Bool.or_false, Bool.and_self, Bool.or_self, Bool.and_false, Bool.false_and, Bool.or_true, Bool.true_or, ↓reduceIte, if_true, if_false, decide_eq_true_eq, decide_true, decide_false, Bool.not_eq_true', decide_eq_false_iff_not, Option.map_some, Option.map_none, Option.bind_some, List.getD_cons_zero, List.getD_cons_succ, List.contains_cons, List.contains_nil, List.elem_cons, List.elem_nil, beq_self_eq_true, Option.getD_some, true_and, and_true, Int.reduceLT, Int.reduceLE, Int.reduceNeg, isi_non_int, isi_non_str, isi_non_bool, isi_non_tuple, isi_non_list, isi_bl_int, isi_bl_str, isi_bl_bool, isi_bl_tuple, isi_bl_list, isi_int_int, isi_int_str, isi_int_bool, isi_int_tuple, isi_int_list, isi_str_int, isi_str_str, isi_str_bool, isi_str_tuple, isi_str_list, isi_tup_int, isi_tup_str, isi_tup_bool, isi_tup_tuple, isi_tup_list, isi_lst_int, isi_lst_str, isi_lst_bool, isi_lst_tuple, isi_lst_list, isN_non, isN_bl, isN_int, isN_str, isN_tup, isN_lst, eq_non, ne_eq, not_true_eq_false, not_false_eq_true, atI_0, atI_1, atI_2, backK_va, backK_ow, isPl_non, isPl_bl, isPl_int, isPl_str, isPl_tup, isPl_lst, backK_owc, nb_owc, Ct.data, n4]
        have pw : 1000 ^ rest.length > (0 : Int) := Int.pow_pos (by decide)
        have p2 : num + 1 ≤ 1000 ^ 5 := by
          rw [List.length_cons, Int.pow_succ] at p1
          have q : (num + 1) * 1 ≤ (num + 1) * (1000 ^ rest.length * 1000) := Int.mul_le_mul_of_nonneg_left (by omega) (by omega)
          rw [Int.mul_one] at q
          exact Int.le_trans q p1
        refine ⟨by
          have := bits_lt (z := num) (m := 50) (by omega) (by omega)
          have : PySem.Builtin.Int.intBits 1000 = 10 := by decide
          omega, ?_⟩
        refine take_wp hE (by decide) fun r2 es2 g0 g1 hE2 => ?_
        simp only [evA]
        refine ⟨es2, _, _, rfl, rfl, hE2, by omega, ?_⟩
        rw [List.length_cons, Int.pow_succ] at p1
        refine Int.le_trans ?_ p1
        rw [show (num + 1) * (1000 ^ rest.length * 1000) = ((num + 1) * 1000) * 1000 ^ rest.length by rw [Int.mul_comm (1000 ^ rest.length) 1000, Int.mul_assoc]]
        exact Int.mul_le_mul_of_nonneg_right (by omega) (by omega)
      · rintro _ ⟨es, num, s4, rfl, n4, hE, p0, p1⟩
        refine hR _ ?_; clear hR R
        simp only [evA]
        simp only [List.length_nil, Int.pow_zero, Int.mul_one] at p1
        exact k _ _ p0 (by omega) hE
    rename_i hlen
    refine hR _ ?_; clear hR R
    simp only [evA]
    have hl : 0 < ((ns.map D.int).length : Int) := by omega
    refine take_wp hE hl fun r2 es2 g0 g1 hE2 => ?_
    simp only [evA]
    obtain ⟨d, ed, hd⟩ := atI_of g0 g1
    rw [ed]
    obtain ⟨z, hz, rfl⟩ := List.mem_map.mp hd
    simp only [evA]
    have := hn z hz
    refine k _ _ ?_ ?_ hE2 <;> split <;> omega
theorem mapI {cs : List Int} {i : Int} (h0 : 0 ≤ i) (h1 : i < cs.length) : ∃ z ∈ cs, L2.atI (cs.map D.int) i = some (.int z) := by
  obtain ⟨n, rfl⟩ := Int.eq_ofNat_of_zero_le h0
  have hn : n < cs.length := by omega
  refine ⟨cs[n], List.getElem_mem hn, L2.atI_nat ?_⟩
  rw [List.getElem?_map, List.getElem?_eq_getElem hn]
  rfl
theorem Dr.app {ds : List D} {z : Int} (h : Dr ds) (hz : 0 ≤ z) : Dr (ds ++ [.int z]) := fun d hd => by
  rcases List.mem_append.mp hd with hd | hd
  · exact h d hd
  · obtain ⟨n, rfl⟩ := Int.eq_ofNat_of_zero_le hz
    exact ⟨n, List.mem_singleton.mp hd⟩
theorem Dr.rev {ds : List D} (h : Dr ds) : Dr ds.reverse := fun d hd => h d (List.mem_reverse.mp hd)
theorem draws_wp {ns : List Int} {many : Int} {Q : RV → List Sl → Prop} {E : Nat → List D → List Sl → Prop} (hl : ns.length ≤ 63) (hb : ∀ z ∈ ns, PySem.Builtin.Int.intBits z ≤ 1048576) (h0 : 0 ≤ many) (h1 : many ≤ 1000)
    (k : ∀ es, Dr es → Q (.ow es) [.sc ns, .va (.int many)]) : (m__law_draws [.sc ns, .va (.int many)]).wp Q E := by
  refine def_wp rfl ?_
  show (b__law_draws [.sc ns, .va (.int many), .no, .no, .no, .no, .no, .no, .no]).wp _
  unfold b__law_draws
  refine seq_wp fun R hR => ?_; simp only [evA]
  refine lc_wp (fun rest acc Γ => Γ = [.sc ns, .va (.int many), .no, .no, .no, .no, .no, .no, .no] ∧ ∃ dn rem : List Int, acc = dn.map D.int ∧ rest = rem.map D.int ∧ dn ++ rem = ns) ⟨rfl, [], ns, rfl, rfl, rfl⟩ ?_ ?_
  · rintro d rest _ _ ⟨rfl, dn, rem, rfl, h, e⟩
    cases rem with
    | nil => cases h
    | cons z rem =>
      cases h
      simp only [evA]
      refine ⟨?_, dn ++ [z], rem, by simp, rfl, by simp [e]⟩
      have : (dn ++ z :: rem).length ≤ 63 := by rw [e]; exact hl
      rw [List.length_append, List.length_cons] at this
      rw [List.length_map]
      show dn.length < 16777216
      omega
  rintro _ _ ⟨rfl, dn, rem, rfl, h, e⟩
  cases rem with
  | cons => cases h
  | nil =>
  rw [List.append_nil] at e
  subst e
  simp only [evA]
  refine hR _ ?_; clear hR R
  -- at least one cell
  refine seq_wp fun R hR => ?_
  have hR : ∀ cs : List Int, cs ≠ [] → cs.length ≤ 63 → (∀ z ∈ cs, PySem.Builtin.Int.intBits z ≤ 1048576) → R [.sc dn, .va (.int many), .ow (cs.map .int), .no, .no, .no, .no, .no, .no] := fun cs c0 c1 c2 => by
    refine hR _ ?_
    clear hR R
    refine seq_wp fun R hR => ?_; simp only [evA]
    refine hR _ ?_; clear hR R
    refine seq_wp fun R hR => ?_; simp only [evA]
    refine hR _ ?_; clear hR R
    refine seq_wp fun R hR => ?_
    simp only [wp_for, wp_rng1, wp_var, List.getElem?_cons_zero, List.getElem?_cons_succ, opt_some]
    refine ⟨by omega, ?_⟩
    have pl : 0 < (cs.length : Int) := by
      cases cs with
      | nil => exact absurd rfl c0
      | cons => simp only [List.length_cons]; omega
    refine loop_wp (fun (rest : List D) Γ => ∃ (rs : List Int) (ds : List D) (s5 s6 s7 : Sl), Γ = [.sc dn, .va (.int many), .ow (cs.map .int), .ow (rs.map .int), .ow ds, s5, s6, s7, .no] ∧ nb s5 = true ∧ nb s6 = true ∧ nb s7 = true ∧ rs.length = cs.length ∧ Dr ds ∧
        (∀ d ∈ rest, ∃ k : Int, d = .int k ∧ 0 ≤ k ∧ k < 1000) ∧ ds.length + rest.length ≤ 1000) ⟨cs, [], _, _, _, rfl, rfl, rfl, rfl, rfl, fun d hd => (nomatch hd), fun d hd => ?_, ?_⟩ ?_ ?_
    · obtain ⟨j, hj, rfl⟩ := List.mem_map.mp hd
      have := List.mem_range.mp hj
      exact ⟨_, rfl, by omega, by omega⟩
    · rw [rngD, List.length_map, List.length_range, List.length_nil]
      omega
    · rintro d rest _ ⟨rs, ds, s5, s6, s7, rfl, n5, n6, n7, hrs, hD, hr, hlen⟩
      obtain ⟨k, rfl, k0, k1⟩ := hr d List.mem_cons_self
      rw [List.length_cons] at hlen
      have hr' : ∀ d ∈ rest, ∃ k : Int, d = .int k ∧ 0 ≤ k ∧ k < 1000 := fun d hd => hr d (List.mem_cons_of_mem _ hd)
      simp (maxSteps := 100000000) only [big, wp_ok, wp_ex, wp_no, wp_bind, wp_sr, swp_nx, swp_rt, swp_bk, swp_ct, swp_ex, swp_no, wp_if, wp_nil, wp_break, wp_cont, wp_drop, wp_ret, wp_retN, wp_raise, wp_set, wp_asg, wp_par, wp_aug, wp_store, wp_call, wp_mte, wp_mtru, wp_tnot, wp_tand, wp_tor, wp_andV, wp_orV, wp_notV, wp_neg, wp_mif, wp_res, wp_bin, wp_binT, wp_cons, wp_mnil, wp_c, wp_var, wp_fn, wp_tup, wp_lst, wp_bits, wp_pop, wp_mut, wp_sl, wp_onone, wp_osome, wp_isi, wp_isi2, wp_chain, wp_seqI, wp_rng1, wp_for, wp_lc, wp_tyes, opt_some, opt_none, add_int, addI_int, sub_int, mul_int, div_int, mod_int, pow_int, eq_int, ne_int, eq_bl, ne_bl, eq_str, ne_str, lt_int, le_int, gt_int, ge_int, is_non, isnot_non, ix_lst, ix_tup, len_lst, len_tup, int_int, abs_int, list_lst, list_tup, tuple_lst, tuple_tup, gcd_int, nb_no, nb_va, nb_ow, nb_sc, stOk_eq, append_one, reverse_nil, peek, peekT, peeks, esc, escs, stV, put, argSl, argsSl, uniqBo, isBo, posBo, wb, wb1_eq, wb2, bor, unb, gN, gT, gsCons, gsNil, finD, wipeG, backG, notHd, Sl.hd, endK, List.getElem?_cons_zero, List.getElem?_cons_succ, List.set_cons_zero, List.set_cons_succ, List.all_cons, List.all_nil, List.any_cons, List.any_nil, List.length_cons, List.length_nil, Nat.reduceAdd, Nat.reduceLeDiff, Nat.reduceBEq, Nat.reduceEqDiff, Bool.false_eq_true, Bool.not_true, Bool.not_false, Bool.and_true, Bool.true_and, Bool.or_false, Bool.and_self, Bool.or_self, Bool.and_false, Bool.false_and, Bool.or_true, Bool.true_or, ↓reduceIte, if_true, if_false, decide_eq_true_eq, decide_true, decide_false, Bool.not_eq_true', decide_eq_false_iff_not, Option.map_some, Option.map_none, Option.bind_some, List.getD_cons_zero, List.getD_cons_succ, List.contains_cons, List.contains_nil, List.elem_cons, List.elem_nil, beq_self_eq_true, Option.getD_some, true_and, and_true, Int.reduceLT, Int.reduceLE, Int.reduceNeg, isi_non_int, isi_non_str, isi_non_bool, isi_non_tuple, isi_non_list, isi_bl_int, isi_bl_str, isi_bl_bool, isi_bl_tuple, isi_bl_list, isi_int_int, isi_int_str, isi_int_bool, isi_int_tuple, isi_int_list, isi_str_int, isi_str_str, isi_str_bool, isi_str_tuple, isi_str_list, isi_tup_int, isi_tup_str, isi_tup_bool, isi_tup_tuple, isi_tup_list, isi_lst_int, isi_lst_str, isi_lst_bool, isi_lst_tuple, isi_lst_list, isN_non, isN_bl, isN_int, isN_str, isN_tup, isN_lst, eq_non, ne_eq, not_true_eq_false, not_false_eq_true, atI_0, atI_1, atI_2, backK_va, backK_ow, isPl_non, isPl_bl, isPl_int, isPl_str, isPl_tup, isPl_lst, backK_owc, nb_owc, Ct.data, n5]
      refine seq_wp fun R hR => ?_; simp only [evA]
      simp only [evA, List.length_map, n6]
      refine ⟨pl, hR _ ?_⟩
      clear hR R
      have a0 : 0 ≤ k % cs.length := Int.emod_nonneg _ (by omega)
      have a1 : k % cs.length < cs.length := Int.emod_lt_of_pos _ pl
      obtain ⟨c, hc, ec⟩ := mapI a0 a1
      obtain ⟨z, hz, ez⟩ := mapI (cs := rs) a0 (by omega)
      simp (maxSteps := 100000000) only [big, wp_ok, wp_ex, wp_no, wp_bind, wp_sr, swp_nx, swp_rt, swp_bk, swp_ct, swp_ex, swp_no, wp_if, wp_nil, wp_break, wp_cont, wp_drop, wp_ret, wp_retN, wp_raise, wp_set, wp_asg, wp_par, wp_aug, wp_store, wp_call, wp_mte, wp_mtru, wp_tnot, wp_tand, wp_tor, wp_andV, wp_orV, wp_notV, wp_neg, wp_mif, wp_res, wp_bin, wp_binT, wp_cons, wp_mnil, wp_c, wp_var, wp_fn, wp_tup, wp_lst, wp_bits, wp_pop, wp_mut, wp_sl, wp_onone, wp_osome, wp_isi, wp_isi2, wp_chain, wp_seqI, wp_rng1, wp_for, wp_lc, wp_tyes, opt_some, opt_none, add_int, addI_int, sub_int, mul_int, div_int, mod_int, pow_int, eq_int, ne_int, eq_bl, ne_bl, eq_str, ne_str, lt_int, le_int, gt_int, ge_int, is_non, isnot_non, ix_lst, ix_tup, len_lst, len_tup, int_int, abs_int, list_lst, list_tup, tuple_lst, tuple_tup, gcd_int, nb_no, nb_va, nb_ow, nb_sc, stOk_eq, append_one, reverse_nil, peek, peekT, peeks, esc, escs, stV, put, argSl, argsSl, uniqBo, isBo, posBo, wb, wb1_eq, wb2, bor, unb, gN, gT, gsCons, gsNil, finD, wipeG, backG, notHd, Sl.hd, endK, List.getElem?_cons_zero, List.getElem?_cons_succ, List.set_cons_zero, List.set_cons_succ, List.all_cons, List.all_nil, List.any_cons, List.any_nil, List.length_cons, List.length_nil, Nat.reduceAdd, Nat.reduceLeDiff, Nat.reduceBEq, Nat.reduceEqDiff, Bool.false_eq_true, Bool.not_true, Bool.not_false, Bool.and_true, Bool.true_and, Bool.or_false, Bool.and_self, Bool.or_self, Bool.and_false, Bool.false_and, Bool.or_true, Bool.true_or, ↓reduceIte, if_true, if_false, decide_eq_true_eq, decide_true, decide_false, Bool.not_eq_true', decide_eq_false_iff_not, Option.map_some, Option.map_none, Option.bind_some, List.getD_cons_zero, List.getD_cons_succ, List.contains_cons, List.contains_nil, List.elem_cons, List.elem_nil, beq_self_eq_true, Option.getD_some, true_and, and_true, Int.reduceLT, Int.reduceLE, Int.reduceNeg, isi_non_int, isi_non_str, isi_non_bool, isi_non_tuple, isi_non_list, isi_bl_int, isi_bl_str, isi_bl_bool, isi_bl_tuple, isi_bl_list, isi_int_int, isi_int_str, isi_int_bool, isi_int_tuple, isi_int_list, isi_str_int, isi_str_str, isi_str_bool, isi_str_tuple, isi_str_list, isi_tup_int, isi_tup_str, isi_tup_bool, isi_tup_tuple, isi_tup_list, isi_lst_int, isi_lst_str, isi_lst_bool, isi_lst_tuple, isi_lst_list, isN_non, isN_bl, isN_int, isN_str, isN_tup, isN_lst, eq_non, ne_eq, not_true_eq_false, not_false_eq_true, atI_0, atI_1, atI_2, backK_va, backK_ow, isPl_non, isPl_bl, isPl_int, isPl_str, isPl_tup, isPl_lst, backK_owc, nb_owc, Ct.data, ec]
      refine ⟨by decide, ?_⟩
      split
      · refine seq_wp fun R hR => ?_; simp only [evA]
        simp only [evA, ez]
        refine ⟨by omega, ?_⟩
        refine hR _ ?_; clear hR R
        simp (maxSteps := 100000000) only [big, wp_ok, wp_ex, wp_no, wp_bind, wp_sr, swp_nx, swp_rt, swp_bk, swp_ct, swp_ex, swp_no, wp_if, wp_nil, wp_break, wp_cont, wp_drop, wp_ret, wp_retN, wp_raise, wp_set, wp_asg, wp_par, wp_aug, wp_store, wp_call, wp_mte, wp_mtru, wp_tnot, wp_tand, wp_tor, wp_andV, wp_orV, wp_notV, wp_neg, wp_mif, wp_res, wp_bin, wp_binT, wp_cons, wp_mnil, wp_c, wp_var, wp_fn, wp_tup, wp_lst, wp_bits, wp_pop, wp_mut, wp_sl, wp_onone, wp_osome, wp_isi, wp_isi2, wp_chain, wp_seqI, wp_rng1, wp_for, wp_lc, wp_tyes, opt_some, opt_none, add_int, addI_int, sub_int, mul_int, div_int, mod_int, pow_int, eq_int, ne_int, eq_bl, ne_bl, eq_str, ne_str, lt_int, le_int, gt_int, ge_int, is_non, isnot_non, ix_lst, ix_tup, len_lst, len_tup, int_int, abs_int, list_lst, list_tup, tuple_lst, tuple_tup, gcd_int, nb_no, nb_va, nb_ow, nb_sc, stOk_eq, append_one, reverse_nil, peek, peekT, peeks, esc, escs, stV, put, argSl, argsSl, uniqBo, isBo, posBo, wb, wb1_eq, wb2, bor, unb, gN, gT, gsCons, gsNil, finD, wipeG, backG, notHd, Sl.hd, endK, List.getElem?_cons_zero, List.getElem?_cons_succ, List.set_cons_zero, List.set_cons_succ, List.all_cons, List.all_nil, List.any_cons, List.any_nil, List.length_cons, List.length_nil, Nat.reduceAdd, Nat.reduceLeDiff, Nat.reduceBEq, Nat.reduceEqDiff, Bool.false_eq_true, Bool.not_true, Bool.not_false, Bool.and_true, Bool.true_and, Bool.or_false, Bool.and_self, Bool.or_self, Bool.and_false, Bool.false_and, Bool.or_true, Bool.true_or, ↓reduceIte, if_true, if_false, decide_eq_true_eq, decide_true, decide_false, Bool.not_eq_true', decide_eq_false_iff_not, Option.map_some, Option.map_none, Option.bind_some, List.getD_cons_zero, List.getD_cons_succ, List.contains_cons, List.contains_nil, List.elem_cons, List.elem_nil, beq_self_eq_true, Option.getD_some, true_and, and_true, Int.reduceLT, Int.reduceLE, Int.reduceNeg, isi_non_int, isi_non_str, isi_non_bool, isi_non_tuple, isi_non_list, isi_bl_int, isi_bl_str, isi_bl_bool, isi_bl_tuple, isi_bl_list, isi_int_int, isi_int_str, isi_int_bool, isi_int_tuple, isi_int_list, isi_str_int, isi_str_str, isi_str_bool, isi_str_tuple, isi_str_list, isi_tup_int, isi_tup_str, isi_tup_bool, isi_tup_tuple, isi_tup_list, isi_lst_int, isi_lst_str, isi_lst_bool, isi_lst_tuple, isi_lst_list, isN_non, isN_bl, isN_int, isN_str, isN_tup, isN_lst, eq_non, ne_eq, not_true_eq_false, not_false_eq_true, atI_0, atI_1, atI_2, backK_va, backK_ow, isPl_non, isPl_bl, isPl_int, isPl_str, isPl_tup, isPl_lst, backK_owc, nb_owc, Ct.data, ez]
        refine ⟨nopy (by decide), ?_⟩
        rw [ixN_of a0 (by rw [List.length_map]; omega)]
        simp only [← List.map_set]
        exact ⟨_, _, _, _, _, rfl, rfl, rfl, n7, by rw [List.length_set]; exact hrs, hD.app (Int.emod_nonneg _ (by decide)), hr', by rw [List.length_append]; simp only [List.length_cons, List.length_nil]; omega⟩
      · refine seq_wp fun R hR => ?_; simp only [evA]
        simp only [evA, ec, n7]
        have b1 := c2 c hc
        have b2 := bits_lt (z := k) (m := 10) (by omega) (by omega)
        have e1 : PySem.Builtin.Int.intBits 48271 = 16 := by decide
        have e2 : PySem.Builtin.Int.intBits 69621 = 17 := by decide
        refine ⟨by omega, by omega, ?_⟩
        refine hR _ ?_; clear hR R
        generalize hm : (c * 48271 + k * 69621 + 11) % 2147483647 = mx
        have m0 : 0 ≤ mx := by omega
        have m1 : mx < 2147483647 := by omega
        have b3 := bits_lt (z := mx) (m := 31) (by omega) (by omega)
        have e3 : PySem.Builtin.Int.intBits 3 = 2 := by decide
        simp only [evA]
        refine ⟨by omega, by omega, by omega, ?_⟩
        exact ⟨_, _, _, _, _, rfl, rfl, rfl, rfl, hrs, hD.app (Int.emod_nonneg _ (by decide)), hr', by rw [List.length_append]; simp only [List.length_cons, List.length_nil]; omega⟩
    · rintro _ ⟨rs, ds, s5, s6, s7, rfl, n5, n6, n7, hrs, hD, hr, hlen⟩
      simp only [evA]
      refine hR _ ?_
      clear hR R
      refine seq_wp fun R hR => ?_; simp only [evA]
      refine hR _ ?_; clear hR R
      simp only [evA]
      exact k _ hD.rev
  simp (maxSteps := 100000000) only [big, wp_ok, wp_ex, wp_no, wp_bind, wp_sr, swp_nx, swp_rt, swp_bk, swp_ct, swp_ex, swp_no, wp_if, wp_nil, wp_break, wp_cont, wp_drop, wp_ret, wp_retN, wp_raise, wp_set, wp_asg, wp_par, wp_aug, wp_store, wp_call, wp_mte, wp_mtru, wp_tnot, wp_tand, wp_tor, wp_andV, wp_orV, wp_notV, wp_neg, wp_mif, wp_res, wp_bin, wp_binT, wp_cons, wp_mnil, wp_c, wp_var, wp_fn, wp_tup, wp_lst, wp_bits, wp_pop, wp_mut, wp_sl, wp_onone, wp_osome, wp_isi, wp_isi2, wp_chain, wp_seqI, wp_rng1, wp_for, wp_lc, wp_tyes, opt_some, opt_none, add_int, addI_int, sub_int, mul_int, div_int, mod_int, pow_int, eq_int, ne_int, eq_bl, ne_bl, eq_str, ne_str, lt_int, le_int, gt_int, ge_int, is_non, isnot_non, ix_lst, ix_tup, len_lst, len_tup, int_int, abs_int, list_lst, list_tup, tuple_lst, tuple_tup, gcd_int, nb_no, nb_va, nb_ow, nb_sc, stOk_eq, append_one, reverse_nil, peek, peekT, peeks, esc, escs, stV, put, argSl, argsSl, uniqBo, isBo, posBo, wb, wb1_eq, wb2, bor, unb, gN, gT, gsCons, gsNil, finD, wipeG, backG, notHd, Sl.hd, endK, List.getElem?_cons_zero, List.getElem?_cons_succ, List.set_cons_zero, List.set_cons_succ, List.all_cons, List.all_nil, List.any_cons, List.any_nil, List.length_cons, List.length_nil, Nat.reduceAdd, Nat.reduceLeDiff, Nat.reduceBEq, Nat.reduceEqDiff, Bool.false_eq_true, Bool.not_true, Bool.not_false, Bool.and_true, Bool.true_and, Bool.or_false, Bool.and_self, Bool.or_self, Bool.and_false, Bool.false_and, Bool.or_true, Bool.true_or, ↓reduceIte, if_true, if_false, decide_eq_true_eq, decide_true, decide_false, Bool.not_eq_true', decide_eq_false_iff_not, Option.map_some, Option.map_none, Option.bind_some, List.getD_cons_zero, List.getD_cons_succ, List.contains_cons, List.contains_nil, List.elem_cons, List.elem_nil, beq_self_eq_true, Option.getD_some, true_and, and_true, Int.reduceLT, Int.reduceLE, Int.reduceNeg, isi_non_int, isi_non_str, isi_non_bool, isi_non_tuple, isi_non_list, isi_bl_int, isi_bl_str, isi_bl_bool, isi_bl_tuple, isi_bl_list, isi_int_int, isi_int_str, isi_int_bool, isi_int_tuple, isi_int_list, isi_str_int, isi_str_str, isi_str_bool, isi_str_tuple, isi_str_list, isi_tup_int, isi_tup_str, isi_tup_bool, isi_tup_tuple, isi_tup_list, isi_lst_int, isi_lst_str, isi_lst_bool, isi_lst_tuple, isi_lst_list, isN_non, isN_bl, isN_int, isN_str, isN_tup, isN_lst, eq_non, ne_eq, not_true_eq_false, not_false_eq_true, atI_0, atI_1, atI_2, backK_va, backK_ow, isPl_non, isPl_bl, isPl_int, isPl_str, isPl_tup, isPl_lst, backK_owc, nb_owc, Ct.data, List.length_map]
  split
  · rename_i hz
    have : dn = [] := by
      cases dn with
      | nil => rfl
      | cons => simp only [List.length_cons] at hz; omega
    subst this
    simp only [List.map_nil, List.length_nil, List.nil_append]
    exact ⟨by decide, hR [0] (by simp) (by decide) fun z hz => by simp only [List.mem_singleton] at hz; subst hz; decide⟩
  · rename_i hz
    exact hR dn (fun z => hz (by rw [z]; rfl)) hl hb
theorem short_wp {ns : List Int} {Q : RV → List Sl → Prop} {E : Nat → List D → List Sl → Prop} (hl : ns.length ≤ 63)
    (k : Q (.ow ((ns.map (· % 10 ^ 59)).map .int)) [.sc ns]) : (m__law_short [.sc ns]).wp Q E := by
  refine def_wp rfl ?_
  show (b__law_short [.sc ns, .no]).wp _
  unfold b__law_short
  simp only [evA]
  refine lc_wp (fun rest acc Γ => Γ = [.sc ns, .no] ∧ ∃ dn rem : List Int, acc = (dn.map (· % 10 ^ 59)).map D.int ∧ rest = rem.map D.int ∧ dn ++ rem = ns) ⟨rfl, [], ns, rfl, rfl, rfl⟩ ?_ ?_
  · rintro d rest _ _ ⟨rfl, dn, rem, rfl, h, e⟩
    cases rem with
    | nil => cases h
    | cons z rem =>
      cases h
      simp only [evA]
      refine ⟨by decide, by decide, ?_, dn ++ [z], rem, by simp, rfl, by simp [e]⟩
      have : (dn ++ z :: rem).length ≤ 63 := by rw [e]; exact hl
      rw [List.length_append, List.length_cons] at this
      rw [List.length_map, List.length_map]
      show dn.length < 16777216
      omega
  rintro _ _ ⟨rfl, dn, rem, rfl, h, e⟩
  cases rem with
  | cons => cases h
  | nil =>
  rw [List.append_nil] at e
  subst e
  simp only [evA]
  exact k
/-! ### Euclid -/
theorem halve {a b : Int} (ha : b ≤ a) (hb : 0 < b) : 2 * (b * (a % b)) ≤ a * b := by
  have h1 := Int.emod_lt_of_pos a hb
  have h0 := Int.emod_nonneg a (show b ≠ 0 by omega)
  have h2 : 1 ≤ a / b := by
    have := Int.emod_add_mul_ediv a b
    by_cases z : 1 ≤ a / b
    · exact z
    · have z2 : b * (a / b) ≤ 0 := Int.mul_nonpos_of_nonneg_of_nonpos (by omega) (by omega)
      omega
  have h3 := Int.emod_add_mul_ediv a b
  have h4 : b * 1 ≤ b * (a / b) := Int.mul_le_mul_of_nonneg_left h2 (by omega)
  have h5 : 2 * (a % b) ≤ a := by omega
  have h6 := Int.mul_le_mul_of_nonneg_left h5 (show 0 ≤ b by omega)
  rw [show a * b = b * a from Int.mul_comm a b]
  have h7 : b * (2 * (a % b)) = 2 * (b * (a % b)) := by rw [← Int.mul_assoc, Int.mul_comm b 2, Int.mul_assoc]
  omega
theorem gcd_step {a b : Int} (ha : 0 ≤ a) (hb : 0 < b) : Nat.gcd b.natAbs (a % b).natAbs = Nat.gcd a.natAbs b.natAbs := by
  obtain ⟨m, rfl⟩ := Int.eq_ofNat_of_zero_le ha
  obtain ⟨n, rfl⟩ := Int.eq_ofNat_of_zero_le (show 0 ≤ b by omega)
  have : ((m : Int) % (n : Int)).natAbs = m % n := by
    rw [← Int.natCast_emod]; rfl
  rw [this]
  show Nat.gcd n (m % n) = Nat.gcd m n
  rw [Nat.gcd_comm n, ← Nat.gcd_rec, Nat.gcd_comm]
/-- the greatest common divisor -/
def gg (n d : Int) : Int := ((Nat.gcd n.natAbs d.natAbs : Nat) : Int)
theorem share_wp {n d : Int} {Q : RV → List Sl → Prop} {E : Nat → List D → List Sl → Prop} (hn : 0 ≤ n) (hd : 0 < d) (hb : PySem.Builtin.Int.intBits d ≤ 9000)
    (k : Q (.va (.tup [.int (n / gg n d), .int (d / gg n d)])) [.va (.int n), .va (.int d)]) : (m__law_share [.va (.int n), .va (.int d)]).wp Q E := by
  refine def_wp rfl ?_
  show (b__law_share [.va (.int n), .va (.int d), .no, .no, .no, .no]).wp _
  unfold b__law_share
  refine seq_wp fun R hR => ?_; simp only [evA]
  refine hR _ ?_; clear hR R
  refine seq_wp fun R hR => ?_; simp only [evA]
  refine hR _ ?_; clear hR R
  refine seq_wp fun R hR => ?_
  simp only [evA]
  have q2 : PySem.Builtin.Int.intBits 2 = 2 := by decide
  have q3 := intBits_bits_le hb
  refine ⟨by omega, ?_⟩
  refine ⟨by omega, ?_⟩
  have hlt := lt_bits (Nat.le_refl (PySem.Builtin.Int.intBits d))
  generalize hB : PySem.Builtin.Int.intBits d = B at *
  refine loop_wp (fun (rest : List D) Γ => ∃ (a b : Int) (s4 s5 : Sl), Γ = [.va (.int n), .va (.int d), .va (.int a), .va (.int b), s4, s5] ∧ nb s4 = true ∧ nb s5 = true ∧ 0 ≤ a ∧ 0 ≤ b ∧ gg a b = gg n d ∧
    ((0 < a ∧ b ≤ a ∧ a * b < 2 ^ rest.length) ∨ (a = n ∧ b = d ∧ rest.length = 2 * B + 4))) ⟨n, d, _, _, rfl, rfl, rfl, hn, by omega, rfl, .inr ⟨rfl, rfl, ?_⟩⟩ ?_ ?_
  · rw [rngD, List.length_map, List.length_range]
    omega
  · rintro it rest _ ⟨a, b, s4, s5, rfl, n4, n5, ha, hb, hg, hz⟩
    simp only [evA, n4]
    refine seq_wp fun R2 hR2 => ?_
    simp only [evA]
    split
    · -- b = 0
      rename_i b0
      subst b0
      refine hR _ ?_
      have ga : gg n d = a := by
        rw [← hg]
        unfold gg
        rw [show (0 : Int).natAbs = 0 from rfl, Nat.gcd_zero_right]
        omega
      have g0 : 0 < a := by
        rcases hz with ⟨z, _⟩ | ⟨_, z, _⟩
        · exact z
        · omega
      have gB : PySem.Builtin.Int.intBits a ≤ 9000 := by
        refine intBits_le_of_natAbs (y := d) ?_ (by omega)
        rw [← ga]
        unfold gg
        rw [Int.natAbs_natCast]
        exact Nat.le_of_dvd (by omega) (Nat.gcd_dvd_right _ _)
      simp only [evA]
      refine ⟨⟨g0, nopy gB⟩, ⟨g0, nopy gB⟩, ?_⟩
      rw [ga] at k
      exact k
    · rename_i b0
      have hbp : 0 < b := by omega
      refine hR2 _ ?_
      clear hR2 R2
      refine seq_wp fun R hR => ?_; simp only [evA]
      simp only [evA, n5]
      refine ⟨hbp, ?_⟩
      refine hR _ ?_; clear hR R
      refine seq_wp fun R hR => ?_; simp only [evA]
      refine hR _ ?_; clear hR R
      simp only [evA]
      have m0 := Int.emod_nonneg a (show b ≠ 0 by omega)
      have m1 := Int.emod_lt_of_pos a hbp
      refine ⟨b, a % b, _, _, rfl, rfl, rfl, hb, m0, ?_, .inl ⟨hbp, by omega, ?_⟩⟩
      · rw [← hg]
        unfold gg
        rw [gcd_step ha hbp]
      · rcases hz with ⟨z1, z2, z3⟩ | ⟨rfl, rfl, z3⟩
        · have := halve z2 hbp
          rw [List.length_cons, Int.pow_succ] at z3
          omega
        · rw [List.length_cons] at z3
          have e1 : b * (a % b) ≤ b * b := Int.mul_le_mul_of_nonneg_left (by omega) hb
          have p0 : (0 : Int) < 2 ^ B := Int.pow_pos (by decide)
          have e2 : b * b < 2 ^ B * 2 ^ B := Int.lt_of_le_of_lt (Int.mul_le_mul_of_nonneg_right (show b ≤ 2 ^ B by omega) hb) (Int.mul_lt_mul_of_pos_left hlt.2 p0)
          have e3 : (2 : Int) ^ rest.length = 2 ^ B * 2 ^ B * 8 := by
            rw [show rest.length = B + B + 3 by omega, Int.pow_add, Int.pow_add, show (2 : Int) ^ 3 = 8 by decide]
          have e4 : (0 : Int) < 2 ^ B * 2 ^ B := Int.mul_pos p0 p0
          omega
  · rintro _ ⟨a, b, s4, s5, rfl, n4, n5, ha, hb, hg, hz⟩
    rcases hz with ⟨z1, z2, z3⟩ | ⟨_, _, z3⟩
    · rw [List.length_nil, Int.pow_zero] at z3
      have b0 : b = 0 := by
        by_cases z : b = 0
        · exact z
        · have := Int.mul_le_mul z1 (show 1 ≤ b by omega) (by decide) (by omega)
          omega
      subst b0
      refine hR _ ?_
      have ga : gg n d = a := by
        rw [← hg]
        unfold gg
        rw [show (0 : Int).natAbs = 0 from rfl, Nat.gcd_zero_right]
        omega
      have gB : PySem.Builtin.Int.intBits a ≤ 9000 := by
        refine intBits_le_of_natAbs (y := d) ?_ (by omega)
        rw [← ga]
        unfold gg
        rw [Int.natAbs_natCast]
        exact Nat.le_of_dvd (by omega) (Nat.gcd_dvd_right _ _)
      simp only [evA]
      refine ⟨⟨z1, nopy gB⟩, ⟨z1, nopy gB⟩, ?_⟩
      rw [ga] at k
      exact k
    · rw [List.length_nil] at z3
      omega
/-! ### _law_same of a thing and itself -/
mutual
/-- plain data: depth at most n, few items -/
def pl : Nat → D → Bool
  | n, .tup xs => match n with
    | 0 => false
    | n + 1 => decide (xs.length ≤ 1000000) && pls n xs
  | n, .lst xs => match n with
    | 0 => false
    | n + 1 => decide (xs.length ≤ 1000000) && pls n xs
  | _, .dic _ => false
  | _, .set _ => false
  | _, _ => true
def pls : Nat → List D → Bool
  | _, [] => true
  | n, d :: ds => pl n d && pls n ds
end
theorem pls_mem {n : Nat} : ∀ {ds : List D} {d : D}, pls n ds = true → d ∈ ds → pl n d = true
  | x :: ds, d, h, m => by
    simp only [pls, Bool.and_eq_true] at h
    rcases List.mem_cons.mp m with m | m
    · rw [m]; exact h.1
    · exact pls_mem h.2 m
theorem gds_bl : ∀ {acc : List D}, (∀ x ∈ acc, x = .bl true) → gds 60 acc = true
  | [], _ => rfl
  | x :: acc, h => by
    have e := h x List.mem_cons_self
    subst e
    simp only [gds, Bool.and_eq_true]
    exact ⟨rfl, gds_bl fun y hy => h y (List.mem_cons_of_mem _ hy)⟩
theorem any_bl : ∀ {acc : List D}, (∀ x ∈ acc, x = .bl true) → (acc.any fun z => eqD z (.bl false)) = false
  | [], _ => rfl
  | x :: acc, h => by
    have e := h x List.mem_cons_self
    subst e
    rw [List.any_cons, any_bl fun y hy => h y (List.mem_cons_of_mem _ hy)]
    rfl
theorem same_refl : ∀ (n : Nat) (d : D), pl n d = true → ∀ (Q : RV → List Sl → Prop) (E : Nat → List D → List Sl → Prop), Q (.va (.bl true)) [.va d, .va d] → (m__law_same (n + 1) [.va d, .va d]).wp Q E
  | n, .tup ds, h, Q, E, k => by
    cases n with
    | zero => cases h
    | succ m =>
    refine def_wp rfl ?_
    refine (show (b__law_same (m__law_same (m + 1)) [.va (.tup ds), .va (.tup ds), .no]).wp _ from ?_)
    change (decide (ds.length ≤ 1000000) && pls m ds) = true at h
    have hlen : ds.length ≤ 1000000 := of_decide_eq_true (Bool.and_eq_true _ _ ▸ h).1
    have hpl : pls m ds = true := (Bool.and_eq_true _ _ ▸ h).2
    unfold b__law_same
    refine seq_wp fun R hR => ?_
    clear hR
    simp only [evA]
    refine seq_wp fun R hR => ?_; simp only [evA]
    refine hR _ ?_; clear hR R
    refine seq_wp fun R hR => ?_; simp only [evA]
    refine hR _ ?_; clear hR R
    simp only [evA]
    refine ⟨by omega, ?_⟩
    refine lc_wp (fun rest acc Γ => Γ = [.va _, .va _, .no] ∧ (∀ x ∈ acc, x = D.bl true) ∧ (∀ d ∈ rest, ∃ k : Int, d = .int k ∧ 0 ≤ k ∧ k < ds.length) ∧ acc.length + rest.length ≤ 1000000) ⟨rfl, fun x hx => (nomatch hx), fun d hd => ?_, ?_⟩ ?_ ?_
    · obtain ⟨j, hj, rfl⟩ := List.mem_map.mp hd
      have := List.mem_range.mp hj
      exact ⟨_, rfl, by omega, by omega⟩
    · rw [rngD, List.length_map, List.length_range, List.length_nil]
      omega
    · rintro d rest acc _ ⟨rfl, ha, hr, hl⟩
      obtain ⟨j, rfl, j0, j1⟩ := hr d List.mem_cons_self
      obtain ⟨x, ex, hx⟩ := atI_of j0 j1
      simp (maxSteps := 100000000) only [big, wp_ok, wp_ex, wp_no, wp_bind, wp_sr, swp_nx, swp_rt, swp_bk, swp_ct, swp_ex, swp_no, wp_if, wp_nil, wp_break, wp_cont, wp_drop, wp_ret, wp_retN, wp_raise, wp_set, wp_asg, wp_par, wp_aug, wp_store, wp_call, wp_mte, wp_mtru, wp_tnot, wp_tand, wp_tor, wp_andV, wp_orV, wp_notV, wp_neg, wp_mif, wp_res, wp_bin, wp_binT, wp_cons, wp_mnil, wp_c, wp_var, wp_fn, wp_tup, wp_lst, wp_bits, wp_pop, wp_mut, wp_sl, wp_onone, wp_osome, wp_isi, wp_isi2, wp_chain, wp_seqI, wp_rng1, wp_for, wp_lc, wp_tyes, opt_some, opt_none, add_int, addI_int, sub_int, mul_int, div_int, mod_int, pow_int, eq_int, ne_int, eq_bl, ne_bl, eq_str, ne_str, lt_int, le_int, gt_int, ge_int, is_non, isnot_non, ix_lst, ix_tup, len_lst, len_tup, int_int, abs_int, list_lst, list_tup, tuple_lst, tuple_tup, gcd_int, nb_no, nb_va, nb_ow, nb_sc, stOk_eq, append_one, reverse_nil, peek, peekT, peeks, esc, escs, stV, put, argSl, argsSl, uniqBo, isBo, posBo, wb, wb1_eq, wb2, bor, unb, gN, gT, gsCons, gsNil, finD, wipeG, backG, notHd, Sl.hd, endK, List.getElem?_cons_zero, List.getElem?_cons_succ, List.set_cons_zero, List.set_cons_succ, List.all_cons, List.all_nil, List.any_cons, List.any_nil, List.length_cons, List.length_nil, Nat.reduceAdd, Nat.reduceLeDiff, Nat.reduceBEq, Nat.reduceEqDiff, Bool.false_eq_true, Bool.not_true, Bool.not_false, Bool.and_true, Bool.true_and, Bool.or_false, Bool.and_self, Bool.or_self, Bool.and_false, Bool.false_and, Bool.or_true, Bool.true_or, ↓reduceIte, if_true, if_false, decide_eq_true_eq, decide_true, decide_false, Bool.not_eq_true', decide_eq_false_iff_not, Option.map_some, Option.map_none, Option.bind_some, List.getD_cons_zero, List.getD_cons_succ, List.contains_cons, List.contains_nil, List.elem_cons, List.elem_nil, beq_self_eq_true, Option.getD_some, true_and, and_true, Int.reduceLT, Int.reduceLE, Int.reduceNeg, isi_non_int, isi_non_str, isi_non_bool, isi_non_tuple, isi_non_list, isi_bl_int, isi_bl_str, isi_bl_bool, isi_bl_tuple, isi_bl_list, isi_int_int, isi_int_str, isi_int_bool, isi_int_tuple, isi_int_list, isi_str_int, isi_str_str, isi_str_bool, isi_str_tuple, isi_str_list, isi_tup_int, isi_tup_str, isi_tup_bool, isi_tup_tuple, isi_tup_list, isi_lst_int, isi_lst_str, isi_lst_bool, isi_lst_tuple, isi_lst_list, isN_non, isN_bl, isN_int, isN_str, isN_tup, isN_lst, eq_non, ne_eq, not_true_eq_false, not_false_eq_true, atI_0, atI_1, atI_2, backK_va, backK_ow, isPl_non, isPl_bl, isPl_int, isPl_str, isPl_tup, isPl_lst, backK_owc, nb_owc, Ct.data, ex]
      refine same_refl m x (pls_mem hpl hx) _ _ ?_
      simp only [evA]
      rw [List.length_cons] at hl
      refine ⟨by omega, fun y hy => ?_, fun d hd => hr d (List.mem_cons_of_mem _ hd), by rw [List.length_append, List.length_cons, List.length_nil]; omega⟩
      rcases List.mem_append.mp hy with hy | hy
      · exact ha y hy
      · exact List.mem_singleton.mp hy
    · rintro acc _ ⟨rfl, ha, _, _⟩
      simp only [evA]
      rw [notin_lst rfl (gds_bl ha), any_bl ha]
      simp only [evA]
      exact k
  | n, .lst ds, h, Q, E, k => by
    cases n with
    | zero => cases h
    | succ m =>
    refine def_wp rfl ?_
    refine (show (b__law_same (m__law_same (m + 1)) [.va (.lst ds), .va (.lst ds), .no]).wp _ from ?_)
    change (decide (ds.length ≤ 1000000) && pls m ds) = true at h
    have hlen : ds.length ≤ 1000000 := of_decide_eq_true (Bool.and_eq_true _ _ ▸ h).1
    have hpl : pls m ds = true := (Bool.and_eq_true _ _ ▸ h).2
    unfold b__law_same
    refine seq_wp fun R hR => ?_
    clear hR
    simp only [evA]
    refine seq_wp fun R hR => ?_; simp only [evA]
    refine hR _ ?_; clear hR R
    refine seq_wp fun R hR => ?_; simp only [evA]
    refine hR _ ?_; clear hR R
    simp only [evA]
    refine ⟨by omega, ?_⟩
    refine lc_wp (fun rest acc Γ => Γ = [.va _, .va _, .no] ∧ (∀ x ∈ acc, x = D.bl true) ∧ (∀ d ∈ rest, ∃ k : Int, d = .int k ∧ 0 ≤ k ∧ k < ds.length) ∧ acc.length + rest.length ≤ 1000000) ⟨rfl, fun x hx => (nomatch hx), fun d hd => ?_, ?_⟩ ?_ ?_
    · obtain ⟨j, hj, rfl⟩ := List.mem_map.mp hd
      have := List.mem_range.mp hj
      exact ⟨_, rfl, by omega, by omega⟩
    · rw [rngD, List.length_map, List.length_range, List.length_nil]
      omega
    · rintro d rest acc _ ⟨rfl, ha, hr, hl⟩
      obtain ⟨j, rfl, j0, j1⟩ := hr d List.mem_cons_self
      obtain ⟨x, ex, hx⟩ := atI_of j0 j1
      simp (maxSteps := 100000000) only [big, wp_ok, wp_ex, wp_no, wp_bind, wp_sr, swp_nx, swp_rt, swp_bk, swp_ct, swp_ex, swp_no, wp_if, wp_nil, wp_break, wp_cont, wp_drop, wp_ret, wp_retN, wp_raise, wp_set, wp_asg, wp_par, wp_aug, wp_store, wp_call, wp_mte, wp_mtru, wp_tnot, wp_tand, wp_tor, wp_andV, wp_orV, wp_notV, wp_neg, wp_mif, wp_res, wp_bin, wp_binT, wp_cons, wp_mnil, wp_c, wp_var, wp_fn, wp_tup, wp_lst, wp_bits, wp_pop, wp_mut, wp_sl, wp_onone, wp_osome, wp_isi, wp_isi2, wp_chain, wp_seqI, wp_rng1, wp_for, wp_lc, wp_tyes, opt_some, opt_none, add_int, addI_int, sub_int, mul_int, div_int, mod_int, pow_int, eq_int, ne_int, eq_bl, ne_bl, eq_str, ne_str, lt_int, le_int, gt_int, ge_int, is_non, isnot_non, ix_lst, ix_tup, len_lst, len_tup, int_int, abs_int, list_lst, list_tup, tuple_lst, tuple_tup, gcd_int, nb_no, nb_va, nb_ow, nb_sc, stOk_eq, append_one, reverse_nil, peek, peekT, peeks, esc, escs, stV, put, argSl, argsSl, uniqBo, isBo, posBo, wb, wb1_eq, wb2, bor, unb, gN, gT, gsCons, gsNil, finD, wipeG, backG, notHd, Sl.hd, endK, List.getElem?_cons_zero, List.getElem?_cons_succ, List.set_cons_zero, List.set_cons_succ, List.all_cons, List.all_nil, List.any_cons, List.any_nil, List.length_cons, List.length_nil, Nat.reduceAdd, Nat.reduceLeDiff, Nat.reduceBEq, Nat.reduceEqDiff, Bool.false_eq_true, Bool.not_true, Bool.not_false, Bool.and_true, Bool.true_and, Bool.or_false, Bool.and_self, Bool.or_self, Bool.and_false, Bool.false_and, Bool.or_true, Bool.true_or, ↓reduceIte, if_true, if_false, decide_eq_true_eq, decide_true, decide_false, Bool.not_eq_true', decide_eq_false_iff_not, Option.map_some, Option.map_none, Option.bind_some, List.getD_cons_zero, List.getD_cons_succ, List.contains_cons, List.contains_nil, List.elem_cons, List.elem_nil, beq_self_eq_true, Option.getD_some, true_and, and_true, Int.reduceLT, Int.reduceLE, Int.reduceNeg, isi_non_int, isi_non_str, isi_non_bool, isi_non_tuple, isi_non_list, isi_bl_int, isi_bl_str, isi_bl_bool, isi_bl_tuple, isi_bl_list, isi_int_int, isi_int_str, isi_int_bool, isi_int_tuple, isi_int_list, isi_str_int, isi_str_str, isi_str_bool, isi_str_tuple, isi_str_list, isi_tup_int, isi_tup_str, isi_tup_bool, isi_tup_tuple, isi_tup_list, isi_lst_int, isi_lst_str, isi_lst_bool, isi_lst_tuple, isi_lst_list, isN_non, isN_bl, isN_int, isN_str, isN_tup, isN_lst, eq_non, ne_eq, not_true_eq_false, not_false_eq_true, atI_0, atI_1, atI_2, backK_va, backK_ow, isPl_non, isPl_bl, isPl_int, isPl_str, isPl_tup, isPl_lst, backK_owc, nb_owc, Ct.data, ex]
      refine same_refl m x (pls_mem hpl hx) _ _ ?_
      simp only [evA]
      rw [List.length_cons] at hl
      refine ⟨by omega, fun y hy => ?_, fun d hd => hr d (List.mem_cons_of_mem _ hd), by rw [List.length_append, List.length_cons, List.length_nil]; omega⟩
      rcases List.mem_append.mp hy with hy | hy
      · exact ha y hy
      · exact List.mem_singleton.mp hy
    · rintro acc _ ⟨rfl, ha, _, _⟩
      simp only [evA]
      rw [notin_lst rfl (gds_bl ha), any_bl ha]
      simp only [evA]
      exact k
  | n, .int i, h, Q, E, k => by
    refine def_wp rfl ?_
    refine (show (b__law_same (m__law_same n) [.va (.int i), .va (.int i), .no]).wp _ from ?_)
    unfold b__law_same
    refine seq_wp fun R hR => ?_; simp only [evA]
    refine hR _ ?_; clear hR R
    refine seq_wp fun R hR => ?_; simp only [evA]
    refine hR _ ?_; clear hR R
    refine seq_wp fun R hR => ?_; simp only [evA]
    refine hR _ ?_; clear hR R
    simp only [evA]
    exact k
  | n, .non, h, Q, E, k => by
    refine def_wp rfl ?_
    refine (show (b__law_same (m__law_same n) [.va .non, .va .non, .no]).wp _ from ?_)
    unfold b__law_same
    refine seq_wp fun R hR => ?_; simp only [evA]
    refine hR _ ?_; clear hR R
    refine seq_wp fun R hR => ?_; simp only [evA]
    refine hR _ ?_; clear hR R
    refine seq_wp fun R hR => ?_; simp only [evA]
    refine hR _ ?_; clear hR R
    simp only [evA]
    exact k
  | n, .bl b, h, Q, E, k => by
    refine def_wp rfl ?_
    refine (show (b__law_same (m__law_same n) [.va (.bl b), .va (.bl b), .no]).wp _ from ?_)
    unfold b__law_same
    refine seq_wp fun R hR => ?_; simp only [evA]
    refine hR _ ?_; clear hR R
    refine seq_wp fun R hR => ?_; simp only [evA]
    refine hR _ ?_; clear hR R
    refine seq_wp fun R hR => ?_; simp only [evA]
    refine hR _ ?_; clear hR R
    simp only [evA]
    exact k
  | n, .str x, h, Q, E, k => by
    refine def_wp rfl ?_
    refine (show (b__law_same (m__law_same n) [.va (.str x), .va (.str x), .no]).wp _ from ?_)
    unfold b__law_same
    refine seq_wp fun R hR => ?_; simp only [evA]
    refine hR _ ?_; clear hR R
    refine seq_wp fun R hR => ?_; simp only [evA]
    refine hR _ ?_; clear hR R
    refine seq_wp fun R hR => ?_; simp only [evA]
    refine hR _ ?_; clear hR R
    simp only [evA]
    exact k
  | n, .dic x, h, Q, E, k => by simp [pl] at h
  | n, .set x, h, Q, E, k => by simp [pl] at h
termination_by n => n
theorem gg_pos {n d : Int} (hd : 0 < d) : 0 < gg n d := by
  unfold gg
  have := Nat.gcd_pos_of_pos_right n.natAbs (show 0 < d.natAbs by omega)
  omega
theorem wp_eq {α : Type} {x : Rs α} {a : α} {Γ : List Sl} (h : x.wp (fun b Δ => b = a ∧ Δ = Γ) (fun _ _ _ => False)) : x = .ok a Γ := by
  cases x with
  | ok b Δ => obtain ⟨rfl, rfl⟩ := h; rfl
  | ex => exact h.elim
  | no => exact h.elim
theorem same_eq {d : D} (h : pl 11 d = true) : m__law_same 12 [.va d, .va d] = .ok (.va (.bl true)) [.va d, .va d] := wp_eq (same_refl 11 d h _ _ ⟨rfl, rfl⟩)
theorem share_eq {n d : Int} (hn : 0 ≤ n) (hd : 0 < d) (hb : PySem.Builtin.Int.intBits d ≤ 9000) : m__law_share [.va (.int n), .va (.int d)] =
    .ok (.va (.tup [.int (n / gg n d), .int (d / gg n d)])) [.va (.int n), .va (.int d)] := wp_eq (share_wp hn hd hb ⟨rfl, rfl⟩)
theorem great_wp {ds : List D} {ns : List Int} {B : Int} {Q : RV → List Sl → Prop} {E : Nat → List D → List Sl → Prop} (hD : Dr ds) (hB : 1000000000000000 ≤ B) (hn : ∀ z ∈ ns, -B < z ∧ z < B) (hb : ∀ z : Int, 0 ≤ z → z < B → PySem.Builtin.Int.intBits z ≤ 1048576)
    (k : ∀ (n t : Int) (es : List D), 0 ≤ n → n < B → 0 ≤ t → t < 9 → Dr es → Q (.va (.tup [.int n, .int (n * t + 1)])) [.ow es, .sc ns]) : (m__law_great_share [.ow ds, .sc ns]).wp Q E := by
  refine def_wp rfl ?_
  show (b__law_great_share [.ow ds, .sc ns, .no]).wp _
  unfold b__law_great_share
  refine seq_wp fun R hR => ?_; simp only [evA]
  refine size_wp hD (.inl rfl) hB hn fun n es n0 n1 hE => ?_
  simp only [evA]
  refine hR _ ?_; clear hR R
  simp only [evA]
  refine take_wp hE (by decide) fun t es2 t0 t1 hE2 => ?_
  simp only [evA]
  have b1 := hb n n0 n1
  have b2 := bits_lt (z := t) (m := 4) (by omega) (by omega)
  exact ⟨by omega, k n t es2 n0 n1 t0 t1 hE2⟩
/-! ### shares made of any two integers -/
theorem divB_int {i j : Int} {Q : RV → Prop} (h : 0 < j) : (fDivB (.int i) (.int j)).wp Q = Q (.va (.int (i / j))) := by
  show ((if 0 < j then FR.va (.int (i / j)) else .no).wp Q) = _
  rw [if_pos h]
  rfl
def REF : D := .tup [.str [114, 101, 102, 117, 115, 101, 100], .int 0]
/-- the share, or that it is refused -/
def shD (n d : Int) : D := if n < 0 then REF else .tup [.int (n / gg n d), .int (d / gg n d)]
def toldD (n d : Int) : D := if d = 0 then REF else if d < 0 then shD (-n) (-d) else shD n d
theorem wp_try {K : SK} {mb : SM} {i : Nat} {h : Nat → Option D} {Γ : List Sl} : (sTry mb i h Γ).wp K = (mb Γ).wp { nx := K.nx, rt := K.rt, bk := K.bk, ct := K.ct, ex := fun c pl Γ' => match h c with
    | some d => match Γ'[i]? with
      | some .no => K.rt (.va d) Γ'
      | _ => False
    | none => K.ex c pl Γ' } := by
  unfold sTry
  cases mb Γ with
  | ex c pl Γ' =>
    simp only [SR.wp]
    cases h c with
    | none => rfl
    | some d =>
      simp only
      cases Γ'[i]? with
      | none => rfl
      | some s => cases s <;> rfl
  | _ => rfl
theorem make_wp {n d : Int} {Q : RV → List Sl → Prop} {E : Nat → List D → List Sl → Prop} (k : toldD n d ≠ REF → Q (.va (toldD n d)) [.va (.int n), .va (.int d)]) (ke : toldD n d = REF → E 0 [] [.va (.int n), .va (.int d)]) : (m_make_share [.va (.int n), .va (.int d)]).wp Q E := by
  have fin : ∀ {a b : Int}, 0 < b → D.tup [.int (a / gg a b), .int (b / gg a b)] ≠ REF := fun {a b} _ z => by
    injection z with z
    injection z with z
    cases z
  refine def_wp rfl ?_
  show (b_make_share [.va (.int n), .va (.int d), .no]).wp _
  unfold b_make_share
  refine seq_wp fun R hR => ?_
  simp only [evA]
  split
  · rename_i h
    try simp only [evA]
    exact ke (by unfold toldD; rw [if_pos h])
  rename_i hd0
  refine hR _ ?_; clear hR R
  have tail : ∀ {a b : Int} {R : List Sl → Prop}, 0 < b → toldD n d = shD a b → ((sSeq (sIf (mTE (mBin fLt (mVar 0) (mC (.int 0))))
  (sRaise 0)
  sNil)
  (sSeq (sSet 2 (mFn fGcd (mCons (mVar 0) (mCons (mVar 1) mNil))))
  (sRet (mTup (mCons (mBin fDivB (mVar 0) (mVar 2)) (mCons (mBin fDivB (mVar 1) (mVar 2)) mNil)))))) [.va (.int a), .va (.int b), .no]).wp (endK [] [.va (.int n), .va (.int d)] Q E) := by
    intro a b R hb e
    have g0 := gg_pos (n := a) hb
    refine seq_wp fun R hR => ?_
    simp only [evA]
    split
    · rename_i h
      try simp only [evA]
      exact ke (by rw [e]; unfold shD; rw [if_pos h])
    rename_i h
    have e2 : toldD n d = .tup [.int (a / gg a b), .int (b / gg a b)] := by rw [e]; unfold shD; rw [if_neg h]
    rw [e2] at k
    have k := k (fin hb)
    refine hR _ ?_; clear hR R
    refine seq_wp fun R hR => ?_
    simp only [evA]
    refine hR _ ?_; clear hR R
    simp only [evA]
    have eg : ((Nat.gcd a.natAbs b.natAbs : Nat) : Int) = gg a b := rfl
    rw [eg, divB_int g0]
    simp only [evA]
    rw [divB_int g0]
    simp only [evA]
    exact k
  refine seq_wp fun R hR => ?_
  simp only [evA]
  split
  · rename_i h
    try simp only [evA]
    refine hR _ ?_; clear hR R
    exact tail (R := fun _ => True) (by omega) (by unfold toldD; rw [if_neg hd0, if_pos h])
  · rename_i h
    refine hR _ ?_; clear hR R
    exact tail (R := fun _ => True) (by omega) (by unfold toldD; rw [if_neg hd0, if_neg h])
theorem told_eq {n d : Int} : m__law_told [.va (.int n), .va (.int d)] = .ok (.va (toldD n d)) [.va (.int n), .va (.int d)] := wp_eq (by
  refine def_wp rfl ?_
  show (b__law_told [.va (.int n), .va (.int d), .no]).wp _
  unfold b__law_told
  refine seq_wp fun R hR => ?_
  rw [wp_try]
  simp only [evA]
  refine make_wp (fun _ => ?_) fun e => ?_
  · try simp only [evA]
    try exact ⟨rfl, rfl⟩
  · try simp only [evA]
    rw [e]
    first | exact ⟨rfl, rfl⟩ | exact rfl)
theorem told_zero {d : Int} (h : d ≠ 0) : toldD 0 d = .tup [.int 0, .int 1] := by
  have key : ∀ {b : Int}, 0 < b → shD 0 b = .tup [.int 0, .int 1] := fun {b} hb => by
    have g : gg 0 b = b := by
      unfold gg
      rw [show (0 : Int).natAbs = 0 from rfl, Nat.gcd_zero_left]
      omega
    unfold shD
    rw [if_neg (by omega), g, Int.zero_ediv, Int.ediv_self (by omega)]
  unfold toldD
  rw [if_neg h]
  split
  · rename_i z
    rw [show (-(0 : Int)) = 0 from rfl]
    exact key (by omega)
  · exact key (by omega)
theorem told_like {n d : Int} (hd : d ≠ 0) (h : n < 0 ↔ d < 0) : toldD n d = .tup [.int (n.natAbs / gg n.natAbs d.natAbs), .int (d.natAbs / gg n.natAbs d.natAbs)] := by
  unfold toldD
  rw [if_neg hd]
  split
  · rename_i z
    have z2 := h.mpr z
    have e1 : (-n) = (n.natAbs : Int) := by omega
    have e2 : (-d) = (d.natAbs : Int) := by omega
    unfold shD
    rw [if_neg (by omega), e1, e2]
  · rename_i z
    have z2 : ¬ n < 0 := fun q => z (h.mp q)
    have e1 : n = (n.natAbs : Int) := by omega
    have e2 : d = (d.natAbs : Int) := by omega
    unfold shD
    rw [if_neg z2, ← e1, ← e2]
theorem told_ref {n d : Int} (hn : n ≠ 0) (h : ¬ (n < 0 ↔ d < 0)) : toldD n d = REF := by
  unfold toldD
  split
  · rfl
  split
  · rename_i z
    have : ¬ n < 0 := fun q => h ⟨fun _ => z, fun _ => q⟩
    unfold shD
    rw [if_pos (by omega)]
  · rename_i z
    have : n < 0 := Classical.byContradiction fun q => h ⟨fun x => absurd x q, fun x => absurd x z⟩
    unfold shD
    rw [if_pos this]
theorem told_none {n : Int} : toldD n 0 = REF := by unfold toldD; rw [if_pos rfl]
/-- a share in lowest terms, each term times f -/
theorem told_times {a b f : Int} (ha : 0 ≤ a) (hb : 0 < b) (hg : gg a b = 1) (hf : f ≠ 0) : toldD (a * f) (b * f) = .tup [.int a, .int b] := by
  have key : ∀ {f : Int}, 0 < f → shD (a * f) (b * f) = .tup [.int a, .int b] := fun {f} hf => by
    have g : gg (a * f) (b * f) = f := by
      unfold gg at hg ⊢
      rw [Int.natAbs_mul, Int.natAbs_mul, Nat.gcd_mul_right]
      have : (Nat.gcd a.natAbs b.natAbs) = 1 := by omega
      rw [this, Nat.one_mul]
      omega
    have p := Int.mul_nonneg ha (show 0 ≤ f by omega)
    unfold shD
    rw [if_neg (by omega), g, Int.mul_ediv_cancel _ (by omega), Int.mul_ediv_cancel _ (by omega)]
  unfold toldD
  rw [if_neg (fun z => by rcases Int.mul_eq_zero.mp z with q | q <;> omega)]
  by_cases hp : 0 < f
  · have p := Int.mul_pos hb hp
    rw [if_neg (by omega)]
    exact key hp
  · have p := Int.mul_pos hb (show 0 < -f by omega)
    rw [Int.mul_neg] at p
    rw [if_pos (by omega), ← Int.mul_neg, ← Int.mul_neg]
    exact key (by omega)
theorem gg_great {n t : Int} (hn : 0 ≤ n) (ht : 0 ≤ t) : gg n (n * t + 1) = 1 := by
  obtain ⟨m, rfl⟩ := Int.eq_ofNat_of_zero_le hn
  obtain ⟨s, rfl⟩ := Int.eq_ofNat_of_zero_le ht
  have e : ((m : Int) * (s : Int) + 1).natAbs = m * s + 1 := by
    rw [← Int.natCast_mul]; omega
  unfold gg
  rw [e, Int.natAbs_natCast]
  have : Nat.gcd m (m * s + 1) = 1 := by
    rw [Nat.add_comm, Nat.gcd_add_mul_left_right]
    exact Nat.gcd_one_right m
  rw [this]
  rfl
theorem pl_ref : pl 11 REF = true := rfl
theorem pl_sh (a b : Int) : pl 11 (.tup [.int a, .int b]) = true := rfl
theorem pl_shD (n d : Int) : pl 11 (shD n d) = true := by
  unfold shD
  split <;> rfl
theorem pl_told (n d : Int) : pl 11 (toldD n d) = true := by
  unfold toldD
  split
  · rfl
  split <;> exact pl_shD _ _
theorem abs_if {n : Int} : (if n < 0 then -n else n) = (n.natAbs : Int) := by split <;> omega
theorem sign_eq {n d : Int} : (decide (n < 0) == decide (d < 0)) = true ↔ (n < 0 ↔ d < 0) := by
  rw [beq_iff_eq]
  by_cases h1 : n < 0 <;> by_cases h2 : d < 0 <;> simp [h1, h2]
theorem pure_law (ns : List Int) (hl : ns.length ≤ 63) (hb : ∀ z ∈ ns, PySem.Builtin.Int.intBits z ≤ 1048576) : ∃ Γ, m_law [.sc ns] = .ok (.va (.bl true)) Γ := by
  have key : (m_law [.sc ns]).wp (fun r Γ => r = .va (.bl true)) (fun _ _ _ => False) := by
    obtain ⟨B, hB, hn, hbB⟩ : ∃ B : Int, 1000000000000000 ≤ B ∧ (∀ z ∈ ns, -B < z ∧ z < B) ∧ (∀ z : Int, 0 ≤ z → z < B → PySem.Builtin.Int.intBits z ≤ 1048576) := by
      have e : ∃ M : Nat, M = 1048576 := ⟨_, rfl⟩
      obtain ⟨M, hM⟩ := e
      rw [← hM] at hb ⊢
      have p : (1000000000000000 : Int) ≤ 2 ^ M := by
        have q : (2 : Nat) ^ 50 ≤ 2 ^ M := Nat.pow_le_pow_right (by decide) (by omega)
        have e2 : ((2 ^ M : Nat) : Int) = (2 : Int) ^ M := by push_cast; rfl
        rw [← e2]
        have q2 : 1000000000000000 ≤ (2 : Nat) ^ M := Nat.le_trans (by decide) q
        omega
      refine ⟨2 ^ M, p, fun z hz => lt_bits (hb z hz), fun z h0 h1 => bits_lt (Int.lt_of_lt_of_le (by have : (0 : Int) < 2 ^ M := Int.pow_pos (by decide); omega) h0) h1⟩
    have hsh : ∀ z ∈ ns.map (· % 10 ^ 59), -(10 : Int) ^ 59 < z ∧ z < 10 ^ 59 := fun z hz => by
      obtain ⟨y, _, rfl⟩ := List.mem_map.mp hz
      have a0 := Int.emod_nonneg y (show (10 : Int) ^ 59 ≠ 0 by decide)
      have a1 := Int.emod_lt_of_pos y (show (0 : Int) < 10 ^ 59 by decide)
      have a2 : (0 : Int) < 10 ^ 59 := by decide
      exact ⟨by omega, a1⟩
    have hW : 1000000000000000 ≤ (10 : Int) ^ 59 := by decide
    obtain ⟨T, hT⟩ : ∃ T : Int, T = 10 ^ 59 := ⟨_, rfl⟩
    have bT : ∀ z : Int, 0 ≤ z → z ≤ T → PySem.Builtin.Int.intBits z ≤ 200 := fun z h0 h1 => bits_lt (Int.lt_of_lt_of_le (by decide) h0) (Int.lt_of_le_of_lt h1 (by rw [hT]; decide))
    obtain ⟨sn, hsn⟩ : ∃ sn, sn = ns.map (· % 10 ^ 59) := ⟨_, rfl⟩
    rw [← hsn] at hsh
    rw [← hT] at hsh hW
    clear hT
    refine def_wp rfl ?_
    show (b_law [.sc ns, .no, .no, .no, .no, .no, .no, .no]).wp _
    unfold b_law
    refine seq_wp fun R hR => ?_; simp only [evA]
    refine draws_wp hl hb (by decide) (by decide) fun ds hD => ?_
    simp only [evA]
    refine hR _ ?_; clear hR R
    refine seq_wp fun R hR => ?_; simp only [evA]
    refine short_wp hl ?_
    rw [← hsn]
    simp only [evA]
    refine hR _ ?_; clear hR R
    refine seq_wp fun R hR => ?_
    simp only [evA]
    refine size_wp hD (.inr rfl) hW hsh fun f0 ds f00 f01 hD => ?_
    simp only [evA]
    refine take_wp hD (by decide) fun r ds r0 r1 hD => ?_
    simp only [evA]
    have hR : ∀ (f : Int) (ds : List D), 1 ≤ f → f ≤ T → Dr ds → R [.sc ns, .ow ds, .ow (sn.map .int), .va (.int f), .no, .no, .no, .no] := fun f ds h1 h2 hD => by
      refine hR _ ?_; clear hR R
      have bf := bT f (by omega) h2
      have fac : ∀ {q : Int}, 0 ≤ q → q < 2 → (1 - 2 * q = 1 ∨ 1 - 2 * q = -1) := fun {q} a b => by omega
      have two : PySem.Builtin.Int.intBits 2 ≤ 4 := by decide
      have one : ∀ {q : Int}, 0 ≤ q → q < 2 → PySem.Builtin.Int.intBits q ≤ 4 ∧ PySem.Builtin.Int.intBits (1 - 2 * q) ≤ 4 := fun {q} a b => ⟨bits_lt (m := 4) (by omega) (by omega), bits_lt (m := 4) (by omega) (by omega)⟩
      refine seq_wp fun R hR => ?_
      simp only [evA]
      refine size_wp hD (.inr rfl) hW hsh fun n0 ds n00 n01 hD => ?_
      simp only [evA]
      have bn := bT n0 n00 (by omega)
      refine ⟨by omega, ?_⟩
      refine take_wp hD (by decide) fun q ds q0 q1 hD => ?_
      obtain ⟨o1, o2⟩ := one q0 q1
      simp only [evA]
      have bm := intBits_mul_le bf bn
      have bx := intBits_mul_le bm o2
      refine ⟨by omega, by omega, ?_⟩
      generalize f * n0 * (1 - 2 * q) = n at bx
      clear o1 o2 q0 q1 q bm bn n00 n01 n0
      refine hR _ ?_; clear hR R
      refine seq_wp fun R hR => ?_
      simp only [evA]
      refine size_wp hD (.inr rfl) hW hsh fun d0 ds d00 d01 hD => ?_
      simp only [evA]
      have bn := bT d0 d00 (by omega)
      refine ⟨by omega, ?_⟩
      refine take_wp hD (by decide) fun q ds q0 q1 hD => ?_
      obtain ⟨o1, o2⟩ := one q0 q1
      simp only [evA]
      have bm := intBits_mul_le bf bn
      have by_ := intBits_mul_le bm o2
      refine ⟨by omega, by omega, ?_⟩
      generalize f * d0 * (1 - 2 * q) = d at by_
      clear o1 o2 q0 q1 q bm bn d00 d01 d0
      refine hR _ ?_; clear hR R
      refine seq_wp fun R hR => ?_
      simp only [evA]
      refine hR _ ?_; clear hR R
      refine seq_wp fun R hR => ?_
      have hR : R [.sc ns, .ow ds, .ow (sn.map .int), .va (.int f), .va (.int n), .va (.int d), .va (toldD n d), .no] := by
        refine hR _ ?_; clear hR R
        clear by_ bx
        refine seq_wp fun R hR => ?_
        simp only [evA]
        rw [told_eq]
        simp only [evA]
        rw [same_eq (pl_told n d)]
        simp only [evA]
        refine hR _ ?_; clear hR R
        refine seq_wp fun R hR => ?_
        simp only [evA]
        refine great_wp hD hB hn hbB fun a t ds a0 a1 t0 t1 hD => ?_
        simp only [evA]
        refine hR _ ?_; clear hR R
        have hg := gg_great a0 t0
        have ba := hbB a a0 a1
        have bt := bits_lt (z := t) (m := 4) (by omega) (by omega)
        have p0 := Int.mul_nonneg a0 t0
        have bb : PySem.Builtin.Int.intBits (a * t + 1) ≤ 1048581 := by
          have := intBits_add_le (intBits_mul_le ba bt) (show PySem.Builtin.Int.intBits 1 ≤ 1 by decide)
          omega
        obtain ⟨b, hb⟩ : ∃ b, b = a * t + 1 := ⟨_, rfl⟩
        rw [← hb] at hg bb ⊢
        have hbp : 0 < b := by omega
        clear hb p0 bt
        refine seq_wp fun R hR => ?_
        simp only [evA]
        refine size_wp hD (.inl rfl) hB hn fun z ds z0 z1 hD => ?_
        simp only [evA]
        have bz := hbB z z0 z1
        have bz1 : PySem.Builtin.Int.intBits (1 + z) ≤ 1048577 := by
          have := intBits_add_le (show PySem.Builtin.Int.intBits 1 ≤ 1048576 by decide) bz
          omega
        refine take_wp hD (by decide) fun q ds q0 q1 hD => ?_
        obtain ⟨o1, o2⟩ := one q0 q1
        simp only [evA]
        have bF := intBits_mul_le bz1 o2
        refine ⟨by omega, by omega, ?_⟩
        obtain ⟨F, hF⟩ : ∃ F, F = (1 + z) * (1 - 2 * q) := ⟨_, rfl⟩
        have F0 : F ≠ 0 := fun e => by
          rw [hF] at e
          rcases Int.mul_eq_zero.mp e with e | e <;> omega
        rw [← hF] at bF ⊢
        clear hF o1 o2 q0 q1 bz bz1 z0 z1
        refine hR _ ?_; clear hR R
        refine seq_wp fun R hR => ?_
        simp only [evA]
        refine ⟨by omega, by omega, ?_⟩
        rw [told_eq, told_times a0 hbp hg F0]
        simp only [evA]
        rw [same_eq (pl_sh a b)]
        simp only [evA]
        refine hR _ ?_; clear hR R
        refine seq_wp fun R hR => ?_
        simp only [evA]
        refine hR _ ?_; clear hR R
        refine seq_wp fun R hR => ?_
        have hR : R [.sc ns, .ow ds, .ow (sn.map .int), .va (.int F), .va (.int n), .va (.int d), .va (toldD (a * F) (0 - b * F)), .va (.tup [.int a, .int b])] := by
          refine hR _ ?_; clear hR R
          refine seq_wp fun R hR => ?_
          simp only [evA]
          refine ⟨by omega, by omega, ?_⟩
          rw [told_eq]
          simp only [evA]
          rw [same_eq (pl_told _ _)]
          simp only [evA]
          refine hR _ ?_; clear hR R
          simp only [evA]
          rw [told_eq, told_none]
          simp only [evA]
          rw [show D.tup [.str [114, 101, 102, 117, 115, 101, 100], .int 0] = REF from rfl, same_eq pl_ref]
          simp only [evA]
        have dn : 0 - b * F ≠ 0 := fun e => by
          rcases Int.mul_eq_zero.mp (show b * F = 0 by omega) with e | e <;> omega
        simp only [evA]
        split
        · rename_i az
          try simp only [evA]
          rw [az, Int.zero_mul, told_zero dn] at hR
          rw [az]
          exact hR
        · rename_i az
          rw [told_ref (fun e => by rcases Int.mul_eq_zero.mp e with e | e <;> omega) (fun e => ?_)] at hR
          · exact hR
          · have ap : 0 < a := by omega
            by_cases hp : 0 < F
            · have p1 := Int.mul_pos ap hp
              have p2 := Int.mul_pos hbp hp
              have := e.mpr (by omega)
              omega
            · have p1 := Int.mul_pos ap (show 0 < -F by omega)
              have p2 := Int.mul_pos hbp (show 0 < -F by omega)
              rw [Int.mul_neg] at p1 p2
              have := e.mp (by omega)
              omega
      have bA : PySem.Builtin.Int.intBits (d.natAbs : Int) ≤ 9000 := intBits_le_of_natAbs (y := d) (by rw [Int.natAbs_natCast]; exact Nat.le_refl _) (by omega)
      simp only [evA]
      simp only [abs_if]
      by_cases hd0 : d = 0
      · rw [hd0, told_none] at hR
        rw [hd0]
        simp only [not_true_eq_false, if_false, ite_self]
        exact hR
      by_cases hn0 : n = 0
      · rw [if_pos hn0, if_pos hd0]
        rw [hn0, told_zero hd0] at hR
        rw [hn0]
        exact hR
      rw [if_neg hn0, if_pos hd0]
      by_cases hs : n < 0 ↔ d < 0
      · rw [if_pos (sign_eq.mpr hs), share_eq (by omega) (by omega) bA]
        simp only [evA]
        rw [told_like hd0 hs] at hR
        exact hR
      · rw [if_neg fun e => hs (sign_eq.mp e)]
        rw [told_ref hn0 hs] at hR
        exact hR
    obtain ⟨z, ez, hz⟩ := atI_of (l := ([.int 1, .int 2, .int 6, .int (1 + f0)] : List D)) r0 (by simpa using r1)
    rw [ez]
    simp only [List.mem_cons, List.not_mem_nil, or_false] at hz
    rcases hz with rfl | rfl | rfl | rfl <;> simp only [evA] <;> exact hR _ _ (by omega) (by omega) hD
  cases e : m_law [.sc ns] with
  | ok r Γ => rw [e] at key; exact ⟨Γ, by rw [show r = _ from key]⟩
  | ex => rw [e] at key; exact key.elim
  | no => rw [e] at key; exact key.elim
end Law

open PySem PySem.W PyProof.Rows
set_option maxHeartbeats 0 in
theorem PySem.Challenge.cw_rightchance_k01_made_shares_holds : PySem.Challenge.rw_rightchance_k01_made_shares.Holds := by
  w_on; o_law; k_head; (case hw => w_witness2)
  k_fill
  refine Mir.walk_seer (l := PySem.Challenge.rw_rightchance_k01_made_shares) (n := 63) (k := 36) (x := "script") (m := Law.m_law) (by decide) rfl (by decide) rfl ⟨rfl, by decide, by decide⟩ (fun w h Y => PySem.W.kIn_of Y) ?F Law.pure_law
  case F =>
    intro w mg fa h KX G hmg
    refine' Law.all_mk KX G hmg ?a14 ?l14 ?c14 ?k14 ?a16 ?l16 ?c16 ?k16 ?a17 ?l17 ?c17 ?k17 ?a18 ?l18 ?c18 ?k18 ?a19 ?l19 ?c19 ?k19 ?a20 ?l20 ?c20 ?k20 ?a21 ?l21 ?c21 ?k21 ?a22 ?l22 ?c22 ?k22 ?a23 ?l23 ?c23 ?k23 ?a24 ?l24 ?c24 ?k24 ?z_int ?z_len ?z_list ?z_range ?z_abs ?z_isinstance ?z_tuple ?z_bool ?z_str ?z_ValueError ?i_gcd ?aC_NoShare ?xC_NoShare ?kC_NoShare ?bC_NoShare ?tC_NoShare ?aC_BadText ?aC_DoubleFact ?aC_NoChance ?aC_NoFact ?aC_NoKept ?aC_NoPlan ?aC_NoQuestion ?aC_NoRow ?aC_NoSchema ?aC_ChanceError ?ec_NoShare_hg ?ec_NoShare_hk ?ec_NoShare_hs ?ec_NoShare_hd ?ec_NoShare_ha ?ec_NoShare_hn ?ec_NoShare_ht ?ec_NoShare_hm ?fx_NoShare_NoShare ?fa_NoShare_BadText_DoubleFact_NoChance_NoFact_NoKept_NoPlan_NoQuestion_NoRow_NoSchema ?fo_NoShare_ChanceError ?fo_NoShare_ValueError ?hT
    (case a14 => k_is); (case l14 => k_is); (case c14 => k_is); (case k14 => k_is); (case a16 => k_is); (case l16 => k_is); (case c16 => k_is); (case k16 => k_is); (case a17 => k_is); (case l17 => k_is); (case c17 => k_is); (case k17 => k_is); (case a18 => k_is); (case l18 => k_is); (case c18 => k_is); (case k18 => k_is); (case a19 => k_is); (case l19 => k_is); (case c19 => k_is); (case k19 => k_is); (case a20 => k_is); (case l20 => k_is); (case c20 => k_is); (case k20 => k_is); (case a21 => k_is); (case l21 => k_is); (case c21 => k_is); (case k21 => k_is); (case a22 => k_is); (case l22 => k_is); (case c22 => k_is); (case k22 => k_is); (case a23 => k_is); (case l23 => k_is); (case c23 => k_is); (case k23 => k_is); (case a24 => k_is); (case l24 => k_is); (case c24 => k_is); (case k24 => k_is); (case z_int => k_is); (case z_len => k_is); (case z_list => k_is); (case z_range => k_is); (case z_abs => k_is); (case z_isinstance => k_is); (case z_tuple => k_is); (case z_bool => k_is); (case z_str => k_is); (case z_ValueError => k_is); (case i_gcd => k_is); (case aC_NoShare => k_is); (case xC_NoShare => k_exc); (case kC_NoShare => k_is); (case bC_NoShare => k_is); (case tC_NoShare => k_is); (case aC_BadText => k_is); (case aC_DoubleFact => k_is); (case aC_NoChance => k_is); (case aC_NoFact => k_is); (case aC_NoKept => k_is); (case aC_NoPlan => k_is); (case aC_NoQuestion => k_is); (case aC_NoRow => k_is); (case aC_NoSchema => k_is); (case aC_ChanceError => k_is); (case ec_NoShare_hg => (first | k_is | kit_is | kts_exm)); (case ec_NoShare_hk => (first | k_is | kit_is | kts_exm)); (case ec_NoShare_hs => (first | k_is | kit_is | kts_exm)); (case ec_NoShare_hd => (first | k_is | kit_is | kts_exm)); (case ec_NoShare_ha => (first | k_is | kit_is | kts_exm)); (case ec_NoShare_hn => (first | k_is | kit_is | kts_exm)); (case ec_NoShare_ht => (first | k_is | kit_is | kts_exm)); (case ec_NoShare_hm => (first | k_is | kit_is | kts_exm)); (case fx_NoShare_NoShare => (first | k_is | kit_is | kts_exm)); (case fa_NoShare_BadText_DoubleFact_NoChance_NoFact_NoKept_NoPlan_NoQuestion_NoRow_NoSchema => (first | k_is | kit_is | kts_exm)); (case fo_NoShare_ChanceError => (first | k_is | kit_is | kts_exm)); (case fo_NoShare_ValueError => (first | k_is | kit_is | kts_exm)); (case hT => rfl)

