import PyProof.Rows.All
import Wide.All
import OpenK.AllK
import Wide.FinOn
import KE.KeyNested
import PyProof.DictRoadsH
import HandS.Dict
import HandS.ForMost
import HandS.ForExc
import HandS.TupAny
import HandS.Rev
import HandS.Conv
import HandS.IsInst
import HandS.EndBits
import PyProof.WalksMore
import HandS.TupMul
import HandS.ExcInit
import HandS.ExcIs
import HandS.ExcOwn
import HandS.Style
import HandS.SortInts
import HandS.Flow
import PyProof.P3In
import HandS.Zip
import HandS.RevRange
import HandS.Text
import HandS.ExcField
import HandS.FStr
import HandS.Deep
import HandS.Codes
import HandS.Sort
import HandS.Strs
import KE.SortData
import HandS.DictComp
import KE.GoesMore
import KE.GoesEnum
import KE.KDictCopyH
import KE.KDictOf
import KE.KDictDisplayH
import HandS.TupLen
import PyProof.ListNew
import HandS.SetFor
import KE.BitLaws
import PySem.Challenge.RW_backstair_k68_balls_in_blocks
set_option Elab.async false
section
open PySem PySem.W PyProof.Rows
set_option maxRecDepth 100000 in
set_option maxHeartbeats 0 in
theorem My.early (H : PySem.Challenge.rw_backstair_k68_balls_in_blocks.row.wellSaid = true → PySem.Challenge.rw_backstair_k68_balls_in_blocks.row.Holds) : PySem.Challenge.rw_backstair_k68_balls_in_blocks.Holds := by
  w_on; o_law
  exact H (by assumption)
end
set_option Elab.async false
set_option linter.all false
set_option maxRecDepth 100000
set_option maxHeartbeats 2000000
/-! PD: dicts whose keys are any values up to ==: ints beside (nested) tuples, in one dict. -/
namespace PD
open PySem
open Sem (wp)
abbrev Row := NestedKey × Value × Value
def ent (w : World) (x : Row) : DictEntry := ⟨x.1.hash w, x.2.1, x.2.2⟩
def Keyed (h : Heap) (xs : List Row) : Prop := ∀ x ∈ xs, NestedIs h x.1 x.2.1 ∧ x.1.depth ≤ 8
def TabE (w : World) (h : Heap) (d : Addr) (ep : Nat) (xs : List Row) : Prop :=
  ∃ ob es, h.get? d = some ob ∧ ob.ExactDict ∧ ob.data = .dict es ep ∧ es.toList = xs.map (ent w) ∧ (xs.map (·.1)).Nodup
def Tab (w : World) (h : Heap) (d : Addr) (xs : List Row) : Prop :=
  ∃ ob es ep, h.get? d = some ob ∧ ob.ExactDict ∧ ob.data = .dict es ep ∧ es.toList = xs.map (ent w) ∧ (xs.map (·.1)).Nodup
theorem TabE.tab {w : World} {h : Heap} {d : Addr} {ep : Nat} {xs : List Row} (t : TabE w h d ep xs) : Tab w h d xs := let ⟨ob, es, q⟩ := t; ⟨ob, es, ep, q⟩
def at_ (xs : List Row) (k : NestedKey) : Option Value := (xs.find? fun x => decide (x.1 = k)).map (·.2.2)
theorem ent_at {w : World} {es : Array DictEntry} {xs : List Row} (hE : es.toList = xs.map (ent w)) (j : Nat) : es[j]? = (xs[j]?).map (ent w) := by
  have h := congrArg (fun l => l[j]?) hE
  simp only [List.getElem?_map] at h
  rw [← h]
  simp
theorem ent_size {w : World} {es : Array DictEntry} {xs : List Row} (hE : es.toList = xs.map (ent w)) : es.size = xs.length := by
  have h := congrArg List.length hE
  simpa using h
theorem mem_places {n : Nat} {f : Nat → Option Int} {h : Int} {i : Nat} : i ∈ placesWithHash n f h ↔ i < n ∧ f i = some h := by
  unfold placesWithHash
  rw [List.mem_filter, List.mem_range, beq_iff_eq]
theorem at_some : ∀ {xs : List Row} {j : Nat} {k : NestedKey} {p : Value × Value}, (xs.map (·.1)).Nodup → xs[j]? = some (k, p) → at_ xs k = some p.2
  | [], _, _, _, _, h => by simp at h
  | x :: r, 0, k, p, _, h => by
    have e : x = (k, p) := by simpa using h
    subst e
    unfold at_
    rw [List.find?_cons, decide_eq_true rfl]
    rfl
  | x :: r, j + 1, k, p, hn, h => by
    rw [List.map_cons, List.nodup_cons] at hn
    have h' : r[j]? = some (k, p) := h
    have ne : x.1 ≠ k := fun e => hn.1 (by rw [e]; exact List.mem_map.mpr ⟨_, List.mem_of_getElem? h', rfl⟩)
    have ih := at_some hn.2 h'
    unfold at_ at ih ⊢
    rw [List.find?_cons, decide_eq_false ne]
    exact ih
theorem at_none {xs : List Row} {k : NestedKey} (h : ∀ (j : Nat) (p : Value × Value), xs[j]? ≠ some (k, p)) : at_ xs k = none := by
  unfold at_
  rw [Option.map_eq_none_iff, List.find?_eq_none]
  intro x hx
  obtain ⟨j, hj⟩ := List.getElem?_of_mem hx
  intro e
  have e' : x.1 = k := by simpa using e
  exact h j x.2 (by rw [hj, ← e'])
section
variable {prog : Program} {w : World} {A : Around} {E : Value → Shared → Prop} {s : Shared}
/-- u == v of keys -/
theorem eq_keys {x y : NestedKey} {a b : Value} {Q : Bool → Shared → Prop} (hu : A.units + 8 < cLine) (hx : NestedIs s.heap x a) (hy : NestedIs s.heap y b) (dx : x.depth ≤ 8) (hQ : Q (decide (x = y)) s) : wpAny (model prog w) A (eqBool a b) Q E s :=
  eqAt_key x y A s _ _ hx hy (by omega) _ _ _ _ (by rw [← NestedKey.decide_eq]; exact hQ)
/-- the walk over the places of one hash -/
theorem walk_plain {d : Addr} {ob : Obj} {es : Array DictEntry} {ep : Nat} {xs : List Row} {k : NestedKey} {v : Value} {Q : Option Nat → Shared → Prop} (hu : A.units + 8 < cLine) (hk : NestedIs s.heap k v)
    (hO : s.heap.get? d = some ob) (hD : ob.data = .dict es ep) (hE : es.toList = xs.map (ent w)) (hI : Keyed s.heap xs)
    (h0 : (∀ (j : Nat) (p : Value × Value), xs[j]? ≠ some (k, p)) → Q none s) (h1 : ∀ (j : Nat) (p : Value × Value), xs[j]? = some (k, p) → Q (some j) s) :
    wpAny (model prog w) A (dictWalkPlain d v (k.hash w) es (placesWithHash es.size (fun i => es[i]?.map (·.hash)) (k.hash w))) Q E s := by
  generalize hpl : placesWithHash es.size (fun i => es[i]?.map (·.hash)) (k.hash w) = places
  have hp : ∀ i, i ∈ places ↔ i < es.size ∧ es[i]?.map (·.hash) = some (k.hash w) := fun i => by rw [← hpl]; exact mem_places
  unfold dictWalkPlain
  refine wpAny_bind ?_
  refine wpAny_forIn_list _ (fun rest r s' => s' = s ∧ r = (none, ()) ∧ ∃ pre, places = pre ++ rest ∧ ∀ j ∈ pre, ∀ p, xs[j]? ≠ some (k, p)) _ ?_ ?_ _ _ ⟨rfl, rfl, [], rfl, fun _ h => absurd h List.not_mem_nil⟩
  · rintro i rest r s' ⟨rfl, rfl, pre, hpre, hno⟩
    obtain ⟨hi, hh⟩ := (hp i).mp (by rw [hpre]; simp)
    obtain ⟨⟨k', u, x⟩, hx⟩ : ∃ y, xs[i]? = some y := ⟨_, List.getElem?_eq_getElem (by rw [← ent_size hE]; exact hi)⟩
    have hex : es[i]? = some ⟨k'.hash w, u, x⟩ := by rw [ent_at hE, hx]; rfl
    obtain ⟨ik, dk⟩ := hI _ (List.mem_of_getElem? hx)
    rw [hex] at hh ⊢
    dsimp only
    have hh' : k'.hash w = k.hash w := by simpa using hh
    rw [if_pos (by rw [hh']; simp)]
    refine wpAny_bind (wpAny_dictEpoch hO hD (wpAny_bind (eq_keys hu ik hk dk (wpAny_bind (wpAny_dictEpoch hO hD ?_)))))
    rw [if_neg (by simp)]
    by_cases e : k' = k
    · rw [if_pos (decide_eq_true e)]
      subst e
      exact wpAny_bind (wpAny_rule (wpAny_pure (wpAny_pure (h1 i _ hx))))
    · rw [if_neg (by rw [decide_eq_false e]; exact Bool.false_ne_true)]
      refine wpAny_bind (wpAny_rule (wpAny_pure ⟨rfl, rfl, pre ++ [i], by rw [hpre, List.append_assoc]; rfl, fun j hj p hxj => ?_⟩))
      rcases List.mem_append.mp hj with h | h
      · exact hno j h p hxj
      · rw [List.mem_singleton.mp h, hx] at hxj
        cases hxj
        exact e rfl
  · rintro r s' ⟨rfl, rfl, pre, hpre, hno⟩
    refine wpAny_pure (h0 fun j p hj => ?_)
    have hlt : j < es.size := by rw [ent_size hE]; exact (List.getElem?_eq_some_iff.mp hj).1
    have hmem : j ∈ places := (hp j).mpr ⟨hlt, by rw [ent_at hE, hj]; rfl⟩
    rw [hpre, List.append_nil] at hmem
    exact hno j hmem p hj
theorem may_tell {k : NestedKey} {v : Value} {stored : List Value} {Q : Bool → Shared → Prop} (hk : NestedIs s.heap k v) (kd : k.depth ≤ 8) (hst : ∀ u ∈ stored, ∃ k', NestedIs s.heap k' u ∧ k'.depth ≤ 8) (hQ : Q false s) :
    wpAny (model prog w) A (tableMayTell v stored) Q E s := by
  unfold tableMayTell
  split
  · exact wpAny_pure hQ
  refine wpAny_bind (quiet_key k v 8 s hk kd _ _ _ ?_)
  rw [if_neg (by simp)]
  refine wpAny_bind ?_
  refine wpAny_forIn_list _ (fun rest r s' => (s' = s ∧ r = (none, ())) ∧ ∀ u ∈ rest, ∃ k', NestedIs s.heap k' u ∧ k'.depth ≤ 8) _ ?_ ?_ _ _ ⟨⟨rfl, rfl⟩, hst⟩
  · rintro x rest r s' ⟨⟨rfl, rfl⟩, hr⟩
    obtain ⟨k', ik, dk⟩ := hr x List.mem_cons_self
    refine wpAny_bind (quiet_key k' x 8 s' ik dk _ _ _ ?_)
    rw [if_neg (by simp)]
    exact wpAny_pure ⟨⟨rfl, rfl⟩, fun u hu' => hr u (List.mem_cons_of_mem _ hu')⟩
  · rintro r s' ⟨⟨rfl, rfl⟩, _⟩
    exact wpAny_pure hQ
def notText : NestedKey → Prop
  | .text _ => False
  | _ => True
theorem find_key {d : Addr} {ob : Obj} {es : Array DictEntry} {ep : Nat} {xs : List Row} {k : NestedKey} {v : Value} {Q : Option Nat → Shared → Prop} (hu : A.units + 8 < cLine) (hk : NestedIs s.heap k v) (kd : k.depth ≤ 8) (nt : notText k)
    (hO : s.heap.get? d = some ob) (hD : ob.data = .dict es ep) (hE : es.toList = xs.map (ent w)) (hI : Keyed s.heap xs) (hN : (xs.map (·.1)).Nodup)
    (h0 : (∀ (j : Nat) (p : Value × Value), xs[j]? ≠ some (k, p)) → Q none s) (h1 : ∀ (j : Nat) (p : Value × Value), xs[j]? = some (k, p) → Q (some j) s) :
    wpAny (model prog w) A (dictFind d v (k.hash w)) Q E s := by
  have plain := walk_plain (prog := prog) (w := w) (A := A) (E := E) (s := s) (Q := Q) hu hk hO hD hE hI h0 h1
  have hmem : ∀ e ∈ es, ∃ x ∈ xs, e = ent w x := by
    intro e he
    have h2 : e ∈ es.toList := Array.mem_toList_iff.mpr he
    rw [hE] at h2
    obtain ⟨x, hx, rfl⟩ := List.mem_map.mp h2
    exact ⟨x, hx, rfl⟩
  have hstored : ∀ u ∈ (placesWithHash es.size (fun i => es[i]?.map (·.hash)) (k.hash w)).filterMap (fun i => es[i]?.map (·.key)), ∃ k', NestedIs s.heap k' u ∧ k'.depth ≤ 8 := by
    intro u hu2
    obtain ⟨i, _, h3⟩ := List.mem_filterMap.mp hu2
    obtain ⟨e, he, rfl⟩ := Option.map_eq_some_iff.mp h3
    obtain ⟨x, hx, rfl⟩ := hmem e (Array.mem_of_getElem? he)
    exact ⟨x.1, hI x hx⟩
  unfold dictFind
  try with_reducible refine wpAny_holding ?_
  refine wpAny_bind (wpAny_dictEntries hO hD ?_)
  have notStr : ∀ (x : Str) (t : Tok), v ≠ .str x t := by
    rintro x t rfl
    cases hk
    exact nt
  have hpn : (placesWithHash es.size (fun i => es[i]?.map (·.hash)) (k.hash w)).Nodup := by
    unfold placesWithHash
    exact List.nodup_range.filter _
  have hp : ∀ i, i ∈ placesWithHash es.size (fun i => es[i]?.map (·.hash)) (k.hash w) ↔ i < es.size ∧ es[i]?.map (·.hash) = some (k.hash w) := fun i => mem_places
  have uniq : ∀ {i j : Nat} {p q : Value × Value}, xs[i]? = some (k, p) → xs[j]? = some (k, q) → i = j := by
    intro i j p q hi hj
    have hi' : (xs.map (·.1))[i]? = some k := by rw [List.getElem?_map, hi]; rfl
    have hj' : (xs.map (·.1))[j]? = some k := by rw [List.getElem?_map, hj]; rfl
    exact (List.getElem?_inj (List.getElem?_eq_some_iff.mp hi').1 hN).mp (hi'.trans hj'.symm)
  have same_hash : ∀ e ∈ es, ∀ a, v = .ref a → e.key = v → e.hash = k.hash w := by
    rintro e he a rfl ek
    obtain ⟨x, hx, rfl⟩ := hmem e he
    have := (hI x hx).1
    rw [show x.2.1 = Value.ref a from ek] at this
    show x.1.hash w = _
    rw [NestedIs.inj _ _ _ this hk]
  dsimp only at plain ⊢
  generalize placesWithHash es.size (fun i => es[i]?.map (·.hash)) (k.hash w) = places at hp hpn plain hstored ⊢
  generalize hst : places.filterMap (fun i => es[i]?.map (·.key)) = stored at hstored ⊢
  have reach : ∀ {jp : Unit → Sem (Option Nat)}, wpAny (model prog w) A (jp ()) Q E s → wpAny (model prog w) A (match v with
      | .ref a => if (es.any fun e => e.key == v && e.hash != k.hash w) = true then do
            let r ← unsupported "dict.find:a-stored-key-whose-hash-has-changed"
            jp r
          else jp ()
      | x => jp ()) Q E s := by
    intro jp h
    split
    · rename_i a
      rw [if_neg]
      · exact h
      · rw [← Array.any_toList, List.any_eq_true]
        rintro ⟨e, he, hc⟩
        rw [Bool.and_eq_true] at hc
        have ek : e.key = Value.ref a := eq_of_beq hc.1
        have := same_hash e (Array.mem_toList_iff.mp he) a rfl ek
        rw [this] at hc
        exact absurd hc.2 (by rw [bne_self_eq_false]; exact Bool.false_ne_true)
    · exact h
  split
  · rename_i x t
    exact absurd rfl (notStr x t)
  · by_cases hall : (v :: stored).all carriedByValue = true
    · rw [if_pos hall]
      exact plain
    · rw [if_neg hall]
      refine reach ?_
      have tells : ∀ {jp : Bool → Sem (Option Nat)}, wpAny (model prog w) A (jp false) Q E s → wpAny (model prog w) A (if (stored == [v]) = true then do
            let t ← pure false
            jp t
          else do
            let t ← tableMayTell v stored
            jp t) Q E s := by
        intro jp h
        split
        · exact wpAny_bind (wpAny_pure h)
        · exact wpAny_bind (may_tell hk kd hstored h)
      refine tells ?_
      rw [if_neg (by simp)]
      refine wpAny_bind ?_
      refine wpAny_forIn_list _ (fun rest r s' => s' = s ∧ ∃ hit, r = (none, hit) ∧ ∃ pre, places = pre ++ rest ∧
        ((hit = none ∧ ∀ j ∈ pre, ∀ p, xs[j]? ≠ some (k, p)) ∨ ∃ j p, hit = some j ∧ j ∈ pre ∧ xs[j]? = some (k, p))) _ ?_ ?_ _ _ ⟨rfl, none, rfl, [], rfl, .inl ⟨rfl, fun _ h => absurd h List.not_mem_nil⟩⟩
      · rintro i rest r s' ⟨rfl, hit, rfl, pre, hpre, hH⟩
        obtain ⟨hi, hh⟩ := (hp i).mp (by rw [hpre]; simp)
        obtain ⟨⟨k', u, x⟩, hx⟩ : ∃ y, xs[i]? = some y := ⟨_, List.getElem?_eq_getElem (by rw [← ent_size hE]; exact hi)⟩
        have hex : es[i]? = some ⟨k'.hash w, u, x⟩ := by rw [ent_at hE, hx]; rfl
        obtain ⟨ik, dk⟩ := hI _ (List.mem_of_getElem? hx)
        have inot : i ∉ pre := by
          rw [hpre, List.nodup_append] at hpn
          exact fun h => hpn.2.2 i h i List.mem_cons_self rfl
        rw [hex] at hh
        have hh' : k'.hash w = k.hash w := by simpa using hh
        dsimp only
        rw [hex]
        dsimp only
        rw [if_pos (by rw [hh']; simp)]
        refine wpAny_bind (wpAny_dictEpoch hO hD (wpAny_bind (eq_keys hu ik hk dk (wpAny_bind (wpAny_dictEpoch hO hD ?_)))))
        rw [if_neg (by simp)]
        by_cases e : k' = k
        · rw [if_pos (decide_eq_true e)]
          subst e
          rcases hH with ⟨rfl, hno⟩ | ⟨j, p, rfl, hj, hxj⟩
          · rw [if_neg (by simp)]
            refine wpAny_bind (wpAny_rule ?_)
            split
            · exact wpAny_pure (wpAny_pure (h1 i _ hx))
            · exact wpAny_pure ⟨rfl, some i, rfl, pre ++ [i], by rw [hpre, List.append_assoc]; rfl, .inr ⟨i, _, rfl, by simp, hx⟩⟩
          · exact absurd (uniq hxj hx ▸ hj) inot
        · rw [if_neg (by rw [decide_eq_false e]; exact Bool.false_ne_true)]
          refine wpAny_bind (wpAny_rule ?_)
          rw [if_neg (by simp)]
          refine wpAny_pure ⟨rfl, hit, rfl, pre ++ [i], by rw [hpre, List.append_assoc]; rfl, ?_⟩
          rcases hH with ⟨h2, hno⟩ | ⟨j, p, h2, hj, hxj⟩
          · refine .inl ⟨h2, fun j hj p hxj => ?_⟩
            rcases List.mem_append.mp hj with h | h
            · exact hno j h p hxj
            · rw [List.mem_singleton.mp h, hx] at hxj
              cases hxj
              exact e rfl
          · exact .inr ⟨j, p, h2, List.mem_append_left _ hj, hxj⟩
      · rintro r s' ⟨rfl, hit, rfl, pre, hpre, hH⟩
        rcases hH with ⟨rfl, hno⟩ | ⟨j, p, rfl, _, hxj⟩
        · refine wpAny_pure (h0 fun j p hj => ?_)
          have hlt : j < es.size := by rw [ent_size hE]; exact (List.getElem?_eq_some_iff.mp hj).1
          have hm : j ∈ places := (hp j).mpr ⟨hlt, by rw [ent_at hE, hj]; rfl⟩
          rw [hpre, List.append_nil] at hm
          exact hno j hm p hj
        · exact wpAny_pure (h1 j p hxj)
theorem get_key {d : Addr} {xs : List Row} {k : NestedKey} {v : Value} {Q : Option Value → Shared → Prop} (hu : A.units + 8 < cLine) (hk : NestedIs s.heap k v) (kd : k.depth ≤ 8) (nt : notText k)
    (hT : Tab w s.heap d xs) (hI : Keyed s.heap xs) (h : Q (at_ xs k) { s with toks := s.toks + k.draws }) : wpAny (model prog w) A (dictGet d v) Q E s := by
  obtain ⟨ob, es, ep, hO, _, hD, hE, hN⟩ := hT
  unfold dictGet
  try with_reducible refine wpAny_holding ?_
  refine wpAny_bind (pyHash_key k v A s _ hk (by omega) (wpAny_bind (find_key (s := { s with toks := s.toks + k.draws }) hu hk kd nt hO hD hE hI hN ?_ ?_)))
  · intro hno
    rw [at_none hno] at h
    exact wpAny_pure h
  · intro j p hj
    rw [at_some hN hj] at h
    refine wpAny_bind (wpAny_dictEntries (s := { s with toks := s.toks + k.draws }) hO hD ?_)
    rw [ent_at hE j, hj]
    exact wpAny_pure h
def repl (xs : List Row) (k : NestedKey) (x : Value) : List Row := xs.map fun y => if y.1 = k then (y.1, y.2.1, x) else y
def put (xs : List Row) (k : NestedKey) (v x : Value) : List Row := if (at_ xs k).isSome then repl xs k x else xs ++ [(k, v, x)]
theorem repl_keys (xs : List Row) (k : NestedKey) (x : Value) : (repl xs k x).map (·.1) = xs.map (·.1) := by
  unfold repl
  rw [List.map_map]
  refine List.map_congr_left fun y _ => ?_
  show (if y.1 = k then _ else _ : Row).1 = _
  split <;> rfl
theorem repl_modify {xs : List Row} {k : NestedKey} {p : Value × Value} {x : Value} {j : Nat} (hN : (xs.map (·.1)).Nodup) (hj : xs[j]? = some (k, p)) :
    (xs.map (ent w)).modify j (fun e : DictEntry => { e with val := x }) = (repl xs k x).map (ent w) := by
  refine List.ext_getElem? fun i => ?_
  rw [List.getElem?_modify]
  unfold repl
  rw [List.getElem?_map, List.getElem?_map, List.getElem?_map]
  cases hi : xs[i]? with
  | none => simp
  | some y =>
    by_cases e : j = i
    · subst e
      rw [hj] at hi
      cases hi
      simp [ent]
    · have ne : y.1 ≠ k := fun z => by
        have hi' : (xs.map (·.1))[i]? = some k := by rw [List.getElem?_map, hi, ← z]; rfl
        have hj' : (xs.map (·.1))[j]? = some k := by rw [List.getElem?_map, hj]; rfl
        exact e ((List.getElem?_inj (List.getElem?_eq_some_iff.mp hj').1 hN).mp (hj'.trans hi'.symm))
      simp [e, ne]
theorem set_key {d : Addr} {xs : List Row} {k : NestedKey} {v x : Value} {Q : Unit → Shared → Prop} (hu : A.units + 8 < cLine) (hk : NestedIs s.heap k v) (kd : k.depth ≤ 8) (nt : notText k)
    (hT : Tab w s.heap d xs) (hI : Keyed s.heap xs) (hz : xs.length ≤ sizeLine) (hQ : ∀ h', Tab w h' d (put xs k v x) → Heap.SameBut d s.heap h' → Q () { s with heap := h', toks := s.toks + k.draws }) :
    wpAny (model prog w) A (dictSet d v x) Q E s := by
  obtain ⟨ob, es, ep, hO, hX, hD, hE, hN⟩ := hT
  have hes : es.size ≤ sizeLine := by rw [ent_size hE]; exact hz
  unfold dictSet
  try with_reducible refine wpAny_holding ?_
  refine wpAny_bind (pyHash_key k v A s _ hk (by omega) ?_)
  unfold dictSetHashed
  try with_reducible refine wpAny_holding ?_
  refine wpAny_bind (find_key (s := { s with toks := s.toks + k.draws }) hu hk kd nt hO hD hE hI hN ?_ ?_)
  · intro hno
    have en := at_none hno
    have hnot : k ∉ xs.map (·.1) := by
      intro hm
      obtain ⟨y, hy, ey⟩ := List.mem_map.mp hm
      obtain ⟨j, hj⟩ := List.getElem?_of_mem hy
      exact hno j y.2 (by rw [hj, ← ey])
    refine wpAny_bind (wpAny_rule (wpAny_updateDictKeys (hz := hes) (s := { s with toks := s.toks + k.draws }) hO hD (hQ _ ⟨_, _, ep + 1, Heap.get?_update_self _ hO (Obj.isFreed_of_dict (Obj.data_mapDictKeys hD _)),
      hX.mapDictKeys _, Obj.data_mapDictKeys hD _, ?_, ?_⟩ (Heap.SameBut.update ..))))
    · unfold put
      rw [en, if_neg (by simp)]
      simp [hE, ent]
    · unfold put
      rw [en, if_neg (by simp), List.map_append, List.nodup_append]
      refine ⟨hN, by simp, fun a ha b hb => ?_⟩
      have : b = k := by simpa using hb
      subst this
      exact fun e => hnot (e ▸ ha)
  · intro j p hj
    have en := at_some hN hj
    refine wpAny_bind (wpAny_rule (wpAny_bind (wpAny_updateDict (s := { s with toks := s.toks + k.draws }) hO hD (wpAny_point (hQ _ ⟨_, _, ep, Heap.get?_update_self _ hO (Obj.isFreed_of_dict (Obj.data_mapDict hD _)),
      hX.mapDict _, Obj.data_mapDict hD _, ?_, ?_⟩ (Heap.SameBut.update ..))))))
    · unfold put
      rw [en, if_pos (show (some p.2).isSome = true from rfl), ← repl_modify hN hj, ← hE]
      simp
    · unfold put
      rw [en, if_pos (show (some p.2).isSome = true from rfl), repl_keys]
      exact hN
theorem Tab.typeIs {d : Addr} {xs : List Row} (h : Tab w s.heap d xs) : s.TypeIs (.ref d) "dict" := by
  obtain ⟨ob, _, _, hO, hX, _⟩ := h
  exact ⟨ob, hO, hX.1⟩
/-- d[k] -/
theorem getItem_key {d : Addr} {xs : List Row} {k : NestedKey} {v x : Value} {Q : Value → Shared → Prop} (hu : A.units + 9 < cLine) (hk : NestedIs s.heap k v) (kd : k.depth ≤ 8) (nt : notText k)
    (hT : Tab w s.heap d xs) (hI : Keyed s.heap xs) (hx : at_ xs k = some x) (h : Q x { s with toks := s.toks + k.draws }) : wpAny (model prog w) A (getItem (.ref d) v) Q E s := by
  unfold getItem
  try with_reducible refine wpAny_holding ?_
  refine wpAny_bind (wpAny_sequenceKey hT.typeIs (by decide) ?_)
  refine wpAny_bind (wpAny_callSpecial?_slot (name := Str.ofString "__getitem__") hT.typeIs slot_dict_getitem
    (wpAny_call_entry slot_dict_getitem hT.typeIs entry_dict_getitem ?_ (args_dict_getitem _ _)))
  show wpAny _ _ (dictGet d v >>= _) _ _ s
  refine wpAny_bind (get_key (by rw [Around.in1_units]; omega) hk kd nt hT hI ?_)
  rw [hx]
  exact wpAny_pure ⟨x, rfl, wpAny_pure h⟩
/-- d[k] = x -/
theorem setItem_key {d : Addr} {xs : List Row} {k : NestedKey} {v x : Value} {Q : Unit → Shared → Prop} (hu : A.units + 9 < cLine) (hk : NestedIs s.heap k v) (kd : k.depth ≤ 8) (nt : notText k)
    (hT : Tab w s.heap d xs) (hI : Keyed s.heap xs) (hz : xs.length ≤ sizeLine) (hQ : ∀ h', Tab w h' d (put xs k v x) → Heap.SameBut d s.heap h' → Q () { s with heap := h', toks := s.toks + k.draws }) :
    wpAny (model prog w) A (setItem (.ref d) v x) Q E s := by
  unfold setItem
  try with_reducible refine wpAny_holding ?_
  refine wpAny_bind (wpAny_sequenceKey hT.typeIs (by decide) ?_)
  refine wpAny_bind (wpAny_callSpecial?_slot (name := Str.ofString "__setitem__") hT.typeIs slot_dict_setitem
    (wpAny_call_entry slot_dict_setitem hT.typeIs entry_dict_setitem ?_ (args_dict_setitem _ _ _)))
  show wpAny _ _ (Builtin.Dict.notOrdered "__setitem__" ⟨[.ref d, v, x], []⟩ >>= _) _ _ s
  refine wpAny_bind (wpAny_notOrdered_dict hT.typeIs ?_)
  show wpAny _ _ (dictSet d v x >>= _) _ _ s
  exact wpAny_bind (set_key (by rw [Around.in1_units]; omega) hk kd nt hT hI hz fun h' q1 q2 => wpAny_pure ⟨.none, rfl, wpAny_pure (hQ h' q1 q2)⟩)
theorem meet_get2 {d : Addr} {v x : Value} (hd : (d == sysModules) = false) :
    MeetsIn prog w (Builtin.«dict.get» ⟨[.ref d, v, x], []⟩) (fun A R s => A.units + 9 < cLine ∧ ∃ k xs, NestedIs s.heap k v ∧ k.depth ≤ 8 ∧ notText k ∧ Tab w s.heap d xs ∧ Keyed s.heap xs ∧
      R (.ok (.ret ((at_ xs k).getD x))) { s with toks := s.toks + k.draws }) :=
  .of_wp fun A R s ⟨hu, k, xs, hk, kd, nt, hT, hI, h⟩ => by
    show wpAny _ _ (dictGet d v >>= _) _ _ s
    refine wpAny_bind (get_key (by rw [Around.in1_units]; omega) hk kd nt hT hI ?_)
    cases hf : at_ xs k with
    | some y =>
      rw [hf] at h
      exact wpAny_pure ⟨y, rfl, h⟩
    | none =>
      rw [hf] at h
      show wpAny _ _ (Builtin.Dict.missed d v >>= _) _ _ _
      exact wpAny_bind (wpAny_missed_other hd (wpAny_pure ⟨x, rfl, h⟩))
end
/-! the hash of a key without texts is the same in every world -/
mutual
def plainK : NestedKey → Prop
  | .none => True
  | .num _ => True
  | .text _ => False
  | .tup ks => plainKs ks
def plainKs : List NestedKey → Prop
  | [] => True
  | k :: ks => plainK k ∧ plainKs ks
end
mutual
theorem hash_any (w w' : World) : ∀ k : NestedKey, plainK k → k.hash w = k.hash w'
  | .none, _ => rfl
  | .num _, _ => rfl
  | .text _, h => h.elim
  | .tup ks, h => by
    show reduceHash (Builtin.Tuple.tupleHashOf (NestedKey.hashes w ks)) = reduceHash (Builtin.Tuple.tupleHashOf (NestedKey.hashes w' ks))
    rw [hashes_any w w' ks h]
theorem hashes_any (w w' : World) : ∀ ks : List NestedKey, plainKs ks → NestedKey.hashes w ks = NestedKey.hashes w' ks
  | [], _ => rfl
  | k :: ks, h => by
    show k.hash w :: NestedKey.hashes w ks = k.hash w' :: NestedKey.hashes w' ks
    rw [hash_any w w' k h.1, hashes_any w w' ks h.2]
end
theorem plainK.notText : ∀ {k : NestedKey}, plainK k → notText k
  | .none, _ => trivial
  | .num _, _ => trivial
  | .text _, h => h.elim
  | .tup _, _ => trivial
theorem Tab.world {w w' : World} {h : Heap} {d : Addr} {xs : List Row} (hp : ∀ x ∈ xs, plainK x.1) (t : Tab w h d xs) : Tab w' h d xs := by
  obtain ⟨ob, es, ep, a, b, c, e, f⟩ := t
  refine ⟨ob, es, ep, a, b, c, ?_, f⟩
  rw [e]
  refine List.map_congr_left fun x hx => ?_
  show (⟨x.1.hash w, x.2.1, x.2.2⟩ : DictEntry) = ⟨x.1.hash w', x.2.1, x.2.2⟩
  rw [hash_any w w' x.1 (hp x hx)]
end PD
namespace PD
open PySem PySem.Spec PyProof.Rows L2
/-- a key that may be asked for -/
def okK (k : NestedKey) : Prop := plainK k ∧ k.depth ≤ 8
abbrev VRow := NestedKey × V × V
def Same2 (p : VRow) (q : Row) : Prop := p.1 = q.1 ∧ RelV p.2.1 q.2.1 ∧ RelV p.2.2 q.2.2
def dPhi (a : Addr) (ep : Nat) (es : List VRow) (h : Heap) : Prop := es.length ≤ sizeLine ∧ (a == sysModules) = false ∧ (∀ x ∈ es, okK x.1) ∧ ∃ (w : World) (xs : List Row), Paired Same2 es xs ∧ TabE w h a ep xs
def dO (a : Addr) (ep : Nat) (es : List VRow) : HO := .ext (dPhi a ep es)
theorem Paired.same_keys {es : List VRow} {xs : List Row} (r : Paired Same2 es xs) : ∀ x ∈ xs, ∃ e ∈ es, e.1 = x.1 := by
  induction r with
  | nil => exact fun _ h => absurd h List.not_mem_nil
  | cons h t ih =>
    rename_i a b l1 l2
    intro x hx
    rcases List.mem_cons.mp hx with e | e
    · rw [e]; exact ⟨a, List.mem_cons_self, h.1⟩
    · obtain ⟨y, hy, ey⟩ := ih x e
      exact ⟨y, List.mem_cons_of_mem _ hy, ey⟩
theorem dPhi.at {a : Addr} {ep : Nat} {es : List VRow} {h h' : Heap} (p : dPhi a ep es h) (hh : ∀ o, h.get? a = some o → h'.get? a = some o) : dPhi a ep es h' := by
  obtain ⟨h1, h2, h3, w, xs, r, ob, en, q1, q2⟩ := p
  exact ⟨h1, h2, h3, w, xs, r, ob, en, hh _ q1, q2⟩
theorem dO_ok {P : Program} {w : World} {H : Hp} {h : Heap} {a : Addr} {ep : Nat} {es : List VRow} (p : dPhi a ep es h) : ObjOk P w H h a (dO a ep es) := by
  obtain ⟨h1, h2, h3, w', xs, r, ob, en, q1, q2⟩ := p
  exact ⟨⟨h1, h2, h3, w', xs, r, ob, en, q1, q2⟩, ⟨ob, q1⟩, fun h1 h2 p hh => p.at hh⟩
theorem dO_phi {P : Program} {w : World} {H : Hp} {h : Heap} {a : Addr} {ep : Nat} {es : List VRow} (p : ObjOk P w H h a (dO a ep es)) : dPhi a ep es h := p.1
def dAt (H : Hp) (a : Addr) (es : List VRow) : Prop := ∃ ep, H a = some (dO a ep es)
end PD
set_option Elab.async false
set_option linter.all false
set_option maxRecDepth 100000
/-! PL: values as trees over what never changes, a small store of what may; readings that compute. -/
namespace PL
open PySem PySem.Spec PyProof.Rows L2
inductive PV where
  | non | bl (b : Bool) | int (i : Int) | str (x : Str) | ty (n : String)
  | tup (xs : List PV) | lst (xs : List PV) | scr (xs : List PV)
  | obj (C : Addr) (fs : List (Str × PV))
  | ptr (a : Addr)
  | dct (kvs : List (NestedKey × PV))
  /-- a caught exception at a, with its fields, which lie at d -/
  | exc (a d : Addr) (fs : List (Str × PV))
  /-- a range object: lo, lo + 1, .. below hi -/
  | rng (lo hi : Int)
  /-- a tuple that the program made, of which it is known that it has no dict -/
  | tpd (xs : List PV)
mutual
/-- the value of a key -/
def pvK : NestedKey → PV
  | .none => .non
  | .num i => .int i
  | .text x => .str x
  | .tup ks => .tup (pvKs ks)
def pvKs : List NestedKey → List PV
  | [] => []
  | k :: ks => pvK k :: pvKs ks
end
mutual
inductive R (K : PySem.W.Frag) (F : Hp) : PV → V → Prop
  | non : R K F .non .non
  | bl (b : Bool) : R K F (.bl b) (.bl b)
  | int (i : Int) : R K F (.int i) (.int i)
  | str (x : Str) : R K F (.str x) (.str x)
  | ty (n : String) : R K F (.ty n) (.ty n)
  | tup {a : Addr} {xs : List PV} {vs : List V} : SqT K F a vs → RAll K F xs vs → R K F (.tup xs) (.ref a)
  | lst {a : Addr} {xs : List PV} {vs : List V} : F a = some (.lst vs) → RAll K F xs vs → R K F (.lst xs) (.ref a)
  | scr {a : Addr} {xs : List PV} {vs : List V} : SqL K F a vs → RAll K F xs vs → R K F (.scr xs) (.ref a)
  | obj {a C dx : Addr} {fs : List (Str × PV)} {vs : List (Str × V)} : F a = some (.ins C dx vs) → RFs K F fs vs → R K F (.obj C fs) (.ref a)
  | ptr (a : Addr) : R K F (.ptr a) (.ref a)
  | dct {a : Addr} {ep : Nat} {kvs : List (NestedKey × PV)} {es : List PD.VRow} : F a = some (PD.dO a ep es) → RKs K F kvs es → R K F (.dct kvs) (.ref a)
  | exc {a d : Addr} {fs : List (Str × PV)} {vs : List (Str × V)} : F d = some (.xd vs) → RFs K F fs vs → R K F (.exc a d fs) (.ref a)
  | rng {a : Addr} {lo hi : Int} : F a = some (.rng lo hi) → R K F (.rng lo hi) (.ref a)
  | tpd {a : Addr} {o : Obj} {xs : List PV} {vs : List V} : F a = some (.frz o (.tup vs)) → o.dict = none → RAll K F xs vs → R K F (.tpd xs) (.ref a)
inductive RAll (K : PySem.W.Frag) (F : Hp) : List PV → List V → Prop
  | nil : RAll K F [] []
  | cons {x : PV} {xs : List PV} {v : V} {vs : List V} : R K F x v → RAll K F xs vs → RAll K F (x :: xs) (v :: vs)
inductive RFs (K : PySem.W.Frag) (F : Hp) : List (Str × PV) → List (Str × V) → Prop
  | nil : RFs K F [] []
  | cons {n : Str} {x : PV} {fs : List (Str × PV)} {v : V} {vs : List (Str × V)} : R K F x v → RFs K F fs vs → RFs K F ((n, x) :: fs) ((n, v) :: vs)
inductive RKs (K : PySem.W.Frag) (F : Hp) : List (NestedKey × PV) → List PD.VRow → Prop
  | nil : RKs K F [] []
  | cons {k : NestedKey} {x : PV} {kvs : List (NestedKey × PV)} {u v : V} {es : List PD.VRow} : R K F (pvK k) u → R K F x v → RKs K F kvs es → RKs K F ((k, x) :: kvs) ((k, u, v) :: es)
end
theorem sqT_same {K : PySem.W.Frag} {H H' : Hp} {a : Addr} {xs : List V} (e : Same H H') (h : SqT K H a xs) : SqT K H' a xs := by
  rcases h with h | h
  · rcases h with h | ⟨o, h⟩
    · exact .inl (.inl (e _ _ h))
    · exact .inl (.inr ⟨o, e _ _ h⟩)
  · exact .inr h
mutual
theorem R.same {K : PySem.W.Frag} {F F' : Hp} (e : Same F F') : ∀ {x : PV} {v : V}, R K F x v → R K F' x v
  | _, _, .non => .non
  | _, _, .bl b => .bl b
  | _, _, .int i => .int i
  | _, _, .str x => .str x
  | _, _, .ty n => .ty n
  | _, _, .tup h r => .tup (sqT_same e h) (RAll.same e r)
  | _, _, .lst h r => .lst (e _ _ h) (RAll.same e r)
  | _, _, .scr h r => .scr (e.seq h) (RAll.same e r)
  | _, _, .obj h r => .obj (e _ _ h) (RFs.same e r)
  | _, _, .ptr a => .ptr a
  | _, _, .dct h r => .dct (e _ _ h) (RKs.same e r)
  | _, _, .exc h r => .exc (e _ _ h) (RFs.same e r)
  | _, _, .rng h => .rng (e _ _ h)
  | _, _, .tpd h d r => .tpd (e _ _ h) d (RAll.same e r)
theorem RAll.same {K : PySem.W.Frag} {F F' : Hp} (e : Same F F') : ∀ {xs : List PV} {vs : List V}, RAll K F xs vs → RAll K F' xs vs
  | _, _, .nil => .nil
  | _, _, .cons r t => .cons (R.same e r) (RAll.same e t)
theorem RFs.same {K : PySem.W.Frag} {F F' : Hp} (e : Same F F') : ∀ {xs : List (Str × PV)} {vs : List (Str × V)}, RFs K F xs vs → RFs K F' xs vs
  | _, _, .nil => .nil
  | _, _, .cons r t => .cons (R.same e r) (RFs.same e t)
theorem RKs.same {K : PySem.W.Frag} {F F' : Hp} (e : Same F F') : ∀ {kvs : List (NestedKey × PV)} {es : List PD.VRow}, RKs K F kvs es → RKs K F' kvs es
  | _, _, .nil => .nil
  | _, _, .cons r s t => .cons (R.same e r) (R.same e s) (RKs.same e t)
end
section
variable {K : PySem.W.Frag} {F F' : Hp}
theorem RAll.length : ∀ {xs : List PV} {vs : List V}, RAll K F xs vs → xs.length = vs.length
  | _, _, .nil => rfl
  | _, _, .cons _ t => congrArg (· + 1) (RAll.length t)
theorem RAll.get : ∀ {xs : List PV} {vs : List V} {i : Nat} {x : PV}, RAll K F xs vs → xs[i]? = some x → ∃ v, vs[i]? = some v ∧ R K F x v
  | _, _, 0, _, .cons r _, e => ⟨_, rfl, by cases e; exact r⟩
  | _, _, i + 1, x, .cons _ t, e => RAll.get (i := i) (x := x) t e
  | _, _, _, _, .nil, e => by simp at e
theorem RAll.at : ∀ {xs : List PV} {vs : List V} {i : Nat} {v : V}, RAll K F xs vs → vs[i]? = some v → ∃ x, xs[i]? = some x ∧ R K F x v
  | _, _, 0, _, .cons r _, e => ⟨_, rfl, by cases e; exact r⟩
  | _, _, i + 1, x, .cons _ t, e => RAll.at (i := i) (v := x) t e
  | _, _, _, _, .nil, e => by simp at e
theorem RAll.append : ∀ {xs ys : List PV} {vs ws : List V}, RAll K F xs vs → RAll K F ys ws → RAll K F (xs ++ ys) (vs ++ ws)
  | _, _, _, _, .nil, s => s
  | _, _, _, _, .cons r t, s => .cons r (RAll.append t s)
theorem RAll.take : ∀ {xs : List PV} {vs : List V} (n : Nat), RAll K F xs vs → RAll K F (xs.take n) (vs.take n)
  | _, _, 0, _ => .nil
  | _, _, _ + 1, .nil => .nil
  | _, _, n + 1, .cons r t => .cons r (RAll.take n t)
theorem RAll.drop : ∀ {xs : List PV} {vs : List V} (n : Nat), RAll K F xs vs → RAll K F (xs.drop n) (vs.drop n)
  | _, _, 0, r => r
  | _, _, _ + 1, .nil => .nil
  | _, _, n + 1, .cons _ t => RAll.drop n t
theorem RAll.reverse : ∀ {xs : List PV} {vs : List V}, RAll K F xs vs → RAll K F xs.reverse vs.reverse
  | _, _, .nil => .nil
  | _, _, .cons r t => by
    rw [List.reverse_cons, List.reverse_cons]
    exact RAll.append (RAll.reverse t) (.cons r .nil)
theorem RAll.set {x : PV} {v : V} (r : R K F x v) : ∀ {xs : List PV} {vs : List V} (n : Nat), RAll K F xs vs → RAll K F (xs.set n x) (vs.set n v)
  | _, _, _, .nil => .nil
  | _, _, 0, .cons _ t => .cons r t
  | _, _, n + 1, .cons q t => .cons q (RAll.set r n t)
theorem RAll.ints : ∀ {ns : List Int}, RAll K F (ns.map PV.int) (ns.map V.int)
  | [] => .nil
  | n :: r => .cons (.int n) RAll.ints
theorem RFs.get : ∀ {fs : List (Str × PV)} {vs : List (Str × V)} {f : Str} {x : PV}, RFs K F fs vs → fs.lookup f = some x → ∃ v, vs.lookup f = some v ∧ R K F x v
  | _, _, f, x, .nil, e => by simp at e
  | (n, y) :: fs, (_, w) :: vs, f, x, .cons r t, e => by
    rw [List.lookup_cons] at e ⊢
    cases hb : f == n with
    | true =>
      rw [hb] at e
      cases e
      exact ⟨w, rfl, r⟩
    | false =>
      rw [hb] at e
      exact RFs.get t e
theorem RFs.none : ∀ {fs : List (Str × PV)} {vs : List (Str × V)} {f : Str}, RFs K F fs vs → fs.lookup f = none → vs.lookup f = none
  | _, _, f, .nil, e => rfl
  | (n, y) :: fs, (_, w) :: vs, f, .cons r t, e => by
    rw [List.lookup_cons] at e ⊢
    cases hb : f == n with
    | true =>
      rw [hb] at e
      cases e
    | false =>
      rw [hb] at e
      exact RFs.none t e
def putP (f : Str) (v : PV) : List (Str × PV) → List (Str × PV)
  | [] => [(f, v)]
  | (g, x) :: r => if g = f then (g, v) :: r else (g, x) :: putP f v r
theorem RFs.put {f : Str} {x : PV} {v : V} (r : R K F x v) : ∀ {fs : List (Str × PV)} {vs : List (Str × V)}, RFs K F fs vs → RFs K F (putP f x fs) (putF f v vs)
  | _, _, .nil => .cons r .nil
  | (n, y) :: fs, (_, w) :: vs, .cons q t => by
    unfold putP putF
    by_cases h : n = f
    · rw [if_pos h, if_pos h]
      exact .cons r t
    · rw [if_neg h, if_neg h]
      exact .cons q (RFs.put r t)
theorem RFs.length : ∀ {fs : List (Str × PV)} {vs : List (Str × V)}, RFs K F fs vs → fs.length = vs.length
  | _, _, .nil => rfl
  | _, _, .cons _ t => congrArg (· + 1) (RFs.length t)
end
/-! ### the store -/
inductive MO where
  | lst (xs : List PV)
  | obj (C : Addr) (fs : List (Str × PV))
  | dct (a : Addr) (kvs : List (NestedKey × PV))
abbrev Mem := Addr → Option MO
def Mem.put (M : Mem) (a : Addr) (o : MO) : Mem := fun b => if b = a then some o else M b
def Mem.drop (M : Mem) (a : Addr) : Mem := fun b => if b = a then none else M b
theorem put_same {M : Mem} {a : Addr} {o : MO} : M.put a o a = some o := if_pos rfl
theorem put_ne {M : Mem} {a b : Addr} {o : MO} (h : b ≠ a) : M.put a o b = M b := if_neg h
theorem drop_same {M : Mem} {a : Addr} : M.drop a a = none := if_pos rfl
theorem drop_ne {M : Mem} {a b : Addr} (h : b ≠ a) : M.drop a b = M b := if_neg h
theorem put_put {M : Mem} {a : Addr} {o u : MO} : (M.put a o).put a u = M.put a u := by
  funext b
  by_cases e : b = a
  · subst e; rw [put_same, put_same]
  · rw [put_ne e, put_ne e, put_ne e]
theorem put_drop {M : Mem} {a : Addr} {o : MO} (h : M a = none) : (M.put a o).drop a = M := by
  funext b
  by_cases e : b = a
  · subst e; rw [drop_same, h]
  · rw [drop_ne e, put_ne e]
theorem put_swap {M : Mem} {a b : Addr} {o u : MO} (h : a ≠ b) : (M.put a o).put b u = (M.put b u).put a o := by
  funext c
  by_cases e : c = b
  · subst e; rw [put_same, put_ne (Ne.symm h), put_same]
  · rw [put_ne e]
    by_cases e2 : c = a
    · subst e2; rw [put_same, put_same]
    · rw [put_ne e2, put_ne e2, put_ne e]
theorem put_drop_swap {M : Mem} {a b : Addr} {o : MO} (h : a ≠ b) : (M.put a o).drop b = (M.drop b).put a o := by
  funext c
  by_cases e : c = b
  · subst e; rw [drop_same, put_ne (Ne.symm h), drop_same]
  · rw [drop_ne e]
    by_cases e2 : c = a
    · subst e2; rw [put_same, put_same]
    · rw [put_ne e2, put_ne e2, drop_ne e]
inductive RO (K : PySem.W.Frag) (F : Hp) : MO → HO → Prop
  | lst {xs : List PV} {vs : List V} : RAll K F xs vs → RO K F (.lst xs) (.lst vs)
  | obj {C dx : Addr} {fs : List (Str × PV)} {vs : List (Str × V)} : RFs K F fs vs → RO K F (.obj C fs) (.ins C dx vs)
  | dct {a : Addr} {ep : Nat} {kvs : List (NestedKey × PV)} {es : List PD.VRow} : RKs K F kvs es → RO K F (.dct a kvs) (PD.dO a ep es)
theorem RO.same {K : PySem.W.Frag} {F F' : Hp} (e : Same F F') {m : MO} {o : HO} (r : RO K F m o) : RO K F' m o := by
  cases r with
  | lst r => exact .lst (r.same e)
  | obj r => exact .obj (r.same e)
  | dct r => exact .dct (r.same e)
/-- F: what never changes; M: what may; both in H -/
structure RM (K : PySem.W.Frag) (F : Hp) (M : Mem) (H : Hp) : Prop where
  fr : Same F H
  dj : ∀ a, M a ≠ none → F a = none
  mu : ∀ a m, M a = some m → ∃ o, H a = some o ∧ RO K F m o
/-- what may have changed -/
structure Fr (M : Mem) (H : Hp) (M' : Mem) (H' : Hp) : Prop where
  keep : ∀ b o, H b = some o → M b = none → H' b = some o
  grow : ∀ b, M' b ≠ none → M b ≠ none ∨ H b = none
  there : ∀ b, H b ≠ none → H' b ≠ none
section
variable {K : PySem.W.Frag} {F F' F2 : Hp} {M M' M2 : Mem} {H H' H2 : Hp} {p : Addr} {o : HO}
theorem Fr.refl : Fr M H M H := ⟨fun _ _ h _ => h, fun _ h => .inl h, fun _ h => h⟩
theorem Fr.trans (a : Fr M H M' H') (b : Fr M' H' M2 H2) : Fr M H M2 H2 where
  keep := fun c u h n => by
    refine b.keep c u (a.keep c u h n) ?_
    cases q : M' c with
    | none => rfl
    | some m =>
      rcases a.grow c (by rw [q]; exact Option.some_ne_none _) with z | z
      · exact absurd n z
      · rw [h] at z; cases z
  grow := fun c h => by
    rcases b.grow c h with z | z
    · exact a.grow c z
    · right
      cases q : H c with
      | none => rfl
      | some u => exact absurd z (a.there c (by rw [q]; exact Option.some_ne_none _))
  there := fun c h => b.there c (a.there c h)
theorem RM.nones (r : RM K F M H) (n : H p = Option.none) : F p = Option.none ∧ M p = Option.none := by
  constructor
  · exact r.fr.free n
  · cases q : M p with
    | none => rfl
    | some m =>
      obtain ⟨o, e, _⟩ := r.mu p m q
      rw [n] at e; cases e
theorem same_upd {F : Hp} (n : F p = Option.none) : Same F (upd F p o) := fun b u e => by
  rw [upd_ne (ne_of_none e n)]; exact e
/-- a new thing that never changes -/
theorem RM.fresh (r : RM K F M H) (n : H p = Option.none) : Same F (upd F p o) ∧ RM K (upd F p o) M (upd H p o) ∧ Fr M H M (upd H p o) := by
  obtain ⟨nF, nM⟩ := r.nones n
  have sm : Same F (upd F p o) := same_upd nF
  refine ⟨sm, ⟨fun b u e => ?_, fun b h => ?_, fun b m e => ?_⟩, ⟨fun b u e _ => ?_, fun b h => .inl h, fun b h => ?_⟩⟩
  · by_cases hb : b = p
    · subst hb; rw [upd_same] at e; rw [upd_same]; exact e
    · rw [upd_ne hb] at e; rw [upd_ne hb]; exact r.fr b u e
  · have hb : b ≠ p := fun z => h (by rw [z]; exact nM)
    rw [upd_ne hb]; exact r.dj b h
  · have hb : b ≠ p := fun z => by rw [z, nM] at e; cases e
    obtain ⟨u, e1, e2⟩ := r.mu b m e
    exact ⟨u, by rw [upd_ne hb]; exact e1, e2.same sm⟩
  · rw [upd_ne (ne_of_none e n)]; exact e
  · by_cases hb : b = p
    · subst hb; rw [upd_same]; exact Option.some_ne_none _
    · rw [upd_ne hb]; exact h
/-- a new thing that may change -/
theorem RM.new {m : MO} (r : RM K F M H) (n : H p = Option.none) (q : RO K F m o) : RM K F (M.put p m) (upd H p o) ∧ Fr M H (M.put p m) (upd H p o) := by
  obtain ⟨nF, nM⟩ := r.nones n
  refine ⟨⟨fun b u e => ?_, fun b h => ?_, fun b m' e => ?_⟩, ⟨fun b u e _ => ?_, fun b h => ?_, fun b h => ?_⟩⟩
  · have hb : b ≠ p := fun z => by rw [z, nF] at e; cases e
    rw [upd_ne hb]; exact r.fr b u e
  · by_cases hb : b = p
    · subst hb; exact nF
    · rw [put_ne hb] at h; exact r.dj b h
  · by_cases hb : b = p
    · subst hb; rw [put_same] at e; cases e; exact ⟨o, upd_same, q⟩
    · rw [put_ne hb] at e
      obtain ⟨u, e1, e2⟩ := r.mu b m' e
      exact ⟨u, by rw [upd_ne hb]; exact e1, e2⟩
  · rw [upd_ne (ne_of_none e n)]; exact e
  · by_cases hb : b = p
    · subst hb; exact .inr n
    · rw [put_ne hb] at h; exact .inl h
  · by_cases hb : b = p
    · subst hb; rw [upd_same]; exact Option.some_ne_none _
    · rw [upd_ne hb]; exact h
/-- a change -/
theorem RM.write {m m' : MO} (r : RM K F M H) (e : M p = some m) (q : RO K F m' o) : RM K F (M.put p m') (upd H p o) ∧ Fr M H (M.put p m') (upd H p o) := by
  have nF : F p = Option.none := r.dj p (by rw [e]; exact Option.some_ne_none _)
  refine ⟨⟨fun b u e => ?_, fun b h => ?_, fun b m' e => ?_⟩, ⟨fun b u e1 n1 => ?_, fun b h => ?_, fun b h => ?_⟩⟩
  · have hb : b ≠ p := fun z => by rw [z, nF] at e; cases e
    rw [upd_ne hb]; exact r.fr b u e
  · by_cases hb : b = p
    · subst hb; exact nF
    · rw [put_ne hb] at h; exact r.dj b h
  · by_cases hb : b = p
    · subst hb; rw [put_same] at e; cases e; exact ⟨o, upd_same, q⟩
    · rw [put_ne hb] at e
      obtain ⟨u, e1, e2⟩ := r.mu b m' e
      exact ⟨u, by rw [upd_ne hb]; exact e1, e2⟩
  · have hb : b ≠ p := fun z => by rw [z, e] at n1; cases n1
    rw [upd_ne hb]; exact e1
  · by_cases hb : b = p
    · subst hb; exact .inl (by rw [e]; exact Option.some_ne_none _)
    · rw [put_ne hb] at h; exact .inl h
  · by_cases hb : b = p
    · subst hb; rw [upd_same]; exact Option.some_ne_none _
    · rw [upd_ne hb]; exact h
/-- it is forgotten -/
theorem RM.drop (r : RM K F M H) : RM K F (M.drop p) H ∧ Fr M H (M.drop p) H := by
  refine ⟨⟨r.fr, fun b h => r.dj b ?_, fun b m e => r.mu b m ?_⟩, ⟨fun _ _ h _ => h, fun b h => .inl ?_, fun _ h => h⟩⟩
  · by_cases hb : b = p
    · subst hb; exact absurd drop_same h
    · rw [drop_ne hb] at h; exact h
  · by_cases hb : b = p
    · subst hb; rw [drop_same] at e; cases e
    · rw [drop_ne hb] at e; exact e
  · by_cases hb : b = p
    · subst hb; exact absurd drop_same h
    · rw [drop_ne hb] at h; exact h
/-- from now on it never changes -/
theorem RM.freeze {m : MO} (r : RM K F M H) (e : M p = some m) : ∃ o, Same F (upd F p o) ∧ RM K (upd F p o) (M.drop p) H ∧ Fr M H (M.drop p) H ∧ RO K F m o := by
  obtain ⟨o, e1, q⟩ := r.mu p m e
  have nF : F p = Option.none := r.dj p (by rw [e]; exact Option.some_ne_none _)
  have sm : Same F (upd F p o) := same_upd nF
  obtain ⟨r2, f2⟩ := r.drop (p := p)
  refine ⟨o, sm, ⟨fun b u e => ?_, fun b h => ?_, fun b m e => ?_⟩, f2, q⟩
  · by_cases hb : b = p
    · subst hb; rw [upd_same] at e; cases e; exact e1
    · rw [upd_ne hb] at e; exact r.fr b u e
  · have hb : b ≠ p := fun z => h (by rw [z]; exact drop_same)
    rw [upd_ne hb]; exact r2.dj b h
  · obtain ⟨u, e1, e2⟩ := r2.mu b m e
    exact ⟨u, e1, e2.same sm⟩
end
/-! ### slots -/
abbrev PSt := List (Option PV)
structure RS (K : PySem.W.Frag) (F : Hp) (σ : PSt) (σv : L2.St) : Prop where
  len : σ.length = σv.length
  at_ : ∀ (i : Nat) (x : PV), σ[i]? = some (some x) → ∃ v, σv[i]? = some (some v) ∧ R K F x v
section
variable {K : PySem.W.Frag} {F F' : Hp} {σ : PSt} {σv : L2.St}
theorem RS.same (r : RS K F σ σv) (e : Same F F') : RS K F' σ σv := ⟨r.len, fun i x h => let ⟨v, h1, h2⟩ := r.at_ i x h; ⟨v, h1, h2.same e⟩⟩
theorem RS.set {x : PV} {v : V} (r : RS K F σ σv) (i : Nat) (q : R K F x v) : RS K F (σ.set i (some x)) (σv.set i (some v)) := by
  refine ⟨by rw [List.length_set, List.length_set, r.len], fun j y h => ?_⟩
  by_cases hj : i = j
  · subst hj
    by_cases hl : i < σ.length
    · rw [List.getElem?_set_self hl] at h
      cases h
      exact ⟨v, List.getElem?_set_self (r.len ▸ hl), q⟩
    · rw [List.getElem?_eq_none (by rw [List.length_set]; omega)] at h
      cases h
  · rw [List.getElem?_set_ne hj] at h
    obtain ⟨w, h1, h2⟩ := r.at_ j y h
    exact ⟨w, by rw [List.getElem?_set_ne hj]; exact h1, h2⟩
end
def pstart (n : Nat) (xs : List PV) : PSt := xs.map some ++ List.replicate (n - xs.length) none
theorem RS.start {K : PySem.W.Frag} {F : Hp} {N : List Str} {xs : List PV} {vs : List V} (r : RAll K F xs vs) : RS K F (pstart N.length xs) (L2.start N vs) := by
  unfold pstart L2.start
  have hl := r.length
  refine ⟨by simp [hl], fun i x h => ?_⟩
  by_cases hi : i < xs.length
  · rw [List.getElem?_append_left (by simpa using hi), List.getElem?_map] at h
    cases hx : xs[i]? with
    | none => rw [hx] at h; cases h
    | some y =>
      rw [hx] at h
      cases h
      obtain ⟨v, h1, h2⟩ := r.get hx
      refine ⟨v, ?_, h2⟩
      rw [List.getElem?_append_left (by rw [List.length_map, ← hl]; exact hi), List.getElem?_map, h1]
      rfl
  · rw [List.getElem?_append_right (by simpa using Nat.le_of_not_lt hi), List.getElem?_replicate] at h
    split at h <;> cases h
end PL
set_option Elab.async false
set_option linter.all false
set_option maxRecDepth 100000
namespace PL
open PySem PySem.Spec PyProof.Rows L2
abbrev PQ := PV → Mem → Prop
/-- an exception: its class, its attributes -/
abbrev PXK := Addr → List (Str × PV) → Mem → Prop
abbrev PTE := PXK → PSt → Mem → PQ → Prop
abbrev PTA := PXK → PSt → Mem → (List PV → Mem → Prop) → Prop
abbrev PTT := PXK → PSt → Mem → (Bool → Mem → Prop) → Prop
def WE (X : Cx) (e : Expr) (σ : L2.St) (H : Hp) (Q : VK) : Prop := ∀ pins s, Inv X pins σ H s → wpAny (model X.prog X.w) X.A (eval e X.env) (EP X pins σ Q) X.xe s
def WT (X : Cx) (e : Expr) (σ : L2.St) (H : Hp) (Q : Bool → Hp → Prop) : Prop := ∀ pins s, Inv X pins σ H s → wpAny (model X.prog X.w) X.A (isTrue e X.env (eval e X.env)) (TP X pins σ Q) X.xe s
def WW (X : Cx) (e : Expr) (σ : L2.St) (H : Hp) (Q : Bool → Hp → Prop) : Prop := ∀ (whole : Sem Value) pins s, Inv X pins σ H s → wpAny (model X.prog X.w) X.A (isTrue e X.env whole) (TP X pins σ Q) X.xe s
def WA (X : Cx) (es : List Expr) (σ : L2.St) (H : Hp) (Q : List V → Hp → Prop) : Prop := ∀ (pos : Pos) pins s, Inv X pins σ H s → wpAny (model X.prog X.w) X.A (spliced (backTo pos (starEach es X.env))) (AP X pins σ Q) X.xe s
theorem WE.pe {X : Cx} {e : Expr} : PE X e (WE X e) := ⟨fun pins s σ H Q I h => h pins s I⟩
theorem WT.pt {X : Cx} {e : Expr} : PT X e (WT X e) := ⟨fun pins s σ H Q I h => h pins s I⟩
theorem WW.pw {X : Cx} {e : Expr} : PW X e (WW X e) := ⟨fun wh pins s σ H Q I h => h wh pins s I⟩
theorem WA.pa {X : Cx} {es : List Expr} : PA X es (WA X es) := ⟨fun pos pins s σ H Q I h => h pos pins s I⟩
theorem WE.of {X : Cx} {e : Expr} {t : TE} (p : PE X e t) {σ : L2.St} {H : Hp} {Q : VK} (h : t σ H Q) : WE X e σ H Q := fun pins s I => p.run pins s σ H Q I h
theorem WT.of {X : Cx} {e : Expr} {t : TT} (p : PT X e t) {σ : L2.St} {H : Hp} {Q : Bool → Hp → Prop} (h : t σ H Q) : WT X e σ H Q := fun pins s I => p.run pins s σ H Q I h
theorem WW.of {X : Cx} {e : Expr} {t : TT} (p : PW X e t) {σ : L2.St} {H : Hp} {Q : Bool → Hp → Prop} (h : t σ H Q) : WW X e σ H Q := fun wh pins s I => p.run wh pins s σ H Q I h
theorem WA.of {X : Cx} {es : List Expr} {t : TA} (p : PA X es t) {σ : L2.St} {H : Hp} {Q : List V → Hp → Prop} (h : t σ H Q) : WA X es σ H Q := fun pos pins s I => p.run pos pins s σ H Q I h
theorem WE.mono {X : Cx} {e : Expr} {σ : L2.St} {H : Hp} {Q Q' : VK} (h : WE X e σ H Q) (m : ∀ v H', Q v H' → Q' v H') : WE X e σ H Q' := fun pins s I =>
  thn (h pins s I) fun _ _ ⟨v, H', I', r, q⟩ => ⟨v, H', I', r, m v H' q⟩
theorem WT.mono {X : Cx} {e : Expr} {σ : L2.St} {H : Hp} {Q Q' : Bool → Hp → Prop} (h : WT X e σ H Q) (m : ∀ v H', Q v H' → Q' v H') : WT X e σ H Q' := fun pins s I =>
  thn (h pins s I) fun b _ ⟨H', I', q⟩ => ⟨H', I', m b H' q⟩
theorem WW.mono {X : Cx} {e : Expr} {σ : L2.St} {H : Hp} {Q Q' : Bool → Hp → Prop} (h : WW X e σ H Q) (m : ∀ v H', Q v H' → Q' v H') : WW X e σ H Q' := fun wh pins s I =>
  thn (h wh pins s I) fun b _ ⟨H', I', q⟩ => ⟨H', I', m b H' q⟩
theorem WA.mono {X : Cx} {es : List Expr} {σ : L2.St} {H : Hp} {Q Q' : List V → Hp → Prop} (h : WA X es σ H Q) (m : ∀ v H', Q v H' → Q' v H') : WA X es σ H Q' := fun pos pins s I =>
  thn (h pos pins s I) fun _ _ ⟨v, H', I', r, q⟩ => ⟨v, H', I', r, m v H' q⟩
/-- with the state at hand -/
theorem WE.inv {X : Cx} {e : Expr} {σ : L2.St} {H : Hp} {Q : VK} (h : (∃ pins s, Inv X pins σ H s) → WE X e σ H Q) : WE X e σ H Q := fun pins s I => h ⟨pins, s, I⟩ pins s I
/-- behind: what never changed stays, what may is as Q says -/
structure Beh (K : PySem.W.Frag) (F : Hp) (M : Mem) (H : Hp) (F' : Hp) (M' : Mem) (H' : Hp) : Prop where
  sm : Same F F'
  rm : RM K F' M' H'
  fr : Fr M H M' H'
  fg : ∀ b, F' b ≠ none → F b ≠ none ∨ M b ≠ none ∨ H b = none
theorem Beh.refl {K : PySem.W.Frag} {F H : Hp} {M : Mem} (r : RM K F M H) : Beh K F M H F M H := ⟨Same.refl F, r, Fr.refl, fun _ h => .inl h⟩
theorem Beh.trans {K : PySem.W.Frag} {F F1 F2 H H1 H2 : Hp} {M M1 M2 : Mem} (a : Beh K F M H F1 M1 H1) (b : Beh K F1 M1 H1 F2 M2 H2) : Beh K F M H F2 M2 H2 := by
  have back : ∀ c, H1 c = none → H c = none := fun c z => by
    cases q : H c with
    | none => rfl
    | some u => exact absurd z (a.fr.there c (by rw [q]; exact Option.some_ne_none _))
  refine ⟨a.sm.trans b.sm, b.rm, a.fr.trans b.fr, fun c h => ?_⟩
  rcases b.fg c h with z | z | z
  · exact a.fg c z
  · rcases a.fr.grow c z with y | y
    · exact .inr (.inl y)
    · exact .inr (.inr y)
  · exact .inr (.inr (back c z))
theorem fg_upd {F H : Hp} {M : Mem} {p : Addr} {o : HO} (n : H p = none ∨ M p ≠ none) : ∀ b, upd F p o b ≠ none → F b ≠ none ∨ M b ≠ none ∨ H b = none := fun b h => by
  by_cases hb : b = p
  · subst hb
    rcases n with n | n
    · exact .inr (.inr n)
    · exact .inr (.inl n)
  · rw [upd_ne hb] at h
    exact .inl h
theorem RM.beh {K : PySem.W.Frag} {F H : Hp} {M : Mem} {p : Addr} {o : HO} (r : RM K F M H) (n : H p = none) : Beh K F M H (upd F p o) M (upd H p o) := ⟨(r.fresh n).1, (r.fresh n).2.1, (r.fresh n).2.2, fg_upd (.inl n)⟩
theorem RM.behNew {K : PySem.W.Frag} {F H : Hp} {M : Mem} {p : Addr} {o : HO} {m : MO} (r : RM K F M H) (n : H p = none) (q : RO K F m o) : Beh K F M H F (M.put p m) (upd H p o) := ⟨Same.refl F, (r.new n q).1, (r.new n q).2, fun _ h => .inl h⟩
theorem RM.behWrite {K : PySem.W.Frag} {F H : Hp} {M : Mem} {p : Addr} {o : HO} {m m' : MO} (r : RM K F M H) (e : M p = some m) (q : RO K F m' o) : Beh K F M H F (M.put p m') (upd H p o) := ⟨Same.refl F, (r.write e q).1, (r.write e q).2, fun _ h => .inl h⟩
theorem RM.behDrop {K : PySem.W.Frag} {F H : Hp} {M : Mem} {p : Addr} (r : RM K F M H) : Beh K F M H F (M.drop p) H := ⟨Same.refl F, r.drop.1, r.drop.2, fun _ h => .inl h⟩
theorem RM.behFreeze {K : PySem.W.Frag} {F H : Hp} {M : Mem} {p : Addr} {m : MO} (r : RM K F M H) (e : M p = some m) : ∃ o, Beh K F M H (upd F p o) (M.drop p) H ∧ RO K F m o := by
  obtain ⟨o, a, b, c, d⟩ := r.freeze e
  exact ⟨o, ⟨a, b, c, fg_upd (.inr (by rw [e]; exact Option.some_ne_none _))⟩, d⟩
/-- a thing of the machine's own -/
theorem RM.behHid {K : PySem.W.Frag} {F H : Hp} {M : Mem} {p : Addr} {o : HO} (r : RM K F M H) (nF : F p = none) (nM : M p = none) : RM K F M (upd H p o) ∧ (H p = none → Beh K F M H F M (upd H p o)) := by
  have x : RM K F M (upd H p o) := ⟨fun b u e => by rw [upd_ne (ne_of_none e nF)]; exact r.fr b u e, r.dj, fun b m e => by
    have hb : b ≠ p := fun z => by rw [z, nM] at e; cases e
    obtain ⟨u, e1, e2⟩ := r.mu b m e
    exact ⟨u, by rw [upd_ne hb]; exact e1, e2⟩⟩
  exact ⟨x, fun n => ⟨Same.refl F, x, (r.fresh n).2.2, fun _ h => .inl h⟩⟩
def LQ (K : PySem.W.Frag) (F : Hp) (M : Mem) (H : Hp) (Q : PQ) : VK := fun v H' => ∃ F' M' x, Beh K F M H F' M' H' ∧ R K F' x v ∧ Q x M'
def LB (K : PySem.W.Frag) (F : Hp) (M : Mem) (H : Hp) (Q : Bool → Mem → Prop) : Bool → Hp → Prop := fun b H' => ∃ F' M', Beh K F M H F' M' H' ∧ Q b M'
def LL (K : PySem.W.Frag) (F : Hp) (M : Mem) (H : Hp) (Q : List PV → Mem → Prop) : List V → Hp → Prop := fun vs H' => ∃ F' M' xs, Beh K F M H F' M' H' ∧ RAll K F' xs vs ∧ Q xs M'
theorem LQ.tr {K : PySem.W.Frag} {F F1 H H1 : Hp} {M M1 : Mem} {Q : PQ} (b : Beh K F M H F1 M1 H1) {v : V} {H2 : Hp} : LQ K F1 M1 H1 Q v H2 → LQ K F M H Q v H2
  | ⟨F2, M2, x, b2, r, q⟩ => ⟨F2, M2, x, b.trans b2, r, q⟩
theorem LB.tr {K : PySem.W.Frag} {F F1 H H1 : Hp} {M M1 : Mem} {Q : Bool → Mem → Prop} (b : Beh K F M H F1 M1 H1) {v : Bool} {H2 : Hp} : LB K F1 M1 H1 Q v H2 → LB K F M H Q v H2
  | ⟨F2, M2, b2, q⟩ => ⟨F2, M2, b.trans b2, q⟩
theorem LL.tr {K : PySem.W.Frag} {F F1 H H1 : Hp} {M M1 : Mem} {Q : List PV → Mem → Prop} (b : Beh K F M H F1 M1 H1) {v : List V} {H2 : Hp} : LL K F1 M1 H1 Q v H2 → LL K F M H Q v H2
  | ⟨F2, M2, x, b2, r, q⟩ => ⟨F2, M2, x, b.trans b2, r, q⟩
theorem LQ.now {K : PySem.W.Frag} {F H : Hp} {M : Mem} {Q : PQ} {v : V} {x : PV} (r : RM K F M H) (q : R K F x v) (h : Q x M) : LQ K F M H Q v H := ⟨F, M, x, Beh.refl r, q, h⟩
/-- how the exception's attributes lie -/
def XA (K : PySem.W.Frag) (F : Hp) (fs : List (Str × PV)) (d : Option Addr) (H : Hp) : Prop := match d with
  | none => fs = []
  | some a => fs ≠ [] ∧ ∃ vs, H a = some (.xd vs) ∧ F a = some (.xd vs) ∧ RFs K F fs vs
def LX (K : PySem.W.Frag) (F : Hp) (M : Mem) (H : Hp) (E : PXK) : XK := fun cls d H' => ∃ F' M' C fs, cls = .ref C ∧ Beh K F M H F' M' H' ∧ XA K F' fs d H' ∧ E C fs M'
theorem LX.tr {K : PySem.W.Frag} {F F1 H H1 : Hp} {M M1 : Mem} {E : PXK} (b : Beh K F M H F1 M1 H1) {cls : Value} {d : Option Addr} {H2 : Hp} : LX K F1 M1 H1 E cls d H2 → LX K F M H E cls d H2
  | ⟨F2, M2, C, fs, h1, b2, h3, h4⟩ => ⟨F2, M2, C, fs, h1, b.trans b2, h3, h4⟩
/-- such exceptions may leave -/
def PTk (X : Cx) (F : Hp) (M : Mem) (H : Hp) (E : PXK) : Prop := Takes X (fun cls d _ H' => LX X.K F M H E cls d H')
theorem PTk.tr {X : Cx} {F F1 H H1 : Hp} {M M1 : Mem} {E : PXK} (tk : PTk X F M H E) (b : Beh X.K F M H F1 M1 H1) : PTk X F1 M1 H1 E := tk.imp fun _ _ _ _ h => h.tr b
def noX : PXK := fun _ _ _ => False
theorem PTk.no {X : Cx} {F H : Hp} {M : Mem} : PTk X F M H noX := fun _ _ ⟨_, _, _, _, _, _, _, _, _, _, _, _, _, _, _, _, _, _, _, _, _, _, _, z⟩ => z.elim
structure LE (X : Cx) (e : Expr) (t : PTE) : Prop where
  run : ∀ (σv : L2.St) (H : Hp) (σ : PSt) (F : Hp) (M : Mem) (Q : PQ) (E : PXK), PTk X F M H E → RM X.K F M H → RS X.K F σ σv → t E σ M Q → WE X e σv H (LQ X.K F M H Q)
structure LT (X : Cx) (e : Expr) (t : PTT) : Prop where
  run : ∀ (σv : L2.St) (H : Hp) (σ : PSt) (F : Hp) (M : Mem) (Q : Bool → Mem → Prop) (E : PXK), PTk X F M H E → RM X.K F M H → RS X.K F σ σv → t E σ M Q → WT X e σv H (LB X.K F M H Q)
structure LW (X : Cx) (e : Expr) (t : PTT) : Prop where
  run : ∀ (σv : L2.St) (H : Hp) (σ : PSt) (F : Hp) (M : Mem) (Q : Bool → Mem → Prop) (E : PXK), PTk X F M H E → RM X.K F M H → RS X.K F σ σv → t E σ M Q → WW X e σv H (LB X.K F M H Q)
structure LA (X : Cx) (es : List Expr) (t : PTA) : Prop where
  run : ∀ (σv : L2.St) (H : Hp) (σ : PSt) (F : Hp) (M : Mem) (Q : List PV → Mem → Prop) (E : PXK), PTk X F M H E → RM X.K F M H → RS X.K F σ σv → t E σ M Q → WA X es σv H (fun vs H' => vs.length = es.length ∧ LL X.K F M H Q vs H')
theorem LW.lt {X : Cx} {e : Expr} {t : PTT} (h : LW X e t) : LT X e t := ⟨fun σv H σ F M Q E tk r s q pins s' I => h.run σv H σ F M Q E tk r s q _ pins s' I⟩
/-! ### small words of the readings -/
def need {α : Type} (o : Option α) (k : α → Prop) : Prop := match o with | some a => k a | none => False
theorem need_some {α : Type} {a : α} {k : α → Prop} : need (some a) k = k a := rfl
theorem need_none {α : Type} {k : α → Prop} : need none k = False := rfl
theorem need_of {α : Type} {o : Option α} {k : α → Prop} (h : need o k) : ∃ a, o = some a ∧ k a := by
  cases o with
  | some a => exact ⟨a, rfl, h⟩
  | none => exact h.elim
theorem need_by {α : Type} {o : Option α} {a : α} {k : α → Prop} (e : o = some a) (h : k a) : need o k := by rw [e]; exact h
section
variable {X : Cx} {a b c e : Expr} {ta tb tc : PTE} {pos : Pos} {σv : L2.St} {H : Hp} {σ : PSt} {F : Hp} {M : Mem}
/-- two in a row -/
theorem seq2 (ha : LE X a ta) (hb : LE X b tb) {E : PXK} (tk : PTk X F M H E) (r : RM X.K F M H) (s : RS X.K F σ σv) {k : PV → PV → Mem → Prop} (h : ta E σ M fun x M1 => tb E σ M1 fun y M2 => k x y M2)
    {Q : V → V → Hp → Prop} (hk : ∀ x y xv yv F2 M2 H2, Beh X.K F M H F2 M2 H2 → R X.K F2 x xv → R X.K F2 y yv → k x y M2 → Q xv yv H2) :
    WE X a σv H fun xv H1 => WE X b σv H1 fun yv H2 => Q xv yv H2 := by
  refine (ha.run σv H σ F M _ E tk r s h).mono ?_
  rintro xv H1 ⟨F1, M1, x, b1, rx, h1⟩
  refine (hb.run σv H1 σ F1 M1 _ E (tk.tr b1) b1.rm (s.same b1.sm) h1).mono ?_
  rintro yv H2 ⟨F2, M2, y, b2, ry, h2⟩
  exact hk x y xv yv F2 M2 H2 (b1.trans b2) (rx.same b2.sm) ry h2
/-! ### names, constants -/
def pVar (i : Nat) : PTE := fun E σ M Q => match σ[i]? with | some (some x) => Q x M | _ => False
def pC (x : PV) : PTE := fun _ _ M Q => Q x M
theorem LE.var (i : Nat) {x : Str} (hN : X.N[i]? = some x := by rfl) (hv : Vis X.env.scope x := by first | exact Or.inl rfl | exact Or.inr (Or.inl rfl) | exact Or.inr (Or.inr rfl))
    (hd : (x == ("__debug__" : Str)) = false := by decide) (hcd : (x == ("__classdict__" : Str)) = false := by decide) : LE X (.Name x pos) (pVar i) := by
  refine ⟨fun σv H σ F M Q E tk r s h => WE.of (pe_var (i := i) hN hv hd hcd) ?_⟩
  unfold pVar at h
  split at h
  · rename_i x hx
    obtain ⟨v, h1, h2⟩ := s.at_ i x hx
    exact ⟨v, h1, LQ.now r h2 h⟩
  · exact h.elim
theorem LE.int {i j} : LE X (.Constant (.int i) j pos) (pC (.int i)) := ⟨fun σv H σ F M Q E tk r s h => WE.of pe_int (LQ.now r (.int i) h)⟩
theorem LE.bl {b j} : LE X (.Constant (.bool b) j pos) (pC (.bl b)) := ⟨fun σv H σ F M Q E tk r s h => WE.of pe_bl (LQ.now r (.bl b) h)⟩
theorem LE.non {j} : LE X (.Constant .none j pos) (pC .non) := ⟨fun σv H σ F M Q E tk r s h => WE.of pe_non (LQ.now r .non h)⟩
theorem LE.str {x j} : LE X (.Constant (.str x) j pos) (pC (.str x)) := ⟨fun σv H σ F M Q E tk r s h => WE.of pe_str (LQ.now r (.str x) h)⟩
/-! ### operators -/
abbrev PO2 := PV → PV → Mem → PQ → Prop
def POp (K : PySem.W.Frag) (r : R2) (o : PO2) : Prop := ∀ (F : Hp) (M : Mem) (H : Hp) (x y : PV) (xv yv : V) (Q : PQ) (Qv : VK), RM K F M H → R K F x xv → R K F y yv → o x y M Q →
  (∀ v H', LQ K F M H Q v H' → Qv v H') → r xv yv H Qv
def pBin (o : PO2) (ta tb : PTE) : PTE := fun E σ M Q => ta E σ M fun x M1 => tb E σ M1 fun y M2 => o x y M2 Q
theorem LE.bin {op : Operator} {r : R2} {o : PO2} (ho : OpR X (binaryOp op) r) (hp : POp X.K r o) (ha : LE X a ta) (hb : LE X b tb) : LE X (.BinOp a op b pos) (pBin o ta tb) := by
  refine ⟨fun σv H σ F M Q E tk rm rs h => WE.of (pe_op ho WE.pe WE.pe) ?_⟩
  exact seq2 ha hb tk rm rs h fun x y xv yv F2 M2 H2 bh rx ry h2 => hp F2 M2 H2 x y xv yv Q _ bh.rm rx ry h2 fun v H' q => q.tr bh
theorem LE.cmp {op : CmpOp} {r : R2} {o : PO2} (ho : OpR X (compareOp op) r) (hp : POp X.K r o) (hm : behindInMarks op b = false) (ha : LE X a ta) (hb : LE X b tb) : LE X (.Compare a [op] [b] pos) (pBin o ta tb) := by
  refine ⟨fun σv H σ F M Q E tk rm rs h => WE.of (pe_cmpR ho WE.pe WE.pe hm) ?_⟩
  exact seq2 ha hb tk rm rs h fun x y xv yv F2 M2 H2 bh rx ry h2 => hp F2 M2 H2 x y xv yv Q _ bh.rm rx ry h2 fun v H' q => q.tr bh
/-- a value that is a bool, as a test's -/
def kB (x : PV) (k : Bool → Prop) : Prop := match x with | .bl b => k b | _ => False
theorem kB_bl {b : Bool} {k : Bool → Prop} : kB (.bl b) k = k b := rfl
theorem R.bl_inv {K : PySem.W.Frag} {F : Hp} {x : PV} {v : V} {k : Bool → Prop} (r : R K F x v) (h : kB x k) : ∃ c, v = .bl c ∧ k c := by
  cases r <;> first | exact h.elim | exact ⟨_, rfl, h⟩
def pTest (t : PTE) : PTT := fun E σ M Q => t E σ M fun x M1 => kB x fun b => Q b M1
theorem LT.cmp {op : CmpOp} {r : R2} {o : PO2} (ho : OpR X (compareOp op) r) (hp : POp X.K r o) (hm : behindInMarks op b = false) (ha : LE X a ta) (hb : LE X b tb) : LT X (.Compare a [op] [b] pos) (pTest (pBin o ta tb)) := by
  refine ⟨fun σv H σ F M Q E tk rm rs h => WT.of (pt_cmpR ho WE.pe WE.pe hm) ?_⟩
  refine seq2 ha hb tk rm rs h fun x y xv yv F2 M2 H2 bh rx ry h2 => hp F2 M2 H2 x y xv yv _ _ bh.rm rx ry h2 fun v H' q => ?_
  obtain ⟨F3, M3, z, b3, rz, hz⟩ := q
  obtain ⟨c, rfl, hc⟩ := rz.bl_inv hz
  exact ⟨c, rfl, F3, M3, bh.trans b3, hc⟩
/-- any expression that hands back a bool, as a test -/
theorem LT.val (h : LE X e ta) (he : ∀ whole, isTrue e X.env whole = (do let v ← whole; standAt e.pos; holding [v] (truthy v)) := by intro _; rfl) : LT X e (pTest ta) := by
  refine ⟨fun σv H σ F M Q E tk rm rs hh => WT.of (pt_val WE.pe he) ?_⟩
  refine (h.run σv H σ F M _ E tk rm rs hh).mono ?_
  rintro v H1 ⟨F1, M1, x, b1, rx, hx⟩
  obtain ⟨c, rfl, hc⟩ := rx.bl_inv hx
  exact ⟨c, rfl, F1, M1, b1, hc⟩
/-! ### ints -/
def oI (C : Int → Int → Prop) (g : Int → Int → PV) : PO2 := fun x y M Q => match x, y with | .int i, .int j => C i j ∧ Q (g i j) M | _, _ => False
def oI0 (g : Int → Int → PV) : PO2 := fun x y M Q => match x, y with | .int i, .int j => Q (g i j) M | _, _ => False
theorem pop_I {K : PySem.W.Frag} {C : Int → Int → Prop} {g : Int → Int → PV} {gv : Int → Int → V} (hg : ∀ F i j, R K F (g i j) (gv i j)) : POp K (rI C gv) (oI C g) := by
  intro F M H x y xv yv Q Qv rm rx ry h k
  cases rx <;> cases ry <;> first
    | exact h.elim
    | exact ⟨_, _, rfl, rfl, h.1, k _ _ (LQ.now rm (hg _ _ _) h.2)⟩
theorem pop_I0 {K : PySem.W.Frag} {g : Int → Int → PV} {gv : Int → Int → V} (hg : ∀ F i j, R K F (g i j) (gv i j)) : POp K (rI0 gv) (oI0 g) := by
  intro F M H x y xv yv Q Qv rm rx ry h k
  cases rx <;> cases ry <;> first
    | exact h.elim
    | exact ⟨_, _, rfl, rfl, k _ _ (LQ.now rm (hg _ _ _) h)⟩
abbrev oSub := oI0 fun i j => .int (i - j)
abbrev oMul := oI CMul fun i j => .int (i * j)
abbrev oDiv := oI CDiv fun i j => .int (i / j)
abbrev oMod := oI (fun _ j => 0 < j) fun i j => .int (i % j)
abbrev oPow := oI CPow fun i j => .int (i ^ j.toNat)
abbrev oLt := oI0 fun i j => .bl (decide (i < j))
abbrev oLe := oI0 fun i j => .bl (decide (i ≤ j))
abbrev oGt := oI0 fun i j => .bl (decide (j < i))
abbrev oGe := oI0 fun i j => .bl (decide (j ≤ i))
theorem LE.sub (ha : LE X a ta) (hb : LE X b tb) : LE X (.BinOp a .Sub b pos) (pBin oSub ta tb) := LE.bin op_sub (pop_I0 fun _ _ _ => .int _) ha hb
theorem LE.mul (ha : LE X a ta) (hb : LE X b tb) : LE X (.BinOp a .Mult b pos) (pBin oMul ta tb) := LE.bin op_mul (pop_I fun _ _ _ => .int _) ha hb
theorem LE.div (ha : LE X a ta) (hb : LE X b tb) : LE X (.BinOp a .FloorDiv b pos) (pBin oDiv ta tb) := LE.bin op_fdiv (pop_I fun _ _ _ => .int _) ha hb
theorem LE.mod (ha : LE X a ta) (hb : LE X b tb) : LE X (.BinOp a .Mod b pos) (pBin oMod ta tb) := LE.bin op_mod (pop_I fun _ _ _ => .int _) ha hb
theorem LE.pow (ha : LE X a ta) (hb : LE X b tb) : LE X (.BinOp a .Pow b pos) (pBin oPow ta tb) := LE.bin op_pow (pop_I fun _ _ _ => .int _) ha hb
theorem LE.lt (ha : LE X a ta) (hb : LE X b tb) : LE X (.Compare a [.Lt] [b] pos) (pBin oLt ta tb) := LE.cmp op_lt (pop_I0 fun _ _ _ => .bl _) (nomark _) ha hb
theorem LT.lt (ha : LE X a ta) (hb : LE X b tb) : LT X (.Compare a [.Lt] [b] pos) (pTest (pBin oLt ta tb)) := LT.cmp op_lt (pop_I0 fun _ _ _ => .bl _) (nomark _) ha hb
def pNeg (ta : PTE) : PTE := fun E σ M Q => ta E σ M fun x M1 => match x with | .int i => Q (.int (-i)) M1 | _ => False
/-- a <= b <= c and its like -/
def pChain (p q : Int → Int → Bool) (ta tb tc : PTE) : PTE := fun E σ M Q => ta E σ M fun x M1 => tb E σ M1 fun y M2 => match x, y with
  | .int i, .int j => if p i j = true then tc E σ M2 fun z M3 => match z with | .int l => Q (.bl (q j l)) M3 | _ => False else Q (.bl false) M2
  | _, _ => False
theorem LE.chain {op op' : CmpOp} {p q : Int → Int → Bool} (ho : OpR X (compareOp op) (rI0 fun i j => .bl (p i j))) (ho' : OpR X (compareOp op') (rI0 fun i j => .bl (q i j)))
    (hm : lastMarks [op, op'] [b, c] = false) (ha : LE X a ta) (hb : LE X b tb) (hc : LE X c tc) : LE X (.Compare a [op, op'] [b, c] pos) (pChain p q ta tb tc) := by
  refine ⟨fun σv H σ F M Q E tk rm rs h => WE.of (pe_chain ho ho' WE.pe WE.pe WE.pe hm) ?_⟩
  refine seq2 ha hb tk rm rs h fun x y xv yv F2 M2 H2 bh rx ry h2 => ?_
  cases rx <;> cases ry <;> first
    | exact h2.elim
    | skip
  rename_i i j
  dsimp only at h2
  refine ⟨i, j, rfl, rfl, p i j, rfl, ?_⟩
  split
  · rename_i hp
    rw [if_pos hp] at h2
    refine (hc.run σv H2 σ F2 M2 _ E (tk.tr bh) bh.rm (rs.same bh.sm) h2).mono ?_
    rintro v H3 ⟨F3, M3, z, b3, rz, hz⟩
    cases rz <;> first
      | exact hz.elim
      | exact ⟨j, _, rfl, rfl, LQ.tr (bh.trans b3) (LQ.now b3.rm (.bl _) hz)⟩
  · rename_i hp
    rw [if_neg hp] at h2
    exact LQ.tr bh (LQ.now bh.rm (.bl _) h2)
theorem LE.lele (ha : LE X a ta) (hb : LE X b tb) (hc : LE X c tc) (hm : lastMarks [CmpOp.LtE, CmpOp.LtE] [b, c] = false := by with_unfolding_all rfl) : LE X (.Compare a [.LtE, .LtE] [b, c] pos) (pChain (fun i j => decide (i ≤ j)) (fun i j => decide (i ≤ j)) ta tb tc) :=
  LE.chain op_le op_le hm ha hb hc
/-! ### is None -/
def isNon : PV → Bool | .non => true | _ => false
theorem R.isNon {K : PySem.W.Frag} {F : Hp} {x : PV} {v : V} (r : R K F x v) : decide (v = .non) = isNon x := by
  cases r <;> rfl
def pIsN (ta : PTE) : PTE := fun E σ M Q => ta E σ M fun x M1 => Q (.bl (isNon x)) M1
def pNotN (ta : PTE) : PTE := fun E σ M Q => ta E σ M fun x M1 => Q (.bl (!isNon x)) M1
def pTIsN (ta : PTE) : PTT := fun E σ M Q => ta E σ M fun x M1 => Q (isNon x) M1
def pTNotN (ta : PTE) : PTT := fun E σ M Q => ta E σ M fun x M1 => Q (!isNon x) M1
/-! ### and, or, not -/
variable {rest : List Expr} {tt tu : PTT}
def pAnd (t u : PTT) : PTT := fun E σ M Q => t E σ M fun c M1 => if c = true then u E σ M1 Q else Q false M1
def pOr (t u : PTT) : PTT := fun E σ M Q => t E σ M fun c M1 => if c = true then Q true M1 else u E σ M1 Q
def pNot (t : PTT) : PTT := fun E σ M Q => t E σ M fun c M1 => Q (!c) M1
theorem LW.and1 (ha : LT X a tt) : LW X (.BoolOp .And [a] pos) tt := ⟨fun σv H σ F M Q E tk rm rs h => WW.of (pw_and1 WT.pt) (ha.run σv H σ F M Q E tk rm rs h)⟩
theorem LW.or1 (ha : LT X a tt) : LW X (.BoolOp .Or [a] pos) tt := ⟨fun σv H σ F M Q E tk rm rs h => WW.of (pw_or1 WT.pt) (ha.run σv H σ F M Q E tk rm rs h)⟩
theorem LW.and (ha : LT X a tt) (hb : LW X (.BoolOp .And (b :: rest) pos) tu) : LW X (.BoolOp .And (a :: b :: rest) pos) (pAnd tt tu) := by
  refine ⟨fun σv H σ F M Q E tk rm rs h => WW.of (pw_and WT.pt WW.pw) ?_⟩
  refine (ha.run σv H σ F M _ E tk rm rs h).mono ?_
  rintro c H1 ⟨F1, M1, b1, hc⟩
  split
  · rename_i e
    rw [if_pos e] at hc
    exact (hb.run σv H1 σ F1 M1 _ E (tk.tr b1) b1.rm (rs.same b1.sm) hc).mono fun v H' q => q.tr b1
  · rename_i e
    rw [if_neg e] at hc
    exact ⟨F1, M1, b1, hc⟩
theorem LW.or (ha : LT X a tt) (hb : LW X (.BoolOp .Or (b :: rest) pos) tu) : LW X (.BoolOp .Or (a :: b :: rest) pos) (pOr tt tu) := by
  refine ⟨fun σv H σ F M Q E tk rm rs h => WW.of (pw_or WT.pt WW.pw) ?_⟩
  refine (ha.run σv H σ F M _ E tk rm rs h).mono ?_
  rintro c H1 ⟨F1, M1, b1, hc⟩
  split
  · rename_i e
    rw [if_pos e] at hc
    exact ⟨F1, M1, b1, hc⟩
  · rename_i e
    rw [if_neg e] at hc
    exact (hb.run σv H1 σ F1 M1 _ E (tk.tr b1) b1.rm (rs.same b1.sm) hc).mono fun v H' q => q.tr b1
theorem LT.not (ha : LT X a tt) : LT X (.UnaryOp .Not a pos) (pNot tt) := by
  refine ⟨fun σv H σ F M Q E tk rm rs h => WT.of (pt_not WT.pt) ?_⟩
  refine (ha.run σv H σ F M _ E tk rm rs h).mono ?_
  rintro c H1 ⟨F1, M1, b1, hc⟩
  exact ⟨F1, M1, b1, hc⟩
def pAndV (ta tb : PTE) : PTE := fun E σ M Q => ta E σ M fun x M1 => kB x fun c => if c = true then tb E σ M1 Q else Q (.bl false) M1
def pOrV (ta tb : PTE) : PTE := fun E σ M Q => ta E σ M fun x M1 => kB x fun c => if c = true then Q (.bl true) M1 else tb E σ M1 Q
def pNotV (ta : PTE) : PTE := fun E σ M Q => ta E σ M fun x M1 => kB x fun c => Q (.bl (!c)) M1
theorem LE.one {op} (ha : LE X a ta) : LE X (.BoolOp op [a] pos) ta := ⟨fun σv H σ F M Q E tk rm rs h => WE.of (pe_one WE.pe) (ha.run σv H σ F M Q E tk rm rs h)⟩
theorem LE.and (ha : LE X a ta) (hb : LE X (.BoolOp .And (b :: rest) pos) tb) : LE X (.BoolOp .And (a :: b :: rest) pos) (pAndV ta tb) := by
  refine ⟨fun σv H σ F M Q E tk rm rs h => WE.of (pe_and WE.pe WE.pe) ?_⟩
  refine (ha.run σv H σ F M _ E tk rm rs h).mono ?_
  rintro v H1 ⟨F1, M1, x, b1, rx, hx⟩
  obtain ⟨c, rfl, hc⟩ := rx.bl_inv hx
  refine ⟨c, rfl, ?_⟩
  split
  · rename_i e
    rw [if_pos e] at hc
    exact (hb.run σv H1 σ F1 M1 _ E (tk.tr b1) b1.rm (rs.same b1.sm) hc).mono fun v H' q => q.tr b1
  · rename_i e
    rw [if_neg e] at hc
    exact ⟨F1, M1, _, b1, .bl _, hc⟩
theorem LE.or (ha : LE X a ta) (hb : LE X (.BoolOp .Or (b :: rest) pos) tb) : LE X (.BoolOp .Or (a :: b :: rest) pos) (pOrV ta tb) := by
  refine ⟨fun σv H σ F M Q E tk rm rs h => WE.of (pe_or WE.pe WE.pe) ?_⟩
  refine (ha.run σv H σ F M _ E tk rm rs h).mono ?_
  rintro v H1 ⟨F1, M1, x, b1, rx, hx⟩
  obtain ⟨c, rfl, hc⟩ := rx.bl_inv hx
  refine ⟨c, rfl, ?_⟩
  split
  · rename_i e
    rw [if_pos e] at hc
    exact ⟨F1, M1, _, b1, .bl _, hc⟩
  · rename_i e
    rw [if_neg e] at hc
    exact (hb.run σv H1 σ F1 M1 _ E (tk.tr b1) b1.rm (rs.same b1.sm) hc).mono fun v H' q => q.tr b1
theorem LE.not (ha : LE X a ta) : LE X (.UnaryOp .Not a pos) (pNotV ta) := by
  refine ⟨fun σv H σ F M Q E tk rm rs h => WE.of (pe_not WE.pe) ?_⟩
  refine (ha.run σv H σ F M _ E tk rm rs h).mono ?_
  rintro v H1 ⟨F1, M1, x, b1, rx, hx⟩
  obtain ⟨c, rfl, hc⟩ := rx.bl_inv hx
  exact ⟨c, rfl, F1, M1, _, b1, .bl _, hc⟩
def pIf (t : PTT) (ta tb : PTE) : PTE := fun E σ M Q => t E σ M fun c M1 => if c = true then ta E σ M1 Q else tb E σ M1 Q
/-! ### argument lists, displays -/
variable {es : List Expr} {t : PTA}
def pNil : PTA := fun _ _ M Q => Q [] M
def pCons (ta : PTE) (tr : PTA) : PTA := fun E σ M Q => ta E σ M fun x M1 => tr E σ M1 fun xs M2 => Q (x :: xs) M2
theorem LA.nil : LA X [] pNil := ⟨fun σv H σ F M Q E tk rm rs h => WA.of pa_nil ⟨rfl, F, M, [], Beh.refl rm, .nil, h⟩⟩
theorem LA.cons (ha : LE X e ta) (hr : LA X es t) (hs : starEach (e :: es) X.env = (false, eval e X.env) :: starEach es X.env := by rfl) : LA X (e :: es) (pCons ta t) := by
  refine ⟨fun σv H σ F M Q E tk rm rs h => WA.of (pa_cons WE.pe WA.pa hs) ?_⟩
  refine (ha.run σv H σ F M _ E tk rm rs h).mono ?_
  rintro v H1 ⟨F1, M1, x, b1, rx, hx⟩
  refine (hr.run σv H1 σ F1 M1 _ E (tk.tr b1) b1.rm (rs.same b1.sm) hx).mono ?_
  rintro vs H2 ⟨hl, F2, M2, xs, b2, rxs, hxs⟩
  exact ⟨congrArg (· + 1) hl, F2, M2, _, b1.trans b2, .cons (rx.same b2.sm) rxs, hxs⟩
def pTup (t : PTA) : PTE := fun E σ M Q => t E σ M fun xs M1 => Q (.tup xs) M1
def pLst (t : PTA) : PTE := fun E σ M Q => t E σ M fun xs M1 => Q (.lst xs) M1
def pLstM (t : PTA) : PTE := fun E σ M Q => t E σ M fun xs M1 => ∀ p, M1 p = none → Q (.ptr p) (M1.put p (.lst xs))
theorem LE.tup {x1} (h : LA X es t) (hn : es.length ≤ 1000 := by decide) : LE X (.Tuple es x1 pos) (pTup t) := by
  refine ⟨fun σv H σ F M Q E tk rm rs hh => WE.of (pe_tup WA.pa) ?_⟩
  refine (h.run σv H σ F M _ E tk rm rs hh).mono ?_
  rintro vs H1 ⟨hl, F1, M1, xs, b1, rx, hx⟩
  refine ⟨by rw [hl]; exact Nat.le_of_lt (small1000 hn), fun p np => ?_⟩
  exact ⟨_, M1, _, b1.trans (b1.rm.beh np), .tup (SqT.of upd_same) (rx.same (b1.rm.beh (o := .tup vs) np).sm), hx⟩
theorem LE.lst (h : LA X es t) (hn : es.length ≤ 1000 := by decide) : LE X (.List es pos) (pLst t) := by
  refine ⟨fun σv H σ F M Q E tk rm rs hh => WE.of (pe_lst WA.pa) ?_⟩
  refine (h.run σv H σ F M _ E tk rm rs hh).mono ?_
  rintro vs H1 ⟨hl, F1, M1, xs, b1, rx, hx⟩
  refine ⟨by rw [hl]; exact Nat.le_of_lt (small1000 hn), fun p np => ?_⟩
  exact ⟨_, M1, _, b1.trans (b1.rm.beh np), .lst upd_same (rx.same (b1.rm.beh (o := .lst vs) np).sm), hx⟩
theorem LE.lstM (h : LA X es t) (hn : es.length ≤ 1000 := by decide) : LE X (.List es pos) (pLstM t) := by
  refine ⟨fun σv H σ F M Q E tk rm rs hh => WE.of (pe_lst WA.pa) ?_⟩
  refine (h.run σv H σ F M _ E tk rm rs hh).mono ?_
  rintro vs H1 ⟨hl, F1, M1, xs, b1, rx, hx⟩
  refine ⟨by rw [hl]; exact Nat.le_of_lt (small1000 hn), fun p np => ?_⟩
  exact ⟨_, _, _, b1.trans (b1.rm.behNew np (.lst rx)), .ptr p, hx p (b1.rm.nones np).2⟩
end
end PL
set_option Elab.async false
set_option linter.all false
set_option maxRecDepth 100000
namespace PL
open PySem PySem.Spec PyProof.Rows L2
/-! ### sequences -/
def seqOf (M : Mem) : PV → Option (List PV)
  | .tup xs => some xs
  | .lst xs => some xs
  | .scr xs => some xs
  | .ptr a => match M a with | some (.lst xs) => some xs | _ => none
  | _ => none
def lstOf (M : Mem) : PV → Option (List PV)
  | .lst xs => some xs
  | .scr xs => some xs
  | .ptr a => match M a with | some (.lst xs) => some xs | _ => none
  | _ => none
theorem seqOf_ptr {M : Mem} {a : Addr} {xs : List PV} (h : M a = some (.lst xs)) : seqOf M (.ptr a) = some xs := by
  show (match M a with | some (.lst xs) => some xs | _ => none) = some xs
  rw [h]
theorem lstOf_ptr {M : Mem} {a : Addr} {xs : List PV} (h : M a = some (.lst xs)) : lstOf M (.ptr a) = some xs := by
  show (match M a with | some (.lst xs) => some xs | _ => none) = some xs
  rw [h]
section
variable {K : PySem.W.Frag} {F H : Hp} {M : Mem} {x : PV} {v : V} {xs : List PV}
theorem R.lstI (rm : RM K F M H) (r : R K F x v) (h : lstOf M x = some xs) : ∃ a vs, v = .ref a ∧ SqL K H a vs ∧ RAll K F xs vs := by
  cases r with
  | lst e q => cases h; exact ⟨_, _, rfl, SqL.of (rm.fr _ _ e), q⟩
  | scr e q => cases h; exact ⟨_, _, rfl, rm.fr.seq e, q⟩
  | ptr a =>
    cases hm : M a with
    | none =>
      have h' : (match M a with | some (.lst xs) => some xs | _ => none) = some xs := h
      rw [hm] at h'
      cases h'
    | some m =>
      have h' : (match M a with | some (.lst xs) => some xs | _ => none) = some xs := h
      rw [hm] at h'
      cases m with
      | lst ys =>
        cases h'
        obtain ⟨o, e1, q⟩ := rm.mu _ _ hm
        cases q with
        | lst q => exact ⟨_, _, rfl, SqL.of e1, q⟩
      | obj C fs => cases h'
      | dct _ _ => cases h'
  | _ => cases h
theorem R.seqI (rm : RM K F M H) (r : R K F x v) (h : seqOf M x = some xs) : ∃ a vs, v = .ref a ∧ (SqL K H a vs ∨ SqT K H a vs) ∧ RAll K F xs vs := by
  cases r with
  | tup e q => cases h; exact ⟨_, _, rfl, .inr (sqT_same rm.fr e), q⟩
  | lst e q => cases h; exact ⟨_, _, rfl, .inl (SqL.of (rm.fr _ _ e)), q⟩
  | scr e q => cases h; exact ⟨_, _, rfl, .inl (rm.fr.seq e), q⟩
  | ptr a =>
    obtain ⟨a', vs, e, q, r⟩ := R.lstI (x := .ptr a) rm (.ptr a) h
    exact ⟨a', vs, e, .inl q, r⟩
  | _ => cases h
theorem RAll.atI {vs : List V} {i : Int} {x : PV} (r : RAll K F xs vs) (h : atI xs i = some x) : ∃ v, L2.atI vs i = some v ∧ R K F x v := by
  unfold L2.atI at h ⊢
  rw [← r.length]
  cases q : ixN xs.length i with
  | none => rw [q] at h; cases h
  | some j =>
    rw [q] at h
    obtain ⟨v, h1, h2⟩ := r.get (i := j) h
    exact ⟨v, h1, h2⟩
end
/-! ### calls of what is built in -/
abbrev POn := List PV → Mem → PQ → Prop
def POc (K : PySem.W.Frag) (r : List V → Hp → VK → Prop) (o : POn) : Prop := ∀ (F : Hp) (M : Mem) (H : Hp) (xs : List PV) (vs : List V) (Q : PQ) (Qv : VK), RM K F M H → RAll K F xs vs → o xs M Q →
  (∀ v H', LQ K F M H Q v H' → Qv v H') → r vs H Qv
def pCallB (o : POn) (t : PTA) : PTE := fun E σ M Q => t E σ M fun xs M1 => o xs M1 Q
section
variable {X : Cx} {a b c e : Expr} {ta tb tc : PTE} {pos p : Pos} {es : List Expr} {t : PTA} {x : Str} {id T : String} {r : List V → Hp → VK → Prop} {o : POn}
theorem LE.callB (hc : CallR X (.builtin id) r) (hp : POc X.K r o) (hg : Gl X x) (hm : X.mg x = none) (hv : bootBuiltins x = some (.builtin id)) (ha : LA X (e :: es) t) (hn : x ≠ "__name__" := by decide) (hdb : (x == ("__debug__" : Str)) = false := by decide)
    (he : starEach (e :: es) X.env = (false, eval e X.env) :: starEach es X.env := by rfl) (hpl : (backTo pos (starEach es X.env)).any (·.1) = false := by rfl) : LE X (.Call (.Name x p) (e :: es) [] pos) (pCallB o t) := by
  refine ⟨fun σv H σ F M Q E tk rm rs h => WE.of (pe_callB hc hg hm hv WA.pa hn hdb he hpl) ?_⟩
  refine (ha.run σv H σ F M _ E tk rm rs h).mono ?_
  rintro vs H1 ⟨hl, F1, M1, xs, b1, rx, hx⟩
  exact hp F1 M1 H1 xs vs Q _ b1.rm rx hx fun v H' q => q.tr b1
theorem LE.callT (hc : CallR X (.type T) r) (hp : POc X.K r o) (hg : Gl X x) (hm : X.mg x = none) (hv : bootBuiltins x = some (.type T)) (ha : LA X (e :: es) t) (hn : x ≠ "__name__" := by decide) (hdb : (x == ("__debug__" : Str)) = false := by decide)
    (he : starEach (e :: es) X.env = (false, eval e X.env) :: starEach es X.env := by rfl) (hpl : (backTo pos (starEach es X.env)).any (·.1) = false := by rfl) : LE X (.Call (.Name x p) (e :: es) [] pos) (pCallB o t) := by
  refine ⟨fun σv H σ F M Q E tk rm rs h => WE.of (pe_callTy hc hg hm hv WA.pa hn hdb he hpl) ?_⟩
  refine (ha.run σv H σ F M _ E tk rm rs h).mono ?_
  rintro vs H1 ⟨hl, F1, M1, xs, b1, rx, hx⟩
  exact hp F1 M1 H1 xs vs Q _ b1.rm rx hx fun v H' q => q.tr b1
theorem RAll.one {K : PySem.W.Frag} {F : Hp} {x : PV} {vs : List V} (r : RAll K F [x] vs) : ∃ v, vs = [v] ∧ R K F x v := by
  cases r with
  | cons r t => cases t; exact ⟨_, rfl, r⟩
theorem RAll.two {K : PySem.W.Frag} {F : Hp} {x y : PV} {vs : List V} (r : RAll K F [x, y] vs) : ∃ v w, vs = [v, w] ∧ R K F x v ∧ R K F y w := by
  cases r with
  | cons r t =>
    obtain ⟨w, e, q⟩ := t.one
    subst e
    exact ⟨_, _, rfl, r, q⟩
/-- one argument -/
def on1 (k : PV → Mem → PQ → Prop) : POn := fun xs M Q => match xs with | [x] => k x M Q | _ => False
def on2 (k : PV → PV → Mem → PQ → Prop) : POn := fun xs M Q => match xs with | [x, y] => k x y M Q | _ => False
theorem on1_of {k : PV → Mem → PQ → Prop} {xs : List PV} {M : Mem} {Q : PQ} (h : on1 k xs M Q) : ∃ x, xs = [x] ∧ k x M Q := by
  unfold on1 at h; split at h
  · exact ⟨_, rfl, h⟩
  · exact h.elim
theorem on2_of {k : PV → PV → Mem → PQ → Prop} {xs : List PV} {M : Mem} {Q : PQ} (h : on2 k xs M Q) : ∃ x y, xs = [x, y] ∧ k x y M Q := by
  unfold on2 at h; split at h
  · exact ⟨_, _, rfl, h⟩
  · exact h.elim
def kLen (x : PV) (M : Mem) (Q : PQ) : Prop := match x with
  | .str y => y.length ≤ sizeLine ∧ Q (.int y.length) M
  | x => need (seqOf M x) fun xs => Q (.int xs.length) M
theorem LE.len (hg : Gl X "len") (hm : X.mg "len" = none) (ha : LA X [e] t) (he : starEach [e] X.env = (false, eval e X.env) :: starEach [] X.env := by rfl) : LE X (.Call (.Name "len" p) [e] [] pos) (pCallB (on1 kLen) t) := by
  refine LE.callB call_len (fun F M H xs vs Q Qv rm rx h k => ?_) hg hm PySem.boot_len ha (he := he)
  obtain ⟨x, ex, h1⟩ := on1_of h
  subst ex
  obtain ⟨v, ev, rx1⟩ := rx.one
  subst ev
  unfold kLen at h1
  split at h1
  · rename_i y
    cases rx1
    exact ⟨_, _, rfl, ⟨h1.1, rfl⟩, k _ _ (LQ.now rm (.int _) h1.2)⟩
  · obtain ⟨ys, e, h2⟩ := need_of h1
    obtain ⟨q, ws, ev, hs, ra⟩ := rx1.seqI rm e
    subst ev
    refine ⟨_, _, rfl, ?_, k _ _ (LQ.now rm (.int _) h2)⟩
    rcases hs with hs | hs
    · exact .inl ⟨ws, hs, ra.length⟩
    · exact .inr ⟨ws, hs, ra.length⟩
def kAbs (x : PV) (M : Mem) (Q : PQ) : Prop := match x with | .int i => Q (.int (if i < 0 then -i else i)) M | _ => False
def kInt (x : PV) (M : Mem) (Q : PQ) : Prop := match x with | .int i => Q (.int i) M | .bl b => Q (.int (if b then 1 else 0)) M | _ => False
theorem LE.intOf (hg : Gl X "int") (hm : X.mg "int" = none) (ha : LA X [e] t) (he : starEach [e] X.env = (false, eval e X.env) :: starEach [] X.env := by rfl) : LE X (.Call (.Name "int" p) [e] [] pos) (pCallB (on1 kInt) t) := by
  refine LE.callT call_int1 (fun F M H xs vs Q Qv rm rx h k => ?_) hg hm (by decide +kernel) ha (he := he)
  obtain ⟨x, ex, h1⟩ := on1_of h
  subst ex
  obtain ⟨v, ev, rx1⟩ := rx.one
  subst ev
  cases rx1 <;> first
    | exact h1.elim
    | exact .inl ⟨_, rfl, k _ _ (LQ.now rm (.int _) h1)⟩
    | exact .inr ⟨_, rfl, k _ _ (LQ.now rm (.int _) h1)⟩
def kMin2 (x y : PV) (M : Mem) (Q : PQ) : Prop := match x, y with | .int i, .int j => Q (.int (if j < i then j else i)) M | _, _ => False
def kMax2 (x y : PV) (M : Mem) (Q : PQ) : Prop := match x, y with | .int i, .int j => Q (.int (if j > i then j else i)) M | _, _ => False
/-! ### list(x), tuple(x) -/
def kList (x : PV) (M : Mem) (Q : PQ) : Prop := need (seqOf M x) fun xs => Q (.lst xs) M
def kListM (x : PV) (M : Mem) (Q : PQ) : Prop := need (seqOf M x) fun xs => ∀ p, M p = none → Q (.ptr p) (M.put p (.lst xs))
def kTup (x : PV) (M : Mem) (Q : PQ) : Prop := need (seqOf M x) fun xs => Q (.tup xs) M
theorem LE.list (hg : Gl X "list") (hm : X.mg "list" = none) (ha : LA X [e] t) (he : starEach [e] X.env = (false, eval e X.env) :: starEach [] X.env := by rfl) : LE X (.Call (.Name "list" p) [e] [] pos) (pCallB (on1 kList) t) := by
  refine LE.callT call_list_of (fun F M H xs vs Q Qv rm rx h k => ?_) hg hm (by decide +kernel) ha (he := he)
  obtain ⟨x, ex, h1⟩ := on1_of h
  subst ex
  obtain ⟨v, ev, rx1⟩ := rx.one
  subst ev
  obtain ⟨ys, e, h2⟩ := need_of h1
  obtain ⟨q, ws, ev, hs, ra⟩ := rx1.seqI rm e
  subst ev
  refine ⟨q, ws, rfl, hs, fun l nl => k _ _ ⟨_, M, _, rm.beh nl, .lst upd_same (ra.same (rm.beh (o := .lst ws) nl).sm), h2⟩⟩
theorem LE.listM (hg : Gl X "list") (hm : X.mg "list" = none) (ha : LA X [e] t) (he : starEach [e] X.env = (false, eval e X.env) :: starEach [] X.env := by rfl) : LE X (.Call (.Name "list" p) [e] [] pos) (pCallB (on1 kListM) t) := by
  refine LE.callT call_list_of (fun F M H xs vs Q Qv rm rx h k => ?_) hg hm (by decide +kernel) ha (he := he)
  obtain ⟨x, ex, h1⟩ := on1_of h
  subst ex
  obtain ⟨v, ev, rx1⟩ := rx.one
  subst ev
  obtain ⟨ys, e, h2⟩ := need_of h1
  obtain ⟨q, ws, ev, hs, ra⟩ := rx1.seqI rm e
  subst ev
  refine ⟨q, ws, rfl, hs, fun l nl => k _ _ ⟨_, _, _, rm.behNew nl (.lst ra), .ptr l, h2 l (rm.nones nl).2⟩⟩
theorem LE.tupOf (hg : Gl X "tuple") (hm : X.mg "tuple" = none) (ha : LA X [e] t) (he : starEach [e] X.env = (false, eval e X.env) :: starEach [] X.env := by rfl) : LE X (.Call (.Name "tuple" p) [e] [] pos) (pCallB (on1 kTup) t) := by
  refine LE.callT call_tuple_of (fun F M H xs vs Q Qv rm rx h k => ?_) hg hm (by decide +kernel) ha (he := he)
  obtain ⟨x, ex, h1⟩ := on1_of h
  subst ex
  obtain ⟨v, ev, rx1⟩ := rx.one
  subst ev
  obtain ⟨ys, e, h2⟩ := need_of h1
  have li : lstOf M x = some ys → ∃ p zs, [v] = [V.ref p] ∧ ((SqL X.K H p zs ∧ ∀ l, H l = none → Qv (.ref l) (upd H l (.tup zs))) ∨ (SqT X.K H p zs ∧ Qv (.ref p) H)) := fun e' => by
    obtain ⟨q, ws, ev, hs, ra⟩ := rx1.lstI rm e'
    subst ev
    exact ⟨q, ws, rfl, .inl ⟨hs, fun l nl => k _ _ ⟨_, M, _, rm.beh nl, .tup (SqT.of upd_same) (ra.same (rm.beh (o := .tup ws) nl).sm), h2⟩⟩⟩
  cases rx1 with
  | tup e' q' =>
    cases e
    exact ⟨_, _, rfl, .inr ⟨sqT_same rm.fr e', k _ _ (LQ.now rm (.tup e' q') h2)⟩⟩
  | lst e' q' => exact li e
  | scr e' q' => exact li e
  | ptr a => exact li e
  | _ => cases e
/-! ### subscripts -/
def oIx : PO2 := fun x y M Q => match y with
  | .int i => match x with
    | .str z => z.length ≤ sizeLine ∧ need (L2.atI z.cps.toList i) fun c => Q (.str ⟨#[c]⟩) M
    | x => need (seqOf M x) fun xs => need (L2.atI xs i) fun z => Q z M
  | _ => False
theorem LE.ix (ha : LE X a ta) (hb : LE X b tb) (hs : PlainIx b := by exact fun _ _ => rfl) : LE X (.Subscript a b pos) (pBin oIx ta tb) := by
  refine ⟨fun σv H σ F M Q E tk rm rs h => WE.of (pe_ix ix_seq WE.pe WE.pe hs) ?_⟩
  refine seq2 ha hb tk rm rs h fun x y xv yv F2 M2 H2 bh rx ry h2 => ?_
  unfold oIx at h2
  split at h2
  · rename_i i
    cases ry
    split at h2
    · rename_i z
      cases rx
      obtain ⟨h3, h4⟩ := h2
      obtain ⟨c, e, h5⟩ := need_of h4
      exact .inr (.inr ⟨z, i, c, rfl, rfl, h3, e, LQ.tr bh (LQ.now bh.rm (.str _) h5)⟩)
    · obtain ⟨ys, e, h3⟩ := need_of h2
      obtain ⟨z, e2, h4⟩ := need_of h3
      obtain ⟨q, ws, ev, hs, ra⟩ := rx.seqI bh.rm e
      subst ev
      obtain ⟨w, e3, rz⟩ := ra.atI e2
      rcases hs with hs | hs
      · exact .inl ⟨q, ws, i, w, rfl, rfl, hs, e3, LQ.tr bh (LQ.now bh.rm rz h4)⟩
      · exact .inr (.inl ⟨q, ws, i, w, rfl, rfl, hs, e3, LQ.tr bh (LQ.now bh.rm rz h4)⟩)
  · exact h2.elim
/-! ### slices -/
abbrev PTO := PXK → PSt → Mem → (Option Int → Mem → Prop) → Prop
structure LO (X : Cx) (e : Option Expr) (t : PTO) : Prop where
  run : ∀ (σv : L2.St) (H : Hp) (σ : PSt) (F : Hp) (M : Mem) (Q : Option Int → Mem → Prop) (E : PXK), PTk X F M H E → RM X.K F M H → RS X.K F σ σv → t E σ M Q →
    ∀ pins s, Inv X pins σv H s → wpAny (model X.prog X.w) X.A (evalPart e X.env) (fun u s' => ∃ o H', Inv X pins σv H' s' ∧ IsPart u o ∧ ∃ F' M', Beh X.K F M H F' M' H' ∧ Q o M') X.xe s
def pNoPart : PTO := fun _ _ M Q => Q none M
def pPart (t : PTE) : PTO := fun E σ M Q => t E σ M fun x M1 => match x with | .int i => Q (some i) M1 | _ => False
theorem LO.none : LO X none pNoPart := ⟨fun σv H σ F M Q E tk rm rs h pins s I => thn (po_none.run pins s σv H (fun o H' => ∃ F' M', Beh X.K F M H F' M' H' ∧ Q o M') I ⟨F, M, Beh.refl rm, h⟩) fun _ _ q => q⟩
theorem LO.some (ha : LE X e ta) : LO X (some e) (pPart ta) := by
  refine ⟨fun σv H σ F M Q E tk rm rs h pins s I => thn ((po_some WE.pe).run pins s σv H (fun o H' => ∃ F' M', Beh X.K F M H F' M' H' ∧ Q o M') I ?_) fun _ _ q => q⟩
  refine (ha.run σv H σ F M _ E tk rm rs h).mono ?_
  rintro v H1 ⟨F1, M1, x, b1, rx, hx⟩
  cases rx <;> first
    | exact hx.elim
    | exact ⟨_, rfl, F1, M1, b1, hx⟩
def WO (X : Cx) (e : Option Expr) (σ : L2.St) (H : Hp) (Q : Option Int → Hp → Prop) : Prop := ∀ pins s, Inv X pins σ H s → wpAny (model X.prog X.w) X.A (evalPart e X.env) (fun u s' => ∃ o H', Inv X pins σ H' s' ∧ IsPart u o ∧ Q o H') X.xe s
theorem WO.po {e : Option Expr} : L2.PO X e (WO X e) := ⟨fun pins s σ H Q I h => h pins s I⟩
def cutP (xs : List PV) (lo hi : Option Int) : List PV := (xs.drop (HT.sIx xs.length 0 lo)).take (HT.sIx xs.length xs.length hi - HT.sIx xs.length 0 lo)
theorem RAll.cut {K : PySem.W.Frag} {F : Hp} {xs : List PV} {vs : List V} (r : RAll K F xs vs) (lo hi : Option Int) : RAll K F (cutP xs lo hi) (cutV vs lo hi) := by
  unfold cutP cutV
  rw [r.length]
  exact (r.drop _).take _
theorem cutP_all {xs : List PV} {lo hi : Option Int} (h : HT.sIx xs.length 0 lo = 0 ∧ HT.sIx xs.length xs.length hi = xs.length) : cutP xs lo hi = xs := by
  unfold cutP
  rw [h.1, h.2]
  simp
def oSl (x : PV) (lo hi : Option Int) (M : Mem) (Q : PQ) : Prop := match x with
  | .tup xs => Q (.tup (cutP xs lo hi)) M
  | x => need (lstOf M x) fun xs => Q (.lst (cutP xs lo hi)) M
def pSl (ta : PTE) (tl th : PTO) : PTE := fun E σ M Q => ta E σ M fun x M1 => tl E σ M1 fun l M2 => th E σ M2 fun u M3 => oSl x l u M3 Q
theorem LE.slice {lo hi : Option Expr} {tl th : PTO} {p2 : Pos} (ha : LE X a ta) (hl : LO X lo tl) (hh : LO X hi th) : LE X (.Subscript a (.Slice lo hi none p2) pos) (pSl ta tl th) := by
  refine ⟨fun σv H σ F M Q E tk rm rs h => WE.of (pe_slice (SlR.or sl_list sl_tupA) WE.pe WO.po WO.po) ?_⟩
  refine (ha.run σv H σ F M _ E tk rm rs h).mono ?_
  rintro v H1 ⟨F1, M1, x, b1, rx, hx⟩
  intro pins s I
  refine thn (hl.run σv H1 σ F1 M1 _ E (tk.tr b1) b1.rm (rs.same b1.sm) hx pins s I) ?_
  rintro u1 s1 ⟨o1, H2, I2, p1, F2, M2, b2, h2⟩
  refine ⟨o1, H2, I2, p1, ?_⟩
  intro pins' s' I'
  refine thn (hh.run σv H2 σ F2 M2 _ E (tk.tr (b1.trans b2)) b2.rm (rs.same (b1.trans b2).sm) h2 pins' s' I') ?_
  rintro u2 s2 ⟨o2, H3, I3, p2, F3, M3, b3, h3⟩
  refine ⟨o2, H3, I3, p2, ?_⟩
  have b := (b1.trans b2).trans b3
  have rx3 := rx.same (b2.trans b3).sm
  unfold oSl at h3
  split at h3
  · rename_i xs
    cases rx3 with
    | tup e q =>
      refine .inr ⟨_, _, rfl, sqT_same b3.rm.fr e, fun hw => ?_, fun _ p np => ?_⟩
      · rw [← q.length] at hw
        rw [cutP_all hw] at h3
        exact LQ.tr b (LQ.now b3.rm (.tup e q) h3)
      · exact LQ.tr b ⟨_, M3, _, b3.rm.beh np, .tup (SqT.of upd_same) ((q.cut _ _).same (b3.rm.beh (o := .tup (cutV _ o1 o2)) np).sm), h3⟩
  · obtain ⟨xs, e, h4⟩ := need_of h3
    obtain ⟨q, ws, ev, hs, ra⟩ := rx3.lstI b3.rm e
    subst ev
    exact .inl ⟨q, ws, rfl, hs, fun p np => LQ.tr b ⟨_, M3, _, b3.rm.beh np, .lst upd_same ((ra.cut _ _).same (b3.rm.beh (o := .lst (cutV ws o1 o2)) np).sm), h4⟩⟩
/-! ### + -/
def oAdd : PO2 := fun x y M Q => match x, y with
  | .int i, .int j => Q (.int (i + j)) M
  | .str i, .str j => i.length + j.length ≤ sizeLine ∧ Q (.str (i ++ j)) M
  | .tup xs, .tup ys => xs.length + ys.length ≤ sizeLine ∧ Q (.tup (xs ++ ys)) M
  | .lst xs, .lst ys => xs.length + ys.length ≤ sizeLine ∧ Q (.lst (xs ++ ys)) M
  | _, _ => False
theorem LE.add (ha : LE X a ta) (hb : LE X b tb) : LE X (.BinOp a .Add b pos) (pBin oAdd ta tb) := by
  refine LE.bin (OpR.or op_add (OpR.or op_add_str (OpR.or op_catA op_cat))) (fun F M H x y xv yv Q Qv rm rx ry h k => ?_) ha hb
  cases rx <;> cases ry <;> first
    | exact h.elim
    | exact .inl ⟨_, _, rfl, rfl, k _ _ (LQ.now rm (.int _) h)⟩
    | exact .inr (.inl ⟨_, _, rfl, rfl, h.1, k _ _ (LQ.now rm (.str _) h.2)⟩)
    | skip
  · rename_i a' xs vs e q b' ys ws e2 q2
    refine .inr (.inr (.inl ⟨_, _, vs, ws, rfl, rfl, sqT_same rm.fr e, sqT_same rm.fr e2, by rw [← q.length, ← q2.length]; exact h.1, fun z => ?_, fun _ z => ?_, fun _ _ p np => ?_⟩))
    · subst z
      have z : xs = [] := List.eq_nil_of_length_eq_zero q.length
      subst z
      exact k _ _ (LQ.now rm (.tup e2 q2) h.2)
    · subst z
      have z : ys = [] := List.eq_nil_of_length_eq_zero q2.length
      subst z
      have h2 := h.2
      rw [List.append_nil] at h2
      exact k _ _ (LQ.now rm (.tup e q) h2)
    · exact k _ _ ⟨_, M, _, rm.beh np, .tup (SqT.of upd_same) ((q.append q2).same (rm.beh (o := .tup (vs ++ ws)) np).sm), h.2⟩
  · rename_i a' xs vs e q b' ys ws e2 q2
    exact .inr (.inr (.inr ⟨_, _, vs, ws, rfl, rfl, rm.fr _ _ e, rm.fr _ _ e2, by rw [← q.length, ← q2.length]; exact h.1, fun p np =>
      k _ _ ⟨_, M, _, rm.beh np, .lst upd_same ((q.append q2).same (rm.beh (o := .lst (vs ++ ws)) np).sm), h.2⟩⟩))
end
end PL
set_option Elab.async false
set_option linter.all false
set_option maxRecDepth 100000
namespace PL
open PySem PySem.Spec PyProof.Rows L2
/-! ### == of data -/
mutual
def toD : PV → Option PyData
  | .non => some .none
  | .bl b => some (.bool b)
  | .int i => some (.int i)
  | .str x => if (PyData.str x).canLay0 = true then some (.str x) else none
  | .tup xs => (toDs xs).map .tuple
  | .lst xs => (toDs xs).map .list
  | .scr xs => (toDs xs).map .list
  | _ => none
def toDs : List PV → Option (List PyData)
  | [] => some []
  | x :: xs => match toD x, toDs xs with | some d, some ds => some (d :: ds) | _, _ => none
end
mutual
theorem toD_dp {K : PySem.W.Frag} {F H : Hp} (e : Same F H) : ∀ (x : PV) (v : V) (d : PyData), R K F x v → toD x = some d → Dp K H v d ∧ d.canLay0 = true
  | .non, _, _, .non, h => by cases h; exact ⟨.non, rfl⟩
  | .bl b, _, _, .bl _, h => by cases h; exact ⟨.bl b, rfl⟩
  | .int b, _, _, .int _, h => by cases h; exact ⟨.int b, rfl⟩
  | .str b, _, _, .str _, h => by
    unfold toD at h
    split at h
    · rename_i hb
      cases h
      exact ⟨.str b, hb⟩
    · cases h
  | .tup xs, _, d, .tup q r, h => by
    unfold toD at h
    cases hd : toDs xs with
    | none => rw [hd] at h; cases h
    | some ds =>
      rw [hd] at h
      cases h
      obtain ⟨h1, h2⟩ := toDs_dp e xs _ ds r hd
      exact ⟨.tup (sqT_same e q) h1, by simpa [PyData.canLay0] using h2⟩
  | .lst xs, _, d, .lst q r, h => by
    unfold toD at h
    cases hd : toDs xs with
    | none => rw [hd] at h; cases h
    | some ds =>
      rw [hd] at h
      cases h
      obtain ⟨h1, h2⟩ := toDs_dp e xs _ ds r hd
      exact ⟨.lst (SqL.of (e _ _ q)) h1, by simpa [PyData.canLay0] using h2⟩
  | .scr xs, _, d, .scr q r, h => by
    unfold toD at h
    cases hd : toDs xs with
    | none => rw [hd] at h; cases h
    | some ds =>
      rw [hd] at h
      cases h
      obtain ⟨h1, h2⟩ := toDs_dp e xs _ ds r hd
      exact ⟨.lst (e.seq q) h1, by simpa [PyData.canLay0] using h2⟩
theorem toDs_dp {K : PySem.W.Frag} {F H : Hp} (e : Same F H) : ∀ (xs : List PV) (vs : List V) (ds : List PyData), RAll K F xs vs → toDs xs = some ds → DpAll K H vs ds ∧ PyData.canLayAll0 ds = true
  | [], _, _, .nil, h => by cases h; exact ⟨.nil, rfl⟩
  | x :: xs, _, ds, .cons r t, h => by
    unfold toDs at h
    cases h1 : toD x with
    | none => rw [h1] at h; cases h
    | some d =>
      cases h2 : toDs xs with
      | none => rw [h1, h2] at h; cases h
      | some ds' =>
        rw [h1, h2] at h
        cases h
        obtain ⟨a1, a2⟩ := toD_dp e x _ d r h1
        obtain ⟨b1, b2⟩ := toDs_dp e xs _ ds' t h2
        exact ⟨.cons a1 b1, by simp [PyData.canLayAll0, a2, b2]⟩
end
theorem toDs_ints : ∀ ns : List Int, toDs (ns.map PV.int) = some (ns.map PyData.int)
  | [] => rfl
  | n :: r => by
    show (match toD (.int n), toDs (r.map PV.int) with | some d, some ds => some (d :: ds) | _, _ => none) = _
    rw [toDs_ints r]
    rfl
theorem depth_ints : ∀ ns : List Int, PyData.depthAll (ns.map PyData.int) = 0
  | [] => rfl
  | n :: r => by
    show max 0 (PyData.depthAll (r.map PyData.int)) = 0
    rw [depth_ints r]
    rfl
/-- scalars -/
def eqF : PV → PV → Option Bool
  | .int i, .int j => some (decide (i = j))
  | .str i, .str j => some (decide (i = j))
  | .bl i, .bl j => some (decide (i = j))
  | .non, .non => some true
  | .non, .int _ => some false | .int _, .non => some false
  | .non, .bl _ => some false | .bl _, .non => some false
  | .non, .str _ => some false | .str _, .non => some false
  | .int _, .str _ => some false | .str _, .int _ => some false
  | .bl _, .str _ => some false | .str _, .bl _ => some false
  | _, _ => none
def eqP (x y : PV) (k : Bool → Prop) : Prop := match eqF x y with
  | some b => k b
  | none => need (toD x) fun d => need (toD y) fun e => d.depth ≤ 64 ∧ e.depth ≤ 64 ∧ k (PyData.eqv d e)
def oEq : PO2 := fun x y M Q => eqP x y fun b => Q (.bl b) M
def oNe : PO2 := fun x y M Q => eqP x y fun b => Q (.bl (!b)) M
theorem eqF_scal {K : PySem.W.Frag} {F : Hp} {x y : PV} {xv yv : V} {b : Bool} (rx : R K F x xv) (ry : R K F y yv) (h : eqF x y = some b) : scal xv yv = true ∧ decide (xv = yv) = b := by
  cases rx <;> cases ry <;> first
    | (cases h; exact ⟨rfl, rfl⟩)
    | (cases h; refine ⟨rfl, ?_⟩; simp)
    | cases h
theorem shaped_of {d : PyData} (h : d.canLay0 = true) (h2 : d.depth ≤ 64) : SeqAt.shaped d = true := by
  unfold SeqAt.shaped
  rw [h, decide_eq_true h2]
  rfl
section
variable {X : Cx} {a b c e : Expr} {ta tb tc : PTE} {pos p : Pos} {es : List Expr} {t : PTA} {x : Str}
theorem op_eqA (hu : X.A.units + 64 < cLine) : OpR X (compareOp .Eq) (fun x y H Q => rEq x y H Q ∨ rEqD X.K x y H Q) := OpR.or op_eq (op_eqD hu)
theorem op_neA (hu : X.A.units + 64 < cLine) : OpR X (compareOp .NotEq) (fun x y H Q => rNe x y H Q ∨ rNeD X.K x y H Q) := OpR.or op_ne (op_neD hu)
theorem pop_eq {K : PySem.W.Frag} : POp K (fun x y H Q => rEq x y H Q ∨ rEqD K x y H Q) oEq := by
  intro F M H x y xv yv Q Qv rm rx ry h k
  unfold oEq eqP at h
  split at h
  · rename_i b hb
    obtain ⟨h1, h2⟩ := eqF_scal rx ry hb
    exact .inl ⟨h1, k _ _ (LQ.now rm (by rw [h2]; exact .bl b) h)⟩
  · obtain ⟨d, e1, h⟩ := need_of h
    obtain ⟨e, e2, h⟩ := need_of h
    obtain ⟨h1, h2, h3⟩ := h
    obtain ⟨a1, a2⟩ := toD_dp rm.fr x xv d rx e1
    obtain ⟨b1, b2⟩ := toD_dp rm.fr y yv e ry e2
    exact .inr ⟨d, e, a1, b1, shaped_of a2 h1, shaped_of b2 h2, k _ _ (LQ.now rm (.bl _) h3)⟩
theorem pop_ne {K : PySem.W.Frag} : POp K (fun x y H Q => rNe x y H Q ∨ rNeD K x y H Q) oNe := by
  intro F M H x y xv yv Q Qv rm rx ry h k
  unfold oNe eqP at h
  split at h
  · rename_i b hb
    obtain ⟨h1, h2⟩ := eqF_scal rx ry hb
    exact .inl ⟨h1, k _ _ (LQ.now rm (by rw [h2]; exact .bl _) h)⟩
  · obtain ⟨d, e1, h⟩ := need_of h
    obtain ⟨e, e2, h⟩ := need_of h
    obtain ⟨h1, h2, h3⟩ := h
    obtain ⟨a1, a2⟩ := toD_dp rm.fr x xv d rx e1
    obtain ⟨b1, b2⟩ := toD_dp rm.fr y yv e ry e2
    exact .inr ⟨d, e, a1, b1, shaped_of a2 h1, shaped_of b2 h2, k _ _ (LQ.now rm (.bl _) h3)⟩
theorem LE.eq (hu : X.A.units + 64 < cLine) (ha : LE X a ta) (hb : LE X b tb) : LE X (.Compare a [.Eq] [b] pos) (pBin oEq ta tb) := LE.cmp (op_eqA hu) pop_eq (nomark _) ha hb
theorem LE.ne (hu : X.A.units + 64 < cLine) (ha : LE X a ta) (hb : LE X b tb) : LE X (.Compare a [.NotEq] [b] pos) (pBin oNe ta tb) := LE.cmp (op_neA hu) pop_ne (nomark _) ha hb
theorem LT.eq (hu : X.A.units + 64 < cLine) (ha : LE X a ta) (hb : LE X b tb) : LT X (.Compare a [.Eq] [b] pos) (pTest (pBin oEq ta tb)) := LT.cmp (op_eqA hu) pop_eq (nomark _) ha hb
theorem LT.ne (hu : X.A.units + 64 < cLine) (ha : LE X a ta) (hb : LE X b tb) : LT X (.Compare a [.NotEq] [b] pos) (pTest (pBin oNe ta tb)) := LT.cmp (op_neA hu) pop_ne (nomark _) ha hb
/-! ### isinstance of a built-in type -/
def tyOf (M : Mem) : PV → Option String
  | .non => some "NoneType"
  | .bl _ => some "bool"
  | .int _ => some "int"
  | .str _ => some "str"
  | .tup _ => some "tuple"
  | .lst _ => some "list"
  | .ptr a => match M a with | some (.lst _) => some "list" | _ => none
  | _ => none
def isi (M : Mem) (T : String) (x : PV) : Option Bool := (tyOf M x).bind fun n => kitB n T
def kIsi (T : String) (x : PV) (M : Mem) (Q : PQ) : Prop := need (isi M T x) fun b => Q (.bl b) M
theorem R.tyx {K : PySem.W.Frag} {F H : Hp} {M : Mem} {x : PV} {v : V} {n : String} (rm : RM K F M H) (r : R K F x v) (h : tyOf M x = some n) : TyX K H v (.type n) := by
  cases r with
  | non => cases h; exact .base .non
  | bl b => cases h; exact .base (.bl b)
  | int b => cases h; exact .base (.int b)
  | str b => cases h; exact .base (.str b)
  | ty n => cases h
  | tup q r =>
    cases h
    rcases sqT_same rm.fr q with q | ⟨o, its, k, hk, hc, _⟩
    · rcases q with q | ⟨o, q⟩
      · exact .base (.tup q)
      · exact .fTuple q
    · exact .kTuple hk hc
  | lst q r => cases h; exact .base (.lst (rm.fr _ _ q))
  | scr q r => cases h
  | obj _ _ => cases h
  | dct _ _ => cases h
  | exc _ _ => cases h
  | rng _ => cases h
  | tpd _ _ _ => cases h
  | ptr a =>
    cases hm : M a with
    | none =>
      have h' : (match M a with | some (.lst _) => some "list" | _ => none) = some n := h
      rw [hm] at h'
      cases h'
    | some m =>
      have h' : (match M a with | some (.lst _) => some "list" | _ => none) = some n := h
      rw [hm] at h'
      cases m with
      | lst ys =>
        cases h'
        obtain ⟨o, e1, q⟩ := rm.mu _ _ hm
        cases q with
        | lst q => exact .base (.lst e1)
      | obj C fs => cases h'
      | dct _ _ => cases h'
theorem LE.isi {T : Str} {Ts : String} {py : Pos} (hg : Gl X "isinstance") (hm : X.mg "isinstance" = none) (hgT : Gl X T) (hmT : X.mg T = none) (hvT : bootBuiltins T = some (.type Ts)) (ha : LE X e ta)
    (hnT : T ≠ "__name__" := by decide) (hdT : (T == ("__debug__" : Str)) = false := by decide)
    (he : starEach [e, .Name T py] X.env = (false, eval e X.env) :: starEach [.Name T py] X.env := by rfl) (he2 : starEach [.Name T py] X.env = (false, eval (.Name T py) X.env) :: starEach [] X.env := by rfl)
    (hpl : (backTo pos (starEach [.Name T py] X.env)).any (·.1) = false := by rfl) : LE X (.Call (.Name "isinstance" p) [e, .Name T py] [] pos) (fun E σ M Q => ta E σ M fun x M1 => kIsi Ts x M1 Q) := by
  refine ⟨fun σv H σ F M Q E tk rm rs h => WE.of (pe_callB call_isi hg hm (by decide +kernel) (pa_cons WE.pe (pa_cons (pe_bltn (v := .ty Ts) hgT hmT hvT rfl hnT hdT) pa_nil he2) he) (he := he) (hpl := hpl)) ?_⟩
  refine (ha.run σv H σ F M _ E tk rm rs h).mono ?_
  rintro v H1 ⟨F1, M1, x, b1, rx, hx⟩
  obtain ⟨b, e1, h2⟩ := need_of hx
  unfold PL.isi at e1
  cases ht : tyOf M1 x with
  | none => rw [ht] at e1; cases e1
  | some n =>
    rw [ht] at e1
    exact ⟨v, .ty Ts, _, _, b, rfl, .ty _, rx.tyx b1.rm ht, kit_ty e1, LQ.tr b1 (LQ.now b1.rm (.bl b) h2)⟩
/-! ### fields -/
/-- the classes of the text, each with what HandS asks -/
def fldOf (M : Mem) (C : Addr) (f : Str) : PV → Option PV
  | .obj C' fs => if C' = C then fs.lookup f else none
  | .ptr a => match M a with | some (.obj C' fs) => if C' = C then fs.lookup f else none | _ => none
  | _ => none
def pFld (C : Addr) (ta : PTE) (f : Str) : PTE := fun E σ M Q => ta E σ M fun x M1 => need (fldOf M1 C f x) fun v => Q v M1
theorem fldOf_obj {M : Mem} {C : Addr} {f : Str} {fs : List (Str × PV)} : fldOf M C f (.obj C fs) = fs.lookup f := if_pos rfl
theorem R.fld {K : PySem.W.Frag} {F H : Hp} {M : Mem} {x z : PV} {v : V} {C : Addr} {f : Str} (rm : RM K F M H) (r : R K F x v) (h : fldOf M C f x = some z) : ∃ a dx vs w, v = .ref a ∧ H a = some (.ins C dx vs) ∧ vs.lookup f = some w ∧ R K F z w := by
  cases r with
  | @obj a C' dx fs vs e q =>
    have h' : (if C' = C then fs.lookup f else none) = some z := h
    split at h'
    · rename_i hC
      subst hC
      obtain ⟨w, h1, h2⟩ := q.get h'
      exact ⟨_, _, _, w, rfl, rm.fr _ _ e, h1, h2⟩
    · cases h'
  | ptr a =>
    cases hm : M a with
    | none =>
      have h' : (match M a with | some (.obj C' fs) => if C' = C then fs.lookup f else none | _ => none) = some z := h
      rw [hm] at h'
      cases h'
    | some m =>
      have h' : (match M a with | some (.obj C' fs) => if C' = C then fs.lookup f else none | _ => none) = some z := h
      rw [hm] at h'
      cases m with
      | lst ys => cases h'
      | dct _ _ => cases h'
      | obj C' fs =>
        dsimp only at h'
        split at h'
        · rename_i hC
          subst hC
          obtain ⟨o, e1, q⟩ := rm.mu _ _ hm
          cases q with
          | obj q =>
            obtain ⟨w, h1, h2⟩ := q.get h'
            exact ⟨_, _, _, w, rfl, e1, h1, h2⟩
        · cases h'
  | _ => cases h
theorem LE.fld {C : Addr} {f : Str} (cl : Cls X.K C) (na : NoAttr X.K C f) (ha : LE X e ta) (hb : attributeBase e f X.env (eval e X.env) = eval e X.env := by rfl) : LE X (.Attribute e f pos) (pFld C ta f) := by
  refine ⟨fun σv H σ F M Q E tk rm rs h => WE.of (pe_fld WE.pe hb) ?_⟩
  refine (ha.run σv H σ F M _ E tk rm rs h).mono ?_
  rintro v H1 ⟨F1, M1, x, b1, rx, hx⟩
  obtain ⟨z, e1, h2⟩ := need_of hx
  obtain ⟨q, dx, vs, w, rfl, e2, e3, rz⟩ := rx.fld b1.rm e1
  exact ⟨q, C, dx, vs, w, rfl, e2, cl, na, e3, LQ.tr b1 (LQ.now b1.rm rz h2)⟩
end
/-! ### what a def promises -/
abbrev PSp := List PV → Mem → PQ → PXK → Prop
def lift (K : PySem.W.Frag) (n : Nat) (sp : PSp) : Sp := fun vs H Q E => vs.length = n ∧ ∃ F M xs Qp Ep, RM K F M H ∧ RAll K F xs vs ∧ sp xs M Qp Ep ∧ (∀ v H', LQ K F M H Qp v H' → Q v H') ∧ ∀ cls d H', LX K F M H Ep cls d H' → E cls d H'
theorem lift_of {K : PySem.W.Frag} {n : Nat} {sp : PSp} {F H : Hp} {M : Mem} {xs : List PV} {vs : List V} {Q : VK} {E : XK} {Qp : PQ} {Ep : PXK} (hn : vs.length = n) (rm : RM K F M H) (rx : RAll K F xs vs) (h : sp xs M Qp Ep)
    (k : ∀ v H', LQ K F M H Qp v H' → Q v H') (kx : ∀ cls d H', LX K F M H Ep cls d H' → E cls d H') : lift K n sp vs H Q E := ⟨hn, F, M, xs, Qp, Ep, rm, rx, h, k, kx⟩
/-- a def of the text by its name -/
structure GFn (P : Program) (w : World) (K : PySem.W.Frag) (mg : Str → Option Value) (base : Heap) (x : Str) (k : Nat) (ps : List Str) (sp : PSp) : Prop where
  ex : ∃ f fd, FnOk P w K mg base (L2.CX P w) k f fd ps (lift K ps.length sp) ∧ mg x = some (.ref f) ∧ PySem.W.keepIn K (.ref f) = true ∧ Binds K fd ps []
section
variable {X : Cx} {a b c e : Expr} {ta tb tc : PTE} {pos p apos : Pos} {es : List Expr} {t : PTA} {x : Str} {k : Nat} {ps : List Str} {sp : PSp}
def pCall (sp : PSp) (t : PTA) : PTE := fun E σ M Q => t E σ M fun xs M1 => sp xs M1 Q E
theorem LE.call (G : GFn X.prog X.w X.K X.mg X.base x k ps sp) (hr : Room k X.A) (hg : Gl X x) (ha : LA X (e :: es) t) (hl : (e :: es).length = ps.length := by rfl) (hdb : (x == ("__debug__" : Str)) = false := by decide)
    (he : starEach (e :: es) X.env = (false, eval e X.env) :: starEach es X.env := by rfl) (hpl : (backTo pos (starEach es X.env)).any (·.1) = false := by rfl) : LE X (.Call (.Name x p) (e :: es) [] pos) (pCall sp t) := by
  obtain ⟨f, fd, G, hm, hk, hb⟩ := G.ex
  refine ⟨fun σv H σ F M Q E tk rm rs h => WE.of (pe_call (E := LX X.K F M H E) G hr hg hm hk hb .nil (passes_call tk fun _ _ _ _ z => z) WA.pa hdb he hpl) ?_⟩
  refine (ha.run σv H σ F M _ E tk rm rs h).mono ?_
  rintro vs H1 ⟨hl1, F1, M1, xs, b1, rx, hx⟩
  rw [List.append_nil]
  exact lift_of (by rw [hl1, hl]) b1.rm rx hx (fun v H' q => q.tr b1) fun cls d H' q => q.tr b1
/-- a method of a class of the text -/
structure GMt (P : Program) (w : World) (K : PySem.W.Frag) (mg : Str → Option Value) (base : Heap) (C : Addr) (m : Str) (k : Nat) (ps : List Str) (sp : PSp) : Prop where
  ex : ∃ f fd, FnOk P w K mg base (L2.CX P w) k f fd ps (lift K ps.length sp) ∧ Meth K C m f ∧ Binds K fd ps []
def objOf (M : Mem) (C : Addr) : PV → Option (List (Str × PV))
  | .obj C' fs => if C' = C then some fs else none
  | .ptr a => match M a with | some (.obj C' fs) => if C' = C then some fs else none | _ => none
  | _ => none
theorem objOf_obj {M : Mem} {C : Addr} {fs : List (Str × PV)} : objOf M C (.obj C fs) = some fs := if_pos rfl
theorem R.objI {K : PySem.W.Frag} {F H : Hp} {M : Mem} {x : PV} {v : V} {C : Addr} {fs : List (Str × PV)} (rm : RM K F M H) (r : R K F x v) (h : objOf M C x = some fs) : ∃ a dx vs, v = .ref a ∧ H a = some (.ins C dx vs) ∧ RFs K F fs vs := by
  cases r with
  | @obj a C' dx gs vs e q =>
    have h' : (if C' = C then some gs else none) = some fs := h
    split at h'
    · rename_i hC
      subst hC
      cases h'
      exact ⟨_, _, _, rfl, rm.fr _ _ e, q⟩
    · cases h'
  | ptr a =>
    cases hm : M a with
    | none =>
      have h' : (match M a with | some (.obj C' fs) => if C' = C then some fs else none | _ => none) = some fs := h
      rw [hm] at h'
      cases h'
    | some m =>
      have h' : (match M a with | some (.obj C' fs) => if C' = C then some fs else none | _ => none) = some fs := h
      rw [hm] at h'
      cases m with
      | lst ys => cases h'
      | dct _ _ => cases h'
      | obj C' fs =>
        dsimp only at h'
        split at h'
        · rename_i hC
          subst hC
          cases h'
          obtain ⟨o, e1, q⟩ := rm.mu _ _ hm
          cases q with
          | obj q => exact ⟨_, _, _, rfl, e1, q⟩
        · cases h'
  | _ => cases h
def pMeth (C : Addr) (m : Str) (sp : PSp) (ta : PTE) (t : PTA) : PTE := fun E σ M Q => ta E σ M fun x M1 => need (objOf M1 C x) fun fs => fs.lookup m = none ∧ t E σ M1 fun xs M2 => sp (x :: xs) M2 Q E
theorem LE.meth {C : Addr} {m : Str} {pl : Sem Bool} {o : Expr} (G : GMt X.prog X.w X.K X.mg X.base C m k ps sp) (cl : Cls X.K C) (hr : Room k X.A) (ho : LE X o ta) (ha : LA X (e :: es) t) (hl : (e :: es).length + 1 = ps.length := by rfl)
    (hst : starEach (e :: es) X.env = (false, eval e X.env) :: starEach es X.env := by rfl) (hpl : (backTo pos (starEach es X.env)).any (·.1) = false := by rfl)
    (ht : eval (.Call (.Attribute o m apos) (e :: es) [] pos) X.env = (do
      let ov ← eval o X.env
      standAt apos.atName
      let (f, first) ← holding [ov] (getMethod ov m pl)
      callWith pos f first (backTo pos (starEach (e :: es) X.env)) (backToKw pos (keywordEach [] X.env))) := by rfl) : LE X (.Call (.Attribute o m apos) (e :: es) [] pos) (pMeth C m sp ta t) := by
  obtain ⟨f, fd, G, hm, hb⟩ := G.ex
  refine ⟨fun σv H σ F M Q E tk rm rs h => WE.of (pe_meth (pl := pl) (E := LX X.K F M H E) WE.pe cl hm G hr hb .nil (passes_call tk fun _ _ _ _ z => z) WA.pa hst hpl ht) ?_⟩
  refine (ho.run σv H σ F M _ E tk rm rs h).mono ?_
  rintro v H1 ⟨F1, M1, x, b1, rx, hx⟩
  obtain ⟨fs, e1, hn, h2⟩ := need_of hx
  obtain ⟨q, dx, vs, rfl, e2, rf⟩ := rx.objI b1.rm e1
  refine ⟨q, dx, vs, rfl, e2, rf.none hn, ?_⟩
  refine (ha.run σv H1 σ F1 M1 _ E (tk.tr b1) b1.rm (rs.same b1.sm) h2).mono ?_
  rintro ws H2 ⟨hl1, F2, M2, xs, b2, rxs, hxs⟩
  rw [List.append_nil]
  exact lift_of (by rw [List.length_cons, hl1, hl]) b2.rm (.cons (rx.same b2.sm) rxs) hxs (fun v H' q => q.tr (b1.trans b2)) fun cls d H' q => q.tr (b1.trans b2)
/-- a class of the text that is made by its __init__ -/
structure GMk (P : Program) (w : World) (K : PySem.W.Frag) (mg : Str → Option Value) (base : Heap) (x : Str) (C : Addr) (k : Nat) (ps : List Str) (sp : PSp) : Prop where
  ex : ∃ f fd, FnOk P w K mg base (L2.CX P w) k f fd ps (lift K ps.length sp) ∧ mg x = some (.ref C) ∧ Mk K C f ∧ Binds K fd ps []
/-- made, and from then on never changed -/
def pMake (C : Addr) (sp : PSp) (t : PTA) : PTE := fun E σ M Q => t E σ M fun xs M1 => ∀ p, M1 p = none → sp (.ptr p :: xs) (M1.put p (.obj C [])) (fun r M2 => isNon r = true ∧ match M2 p with | some (.obj C' fs) => C' = C ∧ Q (.obj C fs) (M2.drop p) | _ => False) E
theorem LE.make {C : Addr} (G : GMk X.prog X.w X.K X.mg X.base x C k ps sp) (hr : Room (k + 1) X.A) (hg : Gl X x) (ha : LA X (e :: es) t) (hl : (e :: es).length + 1 = ps.length := by rfl) (hdb : (x == ("__debug__" : Str)) = false := by decide)
    (he : starEach (e :: es) X.env = (false, eval e X.env) :: starEach es X.env := by rfl) (hpl : (backTo pos (starEach es X.env)).any (·.1) = false := by rfl) : LE X (.Call (.Name x p) (e :: es) [] pos) (pMake C sp t) := by
  obtain ⟨f, fd, G, hm, mk, hb⟩ := G.ex
  refine ⟨fun σv H σ F M Q E tk rm rs h => WE.of (pe_make (E := LX X.K F M H E) mk G hr hg hm hb .nil (passes_call tk fun _ _ _ _ z => z) WA.pa hdb he hpl) ?_⟩
  refine (ha.run σv H σ F M _ E tk rm rs h).mono ?_
  rintro vs H1 ⟨hl1, F1, M1, xs, b1, rx, hx⟩
  intro q dx nq ndx ne
  rw [List.append_nil]
  have c1 : Beh X.K F1 M1 H1 (upd F1 dx (.own q)) M1 (upd H1 dx (.own q)) := b1.rm.beh ndx
  have nq' : upd H1 dx (.own q) q = none := by rw [upd_ne (Ne.symm ne)]; exact nq
  have c2 := c1.rm.behNew (m := .obj C []) (o := .ins C dx []) nq' (.obj .nil)
  have c := b1.trans (c1.trans c2)
  refine lift_of (by rw [List.length_cons, hl1, hl]) c2.rm (.cons (.ptr q) (rx.same (c1.trans c2).sm)) (hx q (b1.rm.nones nq).2) (fun v H' z => ?_) fun cls d H' q => q.tr c
  obtain ⟨F2, M2, r, b2, rr, hz, h2⟩ := z
  refine ⟨?_, ?_⟩
  · have := rr.isNon
    rw [hz] at this
    exact of_decide_eq_true this
  · cases hm2 : M2 q with
    | none => rw [hm2] at h2; exact h2.elim
    | some mo =>
      rw [hm2] at h2
      cases mo with
      | lst ys => exact h2.elim
      | dct _ _ => exact h2.elim
      | obj C' fs =>
        obtain ⟨hC, h3⟩ := h2
        subst hC
        obtain ⟨o, s1, s4⟩ := b2.rm.behFreeze hm2
        cases s4 with
        | obj s4 => exact ⟨_, _, _, c.trans (b2.trans s1), .obj upd_same (s4.same s1.sm), h3⟩
end
end PL
set_option Elab.async false
set_option linter.all false
set_option maxRecDepth 100000
namespace PL
open PySem PySem.Spec PyProof.Rows L2
abbrev PNx := PSt → Mem → Prop
structure PEnds where
  nx : PNx
  rt : PQ
  ex : PXK
  bk : PNx := fun _ _ => False
  ct : PNx := fun _ _ => False
abbrev PTS := PEnds → PSt → Mem → Prop
def LN (K : PySem.W.Frag) (F : Hp) (M : Mem) (H : Hp) (Q : PNx) : L2.St → Hp → Prop := fun σv' H' => ∃ F' M' σ', Beh K F M H F' M' H' ∧ RS K F' σ' σv' ∧ Q σ' M'
theorem LN.tr {K : PySem.W.Frag} {F F1 H H1 : Hp} {M M1 : Mem} {Q : PNx} (b : Beh K F M H F1 M1 H1) {v : L2.St} {H2 : Hp} : LN K F1 M1 H1 Q v H2 → LN K F M H Q v H2
  | ⟨F2, M2, x, b2, r, q⟩ => ⟨F2, M2, x, b.trans b2, r, q⟩
def LD (K : PySem.W.Frag) (F : Hp) (M : Mem) (H : Hp) (D : PEnds) : Ends := { nx := LN K F M H D.nx, rt := LQ K F M H D.rt, bk := LN K F M H D.bk, ct := LN K F M H D.ct }
def WS (X : Cx) (st : Stmt) : TS := fun D σ H => ∀ pins s, Inv X pins σ H s → wpAny (model X.prog X.w) X.A (exec st X.env) (SP X pins D) X.xe s
def WSs (X : Cx) (st : List Stmt) : TS := fun D σ H => ∀ pins s, Inv X pins σ H s → wpAny (model X.prog X.w) X.A (execs st X.env) (SP X pins D) X.xe s
theorem WS.ps {X : Cx} {st : Stmt} : PS X st (WS X st) := ⟨fun pins s σ H D I h => h pins s I⟩
theorem WSs.ps {X : Cx} {st : List Stmt} : PSs X st (WSs X st) := ⟨fun pins s σ H D I h => h pins s I⟩
theorem WS.of {X : Cx} {st : Stmt} {t : TS} (p : PS X st t) {D : Ends} {σ : L2.St} {H : Hp} (h : t D σ H) : WS X st D σ H := fun pins s I => p.run pins s σ H D I h
theorem WSs.of {X : Cx} {st : List Stmt} {t : TS} (p : PSs X st t) {D : Ends} {σ : L2.St} {H : Hp} (h : t D σ H) : WSs X st D σ H := fun pins s I => p.run pins s σ H D I h
structure Ends.Le (D D' : Ends) : Prop where
  nx : ∀ σ H, D.nx σ H → D'.nx σ H
  rt : ∀ v H, D.rt v H → D'.rt v H
  bk : ∀ σ H, D.bk σ H → D'.bk σ H
  ct : ∀ σ H, D.ct σ H → D'.ct σ H
theorem SP.mono {X : Cx} {pins : List (Addr × Obj)} {D D' : Ends} (m : Ends.Le D D') {f : Flow} {s' : Shared} (h : SP X pins D f s') : SP X pins D' f s' := by
  cases f with
  | next => obtain ⟨σ, H, I, q⟩ := h; exact ⟨σ, H, I, m.nx _ _ q⟩
  | brk => obtain ⟨σ, H, I, q⟩ := h; exact ⟨σ, H, I, m.bk _ _ q⟩
  | cont => obtain ⟨σ, H, I, q⟩ := h; exact ⟨σ, H, I, m.ct _ _ q⟩
  | ret u => obtain ⟨v, σ, H, I, r, q⟩ := h; exact ⟨v, σ, H, I, r, m.rt _ _ q⟩
theorem WS.mono {X : Cx} {st : Stmt} {D D' : Ends} {σ : L2.St} {H : Hp} (h : WS X st D σ H) (m : Ends.Le D D') : WS X st D' σ H := fun pins s I => thn (h pins s I) fun _ _ q => SP.mono m q
theorem WSs.mono {X : Cx} {st : List Stmt} {D D' : Ends} {σ : L2.St} {H : Hp} (h : WSs X st D σ H) (m : Ends.Le D D') : WSs X st D' σ H := fun pins s I => thn (h pins s I) fun _ _ q => SP.mono m q
theorem LD.tr {K : PySem.W.Frag} {F F1 H H1 : Hp} {M M1 : Mem} {D : PEnds} (b : Beh K F M H F1 M1 H1) : Ends.Le (LD K F1 M1 H1 D) (LD K F M H D) := ⟨fun _ _ q => q.tr b, fun _ _ q => q.tr b, fun _ _ q => q.tr b, fun _ _ q => q.tr b⟩
structure LS (X : Cx) (st : Stmt) (t : PTS) : Prop where
  run : ∀ (σv : L2.St) (H : Hp) (σ : PSt) (F : Hp) (M : Mem) (D : PEnds), PTk X F M H D.ex → RM X.K F M H → RS X.K F σ σv → t D σ M → WS X st (LD X.K F M H D) σv H
structure LSs (X : Cx) (st : List Stmt) (t : PTS) : Prop where
  run : ∀ (σv : L2.St) (H : Hp) (σ : PSt) (F : Hp) (M : Mem) (D : PEnds), PTk X F M H D.ex → RM X.K F M H → RS X.K F σ σv → t D σ M → WSs X st (LD X.K F M H D) σv H
/-! ### targets -/
abbrev PTG := PV → PSt → Mem → PNx → Prop
def WG (X : Cx) (tg : Expr) : TG := fun v σ H Q => ∀ pins s u, Inv X pins σ H s → RelV v u → wpAny (model X.prog X.w) X.A (assign tg X.env u) (fun _ s' => ∃ σ' H', Inv X pins σ' H' s' ∧ Q σ' H') X.xe s
theorem WG.pg {X : Cx} {tg : Expr} : PG X tg (WG X tg) := ⟨fun pins s σ H v u Q I r h => h pins s u I r⟩
theorem WG.of {X : Cx} {tg : Expr} {g : TG} (p : PG X tg g) {v : V} {σ : L2.St} {H : Hp} {Q : L2.St → Hp → Prop} (h : g v σ H Q) : WG X tg v σ H Q := fun pins s u I r => p.run pins s σ H v u Q I r h
theorem WG.mono {X : Cx} {tg : Expr} {v : V} {σ : L2.St} {H : Hp} {Q Q' : L2.St → Hp → Prop} (h : WG X tg v σ H Q) (m : ∀ σ H, Q σ H → Q' σ H) : WG X tg v σ H Q' := fun pins s u I r => thn (h pins s u I r) fun _ _ ⟨σ', H', I', q⟩ => ⟨σ', H', I', m _ _ q⟩
structure LG (X : Cx) (tg : Expr) (g : PTG) : Prop where
  run : ∀ (σv : L2.St) (H : Hp) (σ : PSt) (F : Hp) (M : Mem) (x : PV) (v : V) (Q : PNx), RM X.K F M H → RS X.K F σ σv → R X.K F x v → g x σ M Q → WG X tg v σv H (LN X.K F M H Q)
abbrev PTGs := List PV → PSt → Mem → PNx → Prop
def WGs (X : Cx) (ts : List Expr) : TGs := fun vs σ H Q => ∀ pins s us, Inv X pins σ H s → Vals vs us → wpAny (model X.prog X.w) X.A (assignInOrder ((assignEach ts X.env).map (·.2)) us) (fun _ s' => ∃ σ' H', Inv X pins σ' H' s' ∧ Q σ' H') X.xe s
theorem WGs.pg {X : Cx} {ts : List Expr} : PGs X ts (WGs X ts) := ⟨fun pins s σ H v u Q I r h => h pins s u I r⟩
theorem WGs.of {X : Cx} {ts : List Expr} {g : TGs} (p : PGs X ts g) {v : List V} {σ : L2.St} {H : Hp} {Q : L2.St → Hp → Prop} (h : g v σ H Q) : WGs X ts v σ H Q := fun pins s u I r => p.run pins s σ H v u Q I r h
theorem WGs.mono {X : Cx} {tg : List Expr} {v : List V} {σ : L2.St} {H : Hp} {Q Q' : L2.St → Hp → Prop} (h : WGs X tg v σ H Q) (m : ∀ σ H, Q σ H → Q' σ H) : WGs X tg v σ H Q' := fun pins s u I r => thn (h pins s u I r) fun _ _ ⟨σ', H', I', q⟩ => ⟨σ', H', I', m _ _ q⟩
structure LGs (X : Cx) (ts : List Expr) (g : PTGs) : Prop where
  run : ∀ (σv : L2.St) (H : Hp) (σ : PSt) (F : Hp) (M : Mem) (xs : List PV) (vs : List V) (Q : PNx), RM X.K F M H → RS X.K F σ σv → RAll X.K F xs vs → g xs σ M Q → WGs X ts vs σv H (LN X.K F M H Q)
section
variable {X : Cx} {a b c e o i : Expr} {ta tb tc to ti te : PTE} {pos pos' p : Pos} {es : List Expr} {x : Str}
def gpName (i : Nat) : PTG := fun x σ M Q => Q (σ.set i (some x)) M
theorem LG.name (i : Nat) (hN : X.N.Nodup) (hi : X.N[i]? = some x := by rfl) (hx : Loc X.env.scope x := by first | exact .inl rfl | exact .inr rfl) (hf : X.fn x = true ∨ X.env.scope.names.lookup x = some .local := by first | exact .inl rfl | exact .inr rfl) : LG X (.Name x pos) (gpName i) :=
  ⟨fun σv H σ F M x v Q rm rs r h => WG.of (pg_name hN hi hx hf) ⟨F, M, _, Beh.refl rm, rs.set i r, h⟩⟩
def gpNil : PTGs := fun xs σ M Q => match xs with | [] => Q σ M | _ => False
def gpCons (t : PTG) (u : PTGs) : PTGs := fun xs σ M Q => match xs with | x :: r => t x σ M fun σ' M' => u r σ' M' Q | [] => False
theorem LGs.nil : LGs X [] gpNil := by
  refine ⟨fun σv H σ F M xs vs Q rm rs r h => WGs.of pgs_nil ?_⟩
  cases r with
  | nil => exact ⟨rfl, F, M, σ, Beh.refl rm, rs, h⟩
  | cons _ _ => exact h.elim
theorem LGs.cons {g : PTG} {gs : PTGs} (h1 : LG X e g) (h2 : LGs X es gs) (hs : (assignEach (e :: es) X.env).map (·.2) = assign e X.env :: (assignEach es X.env).map (·.2) := by rfl) : LGs X (e :: es) (gpCons g gs) := by
  refine ⟨fun σv H σ F M xs vs Q rm rs r h => WGs.of (pgs_cons WG.pg WGs.pg hs) ?_⟩
  cases r with
  | nil => exact h.elim
  | cons r t =>
    refine ⟨_, _, rfl, ?_⟩
    refine (h1.run σv H σ F M _ _ _ rm rs r h).mono ?_
    rintro σv1 H1 ⟨F1, M1, σ1, b1, rs1, h1⟩
    exact (h2.run σv1 H1 σ1 F1 M1 _ _ Q b1.rm rs1 (t.same b1.sm) h1).mono fun _ _ q => q.tr b1
def gpTup (n : Nat) (u : PTGs) : PTG := fun x σ M Q => match x with | .tup xs => xs.length = n ∧ u xs σ M Q | _ => False
theorem LG.tup {k n : Nat} {gs : PTGs} (hc : X.calm = true) (h : LGs X es gs) (hn : (assignEach es X.env).length = n := by rfl) (hst : (assignEach es X.env).findIdx? (·.1) = none := by rfl) : LG X (.Tuple es k pos) (gpTup n gs) := by
  refine ⟨fun σv H σ F M x v Q rm rs r hh => WG.of (pg_tup hc WGs.pg hn hst) ?_⟩
  unfold gpTup at hh
  split at hh
  · cases r with
    | tup q r =>
      refine ⟨_, _, rfl, sqT_same rm.fr q, by rw [← r.length]; exact hh.1, ?_⟩
      exact h.run σv H σ F M _ _ Q rm rs r hh.2
  · exact hh.elim
/-- o[i] = x of a list that may change -/
def kSet (o i x : PV) (M : Mem) (Q : Mem → Prop) : Prop := match o, i with
  | .ptr p, .int k => match M p with
    | some (.lst xs) => need (ixN xs.length k) fun j => Q (M.put p (.lst (xs.set j x)))
    | _ => False
  | _, _ => False
def gpSub (to ti : PTE) : PTG := fun x σ M Q => to noX σ M fun o M1 => ti noX σ M1 fun i M2 => kSet o i x M2 fun M3 => Q σ M3
theorem LG.sub (ho : LE X o to) (hi : LE X i ti) (ha : ∀ v, assign (.Subscript o i pos) X.env v = (do
      let ov ← holding [v] (eval o X.env)
      let iv ← holding [v, ov] (eval i X.env)
      standAt pos
      holding [v, ov, iv] (setItem ov iv v)
      release [v, ov, iv] []) := by intro _; rfl) : LG X (.Subscript o i pos) (gpSub to ti) := by
  refine ⟨fun σv H σ F M x v Q rm rs r h => WG.of (pg_sub WE.pe WE.pe set_list ha) ?_⟩
  refine seq2 (k := fun o i M2 => kSet o i x M2 fun M3 => Q σ M3) ho hi PTk.no rm rs h fun o i ov iv F2 M2 H2 bh ro ri h2 => ?_
  unfold kSet at h2
  split at h2
  · rename_i p k
    cases ro
    cases ri
    cases hm : M2 p with
    | none => rw [hm] at h2; exact h2.elim
    | some mo =>
      rw [hm] at h2
      cases mo with
      | obj C fs => exact h2.elim
      | dct _ _ => exact h2.elim
      | lst xs =>
        obtain ⟨j, e1, h3⟩ := need_of h2
        obtain ⟨u, e2, ru⟩ := bh.rm.mu _ _ hm
        cases ru with
        | lst ru =>
          refine ⟨p, _, k, j, rfl, rfl, e2, by rw [← ru.length]; exact e1, ?_⟩
          have b3 := bh.rm.behWrite (o := .lst _) hm (.lst (RAll.set (r.same bh.sm) j ru))
          exact ⟨F2, _, σ, bh.trans b3, rs.same bh.sm, h3⟩
  · exact h2.elim
end
/-! ### blocks and small statements -/
section
variable {X : Cx} {st : Stmt} {sts rest body : List Stmt} {t u : PTS} {a b c e o i : Expr} {ta tb tc te tv : PTE} {tt : PTT} {pos pos' p : Pos} {es : List Expr} {x : Str} {g : PTG}
def pNext : PTS := fun D σ M => D.nx σ M
def pSeq (t u : PTS) : PTS := fun D σ M => t { D with nx := u D } σ M
theorem LSs.nil : LSs X [] pNext := ⟨fun σv H σ F M D tk rm rs h => WSs.of pss_nil ⟨F, M, σ, Beh.refl rm, rs, h⟩⟩
theorem LSs.cons (h1 : LS X st t) (h2 : LSs X rest u) : LSs X (st :: rest) (pSeq t u) := by
  refine ⟨fun σv H σ F M D tk rm rs h => WSs.of (pss_cons WS.ps WSs.ps) ?_⟩
  refine (h1.run σv H σ F M { D with nx := u D } tk rm rs h).mono ⟨?_, fun _ _ q => q, fun _ _ q => q, fun _ _ q => q⟩
  rintro σv1 H1 ⟨F1, M1, σ1, b1, rs1, q1⟩
  exact (h2.run σv1 H1 σ1 F1 M1 D (tk.tr b1) b1.rm rs1 q1).mono (LD.tr b1)
theorem LSs.one (h1 : LS X st t) : LSs X [st] t := ⟨fun σv H σ F M D tk rm rs h => WSs.of (pss_one WS.ps) (h1.run σv H σ F M D tk rm rs h)⟩
def pBreak : PTS := fun D σ M => D.bk σ M
def pCont : PTS := fun D σ M => D.ct σ M
theorem LS.brk : LS X (.Break pos) pBreak := ⟨fun σv H σ F M D tk rm rs h => WS.of ps_break ⟨F, M, σ, Beh.refl rm, rs, h⟩⟩
theorem LS.cont : LS X (.Continue pos) pCont := ⟨fun σv H σ F M D tk rm rs h => WS.of ps_continue ⟨F, M, σ, Beh.refl rm, rs, h⟩⟩
def pNever : PTS := fun _ _ _ => False
theorem LS.never : LS X st pNever := ⟨fun σv H σ F M D tk rm rs h => h.elim⟩
theorem LSs.never : LSs X sts pNever := ⟨fun σv H σ F M D tk rm rs h => h.elim⟩
def pDrop (te : PTE) : PTS := fun D σ M => te D.ex σ M fun _ M1 => D.nx σ M1
theorem LS.expr (he : LE X e te) (hs : swapsWith e none pos.line X.env = pure false := by rfl) : LS X (.Expr e pos) (pDrop te) := by
  refine ⟨fun σv H σ F M D tk rm rs h => WS.of (ps_expr WE.pe hs) ?_⟩
  refine (he.run σv H σ F M _ D.ex tk rm rs h).mono ?_
  rintro v H1 ⟨F1, M1, x, b1, rx, hx⟩
  exact ⟨F1, M1, σ, b1, rs.same b1.sm, hx⟩
def pRet (te : PTE) : PTS := fun D σ M => te D.ex σ M D.rt
theorem LS.ret (he : LE X e te) : LS X (.Return (some e) pos) (pRet te) := ⟨fun σv H σ F M D tk rm rs h => WS.of (ps_ret WE.pe) (he.run σv H σ F M _ D.ex tk rm rs h)⟩
def pRetN : PTS := fun D _ M => D.rt .non M
/-- what is handed back never changes from now on -/
def kFz (x : PV) (M : Mem) (Q : PQ) : Prop := match x with
  | .ptr p => match M p with | some (.lst xs) => Q (.lst xs) (M.drop p) | some (.obj C fs) => Q (.obj C fs) (M.drop p) | some (.dct a kvs) => a = p ∧ Q (.dct kvs) (M.drop p) | none => False
  | _ => False
theorem R.fz {K : PySem.W.Frag} {F H : Hp} {M : Mem} {x : PV} {v : V} {Q : PQ} (rm : RM K F M H) (r : R K F x v) (h : kFz x M Q) : LQ K F M H Q v H := by
  unfold kFz at h
  split at h
  · rename_i p
    cases r
    split at h
    · rename_i xs hm
      obtain ⟨o, b, q⟩ := rm.behFreeze hm
      cases q with
      | lst q => exact ⟨_, _, _, b, .lst upd_same (q.same b.sm), h⟩
    · rename_i C fs hm
      obtain ⟨o, b, q⟩ := rm.behFreeze hm
      cases q with
      | obj q => exact ⟨_, _, _, b, .obj upd_same (q.same b.sm), h⟩
    · rename_i a kvs hm
      obtain ⟨rfl, h⟩ := h
      obtain ⟨o, b, q⟩ := rm.behFreeze hm
      cases q with
      | dct q => exact ⟨_, _, _, b, .dct upd_same (q.same b.sm), h⟩
    · exact h.elim
  · exact h.elim
def pRetF (te : PTE) : PTS := fun D σ M => te D.ex σ M fun x M1 => kFz x M1 D.rt
theorem LS.retF (he : LE X e te) : LS X (.Return (some e) pos) (pRetF te) := by
  refine ⟨fun σv H σ F M D tk rm rs h => WS.of (ps_ret WE.pe) ?_⟩
  refine (he.run σv H σ F M _ D.ex tk rm rs h).mono ?_
  rintro v H1 ⟨F1, M1, x, b1, rx, hx⟩
  exact (rx.fz b1.rm hx).tr b1
/-- the list in a slot never changes from now on -/
def pFz (i : Nat) (t : PTS) : PTS := fun D σ M => match σ[i]? with
  | some (some x) => kFz x M fun y M1 => t D (σ.set i (some y)) M1
  | _ => False
theorem LSs.fz (i : Nat) (h : LSs X sts t) : LSs X sts (pFz i t) := by
  refine ⟨fun σv H σ F M D tk rm rs hh => ?_⟩
  unfold pFz at hh
  split at hh
  · rename_i x hx
    obtain ⟨v, e1, r⟩ := rs.at_ i x hx
    obtain ⟨F1, M1, y, b1, ry, h1⟩ := r.fz rm hh
    have rs1 : RS X.K F1 (σ.set i (some y)) σv := by
      have q := (rs.same b1.sm).set i ry
      have hl : i < σv.length := (List.getElem?_eq_some_iff.mp e1).1
      have e2 : σv.set i (some v) = σv := by
        have e3 : σv[i] = some v := Option.some.inj ((List.getElem?_eq_getElem hl).symm.trans e1)
        rw [← e3, List.set_getElem_self]
      rw [e2] at q
      exact q
    exact (h.run σv H _ F1 M1 D (tk.tr b1) b1.rm rs1 h1).mono (LD.tr b1)
  · exact hh.elim
/-- what is in the store at a slot's place is forgotten -/
def pDropAt (i : Nat) (t : PTS) : PTS := fun D σ M => match σ[i]? with
  | some (some (.ptr p)) => t D σ (M.drop p)
  | _ => False
theorem LSs.dropAt (i : Nat) (h : LSs X sts t) : LSs X sts (pDropAt i t) := by
  refine ⟨fun σv H σ F M D tk rm rs hh => ?_⟩
  unfold pDropAt at hh
  split at hh
  · rename_i p hx
    have b1 := rm.behDrop (p := p)
    exact (h.run σv H _ F _ D (tk.tr b1) b1.rm (rs.same b1.sm) hh).mono (LD.tr b1)
  · exact hh.elim
def pIfS (c : PTT) (t u : PTS) : PTS := fun D σ M => c D.ex σ M fun b M1 => if b = true then t D σ M1 else u D σ M1
theorem LS.ite {as bs : List Stmt} (hc : LT X c tt) (ha : LSs X as t) (hb : LSs X bs u) : LS X (.If c as bs pos) (pIfS tt t u) := by
  refine ⟨fun σv H σ F M D tk rm rs h => WS.of (ps_if WT.pt WSs.ps WSs.ps) ?_⟩
  refine (hc.run σv H σ F M _ D.ex tk rm rs h).mono ?_
  rintro b H1 ⟨F1, M1, b1, hx⟩
  split
  · rename_i e
    rw [if_pos e] at hx
    exact (ha.run σv H1 σ F1 M1 D (tk.tr b1) b1.rm (rs.same b1.sm) hx).mono (LD.tr b1)
  · rename_i e
    rw [if_neg e] at hx
    exact (hb.run σv H1 σ F1 M1 D (tk.tr b1) b1.rm (rs.same b1.sm) hx).mono (LD.tr b1)
def pAsg (te : PTE) (g : PTG) : PTS := fun D σ M => te D.ex σ M fun x M1 => g x σ M1 D.nx
theorem LS.asg {tg : Expr} (he : LE X e te) (hg : LG X tg g) (hs : swapsWithSole [tg] e pos.line X.env = pure false := by rfl) (hw : swappedStores [tg] e X.env = pure none := by rfl)
    (h1 : (assignEach [tg] X.env).map (·.2) = [assign tg X.env] := by rfl) : LS X (.Assign [tg] e pos) (pAsg te g) := by
  refine ⟨fun σv H σ F M D tk rm rs h => WS.of (ps_asg WE.pe WG.pg hs hw h1) ?_⟩
  refine (he.run σv H σ F M _ D.ex tk rm rs h).mono ?_
  rintro v H1 ⟨F1, M1, x, b1, rx, hx⟩
  exact (hg.run σv H1 σ F1 M1 x v _ b1.rm (rs.same b1.sm) rx hx).mono fun _ _ q => q.tr b1
def pSet (i : Nat) (te : PTE) : PTS := fun D σ M => te D.ex σ M fun x M1 => D.nx (σ.set i (some x)) M1
theorem LS.set (i : Nat) {pos' : Pos} (hN : X.N.Nodup) (he : LE X e te) (hi : X.N[i]? = some x := by rfl) (hx : Loc X.env.scope x := by first | exact .inl rfl | exact .inr rfl) (hs : swapsWith e (some (.Name x pos')) pos.line X.env = pure false := by rfl)
    (hf : X.fn x = true ∨ X.env.scope.names.lookup x = some .local := by first | exact .inl rfl | exact .inr rfl) : LS X (.Assign [.Name x pos'] e pos) (pSet i te) := by
  refine ⟨fun σv H σ F M D tk rm rs h => WS.of (ps_set hN hi hx WE.pe hs hf) ?_⟩
  refine (he.run σv H σ F M _ D.ex tk rm rs h).mono ?_
  rintro v H1 ⟨F1, M1, x, b1, rx, hx⟩
  exact ⟨F1, M1, _, b1, (rs.same b1.sm).set i rx, hx⟩
/-- self.f = e of an object that may change -/
def kPutF (C : Addr) (f : Str) (x : PV) (o : PV) (M : Mem) (Q : Mem → Prop) : Prop := match o with
  | .ptr p => match M p with | some (.obj C' fs) => C' = C ∧ fs.length < 1000 ∧ Q (M.put p (.obj C (putP f x fs))) | _ => False
  | _ => False
def pFldS (C : Addr) (f : Str) (to tv : PTE) : PTS := fun D σ M => tv D.ex σ M fun x M1 => to D.ex σ M1 fun o M2 => kPutF C f x o M2 fun M3 => D.nx σ M3
theorem LS.fld {C : Addr} {f : Str} {to : PTE} (cl : Cls X.K C) (na : NoAttr X.K C f) (ho : LE X o to) (hv : LE X e tv) (hs : swapsWith e (some (.Attribute o f pos')) pos.line X.env = pure false := by rfl) : LS X (.Assign [.Attribute o f pos'] e pos) (pFldS C f to tv) := by
  refine ⟨fun σv H σ F M D tk rm rs h => WS.of (ps_fld WE.pe WE.pe hs) ?_⟩
  refine seq2 (k := fun x o M2 => kPutF C f x o M2 fun M3 => D.nx σ M3) hv ho tk rm rs h fun x o xv ov F2 M2 H2 bh rx ro h2 => ?_
  unfold kPutF at h2
  split at h2
  · rename_i p
    cases ro
    split at h2
    · rename_i C' fs hm
      obtain ⟨hC, hl, h3⟩ := h2
      subst hC
      obtain ⟨u, e2, ru⟩ := bh.rm.mu _ _ hm
      cases ru with
      | @obj _ dx _ vs ru =>
        refine ⟨p, _, _, _, rfl, e2, cl, na, by rw [← ru.length]; exact hl, ?_⟩
        have b3 := bh.rm.behWrite (m' := .obj C' (putP f x fs)) (o := .ins C' dx (putF f xv vs)) hm (.obj (RFs.put rx ru))
        exact ⟨F2, _, σ, bh.trans b3, rs.same bh.sm, h3⟩
    · exact h2.elim
  · exact h2.elim
/-- name op= e -/
def oIp : Operator → PO2
  | .Add => oAdd
  | .Sub => oSub
  | _ => fun _ _ _ _ => False
def pAug (i : Nat) (o : PO2) (te : PTE) : PTS := fun D σ M => match σ[i]? with
  | some (some x) => te D.ex σ M fun y M1 => o x y M1 fun z M2 => D.nx (σ.set i (some z)) M2
  | _ => False
theorem LS.aug {op : Operator} {r : R2} {po : PO2} (i : Nat) {pos' : Pos} (ho : OpR X (inplaceOp op) r) (hp : POp X.K r po) (hN : X.N.Nodup) (he : LE X e te) (hi : X.N[i]? = some x := by rfl) (hx : Loc X.env.scope x := by first | exact .inl rfl | exact .inr rfl)
    (hf : X.fn x = true ∨ X.env.scope.names.lookup x = some .local := by first | exact .inl rfl | exact .inr rfl) : LS X (.AugAssign (.Name x pos') op e pos) (pAug i po te) := by
  refine ⟨fun σv H σ F M D tk rm rs h => WS.of (ps_aug (ti := r) hN hi hx WE.pe (fun pins s σ H x y v u Q I rx ry q => ho pins s σ H x y v u Q I rx ry q) hf) ?_⟩
  unfold pAug at h
  split at h
  · rename_i y hy
    obtain ⟨v, e1, rv⟩ := rs.at_ i y hy
    refine ⟨v, e1, ?_⟩
    refine (he.run σv H σ F M _ D.ex tk rm rs h).mono ?_
    rintro w H1 ⟨F1, M1, z, b1, rz, hz⟩
    refine hp F1 M1 H1 y z v w _ _ b1.rm (rv.same b1.sm) rz hz ?_
    rintro w2 H2 ⟨F2, M2, z2, b2, rz2, hz2⟩
    exact ⟨F2, M2, _, b1.trans b2, (rs.same (b1.trans b2).sm).set i rz2, hz2⟩
  · exact h.elim
/-- xs.append(e) of a list that may change -/
def kApp (o x : PV) (M : Mem) (Q : PQ) : Prop := match o with
  | .ptr p => match M p with | some (.lst xs) => xs.length < sizeLine ∧ Q .non (M.put p (.lst (xs ++ [x]))) | _ => False
  | _ => False
def pApp (to te : PTE) : PTE := fun E σ M Q => to E σ M fun o M1 => lstOf M1 o ≠ none ∧ te E σ M1 fun x M2 => kApp o x M2 Q
theorem LE.app {to : PTE} {apos : Pos} (ho : LE X o to) (he : LE X e te) (hbase : attributeBase o "append" X.env (eval o X.env) = eval o X.env := by rfl)
    (hfew : ((backTo pos (starEach [e] X.env)).all (fun x => !x.1) && (backToKw pos (keywordEach [] X.env)).all (fun x => x.1.isSome) && decide ([e].length + ([] : List Keyword).length + (if ([] : List Keyword).isEmpty then 0 else 1) < 30)) = true := by rfl)
    (hline : (apos.endLine == pos.line) = true := by rfl) (hs : starEach [e] X.env = (false, eval e X.env) :: starEach [] X.env := by rfl) (hplain : (backTo pos (starEach [] X.env)).any (·.1) = false := by rfl) :
    LE X (.Call (.Attribute o "append" apos) [e] [] pos) (pApp to te) := by
  refine ⟨fun σv H σ F M Q E tk rm rs h => WE.of (pe_bm PySem.F.plainAttrs_list PySem.F.slot_list_append PySem.F.type_list_append mt_append WE.pe (pa_cons WE.pe pa_nil hs) hbase hfew hline hs hplain) ?_⟩
  refine (ho.run σv H σ F M _ E tk rm rs h).mono ?_
  rintro v H1 ⟨F1, M1, x, b1, rx, hl, hx⟩
  refine ⟨?_, ?_⟩
  · cases hq : lstOf M1 x with
    | none => exact absurd hq hl
    | some xs =>
      obtain ⟨q, ws, ev, hs, _⟩ := rx.lstI b1.rm hq
      subst ev
      exact .inl ⟨rfl, _, hs⟩
  · refine (he.run σv H1 σ F1 M1 _ E (tk.tr b1) b1.rm (rs.same b1.sm) hx).mono ?_
    rintro w H2 ⟨F2, M2, y, b2, ry, hy⟩
    unfold kApp at hy
    split at hy
    · rename_i p
      cases rx
      split at hy
      · rename_i xs hm
        obtain ⟨u, e2, ru⟩ := b2.rm.mu _ _ hm
        cases ru with
        | lst ru =>
          refine ⟨p, _, w, rfl, rfl, e2, by rw [← ru.length]; exact hy.1, ?_⟩
          have b3 := b2.rm.behWrite (o := .lst _) hm (.lst (ru.append (.cons ry .nil)))
          exact ⟨F2, _, _, (b1.trans b2).trans b3, .non, hy.2⟩
      · exact hy.elim
    · exact hy.elim
end
end PL
set_option Elab.async false
set_option linter.all false
set_option maxRecDepth 100000
namespace PL
open PySem PySem.Spec PyProof.Rows L2
/-! ### what a loop goes over -/
abbrev PTI := PXK → PSt → Mem → (List PV → Mem → Prop) → Prop
def WI (X : Cx) (tg iter : Expr) : TI := fun σ H R => ∀ pins s, Inv X pins σ H s → wpAny (model X.prog X.w) X.A (eval iter X.env) (fun v s1 => wpAny (model X.prog X.w) X.A (pyIter v) (PIE X pins σ tg R) X.xe s1) X.xe s
theorem WI.pi {X : Cx} {tg iter : Expr} : PI X tg iter (WI X tg iter) := ⟨fun pins s σ H R I h => h pins s I⟩
theorem WI.of {X : Cx} {tg iter : Expr} {wi : TI} (p : PI X tg iter wi) {σ : L2.St} {H : Hp} {R : It → Hp → Prop} (h : wi σ H R) : WI X tg iter σ H R := fun pins s I => p.run pins s σ H R I h
theorem WI.mono {X : Cx} {tg iter : Expr} {σ : L2.St} {H : Hp} {R R' : It → Hp → Prop} (h : WI X tg iter σ H R) (m : ∀ J H, R J H → R' J H) : WI X tg iter σ H R' := fun pins s I =>
  thn (h pins s I) fun _ _ h1 => thn h1 fun _ _ ⟨it, fp, tn, J, H', a, b, c, d, e, r⟩ => ⟨it, fp, tn, J, H', a, b, c, d, e, m _ _ r⟩
/-- the iterator hands out these, whatever comes -/
def Stab (K : PySem.W.Frag) (J : It) (F : Hp) (xs : List PV) : Prop := ∀ (i : Nat) (F' : Hp) (M : Mem) (H : Hp), Same F F' → RM K F' M H →
  (∀ h : i < xs.length, J.go i H ∧ ∀ v H', J.yld i H v H' → ∃ F2, Beh K F' M H F2 M H' ∧ R K F2 xs[i] v) ∧ (xs.length ≤ i → J.stop i H)
structure LI (X : Cx) (tg iter : Expr) (wi : PTI) : Prop where
  run : ∀ (σv : L2.St) (H : Hp) (σ : PSt) (F : Hp) (M : Mem) (Q : List PV → Mem → Prop) (E : PXK), PTk X F M H E → RM X.K F M H → RS X.K F σ σv → wi E σ M Q →
    WI X tg iter σv H (fun J H' => ∃ F' M' xs, Beh X.K F M H F' M' H' ∧ Stab X.K J F' xs ∧ Q xs M')
theorem stab_list {K : PySem.W.Frag} {F : Hp} {a : Addr} {xs : List PV} {vs : List V} (h : SqL K F a vs) (r : RAll K F xs vs) : Stab K (Itl K a) F xs := by
  intro i F' M H sm rm
  have hH : SqL K H a vs := rm.fr.seq (sm.seq h)
  refine ⟨fun hi => ?_, fun hi => ⟨vs, hH, by rw [← r.length]; exact hi⟩⟩
  obtain ⟨v, e, rv⟩ := r.get (List.getElem?_eq_getElem hi)
  refine ⟨⟨vs, v, hH, e⟩, fun w H' y => ?_⟩
  obtain ⟨rfl, y⟩ := y
  have e2 := y vs hH
  rw [e] at e2
  cases e2
  exact ⟨F', Beh.refl rm, rv.same sm⟩
theorem stab_tup {K : PySem.W.Frag} {F : Hp} {a : Addr} {xs : List PV} {vs : List V} (h : SqT K F a vs) (r : RAll K F xs vs) : Stab K (Itt K a) F xs := by
  intro i F' M H sm rm
  have hH : SqT K H a vs := sqT_same rm.fr (sqT_same sm h)
  refine ⟨fun hi => ?_, fun hi => ⟨vs, hH, by rw [← r.length]; exact hi⟩⟩
  obtain ⟨v, e, rv⟩ := r.get (List.getElem?_eq_getElem hi)
  refine ⟨⟨vs, v, hH, e⟩, fun w H' y => ?_⟩
  obtain ⟨rfl, y⟩ := y
  have e2 := y vs hH
  rw [e] at e2
  cases e2
  exact ⟨F', Beh.refl rm, rv.same sm⟩
/-- the ints lo, lo + 1, .. -/
def rngP (lo : Int) (n : Nat) : List PV := (List.range n).map fun (i : Nat) => PV.int (lo + i)
theorem rngP_length {lo : Int} {n : Nat} : (rngP lo n).length = n := by unfold rngP; rw [List.length_map, List.length_range]
theorem stab_rng {K : PySem.W.Frag} {F : Hp} {lo : Int} {n : Nat} : Stab K (Itr lo n) F (rngP lo n) := by
  intro i F' M H sm rm
  refine ⟨fun hi => ?_, fun hi => by rw [rngP_length] at hi; exact hi⟩
  have hn : i < n := by rw [rngP_length] at hi; exact hi
  refine ⟨hn, fun w H' y => ?_⟩
  obtain ⟨rfl, rfl⟩ := y
  refine ⟨F', Beh.refl rm, ?_⟩
  have e : (rngP lo n)[i] = PV.int (lo + i) := by simp [rngP]
  rw [e]
  exact .int _
/-- a frozen list or a tuple: which it is, is told -/
def lstF : PV → Option (List PV)
  | .lst xs => some xs
  | .scr xs => some xs
  | _ => none
def tupF : PV → Option (List PV)
  | .tup xs => some xs
  | _ => none
def piL (te : PTE) : PTI := fun E σ M Q => te E σ M fun x M1 => need (lstF x) fun xs => Q xs M1
def piT (te : PTE) : PTI := fun E σ M Q => te E σ M fun x M1 => need (tupF x) fun xs => Q xs M1
def piR1 (te : PTE) : PTI := fun E σ M Q => te E σ M fun x M1 => match x with | .int j => (-(2 ^ 62) ≤ j ∧ j < 2 ^ 62) ∧ Q (rngP 0 j.toNat) M1 | _ => False
def piR2 (ta tb : PTE) : PTI := fun E σ M Q => ta E σ M fun x M1 => tb E σ M1 fun y M2 => match x, y with | .int i, .int j => (-(2 ^ 62) ≤ i ∧ i < 2 ^ 62 ∧ -(2 ^ 62) ≤ j ∧ j < 2 ^ 62) ∧ Q (rngP i (j - i).toNat) M2 | _, _ => False
section
variable {X : Cx} {tg iter e a b : Expr} {te ta tb : PTE} {pos p : Pos}
theorem LI.list (he : LE X e te) : LI X tg e (piL te) := by
  refine ⟨fun σv H σ F M Q E tk rm rs h => WI.of (pi_list WE.pe) ?_⟩
  refine (he.run σv H σ F M _ E tk rm rs h).mono ?_
  rintro v H1 ⟨F1, M1, x, b1, rx, hx⟩
  obtain ⟨xs, e1, h2⟩ := need_of hx
  cases rx with
  | lst q r => cases e1; exact ⟨_, rfl, ⟨_, SqL.of (b1.rm.fr _ _ q)⟩, F1, M1, _, b1, stab_list (SqL.of q) r, h2⟩
  | scr q r => cases e1; exact ⟨_, rfl, ⟨_, b1.rm.fr.seq q⟩, F1, M1, _, b1, stab_list q r, h2⟩
  | _ => cases e1
theorem LI.tup (he : LE X e te) : LI X tg e (piT te) := by
  refine ⟨fun σv H σ F M Q E tk rm rs h => WI.of (pi_tup WE.pe) ?_⟩
  refine (he.run σv H σ F M _ E tk rm rs h).mono ?_
  rintro v H1 ⟨F1, M1, x, b1, rx, hx⟩
  obtain ⟨xs, e1, h2⟩ := need_of hx
  cases rx with
  | tup q r => cases e1; exact ⟨_, rfl, ⟨_, sqT_same b1.rm.fr q⟩, F1, M1, _, b1, stab_tup q r, h2⟩
  | _ => cases e1
theorem LI.rng1 (hg : Gl X "range") (hm : X.mg "range" = none) (ha : LE X a ta) (hs : starEach [a] X.env = [(false, eval a X.env)] := by rfl) : LI X tg (.Call (.Name "range" p) [a] [] pos) (piR1 ta) := by
  refine ⟨fun σv H σ F M Q E tk rm rs h => WI.of (pi_range1 hg hm (pa_cons WE.pe pa_nil hs) hs) ?_⟩
  refine (ha.run σv H σ F M _ E tk rm rs h).mono ?_
  rintro v H1 ⟨F1, M1, x, b1, rx, hx⟩
  cases rx <;> first
    | exact hx.elim
    | exact ⟨_, rfl, hx.1.1, hx.1.2, F1, M1, _, b1, stab_rng, hx.2⟩
end
/-! ### for, while -/
def pForL (g : PTG) (tb : PTS) : List PV → PTS
  | [] => fun D σ M => D.nx σ M
  | x :: xs => fun D σ M => g x σ M fun σ1 M1 => tb { D with nx := pForL g tb xs D, bk := D.nx, ct := pForL g tb xs D } σ1 M1
def pFor (wi : PTI) (g : PTG) (tb : PTS) : PTS := fun D σ M => wi D.ex σ M fun xs M1 => pForL g tb xs D σ M1
def pWhileN (c : PTT) (tb : PTS) : Nat → PTS
  | 0 => fun _ _ _ => False
  | n + 1 => fun D σ M => c D.ex σ M fun b M1 => if b = true then tb { D with nx := pWhileN c tb n D, bk := D.nx, ct := pWhileN c tb n D } σ M1 else D.nx σ M1
def pWhile (c : PTT) (tb : PTS) : PTS := fun D σ M => ∃ n, pWhileN c tb n D σ M
section
variable {X : Cx} {tg iter c : Expr} {body : List Stmt} {wi : PTI} {g : PTG} {tb : PTS} {tt : PTT} {pos : Pos}
theorem LS.for (hp : PassesOwn (model X.prog X.w) X.A X.env X.xe) (hc : X.calm = true) (hi : LI X tg iter wi) (hg : LG X tg g) (hb : LSs X body tb) (hs : ∀ x, foldedSetIterable iter X.env x = pure x := by intro _; rfl) : LS X (.For tg iter body [] pos) (pFor wi g tb) := by
  refine ⟨fun σv H σ F M D tk rm rs h => WS.of (ps_for hp hc WI.pi WG.pg WSs.ps hs) ?_⟩
  refine (hi.run σv H σ F M _ D.ex tk rm rs h).mono ?_
  rintro J H1 ⟨F1, M1, xs, b1, st, h1⟩
  refine ⟨fun i m σv' H' => m = xs.length - i ∧ i ≤ xs.length ∧ ∃ F' M' σ', Beh X.K F M H F' M' H' ∧ Same F1 F' ∧ RS X.K F' σ' σv' ∧ pForL g tb (xs.drop i) D σ' M', ⟨xs.length, rfl, Nat.zero_le _, F1, M1, σ, b1, Same.refl _, rs.same b1.sm, h1⟩, ?_⟩
  rintro i m σv2 H2 ⟨rfl, hi2, F2, M2, σ2, b2, sm2, rs2, h2⟩
  obtain ⟨s1, s2⟩ := st i F2 M2 H2 sm2 b2.rm
  by_cases hlt : i < xs.length
  · obtain ⟨go, yl⟩ := s1 hlt
    rw [List.drop_eq_getElem_cons hlt] at h2
    refine .inr ⟨go, _, fun σv' H' n => ⟨_, (show xs.length - (i + 1) < xs.length - i by omega), n⟩, fun v H3 y => ?_⟩
    obtain ⟨F3, b3, r3⟩ := yl v H3 y
    refine (hg.run σv2 H3 σ2 F3 M2 _ v _ b3.rm (rs2.same b3.sm) r3 h2).mono ?_
    rintro σv4 H4 ⟨F4, M4, σ4, b4, rs4, h4⟩
    have b24 := b3.trans b4
    have b04 := b2.trans b24
    refine (hb.run σv4 H4 σ4 F4 M4 { D with nx := pForL g tb (xs.drop (i + 1)) D, bk := D.nx, ct := pForL g tb (xs.drop (i + 1)) D } (tk.tr b04) b04.rm rs4 h4).mono ⟨?_, fun _ _ q => q.tr b04, fun _ _ q => q.tr b04, ?_⟩
    · rintro σv5 H5 ⟨F5, M5, σ5, b5, rs5, h5⟩
      exact ⟨rfl, hlt, F5, M5, σ5, b04.trans b5, (sm2.trans b24.sm).trans b5.sm, rs5, h5⟩
    · rintro σv5 H5 ⟨F5, M5, σ5, b5, rs5, h5⟩
      exact ⟨rfl, hlt, F5, M5, σ5, b04.trans b5, (sm2.trans b24.sm).trans b5.sm, rs5, h5⟩
  · have e : i = xs.length := by omega
    subst e
    rw [List.drop_length] at h2
    exact .inl ⟨s2 (Nat.le_refl _), F2, M2, σ2, b2, rs2, h2⟩
theorem LS.while (hp : PassesOwn (model X.prog X.w) X.A X.env X.xe) (hc : LT X c tt) (hb : LSs X body tb) : LS X (.While c body [] pos) (pWhile tt tb) := by
  refine ⟨fun σv H σ F M D tk rm rs h => WS.of (ps_while hp WT.pt WSs.ps) ?_⟩
  obtain ⟨n, h⟩ := h
  refine ⟨fun m σv' H' => ∃ F' M' σ', Beh X.K F M H F' M' H' ∧ RS X.K F' σ' σv' ∧ pWhileN tt tb m D σ' M', ⟨n, F, M, σ, Beh.refl rm, rs, h⟩, ?_⟩
  rintro m σv2 H2 ⟨F2, M2, σ2, b2, rs2, h2⟩
  cases m with
  | zero => exact h2.elim
  | succ m =>
    refine (hc.run σv2 H2 σ2 F2 M2 _ D.ex (tk.tr b2) b2.rm rs2 h2).mono ?_
    rintro b H3 ⟨F3, M3, b3, h3⟩
    split
    · rename_i e
      rw [if_pos e] at h3
      have b03 := b2.trans b3
      refine ⟨_, fun σv' H' n => ⟨m, Nat.lt_succ_self m, n⟩, ?_⟩
      refine (hb.run σv2 H3 σ2 F3 M3 { D with nx := pWhileN tt tb m D, bk := D.nx, ct := pWhileN tt tb m D } (tk.tr b03) b03.rm (rs2.same b3.sm) h3).mono ⟨?_, fun _ _ q => q.tr b03, fun _ _ q => q.tr b03, ?_⟩
      · rintro σv5 H5 ⟨F5, M5, σ5, b5, rs5, h5⟩
        exact ⟨F5, M5, σ5, b03.trans b5, rs5, h5⟩
      · rintro σv5 H5 ⟨F5, M5, σ5, b5, rs5, h5⟩
        exact ⟨F5, M5, σ5, b03.trans b5, rs5, h5⟩
    · rename_i e
      rw [if_neg e] at h3
      exact ⟨F3, M3, σ2, b2.trans b3, rs2.same b3.sm, h3⟩
end
/-! ### list comprehensions over one name -/
abbrev PTTs := PTT
def pYes : PTT := fun _ _ M Q => Q true M
def pLcL (i : Nat) (tt : PTT) (te : PTE) : List PV → List PV → PSt → Mem → PQ → Prop
  | [], acc => fun _ M Q => Q (.lst acc) M
  | x :: xs, acc => fun σ M Q => tt noX (σ.set i (some x)) M fun b M1 => if b = true then te noX (σ.set i (some x)) M1 fun y M2 => pLcL i tt te xs (acc ++ [y]) σ M2 Q else pLcL i tt te xs acc σ M1 Q
def pLc (wi : PTI) (i : Nat) (tt : PTT) (te : PTE) : PTE := fun E σ M Q => wi E σ M fun xs M1 => xs.length ≤ sizeLine ∧ pLcL i tt te xs [] σ M1 Q
/-- a clause's tests -/
structure LTs (X : Cx) (ifs : List Expr) (t : PTT) : Prop where
  run : ∀ (σv : L2.St) (H : Hp) (σ : PSt) (F : Hp) (M : Mem) (Q : Bool → Mem → Prop), RM X.K F M H → RS X.K F σ σv → t noX σ M Q →
    ∀ pins s, Inv X pins σv H s → wpAny (model X.prog X.w) X.A (forIn ifs true fun c r => if r = true then do let ok ← isTrue c X.env (eval c X.env); pure (ForInStep.yield ok) else pure (ForInStep.yield r)) (TP X pins σv (LB X.K F M H Q)) X.xe s
theorem LTs.nil {X : Cx} : LTs X [] pYes := ⟨fun σv H σ F M Q rm rs h pins s I => pts_nil.run pins s σv H _ I ⟨F, M, Beh.refl rm, h⟩⟩
theorem LTs.one {X : Cx} {c : Expr} {t : PTT} (hc : LT X c t) : LTs X [c] t := ⟨fun σv H σ F M Q rm rs h pins s I => (pts_one WT.pt).run pins s σv H _ I (hc.run σv H σ F M Q noX PTk.no rm rs h)⟩
section
variable {X : Cx} {elt tg iter : Expr} {ifs : List Expr} {scope : Scope} {x : Str} {i : Nat} {pos pt : Pos} {wi : PTI} {tt : PTT} {te : PTE}
abbrev Blk (X : Cx) (scope : Scope) (s : Shared) (H : Hp) (C : Addr) (cl : List (Str × Addr)) (fp : List Addr) : Cx := X.blk s H scope (compEnvC scope cl C X.env) fp
theorem hid_app {K : PySem.W.Frag} {F H : Hp} {M : Mem} {p : Addr} {o : HO} (r : RM K F M H) (nF : F p = none) (nM : M p = none) : RM K F M (upd H p o) := (r.behHid nF nM).1
/-- the turns of the block, D the new list -/
theorem lc_turns {te' : TE} {tt' : TT} (hi : i < X.N.length)
    (ht : ∀ (σv : L2.St) (H : Hp) (σ : PSt) (F : Hp) (M : Mem) (Q : Bool → Mem → Prop), RM X.K F M H → RS X.K F σ σv → tt noX σ M Q → tt' σv H (LB X.K F M H Q))
    (he : ∀ (σv : L2.St) (H : Hp) (σ : PSt) (F : Hp) (M : Mem) (Q : PQ), RM X.K F M H → RS X.K F σ σv → te noX σ M Q → te' σv H (LQ X.K F M H Q))
    (mt : ∀ σv H Q Q', tt' σv H Q → (∀ b H', Q b H' → Q' b H') → tt' σv H Q') (me : ∀ σv H Q Q', te' σv H Q → (∀ b H', Q b H' → Q' b H') → te' σv H Q')
    {σv : L2.St} {σ : PSt} {F M H F1 M1 H1} {Q : PQ} {J : It} {xs : List PV} (b1 : Beh X.K F M H F1 M1 H1) (rs : RS X.K F σ σv) (st : Stab X.K J F1 xs) (hz : xs.length ≤ sizeLine) (h1 : pLcL i tt te xs [] σ M1 Q) {D : Addr} (nD : H1 D = none) :
    ∃ W : Nat → Nat → Hp → Prop, (∃ m, W 0 m (upd H1 D (.lst []))) ∧ ∀ j m H', W j m H' →
      (J.stop j H' ∧ LQ X.K F M H Q (.ref D) H') ∨ (J.go j H' ∧ ∃ Nx : Hp → Prop, (∀ H2, Nx H2 → ∃ m', m' < m ∧ W (j + 1) m' H2) ∧ ∀ v H2, J.yld j H' v H2 → gName i v (wipe σv [i]) H2 fun σ2 H3 => wipe σ2 [i] = wipe σv [i] ∧ tt' σ2 H3 fun b H4 =>
        if b = true then te' σ2 H4 fun y H5 => ∃ acc, H5 D = some (.lst acc) ∧ acc.length < sizeLine ∧ Nx (upd H5 D (.lst (acc ++ [y]))) else Nx H4) := by
  obtain ⟨nF, nM⟩ := b1.rm.nones nD
  have b1' := b1.trans ((b1.rm.behHid (o := .lst []) nF nM).2 nD)
  refine ⟨fun j m H' => m = xs.length - j ∧ j ≤ xs.length ∧ ∃ F' M' acc vacc, Beh X.K F M H F' M' H' ∧ Same F1 F' ∧ F' D = none ∧ M' D = none ∧ H' D = some (.lst vacc) ∧ RAll X.K F' acc vacc ∧ acc.length ≤ j ∧ pLcL i tt te (xs.drop j) acc σ M' Q,
    ⟨xs.length, rfl, Nat.zero_le _, F1, M1, [], [], b1', Same.refl _, nF, nM, upd_same, .nil, Nat.le_refl _, h1⟩, ?_⟩
  rintro j m H2 ⟨rfl, hj, F2, M2, acc, vacc, b2, sm2, nF2, nM2, hD, ra, hl, h2⟩
  obtain ⟨s1, s2⟩ := st j F2 M2 H2 sm2 b2.rm
  by_cases hlt : j < xs.length
  · obtain ⟨go, yl⟩ := s1 hlt
    rw [List.drop_eq_getElem_cons hlt] at h2
    refine .inr ⟨go, _, fun H' n => ⟨_, (show xs.length - (j + 1) < xs.length - j by omega), n⟩, fun v H3 y => ?_⟩
    obtain ⟨F3, b3, r3⟩ := yl v H3 y
    have keepD : ∀ {Fa : Hp} {Ma : Mem} {Ha : Hp}, Beh X.K F2 M2 H2 Fa Ma Ha → Fa D = none ∧ Ma D = none ∧ Ha D = some (.lst vacc) := fun {Fa Ma Ha} b => by
      refine ⟨?_, ?_, b.fr.keep D _ hD nM2⟩
      · cases q : Fa D with
        | none => rfl
        | some u =>
          rcases b.fg D (by rw [q]; exact Option.some_ne_none _) with z | z | z
          · exact absurd nF2 z
          · exact absurd nM2 z
          · rw [hD] at z; cases z
      · cases q : Ma D with
        | none => rfl
        | some u =>
          rcases b.fr.grow D (by rw [q]; exact Option.some_ne_none _) with z | z
          · exact absurd nM2 z
          · rw [hD] at z; cases z
    have hw : wipe σv [i] = σv.set i none := rfl
    have e1 : (wipe σv [i]).set i (some v) = σv.set i (some v) := by rw [hw, List.set_set]
    show wipe ((wipe σv [i]).set i (some v)) [i] = wipe σv [i] ∧ _
    rw [e1]
    refine ⟨by show (σv.set i (some v)).set i none = σv.set i none; rw [List.set_set], ?_⟩
    have rs3 : RS X.K F3 (σ.set i (some xs[j])) (σv.set i (some v)) := (rs.same (b2.trans b3).sm).set i r3
    refine mt _ _ _ _ (ht _ H3 _ F3 M2 _ b3.rm rs3 h2) ?_
    rintro b H4 ⟨F4, M4, b4, h4⟩
    have b24 := b3.trans b4
    split
    · rename_i e
      rw [if_pos e] at h4
      refine me _ _ _ _ (he _ H4 _ F4 M4 _ b4.rm (rs3.same b4.sm) h4) ?_
      rintro yv H5 ⟨F5, M5, y5, b5, r5, h5⟩
      have b25 := b24.trans b5
      obtain ⟨k1, k2, k3⟩ := keepD b25
      refine ⟨vacc, k3, by rw [← ra.length]; omega, rfl, hlt, F5, M5, acc ++ [y5], vacc ++ [yv], ?_, sm2.trans b25.sm, k1, k2, upd_same, (ra.same b25.sm).append (.cons r5 .nil), by rw [List.length_append]; show acc.length + 1 ≤ j + 1; omega, h5⟩
      have b05 := b2.trans b25
      have x : RM X.K F5 M5 (upd H5 D (.lst (vacc ++ [yv]))) := hid_app b05.rm k1 k2
      refine ⟨b05.sm, x, ⟨fun c u hc nc => ?_, b05.fr.grow, fun c hc => ?_⟩, b05.fg⟩
      · have hcD : c ≠ D := fun z => by
          subst z
          rcases b1.fr.there c (by rw [hc]; exact Option.some_ne_none _) with _
          exact absurd nD (b1.fr.there c (by rw [hc]; exact Option.some_ne_none _))
        rw [upd_ne hcD]
        exact b05.fr.keep c u hc nc
      · by_cases hcD : c = D
        · subst hcD; rw [upd_same]; exact Option.some_ne_none _
        · rw [upd_ne hcD]; exact b05.fr.there c hc
    · rename_i e
      rw [if_neg e] at h4
      obtain ⟨k1, k2, k3⟩ := keepD b24
      exact ⟨rfl, hlt, F4, M4, acc, vacc, b2.trans b24, sm2.trans b24.sm, k1, k2, k3, ra.same b24.sm, by omega, h4⟩
  · have e : j = xs.length := by omega
    subst e
    rw [List.drop_length] at h2
    refine .inl ⟨s2 (Nat.le_refl _), ?_⟩
    have sm : Same F2 (upd F2 D (.lst vacc)) := same_upd nF2
    refine ⟨upd F2 D (.lst vacc), M2, _, ⟨b2.sm.trans sm, ⟨fun c u hc => ?_, fun c hc => ?_, fun c mo hc => ?_⟩, b2.fr, fun c hc => ?_⟩, .lst upd_same (ra.same sm), h2⟩
    · by_cases hcD : c = D
      · subst hcD; rw [upd_same] at hc; cases hc; exact hD
      · rw [upd_ne hcD] at hc; exact b2.rm.fr c u hc
    · have hcD : c ≠ D := fun z => hc (by rw [z]; exact nM2)
      rw [upd_ne hcD]; exact b2.rm.dj c hc
    · obtain ⟨u, e1, e2⟩ := b2.rm.mu c mo hc
      exact ⟨u, e1, e2.same sm⟩
    · by_cases hcD : c = D
      · subst hcD
        right; right
        cases q : H c with
        | none => rfl
        | some u => exact absurd nD (b1.fr.there c (by rw [q]; exact Option.some_ne_none _))
      · rw [upd_ne hcD] at hc; exact b2.fg c hc
def TBlk (X : Cx) (scope : Scope) (ifs : List Expr) : TT := fun σ H Q => ∀ s0 H0 C cl fp pins s, Inv (Blk X scope s0 H0 C cl fp) pins σ H s →
  wpAny (model X.prog X.w) X.A (forIn ifs true fun c r => if r = true then do let ok ← isTrue c (Blk X scope s0 H0 C cl fp).env (eval c (Blk X scope s0 H0 C cl fp).env); pure (ForInStep.yield ok) else pure (ForInStep.yield r)) (TP (Blk X scope s0 H0 C cl fp) pins σ Q) (fun _ _ => False) s
def EBlk (X : Cx) (scope : Scope) (elt : Expr) : TE := fun σ H Q => ∀ s0 H0 C cl fp, WE (Blk X scope s0 H0 C cl fp) elt σ H Q
theorem TBlk.mono {σv H Q Q'} (h : TBlk X scope ifs σv H Q) (m : ∀ b H', Q b H' → Q' b H') : TBlk X scope ifs σv H Q' := fun s0 H0 C cl fp pins s I => thn (h s0 H0 C cl fp pins s I) fun b s' ⟨H', I', q⟩ => ⟨H', I', m b H' q⟩
theorem EBlk.mono {σv H Q Q'} (h : EBlk X scope elt σv H Q) (m : ∀ b H', Q b H' → Q' b H') : EBlk X scope elt σv H Q' := fun s0 H0 C cl fp => (h s0 H0 C cl fp).mono m
theorem lc_core' (hi : LI X tg iter wi) (hl : i < X.N.length)
    (ht : ∀ (s : Shared) (H : Hp) (C : Addr) (cl : List (Str × Addr)) (fp : List Addr), LTs (Blk X scope s H C cl fp) ifs tt)
    (he : ∀ (s : Shared) (H : Hp) (C : Addr) (cl : List (Str × Addr)) (fp : List Addr), LE (Blk X scope s H C cl fp) elt te)
    {σv : L2.St} {H : Hp} {σ : PSt} {F : Hp} {M : Mem} {Q : PQ} {E : PXK} (tk : PTk X F M H E) (rm : RM X.K F M H) (rs : RS X.K F σ σv) (h : pLc wi i tt te E σ M Q) : tLc (WI X tg iter) (gName i) (TBlk X scope ifs) (EBlk X scope elt) [i] σv H (LQ X.K F M H Q) := by
  refine (hi.run σv H σ F M _ E tk rm rs h).mono ?_
  rintro J H1 ⟨F1, M1, xs, b1, st, hz, h1⟩
  intro D nD
  exact lc_turns (te := te) (tt := tt) (te' := EBlk X scope elt) (tt' := TBlk X scope ifs) hl (fun σv H σ F M Q rm rs h s0 H0 C cl fp pins s I => (ht s0 H0 C cl fp).run σv H σ F M Q rm rs h pins s I)
    (fun σv H σ F M Q rm rs h s0 H0 C cl fp => (he s0 H0 C cl fp).run σv H σ F M Q noX PTk.no rm rs h)
    (fun σv H Q Q' h m => TBlk.mono h m) (fun σv H Q Q' h m => EBlk.mono h m) b1 rs st hz h1 nD
/-- [elt for x in iter if ..] -/
theorem LE.lc (hc : X.calm = true) (hN : X.N.Nodup) (hi : LI X (.Name x pt) iter wi) (ok : BlkOk X.N X.env.scope scope [(x, i)])
    (hg : ∀ (s : Shared) (H : Hp) (C : Addr) (cl : List (Str × Addr)) (fp : List Addr), PG (Blk X scope s H C cl fp) (.Name x pt) (gName i))
    (ht : ∀ (s : Shared) (H : Hp) (C : Addr) (cl : List (Str × Addr)) (fp : List Addr), LTs (Blk X scope s H C cl fp) ifs tt)
    (he : ∀ (s : Shared) (H : Hp) (C : Addr) (cl : List (Str × Addr)) (fp : List Addr), LE (Blk X scope s H C cl fp) elt te)
    (hs : ∀ v, foldedSetIterable iter X.env v = pure v := by intro _; rfl) : LE X (.ListComp elt [⟨.Name x pt, iter, ifs, 0⟩] scope pos) (pLc wi i tt te) := by
  refine ⟨fun σv H σ F M Q E tk rm rs h => ?_⟩
  refine WE.of (pe_lc (own := [(x, i)]) (g := gName i) (tt := TBlk X scope ifs) (te := EBlk X scope elt) hc hN WI.pi ok hg (fun s0 H0 C cl fp => ⟨fun pins s σ H Q I hh => hh s0 H0 C cl fp pins s I⟩) (fun s0 H0 C cl fp => ⟨fun pins s σ H Q I hh => hh s0 H0 C cl fp pins s I⟩) hs) ?_
  exact lc_core' hi (List.getElem?_eq_some_iff.mp (ok.ix (x, i) (by simp))).1 ht he tk rm rs h
/-- y = [elt for x in iter if ..] on one row -/
theorem LS.setLc (k : Nat) {y : Str} {py spos : Pos} (hc : X.calm = true) (hN : X.N.Nodup) (hy : X.N[k]? = some y) (hyl : X.env.scope.names.lookup y = some .local)
    (hsw : swapsWith (.ListComp elt [⟨.Name x pt, iter, ifs, 0⟩] scope pos) (some (.Name y py)) spos.line X.env = pure true) (hi : LI X (.Name x pt) iter wi) (ok : BlkOk X.N X.env.scope scope [(x, i)])
    (hg : ∀ (s : Shared) (H : Hp) (C : Addr) (cl : List (Str × Addr)) (fp : List Addr), PG (Blk X scope s H C cl fp) (.Name x pt) (gName i))
    (ht : ∀ (s : Shared) (H : Hp) (C : Addr) (cl : List (Str × Addr)) (fp : List Addr), LTs (Blk X scope s H C cl fp) ifs tt)
    (he : ∀ (s : Shared) (H : Hp) (C : Addr) (cl : List (Str × Addr)) (fp : List Addr), LE (Blk X scope s H C cl fp) elt te)
    (hs : ∀ v, foldedSetIterable iter X.env v = pure v := by intro _; rfl) : LS X (.Assign [.Name y py] (.ListComp elt [⟨.Name x pt, iter, ifs, 0⟩] scope pos) spos) (pSet k (pLc wi i tt te)) := by
  refine ⟨fun σv H σ F M D tk rm rs h => ?_⟩
  refine WS.of (ps_setLc (own := [(x, i)]) (g := gName i) (tt := TBlk X scope ifs) (te := EBlk X scope elt) hc hN hy hyl hsw WI.pi ok hg (fun s0 H0 C cl fp => ⟨fun pins s σ H Q I hh => hh s0 H0 C cl fp pins s I⟩) (fun s0 H0 C cl fp => ⟨fun pins s σ H Q I hh => hh s0 H0 C cl fp pins s I⟩) hs) ?_
  have q := lc_core' (elt := elt) (ifs := ifs) (scope := scope) hi (List.getElem?_eq_some_iff.mp (ok.ix (x, i) (by simp))).1 ht he tk rm rs h
  have m : ∀ v H', LQ X.K F M H (fun x M1 => D.nx (σ.set k (some x)) M1) v H' → gName k v σv H' (LD X.K F M H D).nx := fun v H' ⟨F1, M1, y, b1, ry, hy⟩ => ⟨F1, M1, _, b1, (rs.same b1.sm).set k ry, hy⟩
  refine WI.mono q fun J H1 h1 => ?_
  intro D' nD
  obtain ⟨W, w0, w1⟩ := h1 D' nD
  refine ⟨W, w0, fun j m' H' w => ?_⟩
  rcases w1 j m' H' w with ⟨s1, s2⟩ | s
  · exact .inl ⟨s1, m _ _ s2⟩
  · exact .inr s
end
/-! ### a def keeps its promise -/
section
variable {P : Program} {w : World} {K : PySem.W.Frag} {mg : Str → Option Value} {base : Heap}
theorem Fn.ok {x qual : Str} {st : Stmt} {f : Addr} {fd : FuncData} {N ps : List Str} {k n : Nat} {sp : PSp} (F : Fun K x qual st f fd) (S : FnScope N ps (defScope st)) (hn : N.length = n)
    (body : ∀ (cdv : Value) (A : Around) (outer : List Env) (s : Shared) (H : Hp) (E : XK), Room k (A.deeper (envOfC qual (defScope st) s.heap.objs.size f cdv)) →
      ∃ t, LSs (cxOf (L2.CX P w) P w K mg base N qual (defScope st) f cdv A outer s H E) (defBody st) t ∧ ∀ xs M Q Ep, xs.length = ps.length → sp xs M Q Ep → t { nx := fun _ M' => Q .non M', rt := Q, ex := Ep } (pstart n xs) M) :
    FnOk P w K mg base (L2.CX P w) (k + 1) f fd ps (lift K ps.length sp) := by
  refine F.okX S (fun vs H Q E h => h.1) (fun cdv A outer s H vs Q E hr h => ?_)
  obtain ⟨t, ht, hb⟩ := body cdv A outer s H E hr
  obtain ⟨hl, F0, M, xs, Qp, Ep, rm, rx, h1, k1, k2⟩ := h
  refine ⟨_, WSs.ps, ?_⟩
  have rs : RS K F0 (pstart n xs) (L2.start N vs) := hn ▸ RS.start rx
  have tk : PTk (cxOf (L2.CX P w) P w K mg base N qual (defScope st) f cdv A outer s H E) F0 M H Ep :=
    (takes_of (X := cxOf (L2.CX P w) P w K mg base N qual (defScope st) f cdv A outer s H E) rfl rfl rfl rfl).imp fun c d _ H' q => k2 c d H' q
  refine (ht.run (L2.start N vs) H (pstart n xs) F0 M { nx := fun _ M' => Qp .non M', rt := Qp, ex := Ep } tk rm rs (hb xs M Qp Ep (by rw [rx.length, hl]) h1)).mono ⟨?_, fun v H' q => k1 v H' q, fun _ _ ⟨_, _, _, _, _, z⟩ => z.elim, fun _ _ ⟨_, _, _, _, _, z⟩ => z.elim⟩
  rintro σ' H' ⟨F1, M1, σ1, b1, rs1, q1⟩
  exact k1 .non H' ⟨F1, M1, .non, b1, .non, q1⟩
end
end PL
set_option Elab.async false
set_option linter.all false
set_option maxRecDepth 100000
namespace PL
open PySem PySem.Spec PyProof.Rows L2
/-! ### all(..), any(..) of a list of bools -/
def blsOf : List PV → Option (List Bool)
  | [] => some []
  | .bl b :: r => (blsOf r).map (b :: ·)
  | _ => none
def intsOf : List PV → Option (List Int)
  | [] => some []
  | .int i :: r => (intsOf r).map (i :: ·)
  | _ => none
theorem blsOf_map : ∀ bs : List Bool, blsOf (bs.map PV.bl) = some bs
  | [] => rfl
  | b :: r => by
    show (blsOf (r.map PV.bl)).map (b :: ·) = _
    rw [blsOf_map r]
    rfl
theorem intsOf_map : ∀ bs : List Int, intsOf (bs.map PV.int) = some bs
  | [] => rfl
  | b :: r => by
    show (intsOf (r.map PV.int)).map (b :: ·) = _
    rw [intsOf_map r]
    rfl
theorem blsOf_eq : ∀ {xs : List PV} {bs : List Bool}, blsOf xs = some bs → xs = bs.map PV.bl
  | [], bs, h => by cases h; rfl
  | .bl b :: r, bs, h => by
    cases hr : blsOf r with
    | none =>
      have h' : (blsOf r).map (b :: ·) = some bs := h
      rw [hr] at h'; cases h'
    | some cs =>
      have h' : (blsOf r).map (b :: ·) = some bs := h
      rw [hr] at h'; cases h'
      rw [blsOf_eq hr]; rfl
theorem intsOf_eq : ∀ {xs : List PV} {bs : List Int}, intsOf xs = some bs → xs = bs.map PV.int
  | [], bs, h => by cases h; rfl
  | .int b :: r, bs, h => by
    cases hr : intsOf r with
    | none =>
      have h' : (intsOf r).map (b :: ·) = some bs := h
      rw [hr] at h'; cases h'
    | some cs =>
      have h' : (intsOf r).map (b :: ·) = some bs := h
      rw [hr] at h'; cases h'
      rw [intsOf_eq hr]; rfl
theorem RAll.bls {K : PySem.W.Frag} {F : Hp} : ∀ {bs : List Bool} {vs : List V}, RAll K F (bs.map PV.bl) vs → vs = bs.map V.bl
  | [], _, .nil => rfl
  | b :: r, _, .cons (.bl _) t => by rw [RAll.bls t]; rfl
theorem RAll.intsI {K : PySem.W.Frag} {F : Hp} : ∀ {bs : List Int} {vs : List V}, RAll K F (bs.map PV.int) vs → vs = bs.map V.int
  | [], _, .nil => rfl
  | b :: r, _, .cons (.int _) t => by rw [RAll.intsI t]; rfl
def kAll (x : PV) (M : Mem) (Q : PQ) : Prop := need (lstOf M x) fun xs => need (blsOf xs) fun bs => Q (.bl (bs.all id)) M
def kAny (x : PV) (M : Mem) (Q : PQ) : Prop := need (lstOf M x) fun xs => need (blsOf xs) fun bs => Q (.bl (bs.any id)) M
section
variable {X : Cx} {a b c e : Expr} {ta tb tc te : PTE} {pos p p2 pos2 : Pos} {es : List Expr} {t : PTA} {x : Str}
theorem LE.all (hc : X.calm = true) (hg : Gl X "all") (hm : X.mg "all" = none) (ha : LA X [e] t) (he : starEach [e] X.env = (false, eval e X.env) :: starEach [] X.env := by rfl) : LE X (.Call (.Name "all" p) [e] [] pos) (pCallB (on1 kAll) t) := by
  refine LE.callB (cr_all hc) (fun F M H xs vs Q Qv rm rx h k => ?_) hg hm (by decide +kernel) ha (he := he)
  obtain ⟨x, ex, h1⟩ := on1_of h
  subst ex
  obtain ⟨v, ev, rx1⟩ := rx.one
  subst ev
  obtain ⟨ys, e1, h2⟩ := need_of h1
  obtain ⟨bs, e2, h3⟩ := need_of h2
  obtain ⟨q, ws, ev, hs, ra⟩ := rx1.lstI rm e1
  subst ev
  rw [blsOf_eq e2] at ra
  rw [ra.bls] at hs
  exact ⟨q, bs, rfl, hs, k _ _ (LQ.now rm (.bl _) h3)⟩
theorem LE.any (hc : X.calm = true) (hg : Gl X "any") (hm : X.mg "any" = none) (ha : LA X [e] t) (he : starEach [e] X.env = (false, eval e X.env) :: starEach [] X.env := by rfl) : LE X (.Call (.Name "any" p) [e] [] pos) (pCallB (on1 kAny) t) := by
  refine LE.callB (cr_any hc) (fun F M H xs vs Q Qv rm rx h k => ?_) hg hm (by decide +kernel) ha (he := he)
  obtain ⟨x, ex, h1⟩ := on1_of h
  subst ex
  obtain ⟨v, ev, rx1⟩ := rx.one
  subst ev
  obtain ⟨ys, e1, h2⟩ := need_of h1
  obtain ⟨bs, e2, h3⟩ := need_of h2
  obtain ⟨q, ws, ev, hs, ra⟩ := rx1.lstI rm e1
  subst ev
  rw [blsOf_eq e2] at ra
  rw [ra.bls] at hs
  exact ⟨q, bs, rfl, hs, k _ _ (LQ.now rm (.bl _) h3)⟩
end
/-! ### max(t) of a tuple of ints -/
section
variable {prog : Program} {w : World} {A : Around} {E : Value → Shared → Prop} {s : Shared} {l : Addr}
end
def kMaxT (x : PV) (M : Mem) (Q : PQ) : Prop := need (tupF x) fun xs => need (intsOf xs) fun ns => 0 < ns.length ∧ ∀ m, m ∈ ns → (∀ y, y ∈ ns → y ≤ m) → Q (.int m) M
section
variable {X : Cx} {a b c e : Expr} {ta tb tc te : PTE} {pos p p2 pos2 : Pos} {es : List Expr} {t : PTA} {x : Str}
end
/-! ### tuple(reversed(x)) -/
section
open RT
variable {prog : Program} {w : World} {A : Around} {E : Value → Shared → Prop} {s : Shared}
end
end PL
set_option Elab.async false
set_option linter.all false
set_option maxRecDepth 100000
set_option maxHeartbeats 1000000
namespace PL
open PySem PySem.Spec PyProof.Rows L2 RT
section
variable {prog : Program} {w : World} {A : Around} {E : Value → Shared → Prop} {s : Shared}
end
section
variable {X : Cx} {a b c e : Expr} {ta tb tc te : PTE} {pos p p2 pos2 : Pos} {es : List Expr} {t : PTA} {x : Str}
def pTupRev (te : PTE) : PTE := fun E σ M Q => te E σ M fun x M1 => need (tupF x) fun xs => Q (.tup xs.reverse) M1
end
end PL
set_option Elab.async false
set_option linter.all false
set_option maxRecDepth 100000
namespace PL
open PySem PySem.Spec PyProof.Rows L2
/-- the store without what stands at these slots -/
def dropSlots (σ : PSt) : List Nat → Mem → Mem
  | [], M => M
  | j :: js, M => dropSlots σ js (match σ[j]? with | some (some (.ptr p)) => M.drop p | _ => M)
theorem behDrops {K : PySem.W.Frag} {F H : Hp} {σ : PSt} : ∀ (js : List Nat) {M : Mem}, RM K F M H → Beh K F M H F (dropSlots σ js M) H
  | [], M, r => Beh.refl r
  | j :: js, M, r => by
    unfold dropSlots
    split
    · exact (r.behDrop).trans (behDrops js r.behDrop.rm)
    · exact behDrops js r
section
variable {X : Cx} {e : Expr} {te : PTE} {pos : Pos}
def pRetD (js : List Nat) (te : PTE) : PTS := fun D σ M => te D.ex σ M fun x M1 => D.rt x (dropSlots σ js M1)
theorem LS.retD (js : List Nat) (he : LE X e te) : LS X (.Return (some e) pos) (pRetD js te) := by
  refine ⟨fun σv H σ F M D tk rm rs h => WS.of (ps_ret WE.pe) ?_⟩
  refine (he.run σv H σ F M _ D.ex tk rm rs h).mono ?_
  rintro v H1 ⟨F1, M1, x, b1, rx, hx⟩
  exact ⟨F1, _, x, b1.trans (behDrops js b1.rm), rx, hx⟩
def pRetFD (js : List Nat) (te : PTE) : PTS := fun D σ M => te D.ex σ M fun x M1 => kFz x M1 fun y M2 => D.rt y (dropSlots σ js M2)
end
/-- a reading keeps a promise -/
def Keeps (t : PTS) (np n : Nat) (sp : PSp) : Prop := ∀ (xs : List PV) (M : Mem) (Q : PQ) (E : PXK), xs.length = np → sp xs M Q E → t { nx := fun _ M' => Q .non M', rt := Q, ex := E } (pstart n xs) M
end PL
set_option Elab.async false
set_option linter.all false
set_option maxRecDepth 100000
namespace PL
open PySem PySem.Spec PyProof.Rows L2
/-! ### a tuple times an int, of any sign -/
def rRepA (K : PySem.W.Frag) : R2 := fun x y H Q => ∃ l k xs, x = .ref l ∧ y = .int k ∧ SqT K H l xs ∧ -(2 ^ 62) ≤ k ∧ k ≤ 1000 ∧ xs.length ≤ 1000 ∧
  ((xs = [] ∨ k = 1) → Q (.ref l) H) ∧ (¬ (xs = [] ∨ k = 1) → ∀ p, H p = none → Q (.ref p) (upd H p (.tup (List.replicate k.toNat xs).flatten)))
section
variable {X : Cx} {a b : Expr} {ta tb : PTE} {pos : Pos}
def oMulA : PO2 := fun x y M Q => match x, y with
  | .int i, .int j => CMul i j ∧ Q (.int (i * j)) M
  | .tup xs, .int k => (-(2 ^ 62) ≤ k ∧ k ≤ 1000 ∧ xs.length ≤ 1000) ∧ Q (.tup (List.replicate k.toNat xs).flatten) M
  | _, _ => False
end
end PL
set_option Elab.async false
set_option linter.all false
set_option maxRecDepth 100000
namespace PL
open PySem PySem.Spec PyProof.Rows L2
/-! ### for over a list that may change, but doesn't meanwhile -/
def pForG (G : Mem → Prop) (g : PTG) (tb : PTS) : List PV → PTS
  | [] => fun D σ M => D.nx σ M
  | x :: xs => fun D σ M => g x σ M fun σ1 M1 => tb { D with nx := fun σ M => G M ∧ pForG G g tb xs D σ M, bk := D.nx, ct := fun σ M => G M ∧ pForG G g tb xs D σ M } σ1 M1
def pForM (te : PTE) (g : PTG) (tb : PTS) : PTS := fun D σ M => te D.ex σ M fun x M1 => need (lstOf M1 x) fun xs => pForG (fun M => lstOf M x = some xs) g tb xs D σ M1
section
variable {X : Cx} {tg iter : Expr} {body : List Stmt} {te : PTE} {g : PTG} {tb : PTS} {pos : Pos}
end
end PL
set_option Elab.async false
set_option linter.all false
set_option maxRecDepth 100000
namespace PL
open PySem PySem.Spec PyProof.Rows L2
/-! ### how readings compute -/
theorem kit_ib : kitB "int" "bool" = some false := by decide +kernel
theorem kit_ii : kitB "int" "int" = some true := by decide +kernel
theorem kit_it : kitB "int" "tuple" = some false := by decide +kernel
theorem kit_il : kitB "int" "list" = some false := by decide +kernel
theorem kit_is : kitB "int" "str" = some false := by decide +kernel
theorem kit_bb : kitB "bool" "bool" = some true := by decide +kernel
theorem kit_bi : kitB "bool" "int" = some true := by decide +kernel
theorem kit_bt : kitB "bool" "tuple" = some false := by decide +kernel
theorem kit_bl : kitB "bool" "list" = some false := by decide +kernel
theorem kit_bs : kitB "bool" "str" = some false := by decide +kernel
theorem kit_tb : kitB "tuple" "bool" = some false := by decide +kernel
theorem kit_ti : kitB "tuple" "int" = some false := by decide +kernel
theorem kit_tt : kitB "tuple" "tuple" = some true := by decide +kernel
theorem kit_tl : kitB "tuple" "list" = some false := by decide +kernel
theorem kit_ts : kitB "tuple" "str" = some false := by decide +kernel
theorem kit_lb : kitB "list" "bool" = some false := by decide +kernel
theorem kit_li : kitB "list" "int" = some false := by decide +kernel
theorem kit_lt : kitB "list" "tuple" = some false := by decide +kernel
theorem kit_ll : kitB "list" "list" = some true := by decide +kernel
theorem kit_ls : kitB "list" "str" = some false := by decide +kernel
theorem kit_sb : kitB "str" "bool" = some false := by decide +kernel
theorem kit_si : kitB "str" "int" = some false := by decide +kernel
theorem kit_st : kitB "str" "tuple" = some false := by decide +kernel
theorem kit_sl : kitB "str" "list" = some false := by decide +kernel
theorem kit_ss : kitB "str" "str" = some true := by decide +kernel
theorem kit_nb : kitB "NoneType" "bool" = some false := by decide +kernel
theorem kit_ni : kitB "NoneType" "int" = some false := by decide +kernel
theorem kit_nt : kitB "NoneType" "tuple" = some false := by decide +kernel
theorem kit_nl : kitB "NoneType" "list" = some false := by decide +kernel
theorem kit_ns : kitB "NoneType" "str" = some false := by decide +kernel
section
variable {M : Mem} {T : String} {Q : PQ} {n : String}
theorem isi_of {v : PV} (h : tyOf M v = some n) : kIsi T v M Q = need (kitB n T) fun b => Q (.bl b) M := by
  unfold kIsi isi
  rw [h]
  rfl
theorem isi_int {i : Int} : kIsi T (.int i) M Q = need (kitB "int" T) fun b => Q (.bl b) M := rfl
theorem isi_bl {i : Bool} : kIsi T (.bl i) M Q = need (kitB "bool" T) fun b => Q (.bl b) M := rfl
theorem isi_str {i : Str} : kIsi T (.str i) M Q = need (kitB "str" T) fun b => Q (.bl b) M := rfl
theorem isi_non : kIsi T .non M Q = need (kitB "NoneType" T) fun b => Q (.bl b) M := rfl
theorem isi_tup {xs : List PV} : kIsi T (.tup xs) M Q = need (kitB "tuple" T) fun b => Q (.bl b) M := rfl
theorem isi_lst {xs : List PV} : kIsi T (.lst xs) M Q = need (kitB "list" T) fun b => Q (.bl b) M := rfl
/-! subscripts -/
theorem ix_tup {xs : List PV} {i : Int} : oIx (.tup xs) (.int i) M Q = need (L2.atI xs i) fun z => Q z M := rfl
theorem ix_lst {xs : List PV} {i : Int} : oIx (.lst xs) (.int i) M Q = need (L2.atI xs i) fun z => Q z M := rfl
theorem ix_scr {xs : List PV} {i : Int} : oIx (.scr xs) (.int i) M Q = need (L2.atI xs i) fun z => Q z M := rfl
theorem at_nat {α : Type} (xs : List α) (n : Nat) : L2.atI xs (n : Int) = xs[n]? := by
  unfold L2.atI ixN
  rw [if_pos (Int.natCast_nonneg n)]
  by_cases h : (n : Int) < xs.length
  · rw [if_pos h]
    rfl
  · rw [if_neg h]
    have : xs.length ≤ n := by omega
    rw [List.getElem?_eq_none this]
    rfl
theorem at_pos {α : Type} (xs : List α) {i : Int} (h : 0 ≤ i) : L2.atI xs i = xs[i.toNat]? := by
  have e : i = ((i.toNat : Nat) : Int) := (Int.toNat_of_nonneg h).symm
  rw [e, at_nat]
  rfl
theorem at_0 {α : Type} (xs : List α) : L2.atI xs 0 = xs[0]? := at_nat xs 0
theorem at_1 {α : Type} (xs : List α) : L2.atI xs 1 = xs[1]? := at_nat xs 1
theorem at_2 {α : Type} (xs : List α) : L2.atI xs 2 = xs[2]? := at_nat xs 2
theorem at_3 {α : Type} (xs : List α) : L2.atI xs 3 = xs[3]? := at_nat xs 3
theorem at_4 {α : Type} (xs : List α) : L2.atI xs 4 = xs[4]? := at_nat xs 4
theorem at_5 {α : Type} (xs : List α) : L2.atI xs 5 = xs[5]? := at_nat xs 5
/-! lengths -/
theorem len_tup {xs : List PV} : kLen (.tup xs) M Q = Q (.int xs.length) M := rfl
theorem len_lst {xs : List PV} : kLen (.lst xs) M Q = Q (.int xs.length) M := rfl
theorem len_scr {xs : List PV} : kLen (.scr xs) M Q = Q (.int xs.length) M := rfl
theorem len_ptr {a : Addr} {xs : List PV} (h : M a = some (.lst xs)) : kLen (.ptr a) M Q = Q (.int xs.length) M := by
  show need (seqOf M (.ptr a)) _ = _
  rw [seqOf_ptr h]
  rfl
/-! == of ints, of tuples of ints -/
theorem eq_int' {i j : Int} : oEq (.int i) (.int j) M Q = Q (.bl (decide (i = j))) M := rfl
theorem ne_int' {i j : Int} : oNe (.int i) (.int j) M Q = Q (.bl (!decide (i = j))) M := rfl
theorem eq_bl' {i j : Bool} : oEq (.bl i) (.bl j) M Q = Q (.bl (decide (i = j))) M := rfl
theorem ne_bl' {i j : Bool} : oNe (.bl i) (.bl j) M Q = Q (.bl (!decide (i = j))) M := rfl
theorem eq_str' {i j : Str} : oEq (.str i) (.str j) M Q = Q (.bl (decide (i = j))) M := rfl
theorem ne_str' {i j : Str} : oNe (.str i) (.str j) M Q = Q (.bl (!decide (i = j))) M := rfl
theorem eqvAll_ints : ∀ xs ys : List Int, PyData.eqvAll (xs.map .int) (ys.map .int) = decide (xs = ys)
  | [], [] => rfl
  | [], _ :: _ => rfl
  | _ :: _, [] => rfl
  | x :: xs, y :: ys => by
    show (PyData.eqv (.int x) (.int y) && PyData.eqvAll (xs.map .int) (ys.map .int)) = _
    rw [eqvAll_ints xs ys]
    show ((x == y) && decide (xs = ys)) = decide (x :: xs = y :: ys)
    by_cases h : x = y
    · subst h
      simp
    · simp [h]
theorem toD_tI (xs : List Int) : toD (.tup (xs.map .int)) = some (.tuple (xs.map .int)) := by
  unfold toD
  rw [toDs_ints]
  rfl
theorem eqP_tI {xs ys : List Int} {k : Bool → Prop} : eqP (.tup (xs.map .int)) (.tup (ys.map .int)) k = k (decide (xs = ys)) := by
  unfold eqP
  show need (toD _) _ = _
  rw [toD_tI]
  show need (toD _) _ = _
  rw [toD_tI]
  show (_ ∧ _ ∧ k (PyData.eqvAll (xs.map .int) (ys.map .int))) = _
  rw [eqvAll_ints]
  have d : ∀ zs : List Int, PyData.depth (.tuple (zs.map .int)) ≤ 64 := fun zs => by
    show PyData.depthAll (zs.map .int) + 1 ≤ 64
    rw [depth_ints]
    decide
  exact propext ⟨fun h => h.2.2, fun h => ⟨d xs, d ys, h⟩⟩
end
/-! slices -/
def cutA {α : Type} (xs : List α) (lo hi : Option Int) : List α := (xs.drop (HT.sIx xs.length 0 lo)).take (HT.sIx xs.length xs.length hi - HT.sIx xs.length 0 lo)
theorem cutA_map {α β : Type} (f : α → β) (xs : List α) (lo hi : Option Int) : cutA (xs.map f) lo hi = (cutA xs lo hi).map f := by
  unfold cutA
  rw [List.length_map, List.map_take, List.map_drop]
theorem sIx_none' (n d : Nat) : HT.sIx n d none = d := rfl
theorem sIx_nn {n d : Nat} {k : Int} (h : 0 ≤ k) : HT.sIx n d (some k) = min k.toNat n := by
  show (if k < 0 then _ else _) = _
  rw [if_neg (by omega)]
theorem cutA_from {α : Type} (xs : List α) {k : Int} (h : 0 ≤ k) : cutA xs (some k) none = xs.drop k.toNat := by
  unfold cutA
  rw [sIx_nn h, sIx_none']
  by_cases hk : k.toNat ≤ xs.length
  · rw [Nat.min_eq_left hk]
    exact List.take_of_length_le (by rw [List.length_drop]; exact Nat.le_refl _)
  · rw [Nat.min_eq_right (by omega)]
    simp
    omega
theorem cutA_from1 {α : Type} (xs : List α) : cutA xs (some 1) none = xs.tail := by
  rw [cutA_from xs (by decide)]
  show xs.drop 1 = xs.tail
  simp
section
variable {M : Mem} {Q : PQ} {lo hi : Option Int}
theorem sl_tup {xs : List PV} : oSl (.tup xs) lo hi M Q = Q (.tup (cutA xs lo hi)) M := rfl
theorem sl_lst {xs : List PV} : oSl (.lst xs) lo hi M Q = Q (.lst (cutA xs lo hi)) M := rfl
theorem sl_scr {xs : List PV} : oSl (.scr xs) lo hi M Q = Q (.lst (cutA xs lo hi)) M := rfl
end
theorem line_lt {n : Nat} (h : n < 10000000) : n ≤ sizeLine := by
  rw [sizeLine_eq]
  omega
theorem line_lt' {n : Nat} (h : n < 10000000) : n < sizeLine := by
  rw [sizeLine_eq]
  omega
/-! lists that may change, fields -/
section
variable {M : Mem} {Q : PQ}
theorem putF_ptr {C : Addr} {f : Str} {x : PV} {p : Addr} {fs : List (Str × PV)} {k : Mem → Prop} (h : M p = some (.obj C fs)) : kPutF C f x (.ptr p) M k = (fs.length < 1000 ∧ k (M.put p (.obj C (putP f x fs)))) := by
  show (match M p with | some (.obj C' fs) => C' = C ∧ fs.length < 1000 ∧ k (M.put p (.obj C (putP f x fs))) | _ => False) = _
  rw [h]
  exact propext ⟨fun z => z.2, fun z => ⟨rfl, z⟩⟩
theorem app_ptr {p : Addr} {xs : List PV} {x : PV} (h : M p = some (.lst xs)) (hz : xs.length < sizeLine) : kApp (.ptr p) x M Q = Q .non (M.put p (.lst (xs ++ [x]))) := by
  show (match M p with | some (.lst xs) => xs.length < sizeLine ∧ Q .non (M.put p (.lst (xs ++ [x]))) | _ => False) = _
  rw [h]
  exact propext ⟨fun z => z.2, fun z => ⟨hz, z⟩⟩
theorem set_ptr {p : Addr} {xs : List PV} {x : PV} {i : Int} {k : Mem → Prop} (h : M p = some (.lst xs)) (h0 : 0 ≤ i) (h1 : i < xs.length) : kSet (.ptr p) (.int i) x M k = k (M.put p (.lst (xs.set i.toNat x))) := by
  show (match M p with | some (.lst xs) => need (ixN xs.length i) fun j => k (M.put p (.lst (xs.set j x))) | _ => False) = _
  rw [h]
  show need (ixN xs.length i) _ = _
  unfold ixN
  rw [if_pos h0, if_pos h1]
  rfl
theorem fz_ptr {p : Addr} {xs : List PV} (h : M p = some (.lst xs)) : kFz (.ptr p) M Q = Q (.lst xs) (M.drop p) := by
  show (match M p with | some (.lst xs) => Q (.lst xs) (M.drop p) | some (.obj C fs) => Q (.obj C fs) (M.drop p) | some (.dct a kvs) => a = p ∧ Q (.dct kvs) (M.drop p) | none => False) = _
  rw [h]
end
/-! readings at values that are known -/
section
variable {M : Mem} {Q : PQ} {D : PEnds} {σ : PSt} {E : PXK}
theorem r_add_int {i j : Int} : oAdd (.int i) (.int j) M Q = Q (.int (i + j)) M := rfl
theorem r_add_str {i j : Str} : oAdd (.str i) (.str j) M Q = (i.length + j.length ≤ sizeLine ∧ Q (.str (i ++ j)) M) := rfl
theorem r_add_tup {i j : List PV} : oAdd (.tup i) (.tup j) M Q = (i.length + j.length ≤ sizeLine ∧ Q (.tup (i ++ j)) M) := rfl
theorem r_add_lst {i j : List PV} : oAdd (.lst i) (.lst j) M Q = (i.length + j.length ≤ sizeLine ∧ Q (.lst (i ++ j)) M) := rfl
theorem r_mulA_int {i j : Int} : oMulA (.int i) (.int j) M Q = (CMul i j ∧ Q (.int (i * j)) M) := rfl
theorem r_mulA_tup {i : List PV} {k : Int} : oMulA (.tup i) (.int k) M Q = ((-(2 ^ 62) ≤ k ∧ k ≤ 1000 ∧ i.length ≤ 1000) ∧ Q (.tup (List.replicate k.toNat i).flatten) M) := rfl
theorem r_I0 {g : Int → Int → PV} {i j : Int} : oI0 g (.int i) (.int j) M Q = Q (g i j) M := rfl
theorem r_I {C : Int → Int → Prop} {g : Int → Int → PV} {i j : Int} : oI C g (.int i) (.int j) M Q = (C i j ∧ Q (g i j) M) := rfl
def kNeg (x : PV) (M : Mem) (Q : PQ) : Prop := match x with | .int i => Q (.int (-i)) M | _ => False
theorem r_neg {ta : PTE} : pNeg ta E σ M Q = ta E σ M fun x M1 => kNeg x M1 Q := rfl
theorem r_neg_int {i : Int} : kNeg (.int i) M Q = Q (.int (-i)) M := rfl
def kCh1 (p q : Int → Int → Bool) (tc : PTE) (E : PXK) (σ : PSt) (x y : PV) (M2 : Mem) (Q : PQ) : Prop := match x, y with
  | .int i, .int j => if p i j = true then tc E σ M2 fun z M3 => match z with | .int l => Q (.bl (q j l)) M3 | _ => False else Q (.bl false) M2
  | _, _ => False
def kCh2 (q : Int → Int → Bool) (j : Int) (z : PV) (M3 : Mem) (Q : PQ) : Prop := match z with | .int l => Q (.bl (q j l)) M3 | _ => False
theorem r_chain {p q : Int → Int → Bool} {ta tb tc : PTE} : pChain p q ta tb tc E σ M Q = ta E σ M fun x M1 => tb E σ M1 fun y M2 => kCh1 p q tc E σ x y M2 Q := rfl
theorem r_ch1 {p q : Int → Int → Bool} {tc : PTE} {i j : Int} : kCh1 p q tc E σ (.int i) (.int j) M Q = if p i j = true then tc E σ M fun z M3 => kCh2 q j z M3 Q else Q (.bl false) M := rfl
theorem r_ch2 {q : Int → Int → Bool} {j l : Int} : kCh2 q j (.int l) M Q = Q (.bl (q j l)) M := rfl
theorem r_abs {i : Int} : kAbs (.int i) M Q = Q (.int (if i < 0 then -i else i)) M := rfl
theorem r_int {i : Int} : kInt (.int i) M Q = Q (.int i) M := rfl
theorem r_min2 {i j : Int} : kMin2 (.int i) (.int j) M Q = Q (.int (if j < i then j else i)) M := rfl
theorem r_max2 {i j : Int} : kMax2 (.int i) (.int j) M Q = Q (.int (if j > i then j else i)) M := rfl
theorem r_list_lst {xs : List PV} : kList (.lst xs) M Q = Q (.lst xs) M := rfl
theorem r_list_tup {xs : List PV} : kList (.tup xs) M Q = Q (.lst xs) M := rfl
theorem r_list_scr {xs : List PV} : kList (.scr xs) M Q = Q (.lst xs) M := rfl
theorem r_tup_lst {xs : List PV} : PL.kTup (.lst xs) M Q = Q (.tup xs) M := rfl
theorem r_tup_tup {xs : List PV} : PL.kTup (.tup xs) M Q = Q (.tup xs) M := rfl
theorem r_listM_lst {xs : List PV} : kListM (.lst xs) M Q = ∀ p, M p = none → Q (.ptr p) (M.put p (.lst xs)) := rfl
theorem r_listM_tup {xs : List PV} : kListM (.tup xs) M Q = ∀ p, M p = none → Q (.ptr p) (M.put p (.lst xs)) := rfl
theorem r_on1 {k : PV → Mem → PQ → Prop} {x : PV} : on1 k [x] M Q = k x M Q := rfl
theorem r_on2 {k : PV → PV → Mem → PQ → Prop} {x y : PV} : on2 k [x, y] M Q = k x y M Q := rfl
theorem r_gtup {n : Nat} {u : PTGs} {xs : List PV} {R : PNx} : gpTup n u (.tup xs) σ M R = (xs.length = n ∧ u xs σ M R) := rfl
theorem r_gcons {t : PTG} {u : PTGs} {x : PV} {r : List PV} {R : PNx} : gpCons t u (x :: r) σ M R = t x σ M fun σ' M' => u r σ' M' R := rfl
theorem r_gnil {R : PNx} : gpNil [] σ M R = R σ M := rfl
theorem r_non_non : isNon .non = true := rfl
theorem r_non_int {i : Int} : isNon (.int i) = false := rfl
theorem r_non_tup {i : List PV} : isNon (.tup i) = false := rfl
theorem r_non_lst {i : List PV} : isNon (.lst i) = false := rfl
theorem r_non_str {i : Str} : isNon (.str i) = false := rfl
theorem r_non_bl {i : Bool} : isNon (.bl i) = false := rfl
theorem r_non_ptr {i : Addr} : isNon (.ptr i) = false := rfl
theorem r_non_obj {C : Addr} {fs : List (Str × PV)} : isNon (.obj C fs) = false := rfl
def kPartI (x : PV) (k : Option Int → Prop) : Prop := match x with | .int i => k (some i) | _ => False
theorem r_part {t : PTE} {R : Option Int → Mem → Prop} : pPart t E σ M R = t E σ M fun x M1 => kPartI x fun o => R o M1 := rfl
theorem r_part_int {i : Int} {k : Option Int → Prop} : kPartI (.int i) k = k (some i) := rfl
def kR1 (x : PV) (M1 : Mem) (R : List PV → Mem → Prop) : Prop := match x with | .int j => (-(2 ^ 62) ≤ j ∧ j < 2 ^ 62) ∧ R (rngP 0 j.toNat) M1 | _ => False
theorem r_R1 {te : PTE} {R : List PV → Mem → Prop} : piR1 te E σ M R = te E σ M fun x M1 => kR1 x M1 R := rfl
theorem r_R1_int {j : Int} {R : List PV → Mem → Prop} : kR1 (.int j) M R = ((-(2 ^ 62) ≤ j ∧ j < 2 ^ 62) ∧ R (rngP 0 j.toNat) M) := rfl
def kR2 (x y : PV) (M2 : Mem) (R : List PV → Mem → Prop) : Prop := match x, y with | .int i, .int j => (-(2 ^ 62) ≤ i ∧ i < 2 ^ 62 ∧ -(2 ^ 62) ≤ j ∧ j < 2 ^ 62) ∧ R (rngP i (j - i).toNat) M2 | _, _ => False
theorem r_R2 {ta tb : PTE} {R : List PV → Mem → Prop} : piR2 ta tb E σ M R = ta E σ M fun x M1 => tb E σ M1 fun y M2 => kR2 x y M2 R := rfl
theorem r_R2_int {i j : Int} {R : List PV → Mem → Prop} : kR2 (.int i) (.int j) M R = ((-(2 ^ 62) ≤ i ∧ i < 2 ^ 62 ∧ -(2 ^ 62) ≤ j ∧ j < 2 ^ 62) ∧ R (rngP i (j - i).toNat) M) := rfl
theorem r_lstF {xs : List PV} : lstF (.lst xs) = some xs := rfl
theorem r_lstF_scr {xs : List PV} : lstF (.scr xs) = some xs := rfl
theorem r_tupF {xs : List PV} : tupF (.tup xs) = some xs := rfl
end
end PL
set_option Elab.async false
set_option linter.all false
set_option maxRecDepth 100000
namespace PL
open PySem
/-! ### loops by what holds between their turns -/
theorem forL {g : PTG} {tb : PTS} {D : PEnds} (I : Nat → PNx) : ∀ (xs : List PV) (j : Nat) (hs : ∀ i x σ M K, xs[i]? = some x → I (j + i) σ M → (∀ σ' M', I (j + i + 1) σ' M' → K σ' M') → g x σ M fun σ1 M1 => tb { D with nx := K, bk := D.nx, ct := K } σ1 M1)
    (hd : ∀ σ M, I (j + xs.length) σ M → D.nx σ M) (σ : PSt) (M : Mem), I j σ M → pForL g tb xs D σ M
  | [], j, hs, hd, σ, M, h => hd σ M h
  | x :: xs, j, hs, hd, σ, M, h => by
    refine hs 0 x σ M (pForL g tb xs D) rfl h fun σ' M' h' => ?_
    refine forL I xs (j + 1) (fun i y σ M K e hi hk => ?_) (fun σ M hl => hd σ M ?_) σ' M' h'
    · have e1 : j + 1 + i = j + (i + 1) := by omega
      rw [e1] at hi hk
      exact hs (i + 1) y σ M K e hi hk
    · have e1 : j + 1 + xs.length = j + (x :: xs).length := by rw [List.length_cons]; omega
      rw [e1] at hl
      exact hl
theorem for_in {g : PTG} {tb : PTS} {D : PEnds} (I : Nat → PNx) {xs : List PV} {σ : PSt} {M : Mem} (h0 : I 0 σ M)
    (hs : ∀ i x σ M K, xs[i]? = some x → I i σ M → (∀ σ' M', I (i + 1) σ' M' → K σ' M') → g x σ M fun σ1 M1 => tb { D with nx := K, bk := D.nx, ct := K } σ1 M1)
    (hd : ∀ σ M, I xs.length σ M → D.nx σ M) : pForL g tb xs D σ M :=
  forL I xs 0 (fun i x σ M K e hi hk => by rw [Nat.zero_add] at hi hk; exact hs i x σ M K e hi hk) (fun σ M h => hd σ M (by rw [Nat.zero_add] at h; exact h)) σ M h0
theorem for_rng {g : PTG} {tb : PTS} {D : PEnds} (I : Nat → PNx) {lo : Int} {n : Nat} {σ : PSt} {M : Mem} (h0 : I 0 σ M)
    (hs : ∀ (i : Nat) σ M K, i < n → I i σ M → (∀ σ' M', I (i + 1) σ' M' → K σ' M') → g (.int (lo + i)) σ M fun σ1 M1 => tb { D with nx := K, bk := D.nx, ct := K } σ1 M1)
    (hd : ∀ σ M, I n σ M → D.nx σ M) : pForL g tb (rngP lo n) D σ M := by
  refine for_in I h0 (fun i x σ M K e hi hk => ?_) (fun σ M h => hd σ M (by rw [rngP_length] at h; exact h))
  have hlt : i < n := by
    have := (List.getElem?_eq_some_iff.mp e).1
    rw [rngP_length] at this
    exact this
  have ex : x = .int (lo + i) := by
    have e2 : (rngP lo n)[i]? = some (PV.int (lo + i)) := by
      unfold rngP
      rw [List.getElem?_map, List.getElem?_range hlt]
      rfl
    exact Option.some.inj (e.symm.trans e2)
  rw [ex]
  exact hs i σ M K hlt hi hk
/-! ### comprehensions of plain elements -/
theorem lc_pure {i : Nat} {tt : PTT} {te : PTE} {σ : PSt} {M : Mem} {Q : PQ} (p : PV → Bool) (f : PV → PV) : ∀ (xs : List PV) (acc : List PV)
    (ht : ∀ x ∈ xs, ∀ R : Bool → Mem → Prop, R (p x) M → tt noX (σ.set i (some x)) M R) (he : ∀ x ∈ xs, p x = true → ∀ R : PQ, R (f x) M → te noX (σ.set i (some x)) M R),
    Q (.lst (acc ++ (xs.filter p).map f)) M → pLcL i tt te xs acc σ M Q
  | [], acc, ht, he, q => by
    rw [List.filter_nil, List.map_nil, List.append_nil] at q
    exact q
  | x :: xs, acc, ht, he, q => by
    refine ht x List.mem_cons_self _ ?_
    have ht' : ∀ y ∈ xs, ∀ R : Bool → Mem → Prop, R (p y) M → tt noX (σ.set i (some y)) M R := fun y hy => ht y (List.mem_cons_of_mem _ hy)
    have he' : ∀ y ∈ xs, p y = true → ∀ R : PQ, R (f y) M → te noX (σ.set i (some y)) M R := fun y hy => he y (List.mem_cons_of_mem _ hy)
    cases hp : p x with
    | true =>
      rw [if_pos rfl]
      refine he x List.mem_cons_self hp _ (lc_pure p f xs (acc ++ [f x]) ht' he' ?_)
      rw [List.filter_cons, if_pos hp, List.map_cons] at q
      rw [List.append_assoc]
      exact q
    | false =>
      rw [if_neg Bool.false_ne_true]
      refine lc_pure p f xs acc ht' he' ?_
      rw [List.filter_cons, if_neg (by rw [hp]; exact Bool.false_ne_true)] at q
      exact q
theorem lc_map {i : Nat} {te : PTE} {σ : PSt} {M : Mem} {Q : PQ} (f : PV → PV) {xs : List PV} (he : ∀ x ∈ xs, ∀ R : PQ, R (f x) M → te noX (σ.set i (some x)) M R) (q : Q (.lst (xs.map f)) M) : pLcL i pYes te xs [] σ M Q := by
  refine lc_pure (fun _ => true) f xs [] (fun x _ R h => h) (fun x hx _ => he x hx) ?_
  rw [List.nil_append, List.filter_eq_self.mpr (fun _ _ => rfl)]
  exact q
theorem cdiv_eq (i j : Int) : L2.CDiv i j = (0 < j ∧ j < 1073741824) := rfl
end PL
set_option Elab.async false
set_option linter.all false
set_option maxRecDepth 100000
namespace PL
open PySem PySem.Spec PyProof.Rows L2
section
variable {X : Cx}
/-! ### an own error without fields -/
def pRaise (C : Addr) : PTS := fun D _ M => D.ex C [] M
theorem LS.raise {C : Addr} {bmB : List Value} {B newId initId : String} {x m : Str} {j : Nat} {p p2 pos pos' : Pos} (F : ExcBaseFacts B newId initId bmB) (q : PySem.W.excIn X.K C bmB newId = true) (gC : X.mg x = some (.ref C)) (kC : PySem.W.keepIn X.K (.ref C) = true)
    (r : Raises X (.ref C)) (hg : Gl X x) (hc : X.calm = true := by rfl) (hd : (x == ("__debug__" : Str)) = false := by decide) : LS X (.Raise (some (.Call (.Name x p) [.Constant (.str m) j p2] [] pos)) none pos') (pRaise C) :=
  ⟨fun σv H σ F0 M D tk rm rs h => WS.of (ps_raise hc tk (pmk_own F q gC kC r hg hd)) ⟨F0, M, C, [], rfl, Beh.refl rm, rfl, h⟩⟩
structure OwnErr (K : PySem.W.Frag) (C : Addr) : Prop where
  x : PySem.W.excIn K C [.type "ValueError", .type "Exception", .type "BaseException", .type "object"] "ValueError.__new__" = true
  k : PySem.W.keepIn K (.ref C) = true
  b : PySem.W.subIn K (.ref C) (.type "BaseException") = some true
  t : PySem.W.typeIn K (.ref C) = some (.type "type")
/-! ### try .. except X as n -/
def pTryAs (n i : Nat) (exm : Addr → Option Bool) (tb : PTS) (ts : Addr → Addr → PTS) : PTS := fun D σ M =>
  tb { D with ex := fun C fs M' => need (exm C) fun b => (b = true → fs = [] ∧ ∀ a, M' a = none → ts C a { nx := fun σ' M'' => D.nx (σ'.set i none) M'', rt := D.rt, ex := noX, bk := fun σ' M'' => D.bk (σ'.set i none) M'', ct := fun σ' M'' => D.ct (σ'.set i none) M'' } ((List.replicate n none).set i (some (.ptr a))) M') ∧ (b = false → D.ex C fs M') } σ M
theorem Takes.weak {X : Cx} {W W' : WX} (h : Takes X W) (m : ∀ cls d σ H, σ.length = X.N.length → W' cls d σ H → W cls d σ H) : Takes X W' := by
  rintro u s' ⟨a, B, sI, pins, σ, H, cls, d, e, I, q1, q2, q3, q4, q5, q6, w⟩
  exact h u s' ⟨a, B, sI, pins, σ, H, cls, d, e, I, q1, q2, q3, q4, q5, q6, m _ _ _ _ I.len w⟩
/-! ### isinstance(error, Y) in the suite -/
def kIsE (a : Addr) (b : Option Bool) (x : PV) (M : Mem) (Q : PQ) : Prop := x = .ptr a ∧ need b fun b => Q (.bl b) M
/-! ### is True, is False -/
def oIsB : PO2 := fun x y M Q => match x, y with
  | .bl a, .bl b => Q (.bl (decide (a = b))) M
  | _, _ => False
def oNotB : PO2 := fun x y M Q => match x, y with
  | .bl a, .bl b => Q (.bl (!decide (a = b))) M
  | _, _ => False
theorem pop_isB {K : PySem.W.Frag} : POp K rIsB oIsB := by
  intro F M H x y xv yv Q Qv rm rx ry h k
  cases rx <;> cases ry <;> first
    | exact h.elim
    | exact ⟨_, _, rfl, rfl, k _ _ (LQ.now rm (.bl _) h)⟩
theorem LE.isB {a b : Expr} {ta tb : PTE} {pos : Pos} (ha : LE X a ta) (hb : LE X b tb) : LE X (.Compare a [.Is] [b] pos) (pBin oIsB ta tb) := LE.cmp op_isBl pop_isB (nomark _) ha hb
theorem LT.isB {a b : Expr} {ta tb : PTE} {pos : Pos} (ha : LE X a ta) (hb : LE X b tb) : LT X (.Compare a [.Is] [b] pos) (pTest (pBin oIsB ta tb)) := LT.cmp op_isBl pop_isB (nomark _) ha hb
theorem r_isB {a b : Bool} {M : Mem} {Q : PQ} : oIsB (.bl a) (.bl b) M Q = Q (.bl (decide (a = b))) M := rfl
theorem r_notB {a b : Bool} {M : Mem} {Q : PQ} : oNotB (.bl a) (.bl b) M Q = Q (.bl (!decide (a = b))) M := rfl
end
end PL
set_option Elab.async false
set_option linter.all false
set_option maxRecDepth 100000
/-! the head of a reading, step by step (made by tools/genw.py) -/
namespace PL
open PySem PySem.Spec PyProof.Rows L2
theorem w_C {x : PV} {E : PXK} {σ : PSt} {M : Mem} {Q : PQ} (h : Q x M) : pC x E σ M Q := h
theorem w_var {i : Nat} {x : PV} {E : PXK} {σ : PSt} {M : Mem} {Q : PQ} (e : σ[i]? = some (some x)) (h : Q x M) : pVar i E σ M Q := by unfold pVar; rw [e]; exact h
theorem w_nil {E : PXK} {σ : PSt} {M : Mem} {Q : List PV → Mem → Prop} (h : Q [] M) : pNil E σ M Q := h
theorem w_cons {ta : PTE} {tr : PTA} {E : PXK} {σ : PSt} {M : Mem} {Q : List PV → Mem → Prop} (h : ta E σ M fun x M1 => tr E σ M1 fun xs M2 => Q (x :: xs) M2) : pCons ta tr E σ M Q := h
theorem w_bin {o : PO2} {ta tb : PTE} {E : PXK} {σ : PSt} {M : Mem} {Q : PQ} (h : ta E σ M fun x M1 => tb E σ M1 fun y M2 => o x y M2 Q) : pBin o ta tb E σ M Q := h
theorem w_test {t : PTE} {E : PXK} {σ : PSt} {M : Mem} {Q : Bool → Mem → Prop} (h : t E σ M fun x M1 => kB x fun b => Q b M1) : pTest t E σ M Q := h
theorem w_kB {b : Bool} {k : Bool → Prop} (h : k b) : kB (.bl b) k := h
theorem w_call {sp : PSp} {t : PTA} {E : PXK} {σ : PSt} {M : Mem} {Q : PQ} (h : t E σ M fun xs M1 => sp xs M1 Q E) : pCall sp t E σ M Q := h
theorem w_callB {o : POn} {t : PTA} {E : PXK} {σ : PSt} {M : Mem} {Q : PQ} (h : t E σ M fun xs M1 => o xs M1 Q) : pCallB o t E σ M Q := h
theorem w_on1 {k : PV → Mem → PQ → Prop} {x : PV} {M : Mem} {Q : PQ} (h : k x M Q) : on1 k [x] M Q := h
theorem w_on2 {k : PV → PV → Mem → PQ → Prop} {x y : PV} {M : Mem} {Q : PQ} (h : k x y M Q) : on2 k [x, y] M Q := h
theorem w_tup {t : PTA} {E : PXK} {σ : PSt} {M : Mem} {Q : PQ} (h : t E σ M fun xs M1 => Q (.tup xs) M1) : pTup t E σ M Q := h
theorem w_lst {t : PTA} {E : PXK} {σ : PSt} {M : Mem} {Q : PQ} (h : t E σ M fun xs M1 => Q (.lst xs) M1) : pLst t E σ M Q := h
theorem w_lstM {t : PTA} {E : PXK} {σ : PSt} {M : Mem} {Q : PQ} (h : t E σ M fun xs M1 => ∀ p, M1 p = none → Q (.ptr p) (M1.put p (.lst xs))) : pLstM t E σ M Q := h
theorem w_seq {t u : PTS} {dn db dc : PNx} {dr : PQ} {de : PXK} {σ : PSt} {M : Mem} (h : t (PEnds.mk (u (PEnds.mk dn dr de db dc)) dr de db dc) σ M) : pSeq t u (PEnds.mk dn dr de db dc) σ M := h
theorem w_pset {i : Nat} {te : PTE} {f : PV → PSt} {dn db dc : PNx} {dr : PQ} {de : PXK} {σ : PSt} {M : Mem} (e : ∀ x, σ.set i (some x) = f x) (h : te de σ M fun x M1 => dn (f x) M1) : pSet i te (PEnds.mk dn dr de db dc) σ M := by unfold pSet; simp only [e]; exact h
theorem w_next {dn db dc : PNx} {dr : PQ} {de : PXK} {σ : PSt} {M : Mem} (h : dn σ M) : pNext (PEnds.mk dn dr de db dc) σ M := h
theorem w_ret {te : PTE} {dn db dc : PNx} {dr : PQ} {de : PXK} {σ : PSt} {M : Mem} (h : te de σ M dr) : pRet te (PEnds.mk dn dr de db dc) σ M := h
theorem w_retN {dn db dc : PNx} {dr : PQ} {de : PXK} {σ : PSt} {M : Mem} (h : dr .non M) : pRetN (PEnds.mk dn dr de db dc) σ M := h
theorem w_ifs {c : PTT} {t u : PTS} {dn db dc : PNx} {dr : PQ} {de : PXK} {σ : PSt} {M : Mem} (h : c de σ M fun b M1 => if b = true then t (PEnds.mk dn dr de db dc) σ M1 else u (PEnds.mk dn dr de db dc) σ M1) : pIfS c t u (PEnds.mk dn dr de db dc) σ M := h
theorem w_dnx {a c d : PNx} {b : PQ} {x : PXK} {σ : PSt} {M : Mem} {Q : PQ} {v : PV} (h : a σ M) : (PEnds.mk a b x c d).nx σ M := h
theorem w_drt {a c d : PNx} {b : PQ} {x : PXK} {σ : PSt} {M : Mem} {Q : PQ} {v : PV} (h : b v M) : (PEnds.mk a b x c d).rt v M := h
theorem w_dbk {a c d : PNx} {b : PQ} {x : PXK} {σ : PSt} {M : Mem} {Q : PQ} {v : PV} (h : c σ M) : (PEnds.mk a b x c d).bk σ M := h
theorem w_dct {a c d : PNx} {b : PQ} {x : PXK} {σ : PSt} {M : Mem} {Q : PQ} {v : PV} (h : d σ M) : (PEnds.mk a b x c d).ct σ M := h
theorem w_ifT {A B : Prop} (h : A) : if true = true then A else B := by rw [if_pos rfl]; exact h
theorem w_ifF {A B : Prop} (h : B) : if false = true then A else B := by rw [if_neg Bool.false_ne_true]; exact h
theorem w_ifd {P A B : Prop} {i : Decidable P} (h : if P then A else B) : if decide P = true then A else B := by
  by_cases p : P
  · rw [if_pos p] at h; rw [if_pos (decide_eq_true p)]; exact h
  · rw [if_neg p] at h; rw [if_neg (by rw [decide_eq_false p]; exact Bool.false_ne_true)]; exact h
theorem w_ifn {b : Bool} {A B : Prop} (h : if b = true then B else A) : if (!b) = true then A else B := by cases b <;> exact h
theorem w_drop {te : PTE} {dn db dc : PNx} {dr : PQ} {de : PXK} {σ : PSt} {M : Mem} (h : te de σ M fun _ M1 => dn σ M1) : pDrop te (PEnds.mk dn dr de db dc) σ M := h
theorem w_asg {te : PTE} {g : PTG} {dn db dc : PNx} {dr : PQ} {de : PXK} {σ : PSt} {M : Mem} (h : te de σ M fun x M1 => g x σ M1 dn) : pAsg te g (PEnds.mk dn dr de db dc) σ M := h
theorem w_gname {i : Nat} {x : PV} {σ σ1 : PSt} {M : Mem} {R : PNx} (e : σ.set i (some x) = σ1) (h : R σ1 M) : gpName i x σ M R := by unfold gpName; rw [e]; exact h
theorem w_gtup {n : Nat} {u : PTGs} {xs : List PV} {σ : PSt} {M : Mem} {R : PNx} (e : xs.length = n) (h : u xs σ M R) : gpTup n u (.tup xs) σ M R := ⟨e, h⟩
theorem w_gcons {t : PTG} {u : PTGs} {x : PV} {r : List PV} {σ : PSt} {M : Mem} {R : PNx} (h : t x σ M fun σ' M' => u r σ' M' R) : gpCons t u (x :: r) σ M R := h
theorem w_gnil {σ : PSt} {M : Mem} {R : PNx} (h : R σ M) : gpNil [] σ M R := h
theorem w_gsub {to ti : PTE} {x : PV} {σ : PSt} {M : Mem} {R : PNx} (h : to noX σ M fun o M1 => ti noX σ M1 fun i M2 => kSet o i x M2 fun M3 => R σ M3) : gpSub to ti x σ M R := h
theorem w_I0 {g : Int → Int → PV} {i j : Int} {M : Mem} {Q : PQ} (h : Q (g i j) M) : oI0 g (.int i) (.int j) M Q := h
theorem w_mod {i j : Int} {M : Mem} {Q : PQ} (c : 0 < j) (h : Q (.int (i % j)) M) : oMod (.int i) (.int j) M Q := ⟨c, h⟩
theorem w_div {i j : Int} {M : Mem} {Q : PQ} (c : 0 < j ∧ j < 1073741824) (h : Q (.int (i / j)) M) : oDiv (.int i) (.int j) M Q := ⟨c, h⟩
theorem w_I {C : Int → Int → Prop} {g : Int → Int → PV} {i j : Int} {M : Mem} {Q : PQ} (c : C i j) (h : Q (g i j) M) : oI C g (.int i) (.int j) M Q := ⟨c, h⟩
theorem w_add {i j : Int} {M : Mem} {Q : PQ} (h : Q (.int (i + j)) M) : oAdd (.int i) (.int j) M Q := h
theorem w_neg {ta : PTE} {E : PXK} {σ : PSt} {M : Mem} {Q : PQ} (h : ta E σ M fun x M1 => kNeg x M1 Q) : pNeg ta E σ M Q := h
theorem w_negI {i : Int} {M : Mem} {Q : PQ} (h : Q (.int (-i)) M) : kNeg (.int i) M Q := h
theorem w_eqInt {i j : Int} {M : Mem} {Q : PQ} (h : Q (.bl (decide (i = j))) M) : oEq (.int i) (.int j) M Q := by rw [eq_int']; exact h
theorem w_neInt {i j : Int} {M : Mem} {Q : PQ} (h : Q (.bl (!decide (i = j))) M) : oNe (.int i) (.int j) M Q := by rw [ne_int']; exact h
theorem w_eqBl {i j : Bool} {M : Mem} {Q : PQ} (h : Q (.bl (decide (i = j))) M) : oEq (.bl i) (.bl j) M Q := by rw [eq_bl']; exact h
theorem w_neBl {i j : Bool} {M : Mem} {Q : PQ} (h : Q (.bl (!decide (i = j))) M) : oNe (.bl i) (.bl j) M Q := by rw [ne_bl']; exact h
theorem w_eqStr {i j : Str} {M : Mem} {Q : PQ} (h : Q (.bl (decide (i = j))) M) : oEq (.str i) (.str j) M Q := by rw [eq_str']; exact h
theorem w_neStr {i j : Str} {M : Mem} {Q : PQ} (h : Q (.bl (!decide (i = j))) M) : oNe (.str i) (.str j) M Q := by rw [ne_str']; exact h
theorem w_ixtup0 {a0 : PV} {l : List PV} {M : Mem} {Q : PQ} (h : Q a0 M) : oIx (.tup (a0 :: l)) (.int 0) M Q := by rw [PL.ix_tup, at_0]; exact h
theorem w_ixlst0 {a0 : PV} {l : List PV} {M : Mem} {Q : PQ} (h : Q a0 M) : oIx (.lst (a0 :: l)) (.int 0) M Q := by rw [PL.ix_lst, at_0]; exact h
theorem w_ixtup1 {a0 a1 : PV} {l : List PV} {M : Mem} {Q : PQ} (h : Q a1 M) : oIx (.tup (a0 :: a1 :: l)) (.int 1) M Q := by rw [PL.ix_tup, at_1]; exact h
theorem w_ixlst1 {a0 a1 : PV} {l : List PV} {M : Mem} {Q : PQ} (h : Q a1 M) : oIx (.lst (a0 :: a1 :: l)) (.int 1) M Q := by rw [PL.ix_lst, at_1]; exact h
theorem w_ixtup2 {a0 a1 a2 : PV} {l : List PV} {M : Mem} {Q : PQ} (h : Q a2 M) : oIx (.tup (a0 :: a1 :: a2 :: l)) (.int 2) M Q := by rw [PL.ix_tup, at_2]; exact h
theorem w_ixlst2 {a0 a1 a2 : PV} {l : List PV} {M : Mem} {Q : PQ} (h : Q a2 M) : oIx (.lst (a0 :: a1 :: a2 :: l)) (.int 2) M Q := by rw [PL.ix_lst, at_2]; exact h
theorem w_ixtup3 {a0 a1 a2 a3 : PV} {l : List PV} {M : Mem} {Q : PQ} (h : Q a3 M) : oIx (.tup (a0 :: a1 :: a2 :: a3 :: l)) (.int 3) M Q := by rw [PL.ix_tup, at_3]; exact h
theorem w_ixlst3 {a0 a1 a2 a3 : PV} {l : List PV} {M : Mem} {Q : PQ} (h : Q a3 M) : oIx (.lst (a0 :: a1 :: a2 :: a3 :: l)) (.int 3) M Q := by rw [PL.ix_lst, at_3]; exact h
theorem w_ixtup4 {a0 a1 a2 a3 a4 : PV} {l : List PV} {M : Mem} {Q : PQ} (h : Q a4 M) : oIx (.tup (a0 :: a1 :: a2 :: a3 :: a4 :: l)) (.int 4) M Q := by rw [PL.ix_tup, at_4]; exact h
theorem w_ixlst4 {a0 a1 a2 a3 a4 : PV} {l : List PV} {M : Mem} {Q : PQ} (h : Q a4 M) : oIx (.lst (a0 :: a1 :: a2 :: a3 :: a4 :: l)) (.int 4) M Q := by rw [PL.ix_lst, at_4]; exact h
theorem w_ixtup5 {a0 a1 a2 a3 a4 a5 : PV} {l : List PV} {M : Mem} {Q : PQ} (h : Q a5 M) : oIx (.tup (a0 :: a1 :: a2 :: a3 :: a4 :: a5 :: l)) (.int 5) M Q := by rw [PL.ix_tup, at_5]; exact h
theorem w_ixlst5 {a0 a1 a2 a3 a4 a5 : PV} {l : List PV} {M : Mem} {Q : PQ} (h : Q a5 M) : oIx (.lst (a0 :: a1 :: a2 :: a3 :: a4 :: a5 :: l)) (.int 5) M Q := by rw [PL.ix_lst, at_5]; exact h
theorem w_ixT {xs : List PV} {i : Int} {x : PV} {M : Mem} {Q : PQ} (e : L2.atI xs i = some x) (h : Q x M) : oIx (.tup xs) (.int i) M Q := by rw [PL.ix_tup, e]; exact h
theorem w_ixL {xs : List PV} {i : Int} {x : PV} {M : Mem} {Q : PQ} (e : L2.atI xs i = some x) (h : Q x M) : oIx (.lst xs) (.int i) M Q := by rw [PL.ix_lst, e]; exact h
theorem w_need {α : Type} {a : α} {k : α → Prop} (h : k a) : need (some a) k := h
theorem w_lentup {xs : List PV} {M : Mem} {Q : PQ} (h : Q (.int xs.length) M) : kLen (.tup xs) M Q := h
theorem w_lenlst {xs : List PV} {M : Mem} {Q : PQ} (h : Q (.int xs.length) M) : kLen (.lst xs) M Q := h
theorem w_lenscr {xs : List PV} {M : Mem} {Q : PQ} (h : Q (.int xs.length) M) : kLen (.scr xs) M Q := h
theorem w_sl {ta : PTE} {tl th : PTO} {E : PXK} {σ : PSt} {M : Mem} {Q : PQ} (h : ta E σ M fun x M1 => tl E σ M1 fun l M2 => th E σ M2 fun u M3 => oSl x l u M3 Q) : pSl ta tl th E σ M Q := h
theorem w_nop {E : PXK} {σ : PSt} {M : Mem} {Q : Option Int → Mem → Prop} (h : Q none M) : pNoPart E σ M Q := h
theorem w_part {t : PTE} {E : PXK} {σ : PSt} {M : Mem} {Q : Option Int → Mem → Prop} (h : t E σ M fun x M1 => kPartI x fun o => Q o M1) : pPart t E σ M Q := h
theorem w_partI {i : Int} {k : Option Int → Prop} (h : k (some i)) : kPartI (.int i) k := h
theorem w_slT {xs : List PV} {lo hi : Option Int} {M : Mem} {Q : PQ} (h : Q (.tup (cutA xs lo hi)) M) : oSl (.tup xs) lo hi M Q := h
theorem w_slL {xs : List PV} {lo hi : Option Int} {M : Mem} {Q : PQ} (h : Q (.lst (cutA xs lo hi)) M) : oSl (.lst xs) lo hi M Q := h
theorem w_slS {xs : List PV} {lo hi : Option Int} {M : Mem} {Q : PQ} (h : Q (.lst (cutA xs lo hi)) M) : oSl (.scr xs) lo hi M Q := h
theorem w_abs {i : Int} {M : Mem} {Q : PQ} (h : Q (.int (if i < 0 then -i else i)) M) : kAbs (.int i) M Q := h
theorem w_int {i : Int} {M : Mem} {Q : PQ} (h : Q (.int i) M) : kInt (.int i) M Q := h
theorem w_listL {xs : List PV} {M : Mem} {Q : PQ} (h : Q (.lst xs) M) : kList (.lst xs) M Q := h
theorem w_listT {xs : List PV} {M : Mem} {Q : PQ} (h : Q (.lst xs) M) : kList (.tup xs) M Q := h
theorem w_listS {xs : List PV} {M : Mem} {Q : PQ} (h : Q (.lst xs) M) : kList (.scr xs) M Q := h
theorem w_tupL {xs : List PV} {M : Mem} {Q : PQ} (h : Q (.tup xs) M) : PL.kTup (.lst xs) M Q := h
theorem w_tupT {xs : List PV} {M : Mem} {Q : PQ} (h : Q (.tup xs) M) : PL.kTup (.tup xs) M Q := h
theorem w_listML {xs : List PV} {M : Mem} {Q : PQ} (h : ∀ p, M p = none → Q (.ptr p) (M.put p (.lst xs))) : kListM (.lst xs) M Q := h
theorem w_listMT {xs : List PV} {M : Mem} {Q : PQ} (h : ∀ p, M p = none → Q (.ptr p) (M.put p (.lst xs))) : kListM (.tup xs) M Q := h
theorem w_and {t u : PTT} {E : PXK} {σ : PSt} {M : Mem} {Q : Bool → Mem → Prop} (h : t E σ M fun c M1 => if c = true then u E σ M1 Q else Q false M1) : pAnd t u E σ M Q := h
theorem w_or {t u : PTT} {E : PXK} {σ : PSt} {M : Mem} {Q : Bool → Mem → Prop} (h : t E σ M fun c M1 => if c = true then Q true M1 else u E σ M1 Q) : pOr t u E σ M Q := h
theorem w_not {t : PTT} {E : PXK} {σ : PSt} {M : Mem} {Q : Bool → Mem → Prop} (h : t E σ M fun c M1 => Q (!c) M1) : pNot t E σ M Q := h
theorem w_andV {ta tb : PTE} {E : PXK} {σ : PSt} {M : Mem} {Q : PQ} (h : ta E σ M fun x M1 => kB x fun c => if c = true then tb E σ M1 Q else Q (.bl false) M1) : pAndV ta tb E σ M Q := h
theorem w_orV {ta tb : PTE} {E : PXK} {σ : PSt} {M : Mem} {Q : PQ} (h : ta E σ M fun x M1 => kB x fun c => if c = true then Q (.bl true) M1 else tb E σ M1 Q) : pOrV ta tb E σ M Q := h
theorem w_notV {ta : PTE} {E : PXK} {σ : PSt} {M : Mem} {Q : PQ} (h : ta E σ M fun x M1 => kB x fun c => Q (.bl (!c)) M1) : pNotV ta E σ M Q := h
theorem w_if {t : PTT} {ta tb : PTE} {E : PXK} {σ : PSt} {M : Mem} {Q : PQ} (h : t E σ M fun c M1 => if c = true then ta E σ M1 Q else tb E σ M1 Q) : pIf t ta tb E σ M Q := h
theorem w_isN {ta : PTE} {E : PXK} {σ : PSt} {M : Mem} {Q : PQ} (h : ta E σ M fun x M1 => Q (.bl (isNon x)) M1) : pIsN ta E σ M Q := h
theorem w_notN {ta : PTE} {E : PXK} {σ : PSt} {M : Mem} {Q : PQ} (h : ta E σ M fun x M1 => Q (.bl (!isNon x)) M1) : pNotN ta E σ M Q := h
theorem w_tisN {ta : PTE} {E : PXK} {σ : PSt} {M : Mem} {Q : Bool → Mem → Prop} (h : ta E σ M fun x M1 => Q (isNon x) M1) : pTIsN ta E σ M Q := h
theorem w_tnotN {ta : PTE} {E : PXK} {σ : PSt} {M : Mem} {Q : Bool → Mem → Prop} (h : ta E σ M fun x M1 => Q (!isNon x) M1) : pTNotN ta E σ M Q := h
theorem w_in_non  {A B : Prop} (h : A) : if isNon .non = true then A else B := by simpa [isNon] using h
theorem w_in_int {i : Int} {A B : Prop} (h : B) : if isNon (.int i) = true then A else B := by simpa [isNon] using h
theorem w_in_tup {l : List PV} {A B : Prop} (h : B) : if isNon (.tup l) = true then A else B := by simpa [isNon] using h
theorem w_in_lst {l : List PV} {A B : Prop} (h : B) : if isNon (.lst l) = true then A else B := by simpa [isNon] using h
theorem w_in_ptr {a : Addr} {A B : Prop} (h : B) : if isNon (.ptr a) = true then A else B := by simpa [isNon] using h
theorem w_in_str {s : Str} {A B : Prop} (h : B) : if isNon (.str s) = true then A else B := by simpa [isNon] using h
theorem w_in_bl {c : Bool} {A B : Prop} (h : B) : if isNon (.bl c) = true then A else B := by simpa [isNon] using h
theorem w_isB {a b : Bool} {M : Mem} {Q : PQ} (h : Q (.bl (decide (a = b))) M) : oIsB (.bl a) (.bl b) M Q := h
theorem w_notB {a b : Bool} {M : Mem} {Q : PQ} (h : Q (.bl (!decide (a = b))) M) : oNotB (.bl a) (.bl b) M Q := h
theorem w_for {wi : PTI} {g : PTG} {tb : PTS} {dn db dc : PNx} {dr : PQ} {de : PXK} {σ : PSt} {M : Mem} (h : wi de σ M fun xs M1 => pForL g tb xs (PEnds.mk dn dr de db dc) σ M1) : pFor wi g tb (PEnds.mk dn dr de db dc) σ M := h
theorem w_iL {te : PTE} {E : PXK} {σ : PSt} {M : Mem} {Q : List PV → Mem → Prop} (h : te E σ M fun x M1 => need (lstF x) fun xs => Q xs M1) : piL te E σ M Q := h
theorem w_iT {te : PTE} {E : PXK} {σ : PSt} {M : Mem} {Q : List PV → Mem → Prop} (h : te E σ M fun x M1 => need (tupF x) fun xs => Q xs M1) : piT te E σ M Q := h
theorem w_lstF {xs : List PV} {k : List PV → Prop} (h : k xs) : need (lstF (.lst xs)) k := h
theorem w_lstFs {xs : List PV} {k : List PV → Prop} (h : k xs) : need (lstF (.scr xs)) k := h
theorem w_tupF {xs : List PV} {k : List PV → Prop} (h : k xs) : need (tupF (.tup xs)) k := h
theorem w_R1 {te : PTE} {E : PXK} {σ : PSt} {M : Mem} {Q : List PV → Mem → Prop} (h : te E σ M fun x M1 => kR1 x M1 Q) : piR1 te E σ M Q := h
theorem w_R1I {j : Int} {M : Mem} {R : List PV → Mem → Prop} (c : -(2 ^ 62) ≤ j ∧ j < 2 ^ 62) (h : R (rngP 0 j.toNat) M) : kR1 (.int j) M R := ⟨c, h⟩
theorem w_R2 {ta tb : PTE} {E : PXK} {σ : PSt} {M : Mem} {Q : List PV → Mem → Prop} (h : ta E σ M fun x M1 => tb E σ M1 fun y M2 => kR2 x y M2 Q) : piR2 ta tb E σ M Q := h
theorem w_forM {te : PTE} {g : PTG} {tb : PTS} {dn db dc : PNx} {dr : PQ} {de : PXK} {σ : PSt} {M : Mem} (h : te de σ M fun x M1 => need (lstOf M1 x) fun xs => pForG (fun M => lstOf M x = some xs) g tb xs (PEnds.mk dn dr de db dc) σ M1) : pForM te g tb (PEnds.mk dn dr de db dc) σ M := h
theorem w_brk {dn db dc : PNx} {dr : PQ} {de : PXK} {σ : PSt} {M : Mem} (h : db σ M) : pBreak (PEnds.mk dn dr de db dc) σ M := h
theorem w_cnt {dn db dc : PNx} {dr : PQ} {de : PXK} {σ : PSt} {M : Mem} (h : dc σ M) : pCont (PEnds.mk dn dr de db dc) σ M := h
theorem w_lc {wi : PTI} {i : Nat} {tt : PTT} {te : PTE} {E : PXK} {σ : PSt} {M : Mem} {Q : PQ} (h : wi E σ M fun xs M1 => xs.length ≤ sizeLine ∧ pLcL i tt te xs [] σ M1 Q) : pLc wi i tt te E σ M Q := h
theorem w_lcnil {i : Nat} {tt : PTT} {te : PTE} {acc : List PV} {σ : PSt} {M : Mem} {Q : PQ} (h : Q (.lst acc) M) : pLcL i tt te [] acc σ M Q := h
theorem w_lccons {i : Nat} {te : PTE} {x : PV} {xs acc : List PV} {σ : PSt} {M : Mem} {Q : PQ} (h : te noX (σ.set i (some x)) M fun y M2 => pLcL i pYes te xs (acc ++ [y]) σ M2 Q) : pLcL i pYes te (x :: xs) acc σ M Q := h
theorem w_fld {C : Addr} {ta : PTE} {f : Str} {E : PXK} {σ : PSt} {M : Mem} {Q : PQ} (h : ta E σ M fun x M1 => need (fldOf M1 C f x) fun v => Q v M1) : pFld C ta f E σ M Q := h
theorem w_fldO {C : Addr} {f : Str} {fs : List (Str × PV)} {v : PV} {M : Mem} {k : PV → Prop} (e : fs.lookup f = some v) (h : k v) : need (fldOf M C f (.obj C fs)) k := by
  have e2 : fldOf M C f (.obj C fs) = some v := (if_pos rfl).trans e
  rw [e2]; exact h
theorem w_meth {C : Addr} {m : Str} {sp : PSp} {ta : PTE} {t : PTA} {E : PXK} {σ : PSt} {M : Mem} {Q : PQ} (h : ta E σ M fun x M1 => need (objOf M1 C x) fun fs => fs.lookup m = none ∧ t E σ M1 fun xs M2 => sp (x :: xs) M2 Q E) : pMeth C m sp ta t E σ M Q := h
theorem w_objO {C : Addr} {m : Str} {fs : List (Str × PV)} {M : Mem} {A : Prop} (e : fs.lookup m = none) (h : A) : need (objOf M C (.obj C fs)) fun fs => fs.lookup m = none ∧ A := by
  have e2 : objOf M C (.obj C fs) = some fs := if_pos rfl
  rw [e2]; exact ⟨e, h⟩
theorem w_make {C : Addr} {sp : PSp} {t : PTA} {E : PXK} {σ : PSt} {M : Mem} {Q : PQ} (h : t E σ M fun xs M1 => ∀ p, M1 p = none → sp (.ptr p :: xs) (M1.put p (.obj C [])) (fun r M2 => isNon r = true ∧ match M2 p with | some (.obj C' fs) => C' = C ∧ Q (.obj C fs) (M2.drop p) | _ => False) E) : pMake C sp t E σ M Q := h
theorem w_fldS {C : Addr} {f : Str} {to tv : PTE} {dn db dc : PNx} {dr : PQ} {de : PXK} {σ : PSt} {M : Mem} (h : tv de σ M fun x M1 => to de σ M1 fun o M2 => kPutF C f x o M2 fun M3 => dn σ M3) : pFldS C f to tv (PEnds.mk dn dr de db dc) σ M := h
theorem w_app {to te : PTE} {E : PXK} {σ : PSt} {M : Mem} {Q : PQ} (h : to E σ M fun o M1 => lstOf M1 o ≠ none ∧ te E σ M1 fun x M2 => kApp o x M2 Q) : pApp to te E σ M Q := h
theorem w_retF {te : PTE} {dn db dc : PNx} {dr : PQ} {de : PXK} {σ : PSt} {M : Mem} (h : te de σ M fun x M1 => kFz x M1 dr) : pRetF te (PEnds.mk dn dr de db dc) σ M := h
theorem w_retD {js : List Nat} {te : PTE} {dn db dc : PNx} {dr : PQ} {de : PXK} {σ : PSt} {M : Mem} (h : te de σ M fun x M1 => dr x (dropSlots σ js M1)) : pRetD js te (PEnds.mk dn dr de db dc) σ M := h
theorem w_retFD {js : List Nat} {te : PTE} {dn db dc : PNx} {dr : PQ} {de : PXK} {σ : PSt} {M : Mem} (h : te de σ M fun x M1 => kFz x M1 fun y M2 => dr y (dropSlots σ js M2)) : pRetFD js te (PEnds.mk dn dr de db dc) σ M := h
theorem w_raise {C : Addr} {dn db dc : PNx} {dr : PQ} {de : PXK} {σ : PSt} {M : Mem} (h : de C [] M) : pRaise C (PEnds.mk dn dr de db dc) σ M := h
theorem w_aug {i : Nat} {o : PO2} {te : PTE} {x : PV} {f : PV → PSt} {dn db dc : PNx} {dr : PQ} {de : PXK} {σ : PSt} {M : Mem} (e : σ[i]? = some (some x)) (g : ∀ x, σ.set i (some x) = f x) (h : te de σ M fun y M1 => o x y M1 fun z M2 => dn (f z) M2) : pAug i o te (PEnds.mk dn dr de db dc) σ M := by unfold pAug; rw [e]; simp only [g]; exact h
theorem w_try {n i : Nat} {exm : Addr → Option Bool} {tb : PTS} {ts : Addr → Addr → PTS} {dn db dc : PNx} {dr : PQ} {de : PXK} {σ : PSt} {M : Mem} (h : tb (PEnds.mk dn dr (fun C fs M' => need (exm C) fun b => (b = true → fs = [] ∧ ∀ a, M' a = none → ts C a { nx := fun σ' M'' => dn (σ'.set i none) M'', rt := dr, ex := noX, bk := fun σ' M'' => db (σ'.set i none) M'', ct := fun σ' M'' => dc (σ'.set i none) M'' } ((List.replicate n none).set i (some (.ptr a))) M') ∧ (b = false → de C fs M') ) db dc) σ M) : pTryAs n i exm tb ts (PEnds.mk dn dr de db dc) σ M := h
theorem w_isi_i {i : Int} {T : String} {b : Bool} {M : Mem} {Q : PQ} (e : kitB "int" T = some b) (h : Q (.bl b) M) : kIsi T (.int i) M Q := need_by e h
theorem w_isi_b {c : Bool} {T : String} {b : Bool} {M : Mem} {Q : PQ} (e : kitB "bool" T = some b) (h : Q (.bl b) M) : kIsi T (.bl c) M Q := need_by e h
theorem w_isi_t {l : List PV} {T : String} {b : Bool} {M : Mem} {Q : PQ} (e : kitB "tuple" T = some b) (h : Q (.bl b) M) : kIsi T (.tup l) M Q := need_by e h
theorem w_isi_l {l : List PV} {T : String} {b : Bool} {M : Mem} {Q : PQ} (e : kitB "list" T = some b) (h : Q (.bl b) M) : kIsi T (.lst l) M Q := need_by e h
theorem w_isi_s {s : Str} {T : String} {b : Bool} {M : Mem} {Q : PQ} (e : kitB "str" T = some b) (h : Q (.bl b) M) : kIsi T (.str s) M Q := need_by e h
theorem w_isi_n  {T : String} {b : Bool} {M : Mem} {Q : PQ} (e : kitB "NoneType" T = some b) (h : Q (.bl b) M) : kIsi T .non M Q := need_by e h
theorem set_h0 {α : Type} {a0 y : α} {l : List α} : (a0 :: l).set 0 y = y :: l := rfl
theorem set_h1 {α : Type} {a0 a1 y : α} {l : List α} : (a0 :: a1 :: l).set 1 y = a0 :: y :: l := rfl
theorem set_h2 {α : Type} {a0 a1 a2 y : α} {l : List α} : (a0 :: a1 :: a2 :: l).set 2 y = a0 :: a1 :: y :: l := rfl
theorem set_h3 {α : Type} {a0 a1 a2 a3 y : α} {l : List α} : (a0 :: a1 :: a2 :: a3 :: l).set 3 y = a0 :: a1 :: a2 :: y :: l := rfl
theorem set_h4 {α : Type} {a0 a1 a2 a3 a4 y : α} {l : List α} : (a0 :: a1 :: a2 :: a3 :: a4 :: l).set 4 y = a0 :: a1 :: a2 :: a3 :: y :: l := rfl
theorem set_h5 {α : Type} {a0 a1 a2 a3 a4 a5 y : α} {l : List α} : (a0 :: a1 :: a2 :: a3 :: a4 :: a5 :: l).set 5 y = a0 :: a1 :: a2 :: a3 :: a4 :: y :: l := rfl
theorem set_h6 {α : Type} {a0 a1 a2 a3 a4 a5 a6 y : α} {l : List α} : (a0 :: a1 :: a2 :: a3 :: a4 :: a5 :: a6 :: l).set 6 y = a0 :: a1 :: a2 :: a3 :: a4 :: a5 :: y :: l := rfl
theorem set_h7 {α : Type} {a0 a1 a2 a3 a4 a5 a6 a7 y : α} {l : List α} : (a0 :: a1 :: a2 :: a3 :: a4 :: a5 :: a6 :: a7 :: l).set 7 y = a0 :: a1 :: a2 :: a3 :: a4 :: a5 :: a6 :: y :: l := rfl
theorem set_h8 {α : Type} {a0 a1 a2 a3 a4 a5 a6 a7 a8 y : α} {l : List α} : (a0 :: a1 :: a2 :: a3 :: a4 :: a5 :: a6 :: a7 :: a8 :: l).set 8 y = a0 :: a1 :: a2 :: a3 :: a4 :: a5 :: a6 :: a7 :: y :: l := rfl
theorem set_h9 {α : Type} {a0 a1 a2 a3 a4 a5 a6 a7 a8 a9 y : α} {l : List α} : (a0 :: a1 :: a2 :: a3 :: a4 :: a5 :: a6 :: a7 :: a8 :: a9 :: l).set 9 y = a0 :: a1 :: a2 :: a3 :: a4 :: a5 :: a6 :: a7 :: a8 :: y :: l := rfl
theorem set_h10 {α : Type} {a0 a1 a2 a3 a4 a5 a6 a7 a8 a9 a10 y : α} {l : List α} : (a0 :: a1 :: a2 :: a3 :: a4 :: a5 :: a6 :: a7 :: a8 :: a9 :: a10 :: l).set 10 y = a0 :: a1 :: a2 :: a3 :: a4 :: a5 :: a6 :: a7 :: a8 :: a9 :: y :: l := rfl
theorem set_h11 {α : Type} {a0 a1 a2 a3 a4 a5 a6 a7 a8 a9 a10 a11 y : α} {l : List α} : (a0 :: a1 :: a2 :: a3 :: a4 :: a5 :: a6 :: a7 :: a8 :: a9 :: a10 :: a11 :: l).set 11 y = a0 :: a1 :: a2 :: a3 :: a4 :: a5 :: a6 :: a7 :: a8 :: a9 :: a10 :: y :: l := rfl
theorem set_h12 {α : Type} {a0 a1 a2 a3 a4 a5 a6 a7 a8 a9 a10 a11 a12 y : α} {l : List α} : (a0 :: a1 :: a2 :: a3 :: a4 :: a5 :: a6 :: a7 :: a8 :: a9 :: a10 :: a11 :: a12 :: l).set 12 y = a0 :: a1 :: a2 :: a3 :: a4 :: a5 :: a6 :: a7 :: a8 :: a9 :: a10 :: a11 :: y :: l := rfl
theorem set_h13 {α : Type} {a0 a1 a2 a3 a4 a5 a6 a7 a8 a9 a10 a11 a12 a13 y : α} {l : List α} : (a0 :: a1 :: a2 :: a3 :: a4 :: a5 :: a6 :: a7 :: a8 :: a9 :: a10 :: a11 :: a12 :: a13 :: l).set 13 y = a0 :: a1 :: a2 :: a3 :: a4 :: a5 :: a6 :: a7 :: a8 :: a9 :: a10 :: a11 :: a12 :: y :: l := rfl
theorem set_h14 {α : Type} {a0 a1 a2 a3 a4 a5 a6 a7 a8 a9 a10 a11 a12 a13 a14 y : α} {l : List α} : (a0 :: a1 :: a2 :: a3 :: a4 :: a5 :: a6 :: a7 :: a8 :: a9 :: a10 :: a11 :: a12 :: a13 :: a14 :: l).set 14 y = a0 :: a1 :: a2 :: a3 :: a4 :: a5 :: a6 :: a7 :: a8 :: a9 :: a10 :: a11 :: a12 :: a13 :: y :: l := rfl
theorem set_h15 {α : Type} {a0 a1 a2 a3 a4 a5 a6 a7 a8 a9 a10 a11 a12 a13 a14 a15 y : α} {l : List α} : (a0 :: a1 :: a2 :: a3 :: a4 :: a5 :: a6 :: a7 :: a8 :: a9 :: a10 :: a11 :: a12 :: a13 :: a14 :: a15 :: l).set 15 y = a0 :: a1 :: a2 :: a3 :: a4 :: a5 :: a6 :: a7 :: a8 :: a9 :: a10 :: a11 :: a12 :: a13 :: a14 :: y :: l := rfl
theorem set_h16 {α : Type} {a0 a1 a2 a3 a4 a5 a6 a7 a8 a9 a10 a11 a12 a13 a14 a15 a16 y : α} {l : List α} : (a0 :: a1 :: a2 :: a3 :: a4 :: a5 :: a6 :: a7 :: a8 :: a9 :: a10 :: a11 :: a12 :: a13 :: a14 :: a15 :: a16 :: l).set 16 y = a0 :: a1 :: a2 :: a3 :: a4 :: a5 :: a6 :: a7 :: a8 :: a9 :: a10 :: a11 :: a12 :: a13 :: a14 :: a15 :: y :: l := rfl
theorem set_h17 {α : Type} {a0 a1 a2 a3 a4 a5 a6 a7 a8 a9 a10 a11 a12 a13 a14 a15 a16 a17 y : α} {l : List α} : (a0 :: a1 :: a2 :: a3 :: a4 :: a5 :: a6 :: a7 :: a8 :: a9 :: a10 :: a11 :: a12 :: a13 :: a14 :: a15 :: a16 :: a17 :: l).set 17 y = a0 :: a1 :: a2 :: a3 :: a4 :: a5 :: a6 :: a7 :: a8 :: a9 :: a10 :: a11 :: a12 :: a13 :: a14 :: a15 :: a16 :: y :: l := rfl
theorem set_h18 {α : Type} {a0 a1 a2 a3 a4 a5 a6 a7 a8 a9 a10 a11 a12 a13 a14 a15 a16 a17 a18 y : α} {l : List α} : (a0 :: a1 :: a2 :: a3 :: a4 :: a5 :: a6 :: a7 :: a8 :: a9 :: a10 :: a11 :: a12 :: a13 :: a14 :: a15 :: a16 :: a17 :: a18 :: l).set 18 y = a0 :: a1 :: a2 :: a3 :: a4 :: a5 :: a6 :: a7 :: a8 :: a9 :: a10 :: a11 :: a12 :: a13 :: a14 :: a15 :: a16 :: a17 :: y :: l := rfl
theorem set_h19 {α : Type} {a0 a1 a2 a3 a4 a5 a6 a7 a8 a9 a10 a11 a12 a13 a14 a15 a16 a17 a18 a19 y : α} {l : List α} : (a0 :: a1 :: a2 :: a3 :: a4 :: a5 :: a6 :: a7 :: a8 :: a9 :: a10 :: a11 :: a12 :: a13 :: a14 :: a15 :: a16 :: a17 :: a18 :: a19 :: l).set 19 y = a0 :: a1 :: a2 :: a3 :: a4 :: a5 :: a6 :: a7 :: a8 :: a9 :: a10 :: a11 :: a12 :: a13 :: a14 :: a15 :: a16 :: a17 :: a18 :: y :: l := rfl
theorem set_h20 {α : Type} {a0 a1 a2 a3 a4 a5 a6 a7 a8 a9 a10 a11 a12 a13 a14 a15 a16 a17 a18 a19 a20 y : α} {l : List α} : (a0 :: a1 :: a2 :: a3 :: a4 :: a5 :: a6 :: a7 :: a8 :: a9 :: a10 :: a11 :: a12 :: a13 :: a14 :: a15 :: a16 :: a17 :: a18 :: a19 :: a20 :: l).set 20 y = a0 :: a1 :: a2 :: a3 :: a4 :: a5 :: a6 :: a7 :: a8 :: a9 :: a10 :: a11 :: a12 :: a13 :: a14 :: a15 :: a16 :: a17 :: a18 :: a19 :: y :: l := rfl
theorem set_h21 {α : Type} {a0 a1 a2 a3 a4 a5 a6 a7 a8 a9 a10 a11 a12 a13 a14 a15 a16 a17 a18 a19 a20 a21 y : α} {l : List α} : (a0 :: a1 :: a2 :: a3 :: a4 :: a5 :: a6 :: a7 :: a8 :: a9 :: a10 :: a11 :: a12 :: a13 :: a14 :: a15 :: a16 :: a17 :: a18 :: a19 :: a20 :: a21 :: l).set 21 y = a0 :: a1 :: a2 :: a3 :: a4 :: a5 :: a6 :: a7 :: a8 :: a9 :: a10 :: a11 :: a12 :: a13 :: a14 :: a15 :: a16 :: a17 :: a18 :: a19 :: a20 :: y :: l := rfl
theorem set_h22 {α : Type} {a0 a1 a2 a3 a4 a5 a6 a7 a8 a9 a10 a11 a12 a13 a14 a15 a16 a17 a18 a19 a20 a21 a22 y : α} {l : List α} : (a0 :: a1 :: a2 :: a3 :: a4 :: a5 :: a6 :: a7 :: a8 :: a9 :: a10 :: a11 :: a12 :: a13 :: a14 :: a15 :: a16 :: a17 :: a18 :: a19 :: a20 :: a21 :: a22 :: l).set 22 y = a0 :: a1 :: a2 :: a3 :: a4 :: a5 :: a6 :: a7 :: a8 :: a9 :: a10 :: a11 :: a12 :: a13 :: a14 :: a15 :: a16 :: a17 :: a18 :: a19 :: a20 :: a21 :: y :: l := rfl
theorem set_h23 {α : Type} {a0 a1 a2 a3 a4 a5 a6 a7 a8 a9 a10 a11 a12 a13 a14 a15 a16 a17 a18 a19 a20 a21 a22 a23 y : α} {l : List α} : (a0 :: a1 :: a2 :: a3 :: a4 :: a5 :: a6 :: a7 :: a8 :: a9 :: a10 :: a11 :: a12 :: a13 :: a14 :: a15 :: a16 :: a17 :: a18 :: a19 :: a20 :: a21 :: a22 :: a23 :: l).set 23 y = a0 :: a1 :: a2 :: a3 :: a4 :: a5 :: a6 :: a7 :: a8 :: a9 :: a10 :: a11 :: a12 :: a13 :: a14 :: a15 :: a16 :: a17 :: a18 :: a19 :: a20 :: a21 :: a22 :: y :: l := rfl
theorem set_h24 {α : Type} {a0 a1 a2 a3 a4 a5 a6 a7 a8 a9 a10 a11 a12 a13 a14 a15 a16 a17 a18 a19 a20 a21 a22 a23 a24 y : α} {l : List α} : (a0 :: a1 :: a2 :: a3 :: a4 :: a5 :: a6 :: a7 :: a8 :: a9 :: a10 :: a11 :: a12 :: a13 :: a14 :: a15 :: a16 :: a17 :: a18 :: a19 :: a20 :: a21 :: a22 :: a23 :: a24 :: l).set 24 y = a0 :: a1 :: a2 :: a3 :: a4 :: a5 :: a6 :: a7 :: a8 :: a9 :: a10 :: a11 :: a12 :: a13 :: a14 :: a15 :: a16 :: a17 :: a18 :: a19 :: a20 :: a21 :: a22 :: a23 :: y :: l := rfl
theorem set_h25 {α : Type} {a0 a1 a2 a3 a4 a5 a6 a7 a8 a9 a10 a11 a12 a13 a14 a15 a16 a17 a18 a19 a20 a21 a22 a23 a24 a25 y : α} {l : List α} : (a0 :: a1 :: a2 :: a3 :: a4 :: a5 :: a6 :: a7 :: a8 :: a9 :: a10 :: a11 :: a12 :: a13 :: a14 :: a15 :: a16 :: a17 :: a18 :: a19 :: a20 :: a21 :: a22 :: a23 :: a24 :: a25 :: l).set 25 y = a0 :: a1 :: a2 :: a3 :: a4 :: a5 :: a6 :: a7 :: a8 :: a9 :: a10 :: a11 :: a12 :: a13 :: a14 :: a15 :: a16 :: a17 :: a18 :: a19 :: a20 :: a21 :: a22 :: a23 :: a24 :: y :: l := rfl
end PL
set_option Elab.async false
set_option linter.all false
set_option maxRecDepth 100000
namespace PL
open PySem PySem.Spec PyProof.Rows L2
section
variable {X : Cx} {a b c e : Expr} {ta tb tc te to : PTE} {pos p : Pos} {es : List Expr} {t : PTA} {x : Str}
/-! ### what never changes from now on, in the midst of an expression -/
def pFzE (te : PTE) : PTE := fun E σ M Q => te E σ M fun x M1 => kFz x M1 Q
theorem LE.fz (he : LE X e te) : LE X e (pFzE te) := by
  refine ⟨fun σv H σ F M Q E tk rm rs h => ?_⟩
  refine (he.run σv H σ F M _ E tk rm rs h).mono ?_
  rintro v H1 ⟨F1, M1, x, b1, rx, hx⟩
  exact LQ.tr b1 (R.fz b1.rm rx hx)
theorem w_fzE {E : PXK} {σ : PSt} {M : Mem} {Q : PQ} (h : te E σ M fun x M1 => kFz x M1 Q) : pFzE te E σ M Q := h
theorem w_fzP {p : Addr} {xs : List PV} {M : Mem} {Q : PQ} (e : M p = some (.lst xs)) (h : Q (.lst xs) (M.drop p)) : kFz (.ptr p) M Q := by rw [fz_ptr e]; exact h
/-! ### list(range(n)) -/
def kLstRg (x : PV) (M : Mem) (Q : PQ) : Prop := match x with | .int j => (0 ≤ j ∧ j ≤ 16777216) ∧ ∀ p, M p = none → Q (.ptr p) (M.put p (.lst (rngP 0 j.toNat))) | _ => False
def pLstRg (te : PTE) : PTE := fun E σ M Q => te E σ M fun x M1 => kLstRg x M1 Q
theorem rall_rng {K : PySem.W.Frag} {F : Hp} : ∀ ns : List Nat, RAll K F (ns.map fun (i : Nat) => PV.int (0 + (i : Int))) (ns.map fun (i : Nat) => V.int (0 + (i : Int)))
  | [] => .nil
  | n :: r => .cons (.int _) (rall_rng r)
theorem LE.listRg {pr pl : Pos} (hc : X.calm = true) (hg : Gl X "list") (hm : X.mg "list" = none) (hg2 : Gl X "range") (hm2 : X.mg "range" = none) (ha : LE X a ta) (na : starEach [a] X.env = (false, eval a X.env) :: starEach [] X.env := by rfl)
    (ne : starEach [.Call (.Name "range" pr) [a] [] p] X.env = (false, eval (.Call (.Name "range" pr) [a] [] p) X.env) :: starEach [] X.env := by rfl) :
    LE X (.Call (.Name "list" pl) [.Call (.Name "range" pr) [a] [] p] [] pos) (pLstRg ta) := by
  refine ⟨fun σv H σ F M Q E tk rm rs h => WE.of (pe_listRg hc hg hm (prg_1 hg2 hm2 WE.pe na) ne) ?_⟩
  refine (ha.run σv H σ F M _ E tk rm rs h).mono ?_
  rintro v H1 ⟨F1, M1, x, b1, rx, hx⟩
  cases rx with
  | int j =>
    obtain ⟨⟨h0, h1⟩, hx⟩ := hx
    refine ⟨j, rfl, .of_le (Int.le_refl 0) h1 (by decide) h0, fun q nq => ?_⟩
    have eq : (j - 0).toNat = j.toNat := by rw [Int.sub_zero]
    have rr : RAll X.K F1 (rngP 0 j.toNat) (rgV 0 j) := by
      unfold rngP rgV
      rw [eq]
      exact rall_rng _
    exact ⟨_, _, _, b1.trans (b1.rm.behNew nq (.lst rr)), .ptr q, hx q (b1.rm.nones nq).2⟩
  | _ => exact hx.elim
theorem w_lstRg {E : PXK} {σ : PSt} {M : Mem} {Q : PQ} (h : te E σ M fun x M1 => kLstRg x M1 Q) : pLstRg te E σ M Q := h
/-! ### xs.pop(i) of a list that may change -/
def kPop (o i : PV) (M : Mem) (Q : PQ) : Prop := match o, i with
  | .ptr p, .int k => match M p with
    | some (.lst xs) => (0 ≤ k ∧ k < xs.length ∧ xs.length < 2 ^ 62) ∧ need xs[k.toNat]? fun y => Q y (M.put p (.lst (xs.eraseIdx k.toNat)))
    | _ => False
  | _, _ => False
def pPop (to te : PTE) : PTE := fun E σ M Q => to E σ M fun o M1 => lstOf M1 o ≠ none ∧ te E σ M1 fun i M2 => kPop o i M2 Q
theorem rall_erase {K : PySem.W.Frag} {F : Hp} : ∀ {xs : List PV} {vs : List V} (k : Nat), RAll K F xs vs → RAll K F (xs.eraseIdx k) (vs.eraseIdx k)
  | _, _, _, .nil => .nil
  | _, _, 0, .cons _ r => r
  | _, _, k + 1, .cons h r => .cons h (rall_erase k r)
theorem rall_get {K : PySem.W.Frag} {F : Hp} : ∀ {xs : List PV} {vs : List V} {k : Nat} {y : PV}, RAll K F xs vs → xs[k]? = some y → ∃ v, vs[k]? = some v ∧ R K F y v
  | _, _, 0, _, .cons h r, e => by cases e; exact ⟨_, rfl, h⟩
  | _, _, k + 1, _, .cons h r, e => rall_get (k := k) r e
theorem LE.popAt {apos : Pos} (ho : LE X a to) (he : LE X e te) (hbase : attributeBase a "pop" X.env (eval a X.env) = eval a X.env := by rfl)
    (hfew : ((backTo pos (starEach [e] X.env)).all (fun x => !x.1) && (backToKw pos (keywordEach [] X.env)).all (fun x => x.1.isSome) && decide ([e].length + ([] : List Keyword).length + (if ([] : List Keyword).isEmpty then 0 else 1) < 30)) = true := by rfl)
    (hline : (apos.endLine == pos.line) = true := by rfl) (hs : starEach [e] X.env = (false, eval e X.env) :: starEach [] X.env := by rfl) (hplain : (backTo pos (starEach [] X.env)).any (·.1) = false := by rfl) :
    LE X (.Call (.Attribute a "pop" apos) [e] [] pos) (pPop to te) := by
  refine ⟨fun σv H σ F M Q E tk rm rs h => WE.of (pe_bm PySem.F.plainAttrs_list PySem.F.slot_list_pop PySem.F.type_list_pop mt_popAt WE.pe (pa_cons WE.pe pa_nil hs) hbase hfew hline hs hplain) ?_⟩
  refine (ho.run σv H σ F M _ E tk rm rs h).mono ?_
  rintro v H1 ⟨F1, M1, x, b1, rx, hl, hx⟩
  refine ⟨?_, ?_⟩
  · cases hq : lstOf M1 x with
    | none => exact absurd hq hl
    | some xs =>
      obtain ⟨q, ws, ev, hs, _⟩ := rx.lstI b1.rm hq
      subst ev
      exact .inl ⟨rfl, _, hs⟩
  · refine (he.run σv H1 σ F1 M1 _ E (tk.tr b1) b1.rm (rs.same b1.sm) hx).mono ?_
    rintro w H2 ⟨F2, M2, y, b2, ry, hy⟩
    unfold kPop at hy
    split at hy
    · rename_i p k
      cases rx
      cases ry
      split at hy
      · rename_i xs hm
        obtain ⟨u, e2, ru⟩ := b2.rm.mu _ _ hm
        obtain ⟨⟨h1, h2, h3⟩, h4⟩ := hy
        obtain ⟨y, e3, h4⟩ := need_of h4
        cases ru with
        | lst ru =>
          rename_i vs
          obtain ⟨z, e4, rz⟩ := rall_get ru e3
          have hk : k = ((k.toNat : Nat) : Int) := (Int.toNat_of_nonneg h1).symm
          have lz := ru.length
          refine ⟨p, vs, k, k.toNat, z, rfl, rfl, e2, by omega, by omega, ?_, e4, ?_⟩
          · unfold seqIndex?
            simp only [if_neg (show ¬ k < 0 from by omega)]
            rw [if_pos (by simp only [Bool.and_eq_true, decide_eq_true_eq]; exact ⟨h1, by omega⟩)]
          · have b3 := b2.rm.behWrite (o := .lst _) hm (.lst (rall_erase k.toNat ru))
            exact ⟨F2, _, _, (b1.trans b2).trans b3, rz, h4⟩
      · exact hy.elim
    · exact hy.elim
theorem w_pop {E : PXK} {σ : PSt} {M : Mem} {Q : PQ} (h : to E σ M fun o M1 => lstOf M1 o ≠ none ∧ te E σ M1 fun i M2 => kPop o i M2 Q) : pPop to te E σ M Q := h
/-! ### sorted(xs) of ints -/
def kSort (x : PV) (M : Mem) (Q : PQ) : Prop := need (lstOf M x) fun xs => need (intsOf xs) fun ns => ∀ ns' : List Int, ns'.Perm ns → ns'.Pairwise (· ≤ ·) → Q (.lst (ns'.map .int)) M
theorem rall_intsV {K : PySem.W.Frag} {F : Hp} : ∀ ns : List Int, RAll K F (ns.map PV.int) (ns.map V.int)
  | [] => .nil
  | n :: r => .cons (.int n) (rall_intsV r)
theorem LE.sorted (hg : Gl X "sorted") (hm : X.mg "sorted" = none) (ha : LA X [e] t) (he : starEach [e] X.env = (false, eval e X.env) :: starEach [] X.env := by rfl) : LE X (.Call (.Name "sorted" p) [e] [] pos) (pCallB (on1 kSort) t) := by
  refine LE.callB cr_sortedI (fun F M H xs vs Q Qv rm rx h k => ?_) hg hm (by decide +kernel) ha (he := he)
  obtain ⟨x, ex, h1⟩ := on1_of h
  subst ex
  obtain ⟨v, ev, rx1⟩ := rx.one
  subst ev
  obtain ⟨ys, e1, h2⟩ := need_of h1
  obtain ⟨ns, e2, h3⟩ := need_of h2
  obtain ⟨q, ws, ev, hs, ra⟩ := rx1.lstI rm e1
  subst ev
  rw [intsOf_eq e2] at ra
  rw [ra.intsI] at hs
  refine ⟨q, ns, rfl, hs, fun ns' l h5 h6 nl => k _ _ ⟨_, M, _, rm.beh nl, .lst upd_same (rall_intsV ns'), h3 ns' h5 h6⟩⟩
/-! ### xs[::-1] of a list -/
def kRev (x : PV) (M : Mem) (Q : PQ) : Prop := need (lstOf M x) fun xs => Q (.lst xs.reverse) M
def pRev (te : PTE) : PTE := fun E σ M Q => te E σ M fun x M1 => kRev x M1 Q
theorem w_rev {E : PXK} {σ : PSt} {M : Mem} {Q : PQ} (h : te E σ M fun x M1 => kRev x M1 Q) : pRev te E σ M Q := h
theorem w_revL {xs : List PV} {M : Mem} {Q : PQ} (h : Q (.lst xs.reverse) M) : kRev (.lst xs) M Q := h
/-! ### x in t, a tuple -/
def inP (x y : PV) (k : Bool → Prop) : Prop := match y with
  | .tup ys => need (toD x) fun d => need (toDs ys) fun ds => d.depth ≤ 64 ∧ k (ds.any fun z => PyData.eqv z d)
  | _ => False
def oIn : PO2 := fun x y M Q => inP x y fun b => Q (.bl b) M
def oNin : PO2 := fun x y M Q => inP x y fun b => Q (.bl (!b)) M
def rInT (K : PySem.W.Frag) (f : Bool → Bool) : R2 := fun x y H Q => ∃ d ds, Dp K H x d ∧ Dp K H y (.tuple ds) ∧ d.canLay0 = true ∧ PyData.canLayAll0 ds = true ∧ d.depth ≤ 64 ∧ Q (.bl (f (ds.any fun z => PyData.eqv z d))) H
theorem op_inT (hu : X.A.units + 65 < cLine) : OpR X (compareOp .In) (rInT X.K id) := by
  intro pins s σ H x y v u Q I rx ry h
  obtain ⟨d, ds, hd, he, sd, se, h64, q⟩ := h
  obtain ⟨as, r1⟩ := Dp.reads I d x v hd rx
  obtain ⟨bs, r2⟩ := Dp.reads I (.tuple ds) y u he ry
  exact SeqAt.in_tuple_reads r2 r1 se sd (by have := Nat.min_le_right (PyData.depthAll ds) d.depth; omega) ⟨.bl _, H, I, rfl, q⟩
theorem pop_inT {K : PySem.W.Frag} {f : Bool → Bool} : POp K (rInT K f) (fun x y M Q => inP x y fun b => Q (.bl (f b)) M) := by
  intro F M H x y xv yv Q Qv rm rx ry h k
  cases y with
  | tup ys =>
    obtain ⟨d, e1, h⟩ := need_of h
    obtain ⟨ds, e2, h⟩ := need_of h
    obtain ⟨h1, h2⟩ := h
    obtain ⟨a1, a2⟩ := toD_dp rm.fr x xv d rx e1
    have e3 : toD (.tup ys) = some (.tuple ds) := by unfold toD; rw [e2]; rfl
    obtain ⟨b1, b2⟩ := toD_dp rm.fr (.tup ys) _ _ ry e3
    exact ⟨d, ds, a1, b1, a2, b2, h1, k _ _ (LQ.now rm (.bl _) h2)⟩
  | _ => exact h.elim
theorem LE.inT (hu : X.A.units + 65 < cLine) (ha : LE X a ta) (hb : LE X b tb) (hm : behindInMarks .In b = false := by rfl) : LE X (.Compare a [.In] [b] pos) (pBin oIn ta tb) := LE.cmp (op_inT hu) pop_inT hm ha hb
theorem LT.inT (hu : X.A.units + 65 < cLine) (ha : LE X a ta) (hb : LE X b tb) (hm : behindInMarks .In b = false := by rfl) : LT X (.Compare a [.In] [b] pos) (pTest (pBin oIn ta tb)) := LT.cmp (op_inT hu) pop_inT hm ha hb
/-! ### for .. else -/
def pForEL (g : PTG) (tb u : PTS) : List PV → PTS
  | [] => fun D σ M => u D σ M
  | x :: xs => fun D σ M => g x σ M fun σ1 M1 => tb { D with nx := pForEL g tb u xs D, bk := D.nx, ct := pForEL g tb u xs D } σ1 M1
def pForE (wi : PTI) (g : PTG) (tb u : PTS) : PTS := fun D σ M => wi D.ex σ M fun xs M1 => pForEL g tb u xs D σ M1
theorem w_forE {wi : PTI} {g : PTG} {tb u : PTS} {dn db dc : PNx} {dr : PQ} {de : PXK} {σ : PSt} {M : Mem} (h : wi de σ M fun xs M1 => pForEL g tb u xs (PEnds.mk dn dr de db dc) σ M1) : pForE wi g tb u (PEnds.mk dn dr de db dc) σ M := h
theorem w_inT {x : PV} {ys : List PV} {d : PyData} {ds : List PyData} {M : Mem} {Q : PQ} (e1 : toD x = some d) (e2 : toDs ys = some ds) (h1 : d.depth ≤ 64) (h : Q (.bl (ds.any fun z => PyData.eqv z d)) M) : oIn x (.tup ys) M Q := need_by e1 (need_by e2 ⟨h1, h⟩)
/-! ### a number that stands in the text's own names -/
/-! ### a place among those of a list, dropped behind a loop's turn -/
theorem w_dropAt {i : Nat} {t : PTS} {p : Addr} {D : PEnds} {σ : PSt} {M : Mem} (e : σ[i]? = some (some (.ptr p))) (h : t D σ (M.drop p)) : pDropAt i t D σ M := by unfold pDropAt; rw [e]; exact h
theorem Room.units65 {k : Nat} {A : Around} (r : Room k A) : A.units + 65 < cLine := by have := r.un; omega
/-! ### a, b = x, y -/
def kPar (i j : Nat) (σ : PSt) (dn : PNx) (xs : List PV) (M : Mem) : Prop := match xs with
  | [x, y] => dn ((σ.set i (some x)).set j (some y)) M
  | _ => False
def pPar (i j : Nat) (ta : PTA) : PTS := fun D σ M => ta D.ex σ M fun xs M1 => kPar i j σ D.nx xs M1
theorem w_kpar {i j : Nat} {x y : PV} {σ σ1 σ2 : PSt} {dn : PNx} {M : Mem} (e1 : σ.set i (some x) = σ1) (e2 : σ1.set j (some y) = σ2) (h : dn σ2 M) : kPar i j σ dn [x, y] M := by
  subst e1
  subst e2
  exact h
theorem LS.par {y : Str} {e1 e2 : Expr} {px py pt : Pos} {kt k2 pt2} (i j : Nat) {ta : PTA} (hc : X.calm = true) (hN : X.N.Nodup) (hij : i ≠ j) (ha : LA X [e1, e2] ta)
    (hw : swappedStores [.Tuple [.Name x px, .Name y py] kt pt] (.Tuple [e1, e2] k2 pt2) X.env = pure (some [x, y])) (hi : X.N[i]? = some x := by rfl) (hj : X.N[j]? = some y := by rfl)
    (hx : X.env.scope.names.lookup x = some .local := by rfl) (hy : X.env.scope.names.lookup y = some .local := by rfl)
    (hs : swapsWithSole [.Tuple [.Name x px, .Name y py] kt pt] (.Tuple [e1, e2] k2 pt2) pos.line X.env = pure false := by rfl) :
    LS X (.Assign [.Tuple [.Name x px, .Name y py] kt pt] (.Tuple [e1, e2] k2 pt2) pos) (pPar i j ta) := by
  refine ⟨fun σv H σ F M D tk rm rs h => WS.of (ps_par hc hN hi hj hij hx hy WA.pa hw hs) ?_⟩
  refine (ha.run σv H σ F M _ D.ex tk rm rs h).mono ?_
  rintro vs H1 ⟨hl, F1, M1, xs, b1, ra, q⟩
  unfold kPar at q
  split at q
  · rename_i x y
    obtain ⟨v, w, rfl, r1, r2⟩ := ra.two
    exact ⟨v, w, rfl, F1, M1, _, b1, ((rs.same b1.sm).set i r1).set j r2, q⟩
  · exact q.elim
theorem w_par {i j : Nat} {ta : PTA} {dn db dc : PNx} {dr : PQ} {de : PXK} {σ : PSt} {M : Mem} (h : ta de σ M fun xs M1 => kPar i j σ dn xs M1) : pPar i j ta (PEnds.mk dn dr de db dc) σ M := h
end
end PL
set_option Elab.async false
set_option linter.all false
set_option maxRecDepth 100000
namespace PL
open PySem PySem.Spec PyProof.Rows L2
section
variable {X : Cx} {a b c e : Expr} {ta tb tc te to : PTE} {pos p : Pos} {es : List Expr} {t : PTA} {x : Str}
/-! ### [..] * n, a list of its own -/
def oRepP : PO2 := fun x y M Q => match x, y with
  | .ptr p, .int k => match M p with
    | some (.lst xs) => (0 ≤ k ∧ k < 2 ^ 62) ∧ xs.length * k.toNat ≤ sizeLine ∧ Q (.lst (List.replicate k.toNat xs).flatten) M
    | _ => False
  | _, _ => False
end
end PL
set_option Elab.async false
set_option linter.all false
set_option maxRecDepth 100000
namespace HT
open PySem PySem.Spec PyProof.Rows
section
variable {prog : Program} {w : World} {A : Around} {E : Value → Shared → Prop} {s : Shared}
end
end HT
namespace PL
open PySem PySem.Spec PyProof.Rows L2
section
variable {X : Cx} {a b c e : Expr} {ta tb tc te to : PTE} {pos p : Pos} {es : List Expr} {t : PTA} {x : Str}
/-! ### t[::-1] of a tuple -/
def kRevT (x : PV) (M : Mem) (Q : PQ) : Prop := need (tupF x) fun xs => Q (.tup xs.reverse) M
def pRevT (te : PTE) : PTE := fun E σ M Q => te E σ M fun x M1 => kRevT x M1 Q
def tRevT (K : PySem.W.Frag) (te : TE) : TE := fun σ H Q => te σ H fun x H1 => ∃ a xs, x = .ref a ∧ SqT K H1 a xs ∧ ∀ p, H1 p = none → Q (.ref p) (upd H1 p (.tup xs.reverse))
/-! ### == of data, lists that may change among them -/
def toM (M : Mem) : PV → Option PyData
  | .ptr a => match M a with | some (.lst xs) => (toDs xs).map .list | _ => none
  | x => toD x
def oEqM : PO2 := fun x y M Q => need (toM M x) fun d => need (toM M y) fun e => d.depth ≤ 64 ∧ e.depth ≤ 64 ∧ Q (.bl (PyData.eqv d e)) M
def oNeM : PO2 := fun x y M Q => need (toM M x) fun d => need (toM M y) fun e => d.depth ≤ 64 ∧ e.depth ≤ 64 ∧ Q (.bl (!PyData.eqv d e)) M
theorem toM_dp {K : PySem.W.Frag} {F H : Hp} {M : Mem} (rm : RM K F M H) {x : PV} {v : V} {d : PyData} (r : R K F x v) (h : toM M x = some d) : Dp K H v d ∧ d.canLay0 = true := by
  cases x with
  | ptr a =>
    have h' : (match M a with | some (.lst xs) => (toDs xs).map PyData.list | _ => none) = some d := h
    cases r
    split at h'
    · rename_i xs hm
      obtain ⟨q, ws, ev, hs, ra⟩ := R.lstI (x := .ptr a) rm (.ptr a) (lstOf_ptr hm)
      cases ev
      cases e : toDs xs with
      | none => rw [e] at h'; cases h'
      | some ds =>
        rw [e] at h'
        cases h'
        obtain ⟨a1, a2⟩ := toDs_dp rm.fr xs ws ds ra e
        exact ⟨.lst hs a1, by simpa [PyData.canLay0] using a2⟩
    · cases h'
  | _ => exact toD_dp rm.fr _ v d r h
/-! ### what was there stays -/
def Ext (M M' : Mem) : Prop := ∀ b, M b ≠ none → M' b = M b
theorem Ext.refl {M : Mem} : Ext M M := fun _ _ => rfl
theorem Ext.put {M : Mem} {p : Addr} {o : MO} (h : M p = none) : Ext M (M.put p o) := fun b hb => put_ne fun e => hb (by rw [e]; exact h)
theorem Ext.trans {M M1 M2 : Mem} (a : Ext M M1) (b : Ext M1 M2) : Ext M M2 := fun c hc => by rw [b c (by rw [a c hc]; exact hc), a c hc]
end
end PL
set_option Elab.async false
set_option linter.all false
set_option maxRecDepth 100000
namespace SrtO
open PySem PySem.Spec PyProof.Rows
section
variable {prog : Program} {w : World} {A : Around} {E : Value → Shared → Prop} {s : Shared}
end
end SrtO
namespace PL
open PySem PySem.Spec PyProof.Rows L2
section
variable {X : Cx} {a b c e : Expr} {ta tb tc te to : PTE} {pos p : Pos} {es : List Expr} {t : PTA} {x : Str}
def rSortedT (K : PySem.W.Frag) : List V → Hp → VK → Prop := fun vs H Q => ∃ (a : Addr) (ns : List Int), vs = [V.ref a] ∧ SqT K H a (ns.map V.int) ∧
  ∀ (ns' : List Int) (p : Addr), ns'.Perm ns → ns'.Pairwise (· ≤ ·) → H p = none → Q (.ref p) (upd H p (.lst (ns'.map V.int)))
def kSortT (x : PV) (M : Mem) (Q : PQ) : Prop := need (tupF x) fun xs => need (intsOf xs) fun ns => ∀ ns' : List Int, ns'.Perm ns → ns'.Pairwise (· ≤ ·) → Q (.lst (ns'.map .int)) M
end
end PL
set_option Elab.async false
set_option linter.all false
set_option maxRecDepth 100000
namespace PL
open PySem PySem.Spec PyProof.Rows L2
section
variable {X : Cx} {a b c e : Expr} {ta tb tc te to : PTE} {pos p : Pos} {es : List Expr} {t : PTA} {x : Str}
/-! ### xs + ys of lists, those that may change among them -/
def lstM (M : Mem) : PV → Option (List PV)
  | .lst xs => some xs
  | .ptr a => match M a with | some (.lst xs) => some xs | _ => none
  | _ => none
theorem R.lstM {K : PySem.W.Frag} {F H : Hp} {M : Mem} {x : PV} {v : V} {xs : List PV} (rm : RM K F M H) (r : R K F x v) (h : lstM M x = some xs) : ∃ a vs, v = .ref a ∧ H a = some (.lst vs) ∧ RAll K F xs vs := by
  cases r with
  | lst e q => cases h; exact ⟨_, _, rfl, rm.fr _ _ e, q⟩
  | ptr a =>
    cases hm : M a with
    | none =>
      have h' : (match M a with | some (.lst xs) => some xs | _ => none) = some xs := h
      rw [hm] at h'
      cases h'
    | some m =>
      have h' : (match M a with | some (.lst xs) => some xs | _ => none) = some xs := h
      rw [hm] at h'
      cases m with
      | lst ys =>
        cases h'
        obtain ⟨u, e, ru⟩ := rm.mu _ _ hm
        cases ru with
        | lst ru => exact ⟨_, _, rfl, e, ru⟩
      | _ => cases h'
  | _ => cases h
def oAddL : PO2 := fun x y M Q => need (lstM M x) fun xs => need (lstM M y) fun ys => xs.length + ys.length ≤ sizeLine ∧ Q (.lst (xs ++ ys)) M
/-! ### xs += ys of a list that may change -/
def oExt : PO2 := fun x y M Q => match x with
  | .ptr p => match M p with
    | some (.lst xs) => need (lstM M y) fun ys => xs.length + ys.length ≤ sizeLine ∧ Q (.ptr p) (M.put p (.lst (xs ++ ys)))
    | _ => False
  | _ => False
theorem pop_ext {K : PySem.W.Frag} : POp K rExt2 oExt := by
  intro F M H x y xv yv Q Qv rm rx ry h k
  unfold oExt at h
  split at h
  · rename_i p
    split at h
    · rename_i xs hm
      obtain ⟨ys, e2, h⟩ := need_of h
      obtain ⟨b', ws, ew, hs2, rb⟩ := R.lstM rm ry e2
      obtain ⟨u, e3, ru⟩ := rm.mu _ _ hm
      cases rx
      cases ru with
      | lst ru =>
        refine ⟨p, b', _, _, rfl, ew, e3, hs2, by rw [← ru.length, ← rb.length]; exact h.1, k _ _ ⟨F, _, _, rm.behWrite (o := .lst _) hm (.lst (ru.append rb)), .ptr p, h.2⟩⟩
    · exact h.elim
  · exact h.elim
theorem LS.augExt (i : Nat) {pos' : Pos} (hN : X.N.Nodup) (he : LE X e te) (hi : X.N[i]? = some x := by rfl) (hx : Loc X.env.scope x := by first | exact .inl rfl | exact .inr rfl)
    (hf : X.fn x = true ∨ X.env.scope.names.lookup x = some .local := by first | exact .inl rfl | exact .inr rfl) : LS X (.AugAssign (.Name x pos') .Add e pos) (pAug i oExt te) := LS.aug i iop_ext pop_ext hN he hi hx hf
theorem w_ext {p : Addr} {y : PV} {xs ys : List PV} {M : Mem} {Q : PQ} (e1 : M p = some (.lst xs)) (e2 : lstM M y = some ys) (c : xs.length + ys.length ≤ sizeLine) (h : Q (.ptr p) (M.put p (.lst (xs ++ ys)))) : oExt (.ptr p) y M Q := by
  show (match M p with | some (.lst xs) => _ | _ => False)
  rw [e1]
  exact need_by e2 ⟨c, h⟩
end
/-! ### max(xs) of a list of ints -/
section
variable {prog : Program} {w : World} {A : Around} {E : Value → Shared → Prop} {s : Shared} {l : Addr}
end
def kMaxL (x : PV) (M : Mem) (Q : PQ) : Prop := need (lstOf M x) fun xs => need (intsOf xs) fun ns => 0 < ns.length ∧ ∀ m, m ∈ ns → (∀ y, y ∈ ns → y ≤ m) → Q (.int m) M
section
variable {X : Cx} {a b c e : Expr} {ta tb tc te : PTE} {pos p p2 pos2 : Pos} {es : List Expr} {t : PTA} {x : Str}
end
end PL
set_option Elab.async false
set_option linter.all false
set_option maxRecDepth 100000
namespace PL
open PySem PySem.Spec PyProof.Rows L2
section
variable {X : Cx} {a b c e tg : Expr} {ta tb tc te to : PTE} {pos p : Pos} {es : List Expr} {t : PTA} {x : Str}
/-! ### shifts and bits -/
abbrev oShl := oI CPow fun i j => .int (i * 2 ^ j.toNat)
abbrev oShr := oI (fun _ j => 0 ≤ j) fun i j => .int (i / 2 ^ j.toNat)
abbrev oBand := oI0 fun i j => .int (Builtin.bitAnd i j)
abbrev oBor := oI0 fun i j => .int (Builtin.bitOr i j)
abbrev oBxor := oI0 fun i j => .int (Builtin.bitXor i j)
theorem LE.shl (ha : LE X a ta) (hb : LE X b tb) : LE X (.BinOp a .LShift b pos) (pBin oShl ta tb) := LE.bin op_shl (pop_I fun _ _ _ => .int _) ha hb
theorem LE.shr (ha : LE X a ta) (hb : LE X b tb) : LE X (.BinOp a .RShift b pos) (pBin oShr ta tb) := LE.bin op_shr (pop_I fun _ _ _ => .int _) ha hb
theorem LE.band (ha : LE X a ta) (hb : LE X b tb) : LE X (.BinOp a .BitAnd b pos) (pBin oBand ta tb) := LE.bin op_and (pop_I0 fun _ _ _ => .int _) ha hb
/-! ### zip of two frozen lists, or of two tuples -/
def zipP (xs ys : List PV) : List PV := (xs.zip ys).map fun p => .tup [p.1, p.2]
theorem zipP_at {xs ys : List PV} {i : Nat} {x y : PV} (e : xs[i]? = some x) (e' : ys[i]? = some y) : (zipP xs ys)[i]? = some (.tup [x, y]) := by
  unfold zipP
  rw [List.getElem?_map, List.zip_eq_zipWith, List.getElem?_zipWith, e, e']
  rfl
theorem stab_zip {K : PySem.W.Frag} {F : Hp} {a b : Addr} {xs ys : List PV} {vs ws : List V} (h : SqL K F a vs) (r : RAll K F xs vs) (h' : SqL K F b ws) (r' : RAll K F ys ws) : Stab K (Itz K a b) F (zipP xs ys) := by
  intro i F' M H sm rm
  have hH : SqL K H a vs := rm.fr.seq (sm.seq h)
  have hH' : SqL K H b ws := rm.fr.seq (sm.seq h')
  have hl : (zipP xs ys).length = min xs.length ys.length := by unfold zipP; rw [List.length_map, List.length_zip]
  refine ⟨fun hi => ?_, fun hi => ⟨vs, ws, hH, hH', by rw [← r.length, ← r'.length]; omega⟩⟩
  have hi2 := hi
  rw [hl] at hi2
  obtain ⟨v, e, rv⟩ := r.get (List.getElem?_eq_getElem (show i < xs.length by omega))
  obtain ⟨w, e', rw'⟩ := r'.get (List.getElem?_eq_getElem (show i < ys.length by omega))
  refine ⟨⟨vs, ws, v, w, hH, hH', e, e'⟩, fun u H' y => ?_⟩
  obtain ⟨T, v1, w1, rfl, nT, rfl, y1, y2⟩ := y
  have e2 := y1 vs hH
  rw [e] at e2
  cases e2
  have e3 := y2 ws hH'
  rw [e'] at e3
  cases e3
  have eq : (zipP xs ys)[i] = .tup [xs[i], ys[i]] := by
    have z := zipP_at (List.getElem?_eq_getElem (show i < xs.length by omega)) (List.getElem?_eq_getElem (show i < ys.length by omega))
    rw [List.getElem?_eq_getElem hi] at z
    exact Option.some.inj z
  rw [eq]
  exact ⟨_, rm.beh nT, .tup (SqT.of upd_same) (.cons ((rv.same sm).same (rm.beh (o := .tup [v, w]) nT).sm) (.cons ((rw'.same sm).same (rm.beh (o := .tup [v, w]) nT).sm) .nil))⟩
theorem stab_zipT {K : PySem.W.Frag} {F : Hp} {a b : Addr} {xs ys : List PV} {vs ws : List V} (h : SqT K F a vs) (r : RAll K F xs vs) (h' : SqT K F b ws) (r' : RAll K F ys ws) : Stab K (RZ.ItzT K a b) F (zipP xs ys) := by
  intro i F' M H sm rm
  have hH : SqT K H a vs := sqT_same rm.fr (sqT_same sm h)
  have hH' : SqT K H b ws := sqT_same rm.fr (sqT_same sm h')
  have hl : (zipP xs ys).length = min xs.length ys.length := by unfold zipP; rw [List.length_map, List.length_zip]
  refine ⟨fun hi => ?_, fun hi => ⟨vs, ws, hH, hH', by rw [← r.length, ← r'.length]; omega⟩⟩
  have hi2 := hi
  rw [hl] at hi2
  obtain ⟨v, e, rv⟩ := r.get (List.getElem?_eq_getElem (show i < xs.length by omega))
  obtain ⟨w, e', rw'⟩ := r'.get (List.getElem?_eq_getElem (show i < ys.length by omega))
  refine ⟨⟨vs, ws, v, w, hH, hH', e, e'⟩, fun u H' y => ?_⟩
  obtain ⟨T, v1, w1, rfl, nT, rfl, y1, y2⟩ := y
  have e2 := y1 vs hH
  rw [e] at e2
  cases e2
  have e3 := y2 ws hH'
  rw [e'] at e3
  cases e3
  have eq : (zipP xs ys)[i] = .tup [xs[i], ys[i]] := by
    have z := zipP_at (List.getElem?_eq_getElem (show i < xs.length by omega)) (List.getElem?_eq_getElem (show i < ys.length by omega))
    rw [List.getElem?_eq_getElem hi] at z
    exact Option.some.inj z
  rw [eq]
  exact ⟨_, rm.beh nT, .tup (SqT.of upd_same) (.cons ((rv.same sm).same (rm.beh (o := .tup [v, w]) nT).sm) (.cons ((rw'.same sm).same (rm.beh (o := .tup [v, w]) nT).sm) .nil))⟩
def seqK : PV → Option (Bool × List PV)
  | .lst xs => some (false, xs)
  | .scr xs => some (false, xs)
  | .tup xs => some (true, xs)
  | _ => none
def piZ (ta tb : PTE) : PTI := fun E σ M Q => ta E σ M fun x M1 => tb E σ M1 fun y M2 => need (seqK x) fun p => need (seqK y) fun q => p.1 = q.1 ∧ Q (zipP p.2 q.2) M2
theorem R.seqK_lst {K : PySem.W.Frag} {F : Hp} {x : PV} {v : V} {xs : List PV} (r : R K F x v) (h : seqK x = some (false, xs)) : ∃ a vs, v = .ref a ∧ SqL K F a vs ∧ RAll K F xs vs := by
  cases r with
  | lst q s => cases h; exact ⟨_, _, rfl, SqL.of q, s⟩
  | scr q s => cases h; exact ⟨_, _, rfl, q, s⟩
  | _ => cases h
theorem R.seqK_tup {K : PySem.W.Frag} {F : Hp} {x : PV} {v : V} {xs : List PV} (r : R K F x v) (h : seqK x = some (true, xs)) : ∃ a vs, v = .ref a ∧ SqT K F a vs ∧ RAll K F xs vs := by
  cases r with
  | tup q s => cases h; exact ⟨_, _, rfl, q, s⟩
  | _ => cases h
theorem LI.zip {elts : List Expr} {kk : Nat} {tpos : Pos} (hg : Gl X "zip") (hm : X.mg "zip" = none) (ha : LE X a ta) (hb : LE X b tb)
    (hs : starEach [a, b] X.env = (false, eval a X.env) :: starEach [b] X.env := by rfl) (hs2 : starEach [b] X.env = [(false, eval b X.env)] := by rfl) :
    LI X (.Tuple elts kk tpos) (.Call (.Name "zip" p) [a, b] [] pos) (piZ ta tb) := by
  refine ⟨fun σv H σ F M Q E tk rm rs h => WI.of (RZ.pi_zipA hg hm (pa_cons WE.pe (pa_cons WE.pe pa_nil hs2) hs) hs (by rw [hs2]; rfl)) ?_⟩
  refine seq2 ha hb tk rm rs h fun x y xv yv F2 M2 H2 bh rx ry h2 => ?_
  obtain ⟨⟨k1, xs⟩, e1, h3⟩ := need_of h2
  obtain ⟨⟨k2, ys⟩, e2, h4⟩ := need_of h3
  obtain ⟨h5, h6⟩ := h4
  have h5' : k1 = k2 := h5
  subst h5'
  cases k1 with
  | false =>
    obtain ⟨a1, vs, rfl, q1, r1⟩ := rx.seqK_lst e1
    obtain ⟨a2, ws, rfl, q2, r2⟩ := ry.seqK_lst e2
    exact ⟨a1, a2, vs, ws, rfl, .inl ⟨bh.rm.fr.seq q1, bh.rm.fr.seq q2, F2, M2, _, bh, stab_zip q1 r1 q2 r2, h6⟩⟩
  | true =>
    obtain ⟨a1, vs, rfl, q1, r1⟩ := rx.seqK_tup e1
    obtain ⟨a2, ws, rfl, q2, r2⟩ := ry.seqK_tup e2
    exact ⟨a1, a2, vs, ws, rfl, .inr ⟨sqT_same bh.rm.fr q1, sqT_same bh.rm.fr q2, F2, M2, _, bh, stab_zipT q1 r1 q2 r2, h6⟩⟩
/-! ### reversed(range(n)) -/
def piRv (te : PTE) : PTI := fun E σ M Q => te E σ M fun x M1 => match x with | .int j => (0 ≤ j ∧ j < 2 ^ 62) ∧ Q (rngP 0 j.toNat).reverse M1 | _ => False
/-! ### tuple(range(n)) -/
def kTupRg (x : PV) (M : Mem) (Q : PQ) : Prop := match x with | .int j => (-1000000 < j ∧ j < 1000000) ∧ Q (.tup (rngP 0 j.toNat)) M | _ => False
def pTupRg (ta : PTE) : PTE := fun E σ M Q => ta E σ M fun x M1 => kTupRg x M1 Q
theorem w_tupRg {E : PXK} {σ : PSt} {M : Mem} {Q : PQ} (h : ta E σ M fun x M1 => kTupRg x M1 Q) : pTupRg ta E σ M Q := h
/-! ### steps of the walk -/
def kRv (x : PV) (M : Mem) (Q : List PV → Mem → Prop) : Prop := match x with | .int j => (0 ≤ j ∧ j < 2 ^ 62) ∧ Q (rngP 0 j.toNat).reverse M | _ => False
theorem w_rv {E : PXK} {σ : PSt} {M : Mem} {Q : List PV → Mem → Prop} (h : ta E σ M fun x M1 => kRv x M1 Q) : piRv ta E σ M Q := h
def kZ (x y : PV) (M : Mem) (Q : List PV → Mem → Prop) : Prop := need (seqK x) fun p => need (seqK y) fun q => p.1 = q.1 ∧ Q (zipP p.2 q.2) M
theorem w_z {E : PXK} {σ : PSt} {M : Mem} {Q : List PV → Mem → Prop} (h : ta E σ M fun x M1 => tb E σ M1 fun y M2 => kZ x y M2 Q) : piZ ta tb E σ M Q := h
theorem w_zL {xs ys : List PV} {M : Mem} {Q : List PV → Mem → Prop} (h : Q (zipP xs ys) M) : kZ (.lst xs) (.lst ys) M Q := ⟨rfl, h⟩
theorem w_zT {xs ys : List PV} {M : Mem} {Q : List PV → Mem → Prop} (h : Q (zipP xs ys) M) : kZ (.tup xs) (.tup ys) M Q := ⟨rfl, h⟩
theorem w_shr {i j : Int} {M : Mem} {Q : PQ} (hj : 0 ≤ j) (h : Q (.int (i / 2 ^ j.toNat)) M) : oShr (.int i) (.int j) M Q := ⟨hj, h⟩
end
end PL
set_option Elab.async false
set_option linter.all false
set_option maxRecDepth 100000
namespace PL
open PySem PySem.Spec PyProof.Rows L2
/-! ### min(t) of a tuple of ints -/
section
variable {prog : Program} {w : World} {A : Around} {E : Value → Shared → Prop} {s : Shared} {l : Addr}
end
def kMinT (x : PV) (M : Mem) (Q : PQ) : Prop := need (tupF x) fun xs => need (intsOf xs) fun ns => 0 < ns.length ∧ ∀ m, m ∈ ns → (∀ y, y ∈ ns → m ≤ y) → Q (.int m) M
section
variable {X : Cx} {a b c e : Expr} {ta tb tc te : PTE} {pos p p2 pos2 : Pos} {es : List Expr} {t : PTA} {x : Str}
end
/-! ### s.join(xs), xs a frozen list or a tuple of texts -/
def strsOf : List PV → Option (List Str)
  | [] => some []
  | .str x :: r => (strsOf r).map (x :: ·)
  | _ :: _ => none
theorem strsOf_eq : ∀ {xs : List PV} {ss : List Str}, strsOf xs = some ss → xs = ss.map PV.str
  | [], ss, h => by cases h; rfl
  | .str x :: r, ss, h => by
    cases e : strsOf r with
    | none => simp only [strsOf, e] at h; cases h
    | some t =>
      simp only [strsOf, e] at h
      cases h
      rw [strsOf_eq e]
      rfl
  | .non :: _, _, h => by cases h
  | .bl _ :: _, _, h => by cases h
  | .int _ :: _, _, h => by cases h
  | .ty _ :: _, _, h => by cases h
  | .tup _ :: _, _, h => by cases h
  | .lst _ :: _, _, h => by cases h
  | .scr _ :: _, _, h => by cases h
  | .obj _ _ :: _, _, h => by cases h
  | .ptr _ :: _, _, h => by cases h
  | .dct _ :: _, _, h => by cases h
theorem RAll.strs {K : PySem.W.Frag} {F : Hp} : ∀ {ss : List Str} {vs : List V}, RAll K F (ss.map PV.str) vs → vs = ss.map V.str
  | [], _, .nil => rfl
  | x :: r, _, .cons h t => by
    cases h
    rw [RAll.strs t]
    rfl
def kStr (x : PV) (k : Str → Prop) : Prop := match x with | .str a => k a | _ => False
def kJoin (a : Str) (y : PV) (M : Mem) (Q : PQ) : Prop := need (seqK y) fun p => need (strsOf p.2) fun ss => (ss.map (·.length)).sum + ss.length * a.length ≤ 16777216 ∧ Q (.str (Str.join a ss)) M
def pJoin (to te : PTE) : PTE := fun E σ M Q => to E σ M fun x M1 => kStr x fun a => te E σ M1 fun y M2 => kJoin a y M2 Q
section
variable {X : Cx} {o e : Expr} {to te : PTE} {pos apos : Pos}
theorem LE.join (ho : LE X o to) (he : LE X e te) (hs : starEach [e] X.env = [(false, eval e X.env)] := by rfl) (hbase : attributeBase o "join" X.env (eval o X.env) = eval o X.env := by rfl) (hline : (apos.endLine == pos.line) = true := by rfl) :
    LE X (.Call (.Attribute o "join" apos) [e] [] pos) (pJoin to te) := by
  refine ⟨fun σv H σ F M Q E tk rm rs h => WE.of (pe_join WE.pe WE.pe hs hbase hline) ?_⟩
  refine (ho.run σv H σ F M _ E tk rm rs h).mono ?_
  rintro v H1 ⟨F1, M1, x, b1, rx, hx⟩
  cases rx with
  | str a =>
    refine ⟨⟨a, rfl⟩, (he.run σv H1 σ F1 M1 _ E (tk.tr b1) b1.rm (rs.same b1.sm) hx).mono ?_⟩
    rintro w H2 ⟨F2, M2, y, b2, ry, h2⟩
    obtain ⟨⟨k, xs⟩, e1, h3⟩ := need_of h2
    obtain ⟨ss, e2, h4, h5⟩ := need_of h3
    have e3 := strsOf_eq e2
    dsimp only at e3
    subst e3
    cases k with
    | false =>
      obtain ⟨p, vs, rfl, q1, r1⟩ := ry.seqK_lst e1
      rw [r1.strs] at q1
      exact ⟨a, p, ss, rfl, rfl, .inl (b2.rm.fr.seq q1), h4, LQ.tr b1 (LQ.tr b2 (LQ.now b2.rm (.str _) (by rw [TL.join_eq]; exact h5)))⟩
    | true =>
      obtain ⟨p, vs, rfl, q1, r1⟩ := ry.seqK_tup e1
      rw [r1.strs] at q1
      exact ⟨a, p, ss, rfl, rfl, .inr (sqT_same b2.rm.fr q1), h4, LQ.tr b1 (LQ.tr b2 (LQ.now b2.rm (.str _) (by rw [TL.join_eq]; exact h5)))⟩
  | _ => exact hx.elim
theorem w_join {E : PXK} {σ : PSt} {M : Mem} {Q : PQ} (h : to E σ M fun x M1 => kStr x fun a => te E σ M1 fun y M2 => kJoin a y M2 Q) : pJoin to te E σ M Q := h
theorem w_kStr {a : Str} {k : Str → Prop} (h : k a) : kStr (.str a) k := h
end
end PL
set_option Elab.async false
set_option linter.all false
set_option maxRecDepth 100000
/-! dicts with ints and (nested) tuples as keys -/
namespace PD
open PySem PySem.Spec PyProof.Rows L2 PL
/-! ### keys and rows by values -/
mutual
def KeyV (K : PySem.W.Frag) (H : Hp) : NestedKey → V → Prop
  | .none, v => v = .non
  | .num i, v => v = .int i
  | .text x, v => v = .str x
  | .tup ks, v => ∃ a vs, v = .ref a ∧ SqT K H a vs ∧ KeyVs K H ks vs
def KeyVs (K : PySem.W.Frag) (H : Hp) : List NestedKey → List V → Prop
  | [], vs => vs = []
  | k :: ks, vs => ∃ v r, vs = v :: r ∧ KeyV K H k v ∧ KeyVs K H ks r
end
def KeysV (K : PySem.W.Frag) (H : Hp) (es : List VRow) : Prop := ∀ e ∈ es, KeyV K H e.1 e.2.1
def atV (es : List VRow) (k : NestedKey) : Option V := (es.find? fun e => decide (e.1 = k)).map (·.2.2)
def putV (es : List VRow) (k : NestedKey) (u v : V) : List VRow := if (atV es k).isSome then es.map (fun e => if e.1 = k then (e.1, e.2.1, v) else e) else es ++ [(k, u, v)]
section
variable {X : Cx} {pins : List (Addr × Obj)} {σ : L2.St} {H : Hp} {s : Shared}
mutual
theorem KeyV.is (I : Inv X pins σ H s) : ∀ (k : NestedKey) (v : V) (u : Value), KeyV X.K H k v → RelV v u → NestedIs s.heap k u
  | .none, v, u, h, r => by
    have h' : v = .non := by unfold KeyV at h; exact h
    subst h'
    have : u = .none := r
    rw [this]
    exact .none
  | .num i, v, u, h, r => by
    have h' : v = .int i := by unfold KeyV at h; exact h
    subst h'
    obtain ⟨t, rfl⟩ := r
    exact .int _ _
  | .text x, v, u, h, r => by
    have h' : v = .str x := by unfold KeyV at h; exact h
    subst h'
    obtain ⟨t, rfl⟩ := r
    exact .text _ _
  | .tup ks, v, u, h, r => by
    unfold KeyV at h
    obtain ⟨a, vs, rfl, q, hk⟩ := h
    have : u = .ref a := r
    subst this
    obtain ⟨its, rv, hl, _⟩ := I.tuple q
    obtain ⟨o, h1, h2, n, h3⟩ := hl
    exact .tup h1 h2 h3 (by simpa using KeyVs.is I ks vs its hk rv)
theorem KeyVs.is (I : Inv X pins σ H s) : ∀ (ks : List NestedKey) (vs : List V) (us : List Value), KeyVs X.K H ks vs → Vals vs us → NestedAll s.heap ks us
  | [], vs, us, h, r => by
    have h' : vs = [] := by unfold KeyVs at h; exact h
    subst h'
    cases r
    exact .nil
  | k :: ks, vs, us, h, r => by
    unfold KeyVs at h
    obtain ⟨v, t, rfl, h1, h2⟩ := h
    cases r with
    | cons r1 r2 => exact .cons (KeyV.is I k v _ h1 r1) (KeyVs.is I ks t _ h2 r2)
end
theorem at_rel {k : NestedKey} : ∀ {es : List VRow} {xs : List Row}, Paired Same2 es xs → RelO (atV es k) (at_ xs k)
  | _, _, .nil => trivial
  | _, _, .cons (a := a) (b := b) (l₁ := l1) (l₂ := l2) h t => by
    have ih := at_rel (k := k) t
    unfold atV at_ at ih ⊢
    rw [List.find?_cons, List.find?_cons, h.1]
    by_cases e : b.1 = k
    · rw [decide_eq_true e]
      exact h.2.2
    · rw [decide_eq_false e]
      exact ih
theorem repl_rel {k : NestedKey} {v : V} {y : Value} (rv : RelV v y) : ∀ {es : List VRow} {xs : List Row}, Paired Same2 es xs → Paired Same2 (es.map fun e => if e.1 = k then (e.1, e.2.1, v) else e) (repl xs k y)
  | _, _, .nil => .nil
  | _, _, .cons (a := a) (b := b) (l₁ := l1) (l₂ := l2) h t => by
    refine .cons ?_ (repl_rel rv t)
    obtain ⟨h1, h2, h3⟩ := h
    show Same2 (if a.1 = k then (a.1, a.2.1, v) else a) (if b.1 = k then (b.1, b.2.1, y) else b)
    rw [h1]
    split
    · exact ⟨rfl, h2, rv⟩
    · exact ⟨h1, h2, h3⟩
theorem app_rel {p : VRow} {q : Row} (h : Same2 p q) : ∀ {es : List VRow} {xs : List Row}, Paired Same2 es xs → Paired Same2 (es ++ [p]) (xs ++ [q])
  | _, _, .nil => .cons h .nil
  | _, _, .cons h1 t => .cons h1 (app_rel h t)
theorem put_rel {k : NestedKey} {u v : V} {x y : Value} (ru : RelV u x) (rv : RelV v y) {es : List VRow} {xs : List Row} (r : Paired Same2 es xs) : Paired Same2 (putV es k u v) (put xs k x y) := by
  have hs : (atV es k).isSome = (at_ xs k).isSome := RelO.isSome_eq (at_rel r)
  unfold putV put
  rw [hs]
  split
  · exact repl_rel rv r
  · exact app_rel ⟨rfl, ru, rv⟩ r
theorem keyed_of (I : Inv X pins σ H s) : ∀ {es : List VRow} {xs : List Row}, Paired Same2 es xs → KeysV X.K H es → (∀ x ∈ xs, okK x.1) → Keyed s.heap xs
  | _, _, .nil, _, _ => fun _ h => absurd h List.not_mem_nil
  | _, _, .cons (a := b) (b := c) (l₁ := l1) (l₂ := l2) h t, hk, ok => fun x hx => by
    rcases List.mem_cons.mp hx with ex | ex
    · subst ex
      obtain ⟨q1, q2, q3⟩ := h
      have := hk b List.mem_cons_self
      rw [q1] at this
      exact ⟨KeyV.is I _ _ _ this q2, (ok x List.mem_cons_self).2⟩
    · exact keyed_of I t (fun e he => hk e (List.mem_cons_of_mem _ he)) (fun y hy => ok y (List.mem_cons_of_mem _ hy)) x ex
theorem d_rows (I : Inv X pins σ H s) {a : Addr} {es : List VRow} (e : dAt H a es) (hk : KeysV X.K H es) : (a == sysModules) = false ∧ (∀ x ∈ es, okK x.1) ∧ es.length ≤ sizeLine ∧ ∃ xs, Paired Same2 es xs ∧ Tab X.w s.heap a xs ∧ Keyed s.heap xs := by
  obtain ⟨ep, e⟩ := e
  have p : dPhi a ep es s.heap := dO_phi (I.hok a _ e)
  obtain ⟨h1, h2, h3, w, xs, r, t⟩ := p
  have t := t.tab
  have ok : ∀ x ∈ xs, okK x.1 := fun x hx => by
    obtain ⟨y, hy, ey⟩ := Paired.same_keys r x hx
    rw [← ey]
    exact h3 y hy
  exact ⟨h2, h3, h1, xs, r, t.world fun x hx => (ok x hx).1, keyed_of I r hk ok⟩
theorem paired_len {es : List VRow} {xs : List Row} (r : Paired Same2 es xs) : xs.length = es.length := by
  induction r with
  | nil => rfl
  | cons _ _ ih => rw [List.length_cons, List.length_cons, ih]
theorem putV_len (es : List VRow) (k : NestedKey) (u v : V) : (putV es k u v).length ≤ es.length + 1 := by
  unfold putV
  split
  · rw [List.length_map]; omega
  · rw [List.length_append]; simp
theorem putV_ok {es : List VRow} {k : NestedKey} {u v : V} (ok : okK k) (h : ∀ x ∈ es, okK x.1) : ∀ x ∈ putV es k u v, okK x.1 := by
  intro x hx
  unfold putV at hx
  split at hx
  · obtain ⟨y, hy, rfl⟩ := List.mem_map.mp hx
    split
    · exact h y hy
    · exact h y hy
  · rcases List.mem_append.mp hx with hx | hx
    · exact h x hx
    · rw [List.mem_singleton.mp hx]; exact ok
/-- d[k] -/
def rIxD (K : PySem.W.Frag) : R2 := fun x y H Q => ∃ a es k v, x = .ref a ∧ dAt H a es ∧ KeysV K H es ∧ KeyV K H k y ∧ okK k ∧ atV es k = some v ∧ Q v H
theorem ix_dct (hu : X.A.units + 65 < cLine) : IxR X (rIxD X.K) := by
  intro value slice pins s σ H x y v u Q I rx ry h hs
  obtain ⟨a, es, k, w, rfl, e, hk, ky, ok, hv, q⟩ := h
  have : v = .ref a := rx
  subst this
  obtain ⟨h1, h2, h3, xs, r, t, kd⟩ := d_rows I e hk
  have ra := at_rel (k := k) r
  rw [hv] at ra
  cases hx : at_ xs k with
  | none => rw [hx] at ra; exact ra.elim
  | some z =>
    rw [hx] at ra
    have hT : s.TypeIs (.ref a) "dict" := t.typeIs
    unfold subscriptTail
    refine wpAny_bind ?_
    rw [getitemInPython_of_ne hT.not_modules]
    refine wpAny_bind (wpAny_specialOf hT PySem.F.slot_dict_getitem.lookup ?_)
    have fin : wpAny (model X.prog X.w) X.A (subscripted slice false (.ref a) u) (fun r s₃ => wpAny (model X.prog X.w) X.A (letTemporaryGo value (.ref a) r >>= fun _ => pure r) (EP X pins σ Q) X.xe s₃) X.xe s := by
      rw [hs]
      exact wpAny_operating (getItem_key (by omega) (KeyV.is I k y u ky ry) ok.2 ok.1.notText t kd hx (wpAny_bind (wpAny_letTemporaryGo (wpAny_pure ⟨w, H, I.tok _, ra, q⟩))))
    first
      | exact wpAny_pure (wpAny_bind fin)
      | exact wpAny_bind (wpAny_pure (wpAny_bind fin))
      | exact wpAny_bind fin
/-- d[k] = v -/
def rSetD (K : PySem.W.Frag) : TSet := fun o i v H Q => ∃ a es k, o = .ref a ∧ dAt H a es ∧ KeysV K H es ∧ KeyV K H k i ∧ okK k ∧ es.length < sizeLine ∧ ∀ ep, Q (upd H a (dO a ep (putV es k i v)))
theorem set_dct (hu : X.A.units + 65 < cLine) : PSet X (rSetD X.K) := by
  intro pins s σ H o i v ov iv u Q I ro ri rv h
  obtain ⟨a, es, k, rfl, e, hk, ky, ok, hl, q⟩ := h
  have : ov = .ref a := ro
  subst this
  obtain ⟨h1, h2, h3, xs, r, t, kd⟩ := d_rows I e hk
  refine setItem_key (by omega) (KeyV.is I k i iv ky ri) ok.2 ok.1.notText t kd (by rw [paired_len r]; exact h3) fun h' t' hs => ?_
  obtain ⟨ob, en, ep, q1, q2⟩ := t'
  obtain ⟨ep0, e⟩ := e
  refine ⟨_, ?_, q ep⟩
  refine I.write (x := a) (e := a) (by rw [e]; trivial) (.inl rfl) (fun b w hb z => (hs.2 b hb).trans z) ⟨ob, q1⟩ (dO_ok ⟨?_, h1, putV_ok ok h2, X.w, _, put_rel ri rv r, ob, en, q1, q2⟩)
  have := putV_len es k i v
  omega
/-- k in d -/
def rInD (K : PySem.W.Frag) (f : Bool → Bool) : R2 := fun y x H Q => ∃ a es k, x = .ref a ∧ dAt H a es ∧ KeysV K H es ∧ KeyV K H k y ∧ okK k ∧ Q (.bl (f (atV es k).isSome)) H
end
end PD
set_option Elab.async false
set_option linter.all false
set_option maxRecDepth 100000
namespace PL
open PySem PySem.Spec PyProof.Rows L2 PD
mutual
/-- the key that a value is -/
def keyP : PV → Option NestedKey
  | .int i => some (.num i)
  | .tup xs => (keyPs xs).map .tup
  | .non => some .none
  | _ => none
def keyPs : List PV → Option (List NestedKey)
  | [] => some []
  | x :: xs => match keyP x, keyPs xs with
    | some k, some ks => some (k :: ks)
    | _, _ => none
end
mutual
theorem keyP_eq : ∀ (x : PV) (k : NestedKey), keyP x = some k → x = pvK k ∧ plainK k
  | .int i, k, h => by
    unfold keyP at h
    cases h
    exact ⟨by unfold pvK; rfl, by unfold plainK; trivial⟩
  | .non, k, h => by
    unfold keyP at h
    cases h
    exact ⟨by unfold pvK; rfl, by unfold plainK; trivial⟩
  | .tup xs, k, h => by
    unfold keyP at h
    cases e : keyPs xs with
    | none => rw [e] at h; cases h
    | some ks =>
      rw [e] at h
      cases h
      obtain ⟨h1, h2⟩ := keyPs_eq xs ks e
      exact ⟨by unfold pvK; rw [← h1], by unfold plainK; exact h2⟩
  | .bl _, _, h => by unfold keyP at h; cases h
  | .str _, _, h => by unfold keyP at h; cases h
  | .ty _, _, h => by unfold keyP at h; cases h
  | .lst _, _, h => by unfold keyP at h; cases h
  | .scr _, _, h => by unfold keyP at h; cases h
  | .obj _ _, _, h => by unfold keyP at h; cases h
  | .ptr _, _, h => by unfold keyP at h; cases h
  | .dct _, _, h => by unfold keyP at h; cases h
theorem keyPs_eq : ∀ (xs : List PV) (ks : List NestedKey), keyPs xs = some ks → xs = pvKs ks ∧ plainKs ks
  | [], ks, h => by
    unfold keyPs at h
    cases h
    exact ⟨by unfold pvKs; rfl, by unfold plainKs; trivial⟩
  | x :: xs, ks, h => by
    unfold keyPs at h
    cases e1 : keyP x with
    | none => rw [e1] at h; cases h
    | some k =>
      cases e2 : keyPs xs with
      | none => rw [e1, e2] at h; cases h
      | some r =>
        rw [e1, e2] at h
        cases h
        obtain ⟨h1, h2⟩ := keyP_eq x k e1
        obtain ⟨h3, h4⟩ := keyPs_eq xs r e2
        exact ⟨by unfold pvKs; rw [← h1, ← h3], by unfold plainKs; exact ⟨h2, h4⟩⟩
end
section
variable {K : PySem.W.Frag} {F H : Hp} {M : Mem}
mutual
theorem R.keyV (sm : Same F H) : ∀ (k : NestedKey) (v : V), R K F (pvK k) v → KeyV K H k v
  | .none, v, r => by unfold pvK at r; cases r; unfold KeyV; rfl
  | .num i, v, r => by unfold pvK at r; cases r; unfold KeyV; rfl
  | .text x, v, r => by unfold pvK at r; cases r; unfold KeyV; rfl
  | .tup ks, v, r => by
    unfold pvK at r
    cases r with
    | tup q ra =>
      unfold KeyV
      exact ⟨_, _, rfl, sqT_same sm q, RAll.keyVs sm ks _ ra⟩
theorem RAll.keyVs (sm : Same F H) : ∀ (ks : List NestedKey) (vs : List V), RAll K F (pvKs ks) vs → KeyVs K H ks vs
  | [], vs, r => by unfold pvKs at r; cases r; unfold KeyVs; rfl
  | k :: ks, vs, r => by
    unfold pvKs at r
    cases r with
    | cons r1 r2 =>
      unfold KeyVs
      exact ⟨_, _, rfl, R.keyV sm k _ r1, RAll.keyVs sm ks _ r2⟩
end
def atP (kvs : List (NestedKey × PV)) (k : NestedKey) : Option PV := (kvs.find? fun e => decide (e.1 = k)).map (·.2)
def putD (kvs : List (NestedKey × PV)) (k : NestedKey) (x : PV) : List (NestedKey × PV) := if (atP kvs k).isSome then kvs.map (fun e => if e.1 = k then (e.1, x) else e) else kvs ++ [(k, x)]
theorem RKs.at_ {k : NestedKey} : ∀ {kvs : List (NestedKey × PV)} {es : List VRow}, RKs K F kvs es → (∀ x, atP kvs k = some x → ∃ v, atV es k = some v ∧ R K F x v) ∧ (atP kvs k = none → atV es k = none)
  | _, _, .nil => ⟨(fun _ h => by cases h), fun _ => rfl⟩
  | _, _, .cons (k := k') (x := x) (kvs := r) (u := u) (v := v) (es := t) r1 r2 r3 => by
    have ih := RKs.at_ (k := k) r3
    unfold atP atV at ih ⊢
    rw [List.find?_cons, List.find?_cons]
    dsimp only at ih ⊢
    by_cases e : k' = k
    · rw [decide_eq_true e]
      refine ⟨fun y hy => ?_, fun h => by cases h⟩
      cases hy
      exact ⟨v, rfl, r2⟩
    · rw [decide_eq_false e]
      exact ih
theorem RKs.repl {k : NestedKey} {x : PV} {v : V} (r : R K F x v) : ∀ {kvs : List (NestedKey × PV)} {es : List VRow}, RKs K F kvs es → RKs K F (kvs.map fun e => if e.1 = k then (e.1, x) else e) (es.map fun e => if e.1 = k then (e.1, e.2.1, v) else e)
  | _, _, .nil => .nil
  | _, _, .cons (k := k') (x := y) r1 r2 r3 => by
    have ih := RKs.repl (k := k) r r3
    rw [List.map_cons, List.map_cons]
    dsimp only
    by_cases e : k' = k
    · rw [if_pos e, if_pos e]
      exact .cons r1 r ih
    · rw [if_neg e, if_neg e]
      exact .cons r1 r2 ih
theorem RKs.app {k : NestedKey} {x : PV} {u v : V} (ru : R K F (pvK k) u) (r : R K F x v) : ∀ {kvs : List (NestedKey × PV)} {es : List VRow}, RKs K F kvs es → RKs K F (kvs ++ [(k, x)]) (es ++ [(k, u, v)])
  | _, _, .nil => .cons ru r .nil
  | _, _, .cons r1 r2 r3 => .cons r1 r2 (RKs.app ru r r3)
theorem RKs.put {k : NestedKey} {x : PV} {u v : V} {kvs : List (NestedKey × PV)} {es : List VRow} (ru : R K F (pvK k) u) (r : R K F x v) (h : RKs K F kvs es) : RKs K F (putD kvs k x) (putV es k u v) := by
  have hs : (atP kvs k).isSome = (atV es k).isSome := by
    cases e : atP kvs k with
    | none => rw [(RKs.at_ h).2 e]; rfl
    | some y =>
      obtain ⟨w, e2, _⟩ := (RKs.at_ h).1 y e
      rw [e2]
      rfl
  unfold putD putV
  rw [hs]
  split
  · exact RKs.repl r h
  · exact RKs.app ru r h
theorem RKs.keysV (sm : Same F H) : ∀ {kvs : List (NestedKey × PV)} {es : List VRow}, RKs K F kvs es → KeysV K H es
  | _, _, .nil => fun _ h => absurd h List.not_mem_nil
  | _, _, .cons r1 r2 r3 => fun e he => by
    rcases List.mem_cons.mp he with h | h
    · rw [h]; exact R.keyV sm _ _ r1
    · exact RKs.keysV sm r3 e h
theorem RKs.length : ∀ {kvs : List (NestedKey × PV)} {es : List VRow}, RKs K F kvs es → es.length = kvs.length
  | _, _, .nil => rfl
  | _, _, .cons _ _ r => congrArg (· + 1) (RKs.length r)
def dctOf (M : Mem) : PV → Option (List (NestedKey × PV))
  | .dct kvs => some kvs
  | .ptr p => match M p with | some (.dct a kvs) => if a = p then some kvs else none | _ => none
  | _ => none
theorem dctOf_ptr {p : Addr} {kvs : List (NestedKey × PV)} (h : M p = some (.dct p kvs)) : dctOf M (.ptr p) = some kvs := by
  show (match M p with | some (.dct a kvs) => if a = p then some kvs else none | _ => none) = _
  rw [h]
  exact if_pos rfl
theorem R.dctI {x : PV} {v : V} {kvs : List (NestedKey × PV)} (rm : RM K F M H) (r : R K F x v) (h : dctOf M x = some kvs) : ∃ a es, v = .ref a ∧ dAt H a es ∧ RKs K F kvs es := by
  cases r with
  | dct e q => cases h; exact ⟨_, _, rfl, ⟨_, rm.fr _ _ e⟩, q⟩
  | ptr a =>
    have h' : (match M a with | some (.dct b kvs) => if b = a then some kvs else none | _ => none) = some kvs := h
    cases hm : M a with
    | none => rw [hm] at h'; cases h'
    | some m =>
      rw [hm] at h'
      cases m with
      | lst _ => cases h'
      | obj _ _ => cases h'
      | dct b ks =>
        dsimp only at h'
        split at h'
        · rename_i e
          subst e
          cases h'
          obtain ⟨o, e1, q⟩ := rm.mu _ _ hm
          cases q with
          | dct q => exact ⟨_, _, rfl, ⟨_, e1⟩, q⟩
        · cases h'
  | _ => cases h
end
def kKey (x : PV) (f : NestedKey → Prop) : Prop := need (keyP x) fun k => k.depth ≤ 8 ∧ f k
theorem kKey.of {x : PV} {f : NestedKey → Prop} (h : kKey x f) : ∃ k, x = pvK k ∧ okK k ∧ f k := by
  obtain ⟨k, e, h1, h2⟩ := need_of h
  obtain ⟨e1, e2⟩ := keyP_eq x k e
  exact ⟨k, e1, ⟨e2, h1⟩, h2⟩
section
variable {X : Cx} {a b c e o i f : Expr} {ta tb tc te to ti tf : PTE} {pos p apos cpos : Pos} {es : List Expr} {t : PTA} {x : Str}
/-! ### {} -/
def pDNew : PTE := fun _ _ M Q => ∀ p, M p = none → Q (.ptr p) (M.put p (.dct p []))
theorem LE.dnew : LE X (.Dict [] [] pos) pDNew := by
  refine ⟨fun σv H σ F M Q E tk rm rs h pins s I => ?_⟩
  refine wpAny_Dict_empty ⟨.ref s.heap.objs.size, upd H s.heap.objs.size (dO s.heap.objs.size 0 []), I.laid (a := s.heap.objs.size) (o := dO s.heap.objs.size 0 []) (t' := s.toks) (fun _ _ q => Heap.get?_push_of_some _ q) (Nat.le_refl _) ?_, rfl, ?_⟩
  · refine dO_ok ⟨Nat.zero_le _, beq_eq_false_iff_ne.mpr (Ne.symm (Nat.ne_of_lt I.big)), fun _ h => absurd h List.not_mem_nil, X.w, [], .nil, _, #[], Heap.get?_push_size _ rfl, ⟨rfl, rfl, rfl⟩, rfl, rfl, List.nodup_nil⟩
  · have n := I.hok.fresh (Nat.le_refl s.heap.objs.size)
    exact ⟨_, _, _, rm.behNew n (.dct .nil), .ptr _, h _ (rm.nones n).2⟩
/-! ### d[k] -/
def oIxD : PO2 := fun x y M Q => need (dctOf M x) fun kvs => kKey y fun k => need (atP kvs k) fun z => Q z M
theorem LE.ixD (hu : X.A.units + 65 < cLine) (ha : LE X a ta) (hb : LE X b tb) (hs : PlainIx b := by exact fun _ _ => rfl) : LE X (.Subscript a b pos) (pBin oIxD ta tb) := by
  refine ⟨fun σv H σ F M Q E tk rm rs h => WE.of (pe_ix (ix_dct hu) WE.pe WE.pe hs) ?_⟩
  refine seq2 ha hb tk rm rs h fun x y xv yv F2 M2 H2 bh rx ry h2 => ?_
  obtain ⟨kvs, e1, h3⟩ := need_of h2
  obtain ⟨k, rfl, ok, h4⟩ := kKey.of h3
  obtain ⟨z, e2, h5⟩ := need_of h4
  obtain ⟨q, es, rfl, e3, rk⟩ := rx.dctI bh.rm e1
  obtain ⟨v, e4, rv⟩ := (RKs.at_ rk).1 z e2
  exact ⟨q, es, k, v, rfl, e3, rk.keysV bh.rm.fr, R.keyV bh.rm.fr k yv ry, ok, e4, LQ.tr bh (LQ.now bh.rm rv h5)⟩
/-! ### k in d -/
def oInD : PO2 := fun y x M Q => need (dctOf M x) fun kvs => kKey y fun k => Q (.bl (atP kvs k).isSome) M
/-! ### d[k] = v -/
def kSetD (o i x : PV) (M : Mem) (Q : Mem → Prop) : Prop := match o with
  | .ptr p => match M p with
    | some (.dct q kvs) => q = p ∧ kKey i fun k => kvs.length < sizeLine ∧ Q (M.put p (.dct p (putD kvs k x)))
    | _ => False
  | _ => False
def gpSubD (to ti : PTE) : PTG := fun x σ M Q => to noX σ M fun o M1 => ti noX σ M1 fun i M2 => kSetD o i x M2 fun M3 => Q σ M3
theorem LG.subD (hu : X.A.units + 65 < cLine) (ho : LE X o to) (hi : LE X i ti) (ha : ∀ v, assign (.Subscript o i pos) X.env v = (do
      let ov ← holding [v] (eval o X.env)
      let iv ← holding [v, ov] (eval i X.env)
      standAt pos
      holding [v, ov, iv] (setItem ov iv v)
      release [v, ov, iv] []) := by intro _; rfl) : LG X (.Subscript o i pos) (gpSubD to ti) := by
  refine ⟨fun σv H σ F M x v Q rm rs r h => WG.of (pg_sub WE.pe WE.pe (set_dct hu) ha) ?_⟩
  refine seq2 (k := fun o i M2 => kSetD o i x M2 fun M3 => Q σ M3) ho hi PTk.no rm rs h fun o i ov iv F2 M2 H2 bh ro ri h2 => ?_
  unfold kSetD at h2
  split at h2
  · rename_i p
    cases ro
    cases hm : M2 p with
    | none => rw [hm] at h2; exact h2.elim
    | some mo =>
      rw [hm] at h2
      cases mo with
      | obj C fs => exact h2.elim
      | lst xs => exact h2.elim
      | dct q kvs =>
        obtain ⟨rfl, h3⟩ := h2
        obtain ⟨k, rfl, ok, h4, h5⟩ := kKey.of h3
        obtain ⟨u, e2, ru⟩ := bh.rm.mu _ _ hm
        cases ru with
        | dct ru =>
          rename_i es
          refine ⟨q, es, k, rfl, ⟨_, e2⟩, ru.keysV bh.rm.fr, R.keyV bh.rm.fr k iv ri, ok, by rw [ru.length]; exact h4, fun ep' => ?_⟩
          have b3 := bh.rm.behWrite (o := dO q ep' (putV es k iv v)) hm (.dct (ru.put ri (r.same bh.sm)))
          exact ⟨F2, _, σ, bh.trans b3, rs.same bh.sm, h5⟩
  · exact h2.elim
/-! ### d.get(k), d.get(k, x) -/
theorem d_head {pins : List (Addr × Obj)} {σ : L2.St} {H : Hp} {s : Shared} {q : Addr} {es : List VRow} (I : Inv X pins σ H s) (e : dAt H q es) :
    s.TypeIs (.ref q) "dict" ∧ ∀ b, Value.ref q = .ref b → ∃ ob, s.heap.get? b = some ob ∧ ob.dict = none := by
  obtain ⟨ep, e⟩ := e
  obtain ⟨_, _, _, w, xs, r, ob, en, q1, q2, _⟩ := dO_phi (I.hok q _ e)
  refine ⟨⟨ob, q1, q2.1⟩, fun b z => ?_⟩
  cases z
  exact ⟨ob, q1, q2.2.1⟩
def pDGet1 (to te : PTE) : PTE := fun E σ M Q => to E σ M fun x M1 => dctOf M1 x ≠ none ∧ te E σ M1 fun y M2 => need (dctOf M2 x) fun kvs => kKey y fun k => Q ((atP kvs k).getD .non) M2
def pDGet2 (to te tf : PTE) : PTE := fun E σ M Q => to E σ M fun x M1 => dctOf M1 x ≠ none ∧ te E σ M1 fun y M2 => tf E σ M2 fun z M3 => need (dctOf M3 x) fun kvs => kKey y fun k => Q ((atP kvs k).getD z) M3
theorem LE.dget2 (hu : X.A.units + 65 < cLine) (ho : LE X o to) (he : LE X e te) (hf : LE X f tf) (m : M2 X o "get" apos e f cpos) : LE X (.Call (.Attribute o "get" apos) [e, f] [] cpos) (pDGet2 to te tf) := by
  refine ⟨fun σv H σ F M Q E tk rm rs h pins s I => ?_⟩
  refine wpAny_Call_method m.base m.few m.line PySem.F.plainAttrs_dict PySem.F.slot_dict_get PySem.F.type_dict_get (thn (ho.run σv H σ F M _ E tk rm rs h pins s I) fun u s1 ⟨xv, H1, I1, rx, F1, M1, x, b1, r1, hx, q1⟩ => ?_)
  cases hd : dctOf M1 x with
  | none => exact absurd hd hx
  | some kvs1 =>
    obtain ⟨q, es1, rfl, e1, _⟩ := r1.dctI b1.rm hd
    have eu : u = .ref q := rx
    subst eu
    obtain ⟨t1, t2⟩ := d_head I1 e1
    refine ⟨t1, t2, ?_⟩
    rw [m.trees]
    refine Calls.callWith_builtin rfl (Calls.evalArgs_plain (Calls.spliced_cons (thn (he.run σv H1 σ F1 M1 _ E (tk.tr b1) b1.rm (rs.same b1.sm) q1 pins s1 I1) fun iv s2 ⟨yv, H2, I2, ry, F2, M2, y, b2, r2, q2⟩ =>
      Calls.spliced_cons (thn (hf.run σv H2 σ F2 M2 _ E ((tk.tr b1).tr b2) b2.rm ((rs.same b1.sm).same b2.sm) q2 pins s2 I2) fun fv s3 ⟨zv, H3, I3, rz, F3, M3, z, b3, r3, q3⟩ => Calls.spliced_nil ?_))))
    obtain ⟨kvs, e2, h3⟩ := need_of q3
    obtain ⟨k, rfl, ok, h4⟩ := kKey.of h3
    obtain ⟨q', es, eq, e3, rk⟩ := ((r1.same b2.sm).same b3.sm).dctI b3.rm e2
    cases eq
    obtain ⟨g1, g2, g3, xs, r, t, kd⟩ := d_rows I3 e3 (rk.keysV b3.rm.fr)
    refine call_meetsIn PySem.F.slot_dict_get t.typeIs PySem.F.entry_dict_get (PySem.F.args_dict_get_3 _ _ _) (meet_get2 g1) ⟨by omega, k, xs, KeyV.is I3 k yv iv (R.keyV b3.rm.fr k yv (r2.same b3.sm)) ry, ok.2, ok.1.notText, t, kd, ?_⟩
    have ra := at_rel (k := k) r
    cases hv : atP kvs k with
    | none =>
      rw [hv] at h4
      have e4 := (RKs.at_ rk).2 hv
      rw [e4] at ra
      cases hx2 : at_ xs k with
      | none => exact ⟨zv, H3, I3.tok _, rz, LQ.tr ((b1.trans b2).trans b3) (LQ.now b3.rm r3 h4)⟩
      | some w => rw [hx2] at ra; exact ra.elim
    | some w =>
      rw [hv] at h4
      obtain ⟨v, e4, rv⟩ := (RKs.at_ rk).1 w hv
      rw [e4] at ra
      cases hx2 : at_ xs k with
      | none => rw [hx2] at ra; exact ra.elim
      | some zz =>
        rw [hx2] at ra
        exact ⟨v, H3, I3.tok _, ra, LQ.tr ((b1.trans b2).trans b3) (LQ.now b3.rm rv h4)⟩
end
end PL
set_option Elab.async false
set_option linter.all false
set_option maxRecDepth 100000
namespace PL
open PySem PySem.Spec PyProof.Rows L2
/-! ### list comprehensions over a tuple of names -/
def gsN : List Nat → TGs
  | [] => gNil
  | i :: r => gCons (gName i) (gsN r)
def setsV : List Nat → List V → L2.St → L2.St
  | i :: is, v :: vs, σ => setsV is vs (σ.set i (some v))
  | _, _, σ => σ
def setsP : List Nat → List PV → PSt → Option PSt
  | [], [], σ => some σ
  | i :: is, x :: xs, σ => setsP is xs (σ.set i (some x))
  | _, _, _ => none
theorem setsP_len : ∀ {is : List Nat} {xs : List PV} {σ σ1 : PSt}, setsP is xs σ = some σ1 → is.length = xs.length
  | [], [], _, _, _ => rfl
  | i :: is, x :: xs, _, _, h => congrArg (· + 1) (setsP_len (is := is) (xs := xs) h)
  | [], _ :: _, _, _, h => by cases h
  | _ :: _, [], _, _, h => by cases h
theorem gsN_of : ∀ {is : List Nat} {vs : List V} {σ : L2.St} {H : Hp} {Q : L2.St → Hp → Prop}, is.length = vs.length → Q (setsV is vs σ) H → gsN is vs σ H Q
  | [], [], _, _, _, _, q => ⟨rfl, q⟩
  | i :: is, v :: vs, _, _, _, h, q => ⟨v, vs, rfl, gsN_of (is := is) (vs := vs) (by simpa using h) q⟩
  | [], _ :: _, _, _, _, h, _ => by cases h
  | _ :: _, [], _, _, _, h, _ => by cases h
theorem wipe_comm {i : Nat} {v : Option V} : ∀ {r : List Nat} {σ : L2.St}, i ∉ r → (wipe σ r).set i v = wipe (σ.set i v) r
  | [], _, _ => rfl
  | j :: r, σ, h => by
    rw [List.mem_cons, not_or] at h
    show ((wipe σ r).set j none).set i v = (wipe (σ.set i v) r).set j none
    rw [← wipe_comm h.2, List.set_comm _ _ (Ne.symm h.1)]
theorem setsV_wipe : ∀ {is : List Nat} {vs : List V} {σ : L2.St}, is.Nodup → is.length = vs.length → setsV is vs (wipe σ is) = setsV is vs σ
  | [], [], _, _, _ => rfl
  | i :: is, v :: vs, σ, hn, hl => by
    rw [List.nodup_cons] at hn
    show setsV is vs (((wipe σ is).set i none).set i (some v)) = setsV is vs (σ.set i (some v))
    rw [List.set_set, wipe_comm hn.1]
    exact setsV_wipe hn.2 (by simpa using hl)
  | [], _ :: _, _, _, h => by cases h
  | _ :: _, [], _, _, h => by cases h
theorem wipe_sets : ∀ {is : List Nat} {vs : List V} {σ : L2.St}, is.Nodup → is.length = vs.length → wipe (setsV is vs σ) is = wipe σ is
  | [], [], _, _, _ => rfl
  | i :: is, v :: vs, σ, hn, hl => by
    rw [List.nodup_cons] at hn
    show (wipe (setsV is vs (σ.set i (some v))) is).set i none = (wipe σ is).set i none
    rw [wipe_sets hn.2 (by simpa using hl), ← wipe_comm hn.1, List.set_set]
  | [], _ :: _, _, _, h => by cases h
  | _ :: _, [], _, _, h => by cases h
theorem RS.sets {K : PySem.W.Frag} {F : Hp} : ∀ (is : List Nat) {ys : List PV} {vs : List V} {σ σ1 : PSt} {σv : L2.St}, RS K F σ σv → RAll K F ys vs → setsP is ys σ = some σ1 → RS K F σ1 (setsV is vs σv)
  | [], [], _, _, _, _, rs, .nil, h => by cases h; exact rs
  | i :: is, y :: ys, _, _, _, _, rs, .cons r t, h => RS.sets is (rs.set i r) t h
  | [], _ :: _, _, _, _, _, _, _, h => by cases h
  | _ :: _, [], _, _, _, _, _, _, h => by cases h
theorem R.tupI {K : PySem.W.Frag} {F : Hp} {x : PV} {v : V} {ys : List PV} (r : R K F x v) (h : tupF x = some ys) : ∃ a vs, v = .ref a ∧ SqT K F a vs ∧ RAll K F ys vs := by
  cases r with
  | tup q s => cases h; exact ⟨_, _, rfl, q, s⟩
  | _ => cases h
def pLcTL (is : List Nat) (tt : PTT) (te : PTE) : List PV → List PV → PSt → Mem → PQ → Prop
  | [], acc => fun _ M Q => Q (.lst acc) M
  | x :: xs, acc => fun σ M Q => need (tupF x) fun ys => need (setsP is ys σ) fun σ1 => tt noX σ1 M fun b M1 => if b = true then te noX σ1 M1 fun y M2 => pLcTL is tt te xs (acc ++ [y]) σ M2 Q else pLcTL is tt te xs acc σ M1 Q
def pLcT (wi : PTI) (is : List Nat) (tt : PTT) (te : PTE) : PTE := fun E σ M Q => wi E σ M fun xs M1 => xs.length ≤ sizeLine ∧ pLcTL is tt te xs [] σ M1 Q
section
variable {X : Cx} {elt tg iter : Expr} {ifs : List Expr} {scope : Scope} {is : List Nat} {pos pt : Pos} {wi : PTI} {tt : PTT} {te : PTE} {own : List (Str × Nat)} {els : List Expr} {kk : Nat}
/-- the turns of the block, D the new list -/
theorem lcT_turns (K0 : PySem.W.Frag) (eK : K0 = X.K) {is : List Nat} (hnd : is.Nodup) {te' : TE} {tt' : TT} 
    (ht : ∀ (σv : L2.St) (H : Hp) (σ : PSt) (F : Hp) (M : Mem) (Q : Bool → Mem → Prop), RM X.K F M H → RS X.K F σ σv → tt noX σ M Q → tt' σv H (LB X.K F M H Q))
    (he : ∀ (σv : L2.St) (H : Hp) (σ : PSt) (F : Hp) (M : Mem) (Q : PQ), RM X.K F M H → RS X.K F σ σv → te noX σ M Q → te' σv H (LQ X.K F M H Q))
    (mt : ∀ σv H Q Q', tt' σv H Q → (∀ b H', Q b H' → Q' b H') → tt' σv H Q') (me : ∀ σv H Q Q', te' σv H Q → (∀ b H', Q b H' → Q' b H') → te' σv H Q')
    {σv : L2.St} {σ : PSt} {F M H F1 M1 H1} {Q : PQ} {J : It} {xs : List PV} (b1 : Beh X.K F M H F1 M1 H1) (rs : RS X.K F σ σv) (st : Stab X.K J F1 xs) (hz : xs.length ≤ sizeLine) (h1 : pLcTL is tt te xs [] σ M1 Q) {D : Addr} (nD : H1 D = none) :
    ∃ W : Nat → Nat → Hp → Prop, (∃ m, W 0 m (upd H1 D (.lst []))) ∧ ∀ j m H', W j m H' →
      (J.stop j H' ∧ LQ X.K F M H Q (.ref D) H') ∨ (J.go j H' ∧ ∃ Nx : Hp → Prop, (∀ H2, Nx H2 → ∃ m', m' < m ∧ W (j + 1) m' H2) ∧ ∀ v H2, J.yld j H' v H2 → gTup K0 is.length (gsN is) v (wipe σv is) H2 fun σ2 H3 => wipe σ2 is = wipe σv is ∧ tt' σ2 H3 fun b H4 =>
        if b = true then te' σ2 H4 fun y H5 => ∃ acc, H5 D = some (.lst acc) ∧ acc.length < sizeLine ∧ Nx (upd H5 D (.lst (acc ++ [y]))) else Nx H4) := by
  obtain ⟨nF, nM⟩ := b1.rm.nones nD
  have b1' := b1.trans ((b1.rm.behHid (o := .lst []) nF nM).2 nD)
  refine ⟨fun j m H' => m = xs.length - j ∧ j ≤ xs.length ∧ ∃ F' M' acc vacc, Beh X.K F M H F' M' H' ∧ Same F1 F' ∧ F' D = none ∧ M' D = none ∧ H' D = some (.lst vacc) ∧ RAll X.K F' acc vacc ∧ acc.length ≤ j ∧ pLcTL is tt te (xs.drop j) acc σ M' Q,
    ⟨xs.length, rfl, Nat.zero_le _, F1, M1, [], [], b1', Same.refl _, nF, nM, upd_same, .nil, Nat.le_refl _, h1⟩, ?_⟩
  rintro j m H2 ⟨rfl, hj, F2, M2, acc, vacc, b2, sm2, nF2, nM2, hD, ra, hl, h2⟩
  obtain ⟨s1, s2⟩ := st j F2 M2 H2 sm2 b2.rm
  by_cases hlt : j < xs.length
  · obtain ⟨go, yl⟩ := s1 hlt
    rw [List.drop_eq_getElem_cons hlt] at h2
    refine .inr ⟨go, _, fun H' n => ⟨_, (show xs.length - (j + 1) < xs.length - j by omega), n⟩, fun v H3 y => ?_⟩
    obtain ⟨F3, b3, r3⟩ := yl v H3 y
    have keepD : ∀ {Fa : Hp} {Ma : Mem} {Ha : Hp}, Beh X.K F2 M2 H2 Fa Ma Ha → Fa D = none ∧ Ma D = none ∧ Ha D = some (.lst vacc) := fun {Fa Ma Ha} b => by
      refine ⟨?_, ?_, b.fr.keep D _ hD nM2⟩
      · cases q : Fa D with
        | none => rfl
        | some u =>
          rcases b.fg D (by rw [q]; exact Option.some_ne_none _) with z | z | z
          · exact absurd nF2 z
          · exact absurd nM2 z
          · rw [hD] at z; cases z
      · cases q : Ma D with
        | none => rfl
        | some u =>
          rcases b.fr.grow D (by rw [q]; exact Option.some_ne_none _) with z | z
          · exact absurd nM2 z
          · rw [hD] at z; cases z
    have hs : pLcTL is tt te (xs[j] :: xs.drop (j + 1)) acc σ M2 Q := h2
    unfold pLcTL at hs
    obtain ⟨ys, ey, hs2⟩ := need_of hs
    obtain ⟨σ1, es, h2⟩ := need_of hs2
    obtain ⟨a, vs, rfl, qa, ra2⟩ := R.tupI r3 ey
    have hlen : is.length = ys.length := setsP_len es
    subst eK
    refine ⟨a, vs, rfl, sqT_same b3.rm.fr qa, by rw [← ra2.length, hlen], gsN_of (by rw [← ra2.length, hlen]) ?_⟩
    rw [setsV_wipe hnd (by rw [← ra2.length, hlen])]
    refine ⟨wipe_sets hnd (by rw [← ra2.length, hlen]), ?_⟩
    have rs3 : RS X.K F3 σ1 (setsV is vs σv) := RS.sets is (rs.same (b2.trans b3).sm) ra2 es
    refine mt _ _ _ _ (ht _ H3 _ F3 M2 _ b3.rm rs3 h2) ?_
    rintro b H4 ⟨F4, M4, b4, h4⟩
    have b24 := b3.trans b4
    split
    · rename_i e
      rw [if_pos e] at h4
      refine me _ _ _ _ (he _ H4 _ F4 M4 _ b4.rm (rs3.same b4.sm) h4) ?_
      rintro yv H5 ⟨F5, M5, y5, b5, r5, h5⟩
      have b25 := b24.trans b5
      obtain ⟨k1, k2, k3⟩ := keepD b25
      refine ⟨vacc, k3, by rw [← ra.length]; omega, rfl, hlt, F5, M5, acc ++ [y5], vacc ++ [yv], ?_, sm2.trans b25.sm, k1, k2, upd_same, (ra.same b25.sm).append (.cons r5 .nil), by rw [List.length_append]; show acc.length + 1 ≤ j + 1; omega, h5⟩
      have b05 := b2.trans b25
      have x : RM X.K F5 M5 (upd H5 D (.lst (vacc ++ [yv]))) := hid_app b05.rm k1 k2
      refine ⟨b05.sm, x, ⟨fun c u hc nc => ?_, b05.fr.grow, fun c hc => ?_⟩, b05.fg⟩
      · have hcD : c ≠ D := fun z => by
          subst z
          rcases b1.fr.there c (by rw [hc]; exact Option.some_ne_none _) with _
          exact absurd nD (b1.fr.there c (by rw [hc]; exact Option.some_ne_none _))
        rw [upd_ne hcD]
        exact b05.fr.keep c u hc nc
      · by_cases hcD : c = D
        · subst hcD; rw [upd_same]; exact Option.some_ne_none _
        · rw [upd_ne hcD]; exact b05.fr.there c hc
    · rename_i e
      rw [if_neg e] at h4
      obtain ⟨k1, k2, k3⟩ := keepD b24
      exact ⟨rfl, hlt, F4, M4, acc, vacc, b2.trans b24, sm2.trans b24.sm, k1, k2, k3, ra.same b24.sm, by omega, h4⟩
  · have e : j = xs.length := by omega
    subst e
    rw [List.drop_length] at h2
    refine .inl ⟨s2 (Nat.le_refl _), ?_⟩
    have sm : Same F2 (upd F2 D (.lst vacc)) := same_upd nF2
    refine ⟨upd F2 D (.lst vacc), M2, _, ⟨b2.sm.trans sm, ⟨fun c u hc => ?_, fun c hc => ?_, fun c mo hc => ?_⟩, b2.fr, fun c hc => ?_⟩, .lst upd_same (ra.same sm), h2⟩
    · by_cases hcD : c = D
      · subst hcD; rw [upd_same] at hc; cases hc; exact hD
      · rw [upd_ne hcD] at hc; exact b2.rm.fr c u hc
    · have hcD : c ≠ D := fun z => hc (by rw [z]; exact nM2)
      rw [upd_ne hcD]; exact b2.rm.dj c hc
    · obtain ⟨u, e1, e2⟩ := b2.rm.mu c mo hc
      exact ⟨u, e1, e2.same sm⟩
    · by_cases hcD : c = D
      · subst hcD
        right; right
        cases q : H c with
        | none => rfl
        | some u => exact absurd nD (b1.fr.there c (by rw [q]; exact Option.some_ne_none _))
      · rw [upd_ne hcD] at hc; exact b2.fg c hc
theorem lcT_core (hnd : is.Nodup) (hi : LI X tg iter wi)
    (ht : ∀ (s : Shared) (H : Hp) (C : Addr) (cl : List (Str × Addr)) (fp : List Addr), LTs (Blk X scope s H C cl fp) ifs tt)
    (he : ∀ (s : Shared) (H : Hp) (C : Addr) (cl : List (Str × Addr)) (fp : List Addr), LE (Blk X scope s H C cl fp) elt te)
    {σv : L2.St} {H : Hp} {σ : PSt} {F : Hp} {M : Mem} {Q : PQ} {E : PXK} (tk : PTk X F M H E) (rm : RM X.K F M H) (rs : RS X.K F σ σv) (h : pLcT wi is tt te E σ M Q) : tLc (WI X tg iter) (gTup X.K is.length (gsN is)) (TBlk X scope ifs) (EBlk X scope elt) is σv H (LQ X.K F M H Q) := by
  refine (hi.run σv H σ F M _ E tk rm rs h).mono ?_
  rintro J H1 ⟨F1, M1, xs, b1, st, hz, h1⟩
  intro D nD
  exact lcT_turns (te := te) (tt := tt) (te' := EBlk X scope elt) (tt' := TBlk X scope ifs) X.K rfl hnd (fun σv H σ F M Q rm rs h s0 H0 C cl fp pins s I => (ht s0 H0 C cl fp).run σv H σ F M Q rm rs h pins s I)
    (fun σv H σ F M Q rm rs h s0 H0 C cl fp => (he s0 H0 C cl fp).run σv H σ F M Q noX PTk.no rm rs h)
    (fun σv H Q Q' h m => TBlk.mono h m) (fun σv H Q Q' h m => EBlk.mono h m) b1 rs st hz h1 nD
theorem LE.lcT (hnd : is.Nodup) (hown : own.map (·.2) = is) (hc : X.calm = true) (hN : X.N.Nodup) (hi : LI X (.Tuple els kk pt) iter wi) (ok : BlkOk X.N X.env.scope scope own)
    (hg : ∀ (s : Shared) (H : Hp) (C : Addr) (cl : List (Str × Addr)) (fp : List Addr), PGs (Blk X scope s H C cl fp) els (gsN is))
    (hel : ∀ (s : Shared) (H : Hp) (C : Addr) (cl : List (Str × Addr)) (fp : List Addr), (assignEach els (Blk X scope s H C cl fp).env).length = is.length ∧ (assignEach els (Blk X scope s H C cl fp).env).findIdx? (·.1) = none)
    (ht : ∀ (s : Shared) (H : Hp) (C : Addr) (cl : List (Str × Addr)) (fp : List Addr), LTs (Blk X scope s H C cl fp) ifs tt)
    (he : ∀ (s : Shared) (H : Hp) (C : Addr) (cl : List (Str × Addr)) (fp : List Addr), LE (Blk X scope s H C cl fp) elt te)
    (hs : ∀ v, foldedSetIterable iter X.env v = pure v := by intro _; rfl) : LE X (.ListComp elt [⟨.Tuple els kk pt, iter, ifs, 0⟩] scope pos) (pLcT wi is tt te) := by
  refine ⟨fun σv H σ F M Q E tk rm rs h => ?_⟩
  subst hown
  refine WE.of (pe_lc (own := own) (g := gTup X.K (own.map (·.2)).length (gsN (own.map (·.2)))) (tt := TBlk X scope ifs) (te := EBlk X scope elt) hc hN WI.pi ok (fun s0 H0 C cl fp => pg_tup hc (hg s0 H0 C cl fp) (hel s0 H0 C cl fp).1 (hel s0 H0 C cl fp).2) (fun s0 H0 C cl fp => ⟨fun pins s σ H Q I hh => hh s0 H0 C cl fp pins s I⟩) (fun s0 H0 C cl fp => ⟨fun pins s σ H Q I hh => hh s0 H0 C cl fp pins s I⟩) hs) ?_
  exact lcT_core hnd hi ht he tk rm rs h
theorem w_lcT {E : PXK} {σ : PSt} {M : Mem} {Q : PQ} (h : wi E σ M fun xs M1 => xs.length ≤ sizeLine ∧ pLcTL is tt te xs [] σ M1 Q) : pLcT wi is tt te E σ M Q := h
end
/-- a comprehension without tests whose turns give f -/
theorem lcT_map {α : Type} {is : List Nat} {te : PTE} {σ : PSt} {M : Mem} {Q : PQ} (h : α → List PV) (f : α → PV) : ∀ (l : List α) (acc : List PV), (∀ a ∈ l, ∃ σ1, setsP is (h a) σ = some σ1 ∧ ∀ R : PQ, R (f a) M → te noX σ1 M R) →
    Q (.lst (acc ++ l.map f)) M → pLcTL is pYes te (l.map fun a => .tup (h a)) acc σ M Q
  | [], acc, _, q => by
    rw [List.map_nil, List.append_nil] at q
    exact q
  | a :: l, acc, he, q => by
    obtain ⟨σ1, e, h1⟩ := he a List.mem_cons_self
    show need (setsP is (h a) σ) fun σ1 => if true = true then te noX σ1 M fun y M2 => pLcTL is pYes te (l.map fun a => .tup (h a)) (acc ++ [y]) σ M2 Q else pLcTL is pYes te (l.map fun a => .tup (h a)) acc σ M Q
    refine need_by e ?_
    rw [if_pos rfl]
    refine h1 _ (lcT_map h f l (acc ++ [f a]) (fun b hb => he b (List.mem_cons_of_mem _ hb)) ?_)
    rw [List.append_assoc]
    exact q
end PL
namespace PL
open PySem PySem.Spec PyProof.Rows L2
theorem w_dnew {E : PXK} {σ : PSt} {M : Mem} {Q : PQ} (h : ∀ p, M p = none → Q (.ptr p) (M.put p (.dct p []))) : pDNew E σ M Q := h
theorem w_gsubD {to ti : PTE} {x : PV} {σ : PSt} {M : Mem} {R : PNx} (h : to noX σ M fun o M1 => ti noX σ M1 fun i M2 => kSetD o i x M2 fun M3 => R σ M3) : gpSubD to ti x σ M R := h
theorem w_pdget1 {to te : PTE} {E : PXK} {σ : PSt} {M : Mem} {Q : PQ} (h : to E σ M fun x M1 => dctOf M1 x ≠ none ∧ te E σ M1 fun y M2 => need (dctOf M2 x) fun kvs => kKey y fun k => Q ((atP kvs k).getD .non) M2) : pDGet1 to te E σ M Q := h
theorem w_pdget2 {to te tf : PTE} {E : PXK} {σ : PSt} {M : Mem} {Q : PQ} (h : to E σ M fun x M1 => dctOf M1 x ≠ none ∧ te E σ M1 fun y M2 => tf E σ M2 fun z M3 => need (dctOf M3 x) fun kvs => kKey y fun k => Q ((atP kvs k).getD z) M3) : pDGet2 to te tf E σ M Q := h
end PL
set_option Elab.async false
set_option linter.all false
set_option maxRecDepth 100000
/-! data that is equal to itself -/
namespace PL
open PySem PySem.Spec PyProof.Rows L2
def SelfD (n : Nat) (x : PV) : Prop := ∃ d, toD x = some d ∧ d.depth ≤ n ∧ PyData.eqv d d = true
def SelfDs (n : Nat) (xs : List PV) : Prop := ∃ ds, toDs xs = some ds ∧ PyData.depthAll ds ≤ n ∧ PyData.eqvAll ds ds = true
theorem SelfD.mono {n m : Nat} {x : PV} (h : SelfD n x) (l : n ≤ m) : SelfD m x := by
  obtain ⟨d, h1, h2, h3⟩ := h
  exact ⟨d, h1, Nat.le_trans h2 l, h3⟩
theorem SelfD.non {n : Nat} : SelfD n .non := ⟨.none, rfl, Nat.zero_le _, rfl⟩
theorem SelfD.int {n : Nat} {i : Int} : SelfD n (.int i) := ⟨.int i, rfl, Nat.zero_le _, by show (i == i) = true; exact beq_self_eq_true i⟩
theorem SelfD.bl {n : Nat} {b : Bool} : SelfD n (.bl b) := ⟨.bool b, rfl, Nat.zero_le _, by cases b <;> rfl⟩
theorem SelfD.str {n : Nat} {s : Str} (h : (PyData.str s).canLay0 = true) : SelfD n (.str s) := ⟨.str s, by unfold toD; rw [if_pos h], Nat.zero_le _, by show (s == s) = true; exact beq_self_eq_true s⟩
theorem SelfDs.all {n : Nat} : ∀ {xs : List PV}, (∀ x ∈ xs, SelfD n x) → SelfDs n xs
  | [], _ => ⟨[], rfl, Nat.zero_le _, rfl⟩
  | x :: xs, h => by
    obtain ⟨d, a1, a2, a3⟩ := h x List.mem_cons_self
    obtain ⟨ds, b1, b2, b3⟩ := SelfDs.all (xs := xs) fun y hy => h y (List.mem_cons_of_mem _ hy)
    refine ⟨d :: ds, by unfold toDs; rw [a1, b1], ?_, ?_⟩
    · show max _ _ ≤ n
      omega
    · show (PyData.eqv d d && PyData.eqvAll ds ds) = true
      rw [a3, b3]
      rfl
theorem SelfD.tup {n : Nat} {xs : List PV} (h : ∀ x ∈ xs, SelfD n x) : SelfD (n + 1) (.tup xs) := by
  obtain ⟨ds, b1, b2, b3⟩ := SelfDs.all h
  exact ⟨.tuple ds, by unfold toD; rw [b1]; rfl, by show PyData.depthAll ds + 1 ≤ n + 1; omega, b3⟩
theorem SelfD.lst {n : Nat} {xs : List PV} (h : ∀ x ∈ xs, SelfD n x) : SelfD (n + 1) (.lst xs) := by
  obtain ⟨ds, b1, b2, b3⟩ := SelfDs.all h
  exact ⟨.list ds, by unfold toD; rw [b1]; rfl, by show PyData.depthAll ds + 1 ≤ n + 1; omega, b3⟩
theorem eqP_self {x : PV} (e : eqF x x = none ∨ eqF x x = some true) (h : SelfD 64 x) {k : Bool → Prop} (q : k true) : eqP x x k := by
  obtain ⟨d, h1, h2, h3⟩ := h
  unfold eqP
  rcases e with e | e
  · rw [e]
    exact need_by h1 (need_by h1 ⟨h2, h2, by rw [h3]; exact q⟩)
  · rw [e]
    exact q
theorem eqF_self : ∀ x : PV, SelfD 64 x → eqF x x = none ∨ eqF x x = some true := by
  intro x h
  cases x with
  | non => exact .inr rfl
  | bl b => exact .inr (by show some (decide (b = b)) = _; rw [decide_eq_true rfl])
  | int b => exact .inr (by show some (decide (b = b)) = _; rw [decide_eq_true rfl])
  | str b => exact .inr (by show some (decide (b = b)) = _; rw [decide_eq_true rfl])
  | tup _ => exact .inl rfl
  | lst _ => exact .inl rfl
  | scr _ => exact .inl rfl
  | ptr _ => exact .inl rfl
  | obj _ _ => exact .inl rfl
  | ty _ => exact .inl rfl
  | dct _ => exact .inl rfl
  | exc _ _ _ => exact .inl rfl
  | rng _ _ => exact .inl rfl
  | tpd _ => exact .inl rfl
theorem w_neSelf {x : PV} {M : Mem} {Q : PQ} (h : SelfD 64 x) (q : Q (.bl false) M) : oNe x x M Q := eqP_self (k := fun b => Q (.bl (!b)) M) (eqF_self x h) h q
theorem SelfD.ints {n : Nat} {xs : List Int} : SelfD (n + 1) (.tup (xs.map .int)) := SelfD.tup fun x hx => by
  obtain ⟨i, _, rfl⟩ := List.mem_map.mp hx
  exact SelfD.int
end PL
set_option Elab.async false
set_option linter.all false
set_option maxRecDepth 100000
/-! errors with fields: raised, caught, their fields read -/
namespace PL
open PySem PySem.Spec PyProof.Rows L2
section
variable {X : Cx}
/-- D.__init__(self, ..): D an own class without an __init__ of its own -/
structure BaseIn (K : PySem.W.Frag) (D : Addr) : Prop where
  s : PySem.W.specialIn K (.ref D) "__getattribute__" = some (some (.builtin "type.__getattribute__"))
  r : PySem.W.readsIn K D (.type "type") = true
  f : PySem.W.findCls K (.ref D) (.type "type") "__init__" = some (.val (.builtin "ValueError.__init__"))
/-! ### the promise of an __init__ that stores its arguments -/
def fldsOf : List Str → List V → List (Str × V) → List (Str × V)
  | n :: ns, v :: vs, acc => fldsOf ns vs ((n, v) :: acc)
  | _, _, acc => acc
def fldsP : List Str → List PV → List (Str × PV) → List (Str × PV)
  | n :: ns, v :: vs, acc => fldsP ns vs ((n, v) :: acc)
  | _, _, acc => acc
/-- the first of the arguments is a number that is not too long -/
def headI : List V → Prop
  | .int i :: _ => i.natAbs.log2 < 1920
  | _ => False
def headP : List PV → Prop
  | .int i :: _ => i.natAbs.log2 < 1920
  | _ => False
/-- both are numbers -/
def bothI : List V → Prop
  | [.int i, .int j] => i.natAbs.log2 < 1920 ∧ j.natAbs.log2 < 1920
  | _ => False
def bothP : List PV → Prop
  | [.int i, .int j] => i.natAbs.log2 < 1920 ∧ j.natAbs.log2 < 1920
  | _ => False
def spOex (C : Addr) (ns : List Str) (good : List V → Prop) : L2.Sp := fun vs H Q _ => ∃ a ws, vs = .ref a :: ws ∧ ws.length = ns.length ∧ good ws ∧ H a = some (exo a C none) ∧ ∀ d, H d = none → d ≠ a → Q .non (upd (upd H d (exd d (fldsOf ns ws []))) a (exo a C (some d)))
/-- the class C, made by its own __init__ -/
structure GEx (P : Program) (w : World) (K : PySem.W.Frag) (mg : Str → Option Value) (base : Heap) (x : Str) (C : Addr) (k : Nat) (ps ns : List Str) (good : List V → Prop) : Prop where
  ex : ∃ f fd, FnOk P w K mg base (L2.CX P w) k f fd ps (spOex C ns good) ∧ mg x = some (.ref C) ∧ OexC K C ∧ PySem.W.findIn K (.ref C) "__init__" = some (some (.ref f)) ∧ PySem.W.typeIn K (.ref f) = some (.type "function") ∧ Binds K fd ps []
/-! ### raise -/
def pRaiseF (C : Addr) (ns : List Str) (good : List PV → Prop) (ta : PTA) : PTS := fun D σ M => ta D.ex σ M fun xs M1 => good xs ∧ D.ex C (fldsP ns xs []) M1
/-! ### try .. except X as n, with fields -/
def pTryAsF (n i : Nat) (exm : Addr → Option Bool) (tb : PTS) (ts : Addr → Option Addr → Addr → PTS) : PTS := fun D σ M =>
  tb { D with ex := fun C fs M' => need (exm C) fun b =>
      (b = true → (fs = [] → ∀ a, M' a = none → ts C none a { nx := fun σ' M'' => D.nx (σ'.set i none) M'', rt := D.rt, ex := noX, bk := fun σ' M'' => D.bk (σ'.set i none) M'', ct := fun σ' M'' => D.ct (σ'.set i none) M'' } ((List.replicate n none).set i (some (.ptr a))) M') ∧
        (fs ≠ [] → ∀ a d, M' a = none → ts C (some d) a { nx := fun σ' M'' => D.nx (σ'.set i none) M'', rt := D.rt, ex := noX, bk := fun σ' M'' => D.bk (σ'.set i none) M'', ct := fun σ' M'' => D.ct (σ'.set i none) M'' } ((List.replicate n none).set i (some (.exc a d fs))) M')) ∧
      (b = false → D.ex C fs M') } σ M
/-! ### isinstance(error, Y) in the suite -/
end
end PL
namespace PySem.W
open PySem PySem.Calls PyProof.Rows Builtin
section
variable {prog : Program} {w : World} {A : Around} {E : Value → Shared → Prop} {s : Shared} {K : Frag} {x D : Addr} {ox : Obj} {od : Option Obj}
end
end PySem.W
namespace PL
open PySem PySem.Spec PyProof.Rows L2
section
variable {X : Cx}
def rIsF (K : PySem.W.Frag) (D a : Addr) (d : Option Addr) : List V → Hp → VK → Prop := fun xs H Q => ∃ (c : V) (cv : Value) (b : Bool), xs = [.ref a, c] ∧ (∀ u, RelV c u → u = cv) ∧ PySem.W.kitOne K (.ref D) cv = some b ∧ (d = none ∨ ∃ dd vs, d = some dd ∧ H dd = some (.xd vs)) ∧ Q (.bl b) H
def isErr (a : Addr) (d : Option Addr) : PV → Prop
  | .ptr b => b = a ∧ d = none
  | .exc b dd _ => b = a ∧ d = some dd
  | _ => False
def kIsF (a : Addr) (d : Option Addr) (b : Option Bool) (x : PV) (M : Mem) (Q : PQ) : Prop := isErr a d x ∧ need b fun b => Q (.bl b) M
/-! ### error.f in the suite -/
def kXf (a : Addr) (d : Option Addr) (f : Str) (x : PV) (M : Mem) (Q : PQ) : Prop := match x with
  | .exc b dd fs => b = a ∧ d = some dd ∧ need (fs.lookup f) fun v => Q v M
  | _ => False
end
end PL
set_option Elab.async false
set_option linter.all false
set_option maxRecDepth 100000
/-! errors with fields: their __init__ -/
namespace PL
open PySem PySem.Spec PyProof.Rows L2
def tJn (ts : List TE) : TE := fun σ H Q => tJs ts Str.empty σ H fun out H1 => Q (.str out) H1
section
variable {K : PySem.W.Frag} {C a : Addr} {H : Hp} {D : Ends} {m1 m2 m3 : Str} {n1 n2 : Str} {i j : Int} {v : V}
end
section
variable {P : Program} {w : World} {K : PySem.W.Frag} {mg : Str → Option Value} {base : Heap} {C : Addr}
end
end PL
/-! ### the head stepper -/
namespace PL
open PySem PySem.Spec PyProof.Rows L2
theorem w_raiseF {C : Addr} {ns : List Str} {good : List PV → Prop} {ta : PTA} {dn db dc : PNx} {dr : PQ} {de : PXK} {σ : PSt} {M : Mem} (h : ta de σ M fun xs M1 => good xs ∧ de C (fldsP ns xs []) M1) : pRaiseF C ns good ta (PEnds.mk dn dr de db dc) σ M := h
theorem w_tryF {n i : Nat} {exm : Addr → Option Bool} {tb : PTS} {ts : Addr → Option Addr → Addr → PTS} {dn db dc : PNx} {dr : PQ} {de : PXK} {σ : PSt} {M : Mem}
    (h : tb (PEnds.mk dn dr (fun C fs M' => need (exm C) fun b =>
      (b = true → (fs = [] → ∀ a, M' a = none → ts C none a (PEnds.mk (fun σ' M'' => dn (σ'.set i none) M'') dr noX (fun σ' M'' => db (σ'.set i none) M'') (fun σ' M'' => dc (σ'.set i none) M'')) ((List.replicate n none).set i (some (.ptr a))) M') ∧
        (fs ≠ [] → ∀ a d, M' a = none → ts C (some d) a (PEnds.mk (fun σ' M'' => dn (σ'.set i none) M'') dr noX (fun σ' M'' => db (σ'.set i none) M'') (fun σ' M'' => dc (σ'.set i none) M'')) ((List.replicate n none).set i (some (.exc a d fs))) M')) ∧
      (b = false → de C fs M')) db dc) σ M) : pTryAsF n i exm tb ts (PEnds.mk dn dr de db dc) σ M := h
theorem w_isFp {a : Addr} {b : Option Bool} {M : Mem} {Q : PQ} (h : need b fun b => Q (.bl b) M) : kIsF a none b (.ptr a) M Q := ⟨⟨rfl, rfl⟩, h⟩
theorem w_isFx {a d : Addr} {fs : List (Str × PV)} {b : Option Bool} {M : Mem} {Q : PQ} (h : need b fun b => Q (.bl b) M) : kIsF a (some d) b (.exc a d fs) M Q := ⟨⟨rfl, rfl⟩, h⟩
theorem w_xf {a d : Addr} {f : Str} {x : PV} {fs : List (Str × PV)} {M : Mem} {Q : PQ} (e : fs.lookup f = some x) (h : Q x M) : kXf a (some d) f (.exc a d fs) M Q := ⟨rfl, rfl, need_by e h⟩
end PL
set_option Elab.async false
set_option linter.all false
set_option maxRecDepth 100000
/-! enumerate(list), x in list, isinstance(object, C) -/
namespace PL
open PySem PySem.Spec PyProof.Rows L2
section
variable {X : Cx} {a b c e tg : Expr} {ta tb tc te to : PTE} {pos p : Pos}
/-! ### enumerate(list) -/
def enumF (k : Nat) : List PV → List PV
  | [] => []
  | x :: xs => .tup [.int k, x] :: enumF (k + 1) xs
theorem enumF_len : ∀ (k : Nat) (xs : List PV), (enumF k xs).length = xs.length
  | _, [] => rfl
  | k, x :: xs => congrArg (· + 1) (enumF_len (k + 1) xs)
theorem enumF_at : ∀ {xs : List PV} {k i : Nat} {x : PV}, xs[i]? = some x → (enumF k xs)[i]? = some (.tup [.int ((k + i : Nat) : Int), x])
  | [], _, _, _, h => by simp at h
  | y :: ys, k, 0, x, h => by
    cases h
    rfl
  | y :: ys, k, i + 1, x, h => by
    show (enumF (k + 1) ys)[i]? = _
    rw [enumF_at (k := k + 1) (i := i) (x := x) h, show k + 1 + i = k + (i + 1) by omega]
def piE (ta : PTE) : PTI := fun E σ M Q => ta E σ M fun x M1 => need (lstF x) fun xs => Q (enumF 0 xs) M1
/-! ### x in list -/
def inLP (f : Bool → Bool) : PO2 := fun x y M Q => need (toM M x) fun d => need (toM M y) fun e => d.depth ≤ 64 ∧ e.depth ≤ 64 ∧ ∃ ds, e = .list ds ∧ Q (.bl (f (ds.any fun z => PyData.eqv z d))) M
abbrev oInL : PO2 := inLP id
abbrev oNinL : PO2 := inLP not
theorem LE.ninL (hu : X.A.units + 65 < cLine) (ha : LE X a ta) (hb : LE X b tb) (hm : behindInMarks .NotIn b = false := by rfl) : LE X (.Compare a [.NotIn] [b] pos) (pBin oNinL ta tb) := LE.cmp (L2.op_notInD hu) (fun F M H x y xv yv Q Qv rm rx ry h k => by
  obtain ⟨d, e1, h⟩ := need_of h
  obtain ⟨e, e2, h1, h2, ds, rfl, h3⟩ := need_of h
  obtain ⟨a1, a2⟩ := toM_dp rm rx e1
  obtain ⟨b1, b2⟩ := toM_dp rm ry e2
  exact ⟨d, ds, a1, b1, shaped_of a2 h1, shaped_of b2 h2, k _ _ (LQ.now rm (.bl _) h3)⟩) hm ha hb
theorem LT.ninL (hu : X.A.units + 65 < cLine) (ha : LE X a ta) (hb : LE X b tb) (hm : behindInMarks .NotIn b = false := by rfl) : LT X (.Compare a [.NotIn] [b] pos) (pTest (pBin oNinL ta tb)) := LT.cmp (L2.op_notInD hu) (fun F M H x y xv yv Q Qv rm rx ry h k => by
  obtain ⟨d, e1, h⟩ := need_of h
  obtain ⟨e, e2, h1, h2, ds, rfl, h3⟩ := need_of h
  obtain ⟨a1, a2⟩ := toM_dp rm rx e1
  obtain ⟨b1, b2⟩ := toM_dp rm ry e2
  exact ⟨d, ds, a1, b1, shaped_of a2 h1, shaped_of b2 h2, k _ _ (LQ.now rm (.bl _) h3)⟩) hm ha hb
/-! ### isinstance(object, C) -/
def kIsC (C : Addr) (x : PV) (M : Mem) (Q : PQ) : Prop := match x with
  | .obj D _ => D = C ∧ Q (.bl true) M
  | _ => False
end
end PL
set_option Elab.async false
set_option linter.all false
set_option maxRecDepth 100000
/-! divmod -/
namespace PL
open PySem PySem.Spec PyProof.Rows L2
section
variable {X : Cx} {a b : Expr} {t : PTA} {pos p : Pos}
def kDivmod (x y : PV) (M : Mem) (Q : PQ) : Prop := match x, y with | .int i, .int j => L2.CDiv i j ∧ Q (.tup [.int (i / j), .int (i % j)]) M | _, _ => False
theorem LE.divmod (hg : Gl X "divmod") (hm : X.mg "divmod" = none) (ha : LA X [a, b] t) (he : starEach [a, b] X.env = (false, eval a X.env) :: starEach [b] X.env := by rfl) (hpl : (backTo pos (starEach [b] X.env)).any (·.1) = false := by rfl) : LE X (.Call (.Name "divmod" p) [a, b] [] pos) (pCallB (on2 kDivmod) t) := by
  refine LE.callB call_divmod (fun F M H xs vs Q Qv rm rx h k => ?_) hg hm (by decide +kernel) ha (he := he) (hpl := hpl)
  obtain ⟨x, y, ex, h1⟩ := on2_of h
  subst ex
  obtain ⟨v, w, ev, rx1, ry1⟩ := rx.two
  subst ev
  cases rx1 <;> cases ry1 <;> first
    | exact h1.elim
    | exact ⟨_, _, rfl, h1.1, fun l nl => k _ _ ⟨_, M, _, rm.beh nl, .tup (SqT.of upd_same) (.cons (.int _) (.cons (.int _) .nil)), h1.2⟩⟩
end
end PL
set_option Elab.async false
set_option linter.all false
namespace PL
open PySem PySem.Spec PyProof.Rows PyProof L2 PySem.W
variable {X : Cx} {tg : Expr}
def iRngV (te : TE) : TI := fun σ H R => te σ H fun x H1 => ∃ a lo hi, x = .ref a ∧ H1 a = some (.rng lo hi) ∧ (-(2 ^ 62) ≤ lo ∧ lo < 2 ^ 62 ∧ -(2 ^ 62) ≤ hi ∧ hi < 2 ^ 62) ∧ R (Itr lo (hi - lo).toNat) H1
/-! ### a range as a value -/
section
variable {e a : Expr} {te : PTE} {t : PTA} {pos p : Pos}
def kRg1 (x : PV) (M : Mem) (Q : PQ) : Prop := match x with | .int j => Q (.rng 0 j) M | _ => False
def kRg2 (x y : PV) (M : Mem) (Q : PQ) : Prop := match x, y with | .int i, .int j => Q (.rng i j) M | _, _ => False
/-- `for x in r`, r a range object -/
def piV (te : PTE) : PTI := fun E σ M Q => te E σ M fun x M1 => match x with | .rng lo hi => (-(2 ^ 62) ≤ lo ∧ lo < 2 ^ 62 ∧ -(2 ^ 62) ≤ hi ∧ hi < 2 ^ 62) ∧ Q (rngP lo (hi - lo).toNat) M1 | _ => False
theorem w_rg1 {j : Int} {M : Mem} {Q : PQ} (h : Q (.rng 0 j) M) : kRg1 (.int j) M Q := h
theorem w_rg2 {i j : Int} {M : Mem} {Q : PQ} (h : Q (.rng i j) M) : kRg2 (.int i) (.int j) M Q := h
end
end PL
set_option Elab.async false
set_option linter.all false
namespace PL
open PySem PySem.Spec PyProof.Rows PyProof L2 PySem.W
section
variable {X : Cx} {a e : Expr} {to te : PTE} {pos : Pos}
theorem flat_intsI (ys : List Int) : (ys.map V.int).all flatV = true := by
  rw [List.all_map]
  exact List.all_eq_true.mpr fun _ _ => rfl
/-- t.index(i), t a tuple of ints: the first place -/
theorem mt_tup_indexI : MtR X "tuple.index" (fun x xs H Q => ∃ p, ∃ ys : List Int, ∃ z j, x = .ref p ∧ xs = [.int z] ∧ SqT X.K H p (ys.map V.int) ∧ ys[j]? = some z ∧ (∀ m, m < j → ys[m]? ≠ some z) ∧ Q (.int (j : Nat)) H) := by
  intro pins s σ H x xs v us Q I rx rs h
  obtain ⟨p, ys, z, j, rfl, rfl, hq, hy, hno, q⟩ := h
  cases rx
  obtain ⟨u, rfl, t, rfl⟩ := vals1 rs
  obtain ⟨its, r, pl, hz⟩ := I.tuple hq
  obtain ⟨⟨cls, dd, dt, sl⟩, ho, hc, n, hd⟩ := pl
  simp only at hc hd
  subst hc
  subst hd
  have hl : its.toArray.size = ys.length := by rw [List.size_toArray, ← r.length, List.length_map]
  have hj : j < its.toArray.size := by rw [hl]; exact (List.getElem?_eq_some_iff.mp hy).1
  have at' : ∀ (m : Nat) (hm : m < its.toArray.size), ∃ y t', ys[m]? = some y ∧ its.toArray[m] = Value.int y t' := fun m hm => by
    have hm' : m < ys.length := by rw [← hl]; exact hm
    obtain ⟨w, hw, t', hw'⟩ := r.get (i := m) (x := .int ys[m]) (by simp [hm'])
    refine ⟨ys[m], t', List.getElem?_eq_getElem hm', ?_⟩
    have e := (List.getElem?_eq_some_iff.mp hw).2
    rw [← hw', ← e]
    simp
  refine call_meets PySem.F.slot_tuple_index ⟨_, ho, rfl⟩ PySem.F.entry_tuple_index (PySem.F.args_tuple_index_2 _ _) (TI.tuple_indexAt p its.toArray n dd sl (.int z t) (eqU (.int z)) j hj ?_ ?_)
    ⟨ho, fun w hw => mem_eqAt (x := .int z) ⟨t, rfl⟩ rfl r (flat_intsI ys) w (by simpa using hw), ⟨.int (j : Nat), H, I.tok _, ⟨_, rfl⟩, q⟩⟩
  · obtain ⟨y, t', h1, h2⟩ := at' j hj
    rw [hy] at h1
    cases h1
    rw [h2]
    show (z == z) = true
    exact beq_self_eq_true z
  · intro m hm hmj
    obtain ⟨y, t', h1, h2⟩ := at' m hm
    rw [h2]
    show (y == z) = false
    exact beq_eq_false_iff_ne.mpr fun e => hno m hmj (e ▸ h1)
end
end PL
set_option Elab.async false
set_option linter.all false
namespace PL
open PySem PySem.Spec PyProof.Rows PyProof L2 PySem.W
/-! ### a comprehension with two clauses, no tests -/
/-- the inner walk; Q is told the list so far -/
def pLcI (i1 : Nat) (te : PTE) : List PV → List PV → PSt → Mem → (List PV → Mem → Prop) → Prop
  | [], acc => fun _ M Q => Q acc M
  | x :: xs, acc => fun σ M Q => te noX (σ.set i1 (some x)) M fun y M1 => acc.length < sizeLine ∧ pLcI i1 te xs (acc ++ [y]) σ M1 Q
def pLcO (i : Nat) (wi1 : PTI) (i1 : Nat) (te : PTE) : List PV → List PV → PSt → Mem → (List PV → Mem → Prop) → Prop
  | [], acc => fun _ M Q => Q acc M
  | x :: xs, acc => fun σ M Q => wi1 noX ((σ.set i1 none).set i (some x)) M fun ys M1 => pLcI i1 te ys acc ((σ.set i1 none).set i (some x)) M1 fun acc' M2 => pLcO i wi1 i1 te xs acc' σ M2 Q
/-- the new list never changes -/
def pLc2 (wi : PTI) (i : Nat) (wi1 : PTI) (i1 : Nat) (te : PTE) : PTE := fun E σ M Q => wi E σ M fun xs M1 => pLcO i wi1 i1 te xs [] σ M1 fun acc M2 => Q (.lst acc) M2
/-- the new list may change -/
def pLc2M (wi : PTI) (i : Nat) (wi1 : PTI) (i1 : Nat) (te : PTE) : PTE := fun E σ M Q => wi E σ M fun xs M1 => pLcO i wi1 i1 te xs [] σ M1 fun acc M2 => ∀ p, M2 p = none → Q (.ptr p) (M2.put p (.lst acc))
theorem RS.setW {K : PySem.W.Frag} {F : Hp} {σ : PSt} {σv : L2.St} (r : RS K F σ σv) (i : Nat) : RS K F (σ.set i none) (σv.set i none) := by
  refine ⟨by rw [List.length_set, List.length_set, r.len], fun j y h => ?_⟩
  by_cases hj : i = j
  · subst hj
    rw [List.getElem?_set] at h
    rw [if_pos rfl] at h
    split at h <;> cases h
  · rw [List.getElem?_set_ne hj] at h ⊢
    exact r.at_ j y h
theorem keepD {K : PySem.W.Frag} {F M H Fa Ma Ha} {D : Addr} {o : HO} (nF : F D = none) (nM : M D = none) (hD : H D = some o) (b : Beh K F M H Fa Ma Ha) : Fa D = none ∧ Ma D = none ∧ Ha D = some o := by
  refine ⟨?_, ?_, b.fr.keep D _ hD nM⟩
  · cases q : Fa D with
    | none => rfl
    | some u =>
      rcases b.fg D (by rw [q]; exact Option.some_ne_none _) with z | z | z
      · exact absurd nF z
      · exact absurd nM z
      · rw [hD] at z; cases z
  · cases q : Ma D with
    | none => rfl
    | some u =>
      rcases b.fr.grow D (by rw [q]; exact Option.some_ne_none _) with z | z
      · exact absurd nM z
      · rw [hD] at z; cases z
section
variable {X : Cx} {elt iter iter1 : Expr} {scope : Scope} {x x1 : Str} {i i1 : Nat} {pos pt pt1 : Pos} {wi wi1 : PTI} {te : PTE}
def IBlk (X : Cx) (scope : Scope) (tg it : Expr) : TI := fun σ H R => ∀ s0 H0 C cl fp, WI (Blk X scope s0 H0 C cl fp) tg it σ H R
/-! one clause, the new list may change -/
def pLcM (wi : PTI) (i : Nat) (te : PTE) : PTE := fun E σ M Q => wi E σ M fun xs M1 => pLcI i te xs [] σ M1 fun acc M2 => ∀ p, M2 p = none → Q (.ptr p) (M2.put p (.lst acc))
end
theorem w_lc2 {wi wi1 : PTI} {i i1 : Nat} {te : PTE} {E : PXK} {σ : PSt} {M : Mem} {Q : PQ} (h : wi E σ M fun xs M1 => pLcO i wi1 i1 te xs [] σ M1 fun acc M2 => Q (.lst acc) M2) : pLc2 wi i wi1 i1 te E σ M Q := h
theorem w_lc2M {wi wi1 : PTI} {i i1 : Nat} {te : PTE} {E : PXK} {σ : PSt} {M : Mem} {Q : PQ} (h : wi E σ M fun xs M1 => pLcO i wi1 i1 te xs [] σ M1 fun acc M2 => ∀ p, M2 p = none → Q (.ptr p) (M2.put p (.lst acc))) : pLc2M wi i wi1 i1 te E σ M Q := h
theorem w_lcM {wi : PTI} {i : Nat} {te : PTE} {E : PXK} {σ : PSt} {M : Mem} {Q : PQ} (h : wi E σ M fun xs M1 => pLcI i te xs [] σ M1 fun acc M2 => ∀ p, M2 p = none → Q (.ptr p) (M2.put p (.lst acc))) : pLcM wi i te E σ M Q := h
end PL
set_option Elab.async false
set_option linter.all false
namespace PL
open PySem PySem.Spec PyProof.Rows PyProof L2 PySem.W
/-! ### a constant of the program that is data: a global tuple -/
/-- v stands in the scope K and is x -/
def KIs (K : PySem.W.Frag) (x : PV) (v : Value) : Prop := ∃ u : V, RelV u v ∧ ∀ F, R K F x u
theorem KIs.int {K : PySem.W.Frag} {i : Int} {t : Tok} : KIs K (.int i) (.int i t) := ⟨.int i, ⟨t, rfl⟩, fun _ => .int i⟩
def KAll (K : PySem.W.Frag) : List PV → List Value → Prop
  | [], [] => True
  | x :: xs, v :: vs => KIs K x v ∧ KAll K xs vs
  | _, _ => False
theorem KAll.vals {K : PySem.W.Frag} : ∀ {xs : List PV} {vs : List Value}, KAll K xs vs → ∃ us : List V, Vals us vs ∧ ∀ F, RAll K F xs us
  | [], [], _ => ⟨[], .nil, fun _ => .nil⟩
  | x :: xs, v :: vs, h => by
    obtain ⟨⟨u, hu, hr⟩, ht⟩ := h
    obtain ⟨us, h1, h2⟩ := ht.vals
    exact ⟨u :: us, .cons hu h1, fun F => .cons (hr F) (h2 F)⟩
theorem KIs.tup {K : PySem.W.Frag} {xs : List PV} {a : Addr} {o : Obj} {its : List Value} {n : Nat} (hk : K.lookup a = some o) (hc : o.cls = .type "tuple") (hd : o.data = .seq its.toArray n) (hz : its.length ≤ sizeLine) (h : KAll K xs its) : KIs K (.tup xs) (.ref a) := by
  obtain ⟨us, h1, h2⟩ := h.vals
  exact ⟨.ref a, rfl, fun F => .tup (.inr ⟨o, its.toArray, n, hk, hc, hd, by simpa using hz, by simpa using h1⟩) (h2 F)⟩
theorem LE.globT {X : Cx} {x : Str} {pos : Pos} {pv : PV} (hg : Gl X x) (hm : ∃ v, X.mg x = some v ∧ KIs X.K pv v) (hd : (x == ("__debug__" : Str)) = false := by decide) : LE X (.Name x pos) (pC pv) := by
  refine ⟨fun σv H σ F M Q E tk rm rs h => ?_⟩
  obtain ⟨v, hm, u, hu, hr⟩ := hm
  exact WE.of (pe_glob (v := u) hg hm hu hd) (LQ.now rm (hr F) h)
end PL
set_option Elab.async false
set_option linter.all false
namespace PL
open PySem PySem.Spec PyProof.Rows PyProof L2 PySem.W
section
variable {X : Cx} {es : List Expr} {b : Expr} {t : TA} {tb : TE} {pos p1 p2 : Pos}
/-- (e, ..) + t, of which it is known that it has no dict -/
def kNewT (xs : List V) (H : Hp) (Q : VK) : Prop := ∀ p o, o.dict = none → H p = none → Q (.ref p) (upd H p (.frz o (.tup xs)))
def tTupN (t : TA) : TE := fun σ H Q => t σ H fun xs H1 => xs.length ≤ sizeLine ∧ kNewT xs H1 Q
theorem pe_tupN {x1} (h : PA X es t) : PE X (.Tuple es x1 pos) (tTupN t) := by
  refine ⟨fun pins s σ H Q I hq => ?_⟩
  refine wpAny_Tuple_spliced (thn (h.run pos pins s σ H _ I hq) fun us s1 ⟨xs, H1, I1, r, z, q⟩ => ⟨by rw [← r.length]; exact z, ?_⟩)
  have hf : H1 s1.heap.objs.size = none := I1.hok.fresh (Nat.le_refl _)
  refine ⟨.ref s1.heap.objs.size, upd H1 s1.heap.objs.size (.frz { cls := .type "tuple", data := .seq us.toArray } (.tup xs)), I1.laid (t' := s1.toks) (fun b u e => Heap.get?_push_of_some _ e) (Nat.le_refl _) ?_, rfl, q _ _ rfl hf⟩
  exact ⟨Heap.get?_push_size _ rfl, z, us, r, ⟨_, Heap.get?_push_size _ rfl, rfl, _, rfl⟩⟩
def rCatN (K : PySem.W.Frag) : R2 := fun x y H Q => ∃ a b o xs ys, x = .ref a ∧ y = .ref b ∧ H a = some (.frz o (.tup xs)) ∧ o.dict = none ∧ xs ≠ [] ∧ SqT K H b ys ∧ xs.length + ys.length ≤ sizeLine ∧
  (ys = [] → Q (.ref a) H) ∧ (ys ≠ [] → kNewT (xs ++ ys) H Q)
/-- a method of a tuple without a dict -/
def tBMT (r : V → List V → Hp → VK → Prop) (to : TE) (t : TA) : TE := fun σ H Q => to σ H fun x H1 => (∃ a o xs, x = .ref a ∧ H1 a = some (.frz o (.tup xs)) ∧ o.dict = none) ∧ t σ H1 fun xs H2 => r x xs H2 Q
theorem pe_bmT {o e : Expr} {es : List Expr} {to : TE} {t : TA} {name : Str} {apos cpos : Pos} {id : String} {r : V → List V → Hp → VK → Prop} (pa : PlainAttrs "tuple") (slot : Slot "tuple" name id) (hty : typeOf (.builtin id) = pure (.type "method_descriptor")) (hm : MtR X id r) (ho : PE X o to) (ha : PA X (e :: es) t)
    (hbase : attributeBase o name X.env (eval o X.env) = eval o X.env := by rfl)
    (hfew : ((backTo cpos (starEach (e :: es) X.env)).all (fun x => !x.1) && (backToKw cpos (keywordEach [] X.env)).all (fun x => x.1.isSome)
      && decide ((e :: es).length + ([] : List Keyword).length + (if ([] : List Keyword).isEmpty then 0 else 1) < 30)) = true := by rfl)
    (hline : (apos.endLine == cpos.line) = true := by rfl) (hs : starEach (e :: es) X.env = (false, eval e X.env) :: starEach es X.env := by rfl) (hplain : (backTo cpos (starEach es X.env)).any (·.1) = false := by rfl) :
    PE X (.Call (.Attribute o name apos) (e :: es) [] cpos) (tBMT r to t) := by
  refine ⟨fun pins s σ H Q I h => ?_⟩
  refine wpAny_Call_method_late hbase hfew hline rfl (thn (ho.run pins s σ H _ I h) fun v s1 ⟨x, H1, I1, r1, ty, q1⟩ => ?_)
  obtain ⟨a, o', xs, rfl, hH, hd⟩ := ty
  obtain rfl : v = Value.ref a := r1
  obtain ⟨its, _, pl, _⟩ := I1.tuple (.inl (.inr ⟨o', hH⟩))
  have hg : s1.heap.get? a = some o' := (I1.hok a _ hH).1
  refine ⟨"tuple", id, pa, slot, hty, pl.typeIs, fun a' e' => ⟨o', by cases e'; exact hg, hd⟩, ?_⟩
  have hA := ha.run cpos pins s1 σ H1 _ I1 q1
  rw [hs] at hA ⊢
  refine Calls.callWith_builtin (by show (false || (backTo cpos (starEach es X.env)).any (·.1)) = false; rw [hplain] <;> rfl) (Calls.evalArgs_plain ?_)
  exact thn hA fun us s2 ⟨vs, H2, I2, r2, q2⟩ => hm pins s2 σ H2 (.ref a) vs _ us Q I2 rfl r2 q2
end
section
variable {X : Cx} {e a b : Expr} {es : List Expr} {te ta tb : PTE} {t : PTA} {pos : Pos}
def oCatN (xs : List PV) (y : PV) (M : Mem) (Q : PQ) : Prop := match y with
  | .tup ys => xs.length + ys.length ≤ sizeLine ∧ Q (.tpd (xs ++ ys)) M
  | _ => False
def pCatN (t : PTA) (tb : PTE) : PTE := fun E σ M Q => t E σ M fun xs M1 => tb E σ M1 fun y M2 => oCatN xs y M2 Q
/-- it is a tuple -/
def asT : PV → PV
  | .tpd xs => .tup xs
  | x => x
theorem R.asT {K : PySem.W.Frag} {F : Hp} {x : PV} {v : V} (r : R K F x v) : R K F (asT x) v := by
  cases x with
  | tpd xs =>
    cases r with
    | tpd h d q => exact .tup (.inl (.inr ⟨_, h⟩)) q
  | _ => exact r
def pAsT (te : PTE) : PTE := fun E σ M Q => te E σ M fun x M1 => Q (asT x) M1
theorem LE.asT (h : LE X e te) : LE X e (pAsT te) := by
  refine ⟨fun σv H σ F M Q E tk rm rs hh => (h.run σv H σ F M _ E tk rm rs hh).mono ?_⟩
  rintro v H1 ⟨F1, M1, x, b1, rx, hx⟩
  exact ⟨F1, M1, _, b1, rx.asT, hx⟩
/-! ### t.index(i) -/
def kTidx (xs : List PV) (x : PV) (M : Mem) (Q : PQ) : Prop := match x with
  | .int z => need (intsOf xs) fun ns => ∃ j : Nat, ns[j]? = some z ∧ (∀ m, m < j → ns[m]? ≠ some z) ∧ Q (.int j) M
  | _ => False
def kTp (o : PV) (k : List PV → Prop) : Prop := match o with
  | .tpd xs => k xs
  | _ => False
def pTIdx (to te : PTE) : PTE := fun E σ M Q => to E σ M fun o M1 => kTp o fun xs => te E σ M1 fun x M2 => kTidx xs x M2 Q
theorem LE.tidx {apos : Pos} (ho : LE X a ta) (he : LE X e te) (hbase : attributeBase a "index" X.env (eval a X.env) = eval a X.env := by rfl)
    (hfew : ((backTo pos (starEach [e] X.env)).all (fun x => !x.1) && (backToKw pos (keywordEach [] X.env)).all (fun x => x.1.isSome) && decide ([e].length + ([] : List Keyword).length + (if ([] : List Keyword).isEmpty then 0 else 1) < 30)) = true := by rfl)
    (hline : (apos.endLine == pos.line) = true := by rfl) (hs : starEach [e] X.env = (false, eval e X.env) :: starEach [] X.env := by rfl) (hplain : (backTo pos (starEach [] X.env)).any (·.1) = false := by rfl) :
    LE X (.Call (.Attribute a "index" apos) [e] [] pos) (pTIdx ta te) := by
  refine ⟨fun σv H σ F M Q E tk rm rs h => WE.of (pe_bmT PySem.F.plainAttrs_tuple PySem.F.slot_tuple_index PySem.F.type_tuple_index mt_tup_indexI WE.pe (pa_cons WE.pe pa_nil hs) hbase hfew hline hs hplain) ?_⟩
  refine (ho.run σv H σ F M _ E tk rm rs h).mono ?_
  rintro v H1 ⟨F1, M1, x, b1, rx, hx⟩
  unfold kTp at hx
  split at hx
  · rename_i xs
    cases rx with
    | tpd hF hd q =>
      refine ⟨⟨_, _, _, rfl, b1.rm.fr _ _ hF, hd⟩, ?_⟩
      refine (he.run σv H1 σ F1 M1 _ E (tk.tr b1) b1.rm (rs.same b1.sm) hx).mono ?_
      rintro w H2 ⟨F2, M2, y, b2, ry, hy⟩
      unfold kTidx at hy
      split at hy
      · rename_i z
        cases ry
        obtain ⟨ns, e2, j, h1, h2, h3⟩ := need_of hy
        have q2 := q.same b2.sm
        rw [intsOf_eq e2] at q2
        have hq := b2.rm.fr _ _ (b2.sm _ _ hF)
        rw [q2.intsI] at hq
        exact ⟨_, ns, z, j, rfl, rfl, .inl (.inr ⟨_, hq⟩), h1, h2, F2, M2, _, b1.trans b2, .int _, h3⟩
      · exact hy.elim
  · exact hx.elim
theorem w_catN {E : PXK} {σ : PSt} {M : Mem} {Q : PQ} (h : t E σ M fun xs M1 => tb E σ M1 fun y M2 => oCatN xs y M2 Q) : pCatN t tb E σ M Q := h
theorem w_asT {E : PXK} {σ : PSt} {M : Mem} {Q : PQ} (h : te E σ M fun x M1 => Q (asT x) M1) : pAsT te E σ M Q := h
theorem w_tidx {E : PXK} {σ : PSt} {M : Mem} {Q : PQ} (h : ta E σ M fun o M1 => kTp o fun xs => te E σ M1 fun x M2 => kTidx xs x M2 Q) : pTIdx ta te E σ M Q := h
theorem w_kTp {xs : List PV} {k : List PV → Prop} (h : k xs) : kTp (.tpd xs) k := h
theorem w_kTidx {ns : List Int} {z : Int} {M : Mem} {Q : PQ} (j : Nat) (h1 : ns[j]? = some z) (h2 : ∀ m, m < j → ns[m]? ≠ some z) (h : Q (.int j) M) : kTidx (ns.map .int) (.int z) M Q := need_by (intsOf_map ns) ⟨j, h1, h2, h⟩
/-! ### xs + ys as a list that may change; the left one is forgotten -/
def oAddLM : PO2 := fun x y M Q => need (lstM M x) fun xs => need (lstM M y) fun ys => xs.length + ys.length ≤ sizeLine ∧ ∀ q, M q = none → Q (.ptr q) (M.put q (.lst (xs ++ ys)))
def oAddLD : PO2 := fun x y M Q => match x with
  | .ptr p => need (lstM M x) fun xs => need (lstM M y) fun ys => xs.length + ys.length ≤ sizeLine ∧ ∀ q, (M.drop p) q = none → Q (.ptr q) ((M.drop p).put q (.lst (xs ++ ys)))
  | _ => False
end
end PL
set_option Elab.async false
set_option linter.all false
namespace PL
open PySem PySem.Spec PyProof.Rows PyProof L2 PySem.W
section
variable {X : Cx} {a e : Expr} {to te : PTE} {pos : Pos}
def kTCnt (xs : List PV) (x : PV) (M : Mem) (Q : PQ) : Prop := match x with
  | .int z => need (intsOf xs) fun ns => Q (.int ((ns.countP fun y => y == z : Nat) : Int)) M
  | _ => False
def pTCnt (to te : PTE) : PTE := fun E σ M Q => to E σ M fun o M1 => kTp o fun xs => te E σ M1 fun x M2 => kTCnt xs x M2 Q
theorem w_tcnt {E : PXK} {σ : PSt} {M : Mem} {Q : PQ} (h : to E σ M fun o M1 => kTp o fun xs => te E σ M1 fun x M2 => kTCnt xs x M2 Q) : pTCnt to te E σ M Q := h
theorem w_kTCnt {ns : List Int} {z : Int} {M : Mem} {Q : PQ} (h : Q (.int ((ns.countP fun y => y == z : Nat) : Int)) M) : kTCnt (ns.map .int) (.int z) M Q := need_by (intsOf_map ns) h
end
section
variable {X : Cx} {a b c e : Expr} {es : List Expr} {ta tb tc : PTE} {t : PTA} {pos : Pos}
/-! ### t + (e, ..), and with such a tuple ahead -/
def rCatR (K : PySem.W.Frag) : R2 := fun x y H Q => ∃ a b o xs ys, x = .ref a ∧ y = .ref b ∧ SqT K H a xs ∧ H b = some (.frz o (.tup ys)) ∧ o.dict = none ∧ ys ≠ [] ∧ xs.length + ys.length ≤ sizeLine ∧
  (xs = [] → Q (.ref b) H) ∧ (xs ≠ [] → kNewT (xs ++ ys) H Q)
def oCatR (x : PV) (ys : List PV) (M : Mem) (Q : PQ) : Prop := match x with
  | .tup xs => xs.length + ys.length ≤ sizeLine ∧ Q (.tpd (xs ++ ys)) M
  | _ => False
def pCatR (ta : PTE) (t : PTA) : PTE := fun E σ M Q => ta E σ M fun x M1 => t E σ M1 fun ys M2 => oCatR x ys M2 Q
/-- t + u, t known to have no dict -/
def oCatD : PO2 := fun x y M Q => match x, y with
  | .tpd xs, .tup ys => xs ≠ [] ∧ xs.length + ys.length ≤ sizeLine ∧ Q (.tpd (xs ++ ys)) M
  | _, _ => False
/-! ### a <= b < c -/
theorem LT.chain {op op' : CmpOp} {p q : Int → Int → Bool} (ho : OpR X (compareOp op) (rI0 fun i j => .bl (p i j))) (ho' : OpR X (compareOp op') (rI0 fun i j => .bl (q i j)))
    (hm : lastMarks [op, op'] [b, c] = false) (ha : LE X a ta) (hb : LE X b tb) (hc : LE X c tc) : LT X (.Compare a [op, op'] [b, c] pos) (pTest (pChain p q ta tb tc)) := by
  refine ⟨fun σv H σ F M Q E tk rm rs h => WT.of (pt_chain ho ho' WE.pe WE.pe WE.pe hm) ?_⟩
  refine seq2 ha hb tk rm rs h fun x y xv yv F2 M2 H2 bh rx ry h2 => ?_
  cases rx <;> cases ry <;> first
    | exact h2.elim
    | skip
  rename_i i j
  dsimp only at h2
  refine ⟨i, j, rfl, rfl, p i j, rfl, ?_⟩
  split
  · rename_i hp
    rw [if_pos hp] at h2
    refine (hc.run σv H2 σ F2 M2 _ E (tk.tr bh) bh.rm (rs.same bh.sm) h2).mono ?_
    rintro v H3 ⟨F3, M3, z, b3, rz, hz⟩
    cases rz <;> first
      | exact hz.elim
      | exact ⟨j, _, rfl, rfl, _, rfl, F3, M3, bh.trans b3, hz⟩
  · rename_i hp
    rw [if_neg hp] at h2
    exact ⟨_, rfl, F2, M2, bh, h2⟩
theorem LT.lele (ha : LE X a ta) (hb : LE X b tb) (hc : LE X c tc) (hm : lastMarks [CmpOp.LtE, CmpOp.LtE] [b, c] = false := by with_unfolding_all rfl) : LT X (.Compare a [.LtE, .LtE] [b, c] pos) (pTest (pChain (fun i j => decide (i ≤ j)) (fun i j => decide (i ≤ j)) ta tb tc)) :=
  LT.chain op_le op_le hm ha hb hc
theorem w_catR {E : PXK} {σ : PSt} {M : Mem} {Q : PQ} (h : ta E σ M fun x M1 => t E σ M1 fun ys M2 => oCatR x ys M2 Q) : pCatR ta t E σ M Q := h
end
end PL
set_option Elab.async false
set_option linter.all false
set_option maxRecDepth 100000
namespace PL
open PySem PySem.Spec PyProof.Rows L2
section
variable {X : Cx} {a b : Expr} {ta tb : PTE} {pos : Pos}
/-! ### [..] * n, a list that may change -/
def oRepM : PO2 := fun x y M Q => match x, y with
  | .lst xs, .int k => (0 ≤ k ∧ k < 2 ^ 62) ∧ xs.length * k.toNat ≤ sizeLine ∧ ∀ q, M q = none → Q (.ptr q) (M.put q (.lst (List.replicate k.toNat xs).flatten))
  | _, _ => False
end
end PL
set_option Elab.async false
set_option linter.all false
set_option maxRecDepth 100000
namespace PL
open PySem PySem.Spec PyProof.Rows L2
/-! ### [elt for x in xs], xs a list that may change, but doesn't meanwhile -/
def pLcV (x0 : PV) (xs0 : List PV) (i : Nat) (te : PTE) : List PV → List PV → PSt → Mem → (List PV → Mem → Prop) → Prop
  | [], acc => fun _ M Q => Q acc M
  | x :: xs, acc => fun σ M Q => te noX (σ.set i (some x)) M fun y M1 => acc.length < sizeLine ∧ lstOf M1 x0 = some xs0 ∧ pLcV x0 xs0 i te xs (acc ++ [y]) σ M1 Q
def pLcLv (tl : PTE) (i : Nat) (te : PTE) : PTE := fun E σ M Q => tl E σ M fun x M1 => need (lstOf M1 x) fun xs => pLcV x xs i te xs [] σ M1 fun acc M2 => Q (.lst acc) M2
section
variable {X : Cx} {elt iter : Expr} {scope : Scope} {x : Str} {i : Nat} {pos pt : Pos} {tl te : PTE}
end
end PL
set_option Elab.async false
set_option linter.all false
set_option maxRecDepth 100000
namespace PL
open PySem PySem.Spec PyProof.Rows L2
section
variable {X : Cx} {a b c e : Expr} {ta tb tc te to : PTE} {pos p : Pos} {es : List Expr} {t : PTA} {x : Str}
/-! sorted of a list of data that are alike (tuples in tuples) -/
def sortZ {α : Type} (xs : List α) (ds : List PyData) : List α := ((xs.zip ds).mergeSort (PySem.W.dataLe false Prod.snd)).map Prod.fst
theorem each_zip {K : PySem.W.Frag} {H : Hp} : ∀ {xs : List V} {ds : List PyData} {us : List Value}, DpAll K H xs ds → Vals xs us → PySem.W.EachIs (fun (u : Value) (b : V × PyData) => RelV b.1 u) us (xs.zip ds)
  | _, _, _, .nil, .nil => .nil
  | _, _, _, .cons _ r, .cons h t => .cons h (each_zip r t)
theorem each_reads {X : Cx} {pins : List (Addr × Obj)} {s : Shared} {σ : L2.St} {H : Hp} (I : L2.Inv X pins σ H s) : ∀ {xs : List V} {ds : List PyData} {us : List Value}, DpAll X.K H xs ds → Vals xs us → PySem.W.EachIs (fun (u : Value) (b : V × PyData) => ∃ as, Reads s.heap u b.2 as) us (xs.zip ds)
  | _, _, _, .nil, .nil => .nil
  | _, _, _, .cons d r, .cons h t => .cons (Dp.reads I _ _ _ d h) (each_reads I r t)
theorem zip_ds {K : PySem.W.Frag} {H : Hp} : ∀ {xs : List V} {ds : List PyData}, DpAll K H xs ds → (xs.zip ds).map Prod.snd = ds ∧ (xs.zip ds).length = xs.length
  | _, _, .nil => ⟨rfl, rfl⟩
  | _, _, .cons _ r => ⟨congrArg (_ :: ·) (zip_ds r).1, congrArg (· + 1) (zip_ds r).2⟩
theorem vals_each : ∀ {us : List Value} {bs : List (V × PyData)}, PySem.W.EachIs (fun (u : Value) (b : V × PyData) => RelV b.1 u) us bs → Vals (bs.map Prod.fst) us
  | _, _, .nil => .nil
  | _, _, .cons h t => .cons h (vals_each t)
def rSortedD (K : PySem.W.Frag) : List V → Hp → VK → Prop := fun vs H Q => ∃ (a : Addr) (xs : List V) (ds : List PyData), vs = [V.ref a] ∧ SqL K H a xs ∧ DpAll K H xs ds ∧ PySem.W.AllAlike ds ∧ PySem.W.Sortable ds ∧ (∀ d ∈ ds, d.depth ≤ 60) ∧
  ∀ p, H p = none → Q (.ref p) (upd H p (.lst (sortZ xs ds)))
theorem cr_sortedD (hu : X.A.units + 65 < cLine) : CallR X (.builtin "sorted") (rSortedD X.K) := by
  intro pins s σ H vs us Q I r h
  obtain ⟨a, xs, ds, rfl, hs, hd, hal, hk, hdep, q⟩ := h
  obtain ⟨its, rv, hl, hz⟩ := I.list hs
  rw [Vals.ref1 r]
  have hzd := zip_ds hd
  refine PySem.W.sorted_data (β := V × PyData) (bs := xs.zip ds) (enc := Prod.snd) hl.isList (each_zip hd rv) (each_reads I hd rv) (by rw [hzd.1]; exact hal) (by rw [hzd.1]; exact hk) (by rw [hzd.2]; exact hz) (fun b hb => ?_) fun out hlo ho => ?_
  · have := hdep b.2 (by rw [← hzd.1]; exact List.mem_map_of_mem hb)
    omega
  · obtain ⟨ep, he'⟩ := PyProof.Rows.sortedAll_at s.heap its out.toArray
    have hv : Vals (sortZ xs ds) out := vals_each ho
    have hlen : (sortZ xs ds).length ≤ sizeLine := by
      rw [hv.length, hlo, hzd.2]
      exact hz
    exact ⟨.ref _, upd H (s.heap.objs.size + 1) (.lst (sortZ xs ds)), I.laid (t' := s.toks) (fun _ _ => PyProof.Rows.sortedAll_old) (Nat.le_succ _) ⟨hlen, out, ep, hv, he'⟩, rfl, q _ (I.hok.fresh (Nat.le_succ _))⟩
def kSortD (x : PV) (M : Mem) (Q : PQ) : Prop := need (lstOf M x) fun xs => need (toDs xs) fun ds => PySem.W.AllAlike ds ∧ PySem.W.Sortable ds ∧ (∀ d ∈ ds, d.depth ≤ 60) ∧ Q (.lst (sortZ xs ds)) M
theorem rall_zip {K : PySem.W.Frag} {F : Hp} : ∀ {xs : List PV} {vs : List V}, RAll K F xs vs → ∀ p ∈ xs.zip vs, R K F p.1 p.2
  | _, _, .nil, _, h => absurd h List.not_mem_nil
  | _, _, .cons h t, p, hp => by
    rw [List.zip_cons_cons] at hp
    rcases List.mem_cons.mp hp with rfl | hp
    · exact h
    · exact rall_zip t p hp
theorem rall_of {K : PySem.W.Frag} {F : Hp} : ∀ {zs : List (PV × V)}, (∀ p ∈ zs, R K F p.1 p.2) → RAll K F (zs.map Prod.fst) (zs.map Prod.snd)
  | [], _ => .nil
  | z :: zs, h => .cons (h z List.mem_cons_self) (rall_of fun p hp => h p (List.mem_cons_of_mem _ hp))
theorem rall_sortZ {K : PySem.W.Frag} {F : Hp} {xs : List PV} {vs : List V} {ds : List PyData} (ra : RAll K F xs vs) : RAll K F (sortZ xs ds) (sortZ vs ds) := by
  have hl : xs.length = vs.length := ra.length
  have e1 : xs.zip ds = ((xs.zip vs).zip ds).map fun p => (p.1.1, p.2) := by
    have : xs = (xs.zip vs).map Prod.fst := (List.map_fst_zip (by omega)).symm
    conv => lhs; rw [this]
    rw [List.zip_map_left]
    rfl
  have e2 : vs.zip ds = ((xs.zip vs).zip ds).map fun p => (p.1.2, p.2) := by
    have : vs = (xs.zip vs).map Prod.snd := (List.map_snd_zip (by omega)).symm
    conv => lhs; rw [this]
    rw [List.zip_map_left]
    rfl
  unfold sortZ
  rw [e1, e2, ← PySem.W.sort_maps (r := PySem.W.dataLe false Prod.snd) (fun p : (PV × V) × PyData => (p.1.1, p.2)) (fun _ _ _ _ => rfl), ← PySem.W.sort_maps (r := PySem.W.dataLe false Prod.snd) (fun p : (PV × V) × PyData => (p.1.2, p.2)) (fun _ _ _ _ => rfl), List.map_map, List.map_map]
  have := rall_of (K := K) (F := F) (zs := (((xs.zip vs).zip ds).mergeSort (PySem.W.dataLe false Prod.snd)).map Prod.fst) fun p hp => by
    obtain ⟨q, hq, rfl⟩ := List.mem_map.mp hp
    exact rall_zip ra _ (List.of_mem_zip (a := q.1) (b := q.2) ((List.mergeSort_perm _ _).mem_iff.mp hq)).1
  rw [List.map_map, List.map_map] at this
  exact this
theorem LE.sortedD (hu : X.A.units + 65 < cLine) (hg : Gl X "sorted") (hm : X.mg "sorted" = none) (ha : LA X [e] t) (he : starEach [e] X.env = (false, eval e X.env) :: starEach [] X.env := by rfl) : LE X (.Call (.Name "sorted" p) [e] [] pos) (pCallB (on1 kSortD) t) := by
  refine LE.callB (cr_sortedD hu) (fun F M H xs vs Q Qv rm rx h k => ?_) hg hm (by decide +kernel) ha (he := he)
  obtain ⟨x, ex, h1⟩ := on1_of h
  subst ex
  obtain ⟨v, ev, rx1⟩ := rx.one
  subst ev
  obtain ⟨ys, e1, h2⟩ := need_of h1
  obtain ⟨ds, e2, h3, h4, h5, h6⟩ := need_of h2
  obtain ⟨q, ws, ev, hs, ra⟩ := rx1.lstI rm e1
  subst ev
  exact ⟨q, ws, ds, rfl, hs, (toDs_dp rm.fr _ _ _ ra e2).1, h3, h4, h5, fun l nl => k _ _ ⟨_, M, _, rm.beh nl, .lst upd_same ((rall_sortZ ra).same (rm.beh (o := .lst (sortZ ws ds)) nl).sm), h6⟩⟩
theorem w_sortD {x : PV} {xs : List PV} {ds : List PyData} {M : Mem} {Q : PQ} (e1 : lstOf M x = some xs) (e2 : toDs xs = some ds) (h1 : PySem.W.AllAlike ds) (h2 : PySem.W.Sortable ds) (h3 : ∀ d ∈ ds, d.depth ≤ 60) (h : Q (.lst (sortZ xs ds)) M) : kSortD x M Q := need_by e1 (need_by e2 ⟨h1, h2, h3, h⟩)
end
end PL
set_option Elab.async false
set_option linter.all false
set_option maxRecDepth 100000
namespace PL
open PySem PySem.Spec PyProof.Rows L2 PD
/-! ### a walk over the keys of a dict -/
def ItD (d : Addr) (ep : Nat) (es : List VRow) : It :=
  ⟨fun i H => i < es.length ∧ H d = some (dO d ep es), fun i H x H' => (∃ e, es[i]? = some e ∧ x = e.2.1) ∧ H' = H, fun i H => es.length ≤ i ∧ H d = some (dO d ep es)⟩
theorem paired_at {α β : Type} {G : α → β → Prop} {l : List α} {m : List β} (h : Paired G l m) : ∀ {i : Nat} {a : α}, l[i]? = some a → ∃ b, m[i]? = some b ∧ G a b := by
  induction h with
  | nil => intro i a e; cases e
  | cons g t ih =>
    intro i a e
    cases i with
    | zero => cases e; exact ⟨_, rfl, g⟩
    | succ i => exact ih e
theorem d_raw {X : Cx} {pins : List (Addr × Obj)} {σ : L2.St} {H : Hp} {s : Shared} {d : Addr} {ep : Nat} {es : List VRow} (I : Inv X pins σ H s) (e : H d = some (dO d ep es)) :
    (d == sysModules) = false ∧ ∃ ob en, s.heap.get? d = some ob ∧ ob.ExactDict ∧ ob.data = .dict en ep ∧ en.size = es.length ∧ ∀ (i : Nat) (x : VRow), es[i]? = some x → ∃ y : DictEntry, en[i]? = some y ∧ RelV x.2.1 y.key := by
  obtain ⟨_, h2, _, w, xs, r, ob, en, q1, q2, q3, q4, _⟩ := dO_phi (I.hok d _ e)
  refine ⟨h2, ob, en, q1, q2, q3, by rw [ent_size q4]; exact paired_len r, fun i x hx => ?_⟩
  obtain ⟨y, hy, g⟩ := paired_at r hx
  exact ⟨ent w y, by rw [ent_at q4, hy]; rfl, g.2.1⟩
theorem turn_dct {P : Program} {w : World} {K : PySem.W.Frag} {tg : Expr} {d : Addr} {ep : Nat} {es : List VRow} (J : Addr) : Turn P w K tg (ItD d ep es) [J] J (fun i h => h.IsKeyIter J d i es.length ep) where
  mem := List.mem_singleton.mpr rfl
  self := fun _ _ _ _ _ st h => wpAny_pyIter_keyiter st h
  keep := fun _ _ _ st k => st.at fun oi e => k J (List.mem_singleton.mpr rfl) oi e
  obj := fun i h st b hb => by
    rw [List.mem_singleton.mp hb]
    obtain ⟨oi, e1, _, e2⟩ := st
    exact ⟨oi, e1, fun v z => by rw [e2] at z; cases z⟩
  item := by
    intro X hP hw hK hc i pins s σ H E I hf st hg
    subst hP hw hK
    obtain ⟨hi, hd⟩ := hg
    obtain ⟨g0, g1, _, g3, g4, g5⟩ := hf J (List.mem_singleton.mpr rfl)
    obtain ⟨_, ob, en, q1, _, q3, q4, q5⟩ := d_raw I hd
    obtain ⟨y, hy, ry⟩ := q5 i es[i] (List.getElem?_eq_getElem hi)
    refine next_key_item st q1 q3 q4 hy fun h2 st2 sb => ?_
    obtain ⟨oi, z1, z2, z3⟩ := id st2
    have I2 : Inv X pins σ H { s with heap := h2 } := I.turned (t' := s.toks) (fun b _ hb z => (sb.2 b hb).trans z) g0 g1 g3 g4 g5
    exact ⟨y.key, rfl, go_of (s := { s with heap := h2 }) z1 z2 z3 (by decide) ⟨_, H, I2, ry, ⟨⟨_, List.getElem?_eq_getElem hi, rfl⟩, rfl⟩, st2, fun b hb => (hf b hb).1⟩⟩
  done := by
    intro X hP hw hK hc i pins s σ H E I hf st hg
    subst hP hw hK
    obtain ⟨hi, hd⟩ := hg
    obtain ⟨g0, g1, _, g3, g4, g5⟩ := hf J (List.mem_singleton.mpr rfl)
    obtain ⟨_, ob, en, q1, _, q3, q4, _⟩ := d_raw I hd
    exact next_key_end (I.ok.hd hc) st q1 q3 q4 hi fun h2 eb => ⟨rfl, I.turned (t' := s.toks) (fun b ob hb z => eb b ob hb z) g0 g1 g3 g4 g5⟩
def tDk (td : TE) : TI := fun σ H R => td σ H fun x H1 => ∃ d ep es, x = .ref d ∧ H1 d = some (dO d ep es) ∧ R (ItD d ep es) H1
theorem pi_dct {X : Cx} {tg e : Expr} {td : TE} (he : PE X e td) : PI X tg e (tDk td) := by
  refine ⟨fun pins s σ H R I h => thn (he.run pins s σ H _ I h) fun u s1 ⟨x, H1, I1, rx, d, ep, es, ex, hd, q⟩ => ?_⟩
  subst ex
  obtain rfl : u = Value.ref d := rx
  obtain ⟨h2, ob, en, q1, q2, q3, q4, _⟩ := d_raw I1 hd
  refine iter_keys h2 q1 q2 q3 (pi_one (tk := s1.toks) I1 _ (turn_dct _) ⟨_, Heap.get?_push_size _ rfl, rfl, ?_⟩ q)
  rw [q4] <;> rfl
theorem RKs.key_at {K : PySem.W.Frag} {F : Hp} : ∀ {kvs : List (NestedKey × PV)} {es : List VRow} {i : Nat} {p : NestedKey × PV} {e : VRow}, RKs K F kvs es → kvs[i]? = some p → es[i]? = some e → R K F (pvK p.1) e.2.1
  | _, _, 0, _, _, .cons h _ _, e1, e2 => by cases e1; cases e2; exact h
  | _, _, i + 1, _, _, .cons _ _ t, e1, e2 => RKs.key_at (i := i) t e1 e2
theorem stab_dct {K : PySem.W.Frag} {F : Hp} {d : Addr} {ep : Nat} {kvs : List (NestedKey × PV)} {es : List VRow} (h : F d = some (dO d ep es)) (r : RKs K F kvs es) : Stab K (ItD d ep es) F (kvs.map fun e => pvK e.1) := by
  intro i F' M H sm rm
  have hH : H d = some (dO d ep es) := rm.fr _ _ (sm _ _ h)
  refine ⟨fun hi => ?_, fun hi => ⟨by rw [r.length]; rw [List.length_map] at hi; exact hi, hH⟩⟩
  have hl : i < kvs.length := by rw [List.length_map] at hi; exact hi
  refine ⟨⟨by rw [r.length]; exact hl, hH⟩, fun v H' y => ?_⟩
  obtain ⟨⟨e, e1, rfl⟩, rfl⟩ := y
  refine ⟨F', Beh.refl rm, ?_⟩
  rw [List.getElem_map]
  exact (RKs.key_at r (List.getElem?_eq_getElem hl) e1).same sm
def dctF : PV → Option (List (NestedKey × PV))
  | .dct kvs => some kvs
  | _ => none
def piD (te : PTE) : PTI := fun E σ M Q => te E σ M fun x M1 => need (dctF x) fun kvs => Q (kvs.map fun e => pvK e.1) M1
theorem LI.dct {X : Cx} {tg e : Expr} {te : PTE} (he : LE X e te) : LI X tg e (piD te) := by
  refine ⟨fun σv H σ F M Q E tk rm rs h => WI.of (pi_dct WE.pe) ?_⟩
  refine (he.run σv H σ F M _ E tk rm rs h).mono ?_
  rintro v H1 ⟨F1, M1, x, b1, rx, hx⟩
  obtain ⟨kvs, e1, h2⟩ := need_of hx
  cases rx with
  | dct q r => cases e1; exact ⟨_, _, _, rfl, b1.rm.fr _ _ q, F1, M1, _, b1, stab_dct q r, h2⟩
  | _ => cases e1
theorem w_piD {te : PTE} {E : PXK} {σ : PSt} {M : Mem} {Q : List PV → Mem → Prop} (h : te E σ M fun x M1 => need (dctF x) fun kvs => Q (kvs.map fun e => pvK e.1) M1) : piD te E σ M Q := h
theorem w_dctF {kvs : List (NestedKey × PV)} {k : List (NestedKey × PV) → Prop} (h : k kvs) : need (dctF (.dct kvs)) k := h
end PL
set_option Elab.async false
set_option linter.all false
set_option maxRecDepth 100000
namespace PL
open PySem PySem.Spec PyProof.Rows L2 PD
/-! ### a dict comprehension whose keys are data -/
theorem d_setD {X : Cx} {pins : List (Addr × Obj)} {σ : L2.St} {H : Hp} {s : Shared} {E : Value → Shared → Prop} {D : Addr} {y z : V} {u r : Value} {N : Hp → Prop} {Q : Unit → Shared → Prop} (hu : X.A.units + 65 < cLine) (I : Inv X pins σ H s)
    (ry : RelV y u) (rz : RelV z r) (h : rSetD X.K (.ref D) y z H N) (q : ∀ H' s', Inv X pins σ H' s' → N H' → Q () s') : wpAny (model X.prog X.w) X.A (dictSet D u r) Q E s := by
  obtain ⟨a, es, k, e0, e, hk, ky, ok, hl, n⟩ := h
  obtain rfl : D = a := by injection e0
  obtain ⟨h1, h2, h3, xs, p, t, kd⟩ := d_rows I e hk
  refine set_key (by omega) (KeyV.is I k y u ky ry) ok.2 ok.1.notText t kd (by rw [paired_len p]; exact h3) fun h' t' hs => ?_
  obtain ⟨ob, en, ep, q1, q2⟩ := t'
  obtain ⟨ep0, e⟩ := e
  refine q _ _ (I.write (x := D) (e := D) (by rw [e]; trivial) (.inl rfl) (fun b w hb z => (hs.2 b hb).trans z) ⟨ob, q1⟩ (dO_ok ⟨?_, h1, putV_ok ok h2, X.w, _, put_rel ry rz p, ob, en, q1, q2⟩)) (n ep)
  have := putV_len es k y z
  omega
def tDcD (K : PySem.W.Frag) (wi : TI) (g : TG) (tt : TT) (tk tv : TE) (vs : List Nat) : TE := fun σ H Q => wi σ H fun J H1 => ∀ D, H1 D = none → ∃ W : Nat → Nat → Hp → Prop, (∃ m, W 0 m (upd H1 D (dO D 0 []))) ∧ ∀ i m H2, W i m H2 →
  (J.stop i H2 ∧ Q (.ref D) H2) ∨ (J.go i H2 ∧ ∃ N : Hp → Prop, (∀ H3, N H3 → ∃ m', m' < m ∧ W (i + 1) m' H3) ∧ ∀ x H3, J.yld i H2 x H3 → g x (wipe σ vs) H3 fun σ1 H4 => wipe σ1 vs = wipe σ vs ∧ tt σ1 H4 fun b H5 =>
    if b = true then tk σ1 H5 fun y H6 => tv σ1 H6 fun z H7 => rSetD K (.ref D) y z H7 N else N H5)
section
variable {X : Cx} {pins : List (Addr × Obj)} {s : Shared} {σ : L2.St} {H : Hp} {Q : VK} {kx vx tg iter : Expr} {ifs : List Expr} {scope : Scope} {own : List (Str × Nat)} {pos pos2 : Pos} {wi : TI} {g : TG} {tt : TT} {tk tv : TE}
theorem dcD_core {use : Option (Value → Sem Unit)} {Qf : Value → Shared → Prop} (hu : X.A.units + 65 < cLine) (hcalm : X.calm = true) (nd : X.N.Nodup) (inv : Inv X pins σ H s) (hi : PI X tg iter wi) (bok : BlkOk X.N X.env.scope scope own)
    (hg : ∀ s H C cl fp, PG (Blk X scope s H C cl fp) tg g) (ht : ∀ s H C cl fp, PTs (Blk X scope s H C cl fp) ifs tt) (hk : ∀ s H C cl fp, PE (Blk X scope s H C cl fp) kx tk) (hv : ∀ s H C cl fp, PE (Blk X scope s H C cl fp) vx tv)
    (fold : ∀ x, foldedSetIterable iter X.env x = pure x) (h : tDcD X.K wi g tt tk tv (own.map (·.2)) σ H Q)
    (back : ∀ D C s' m H', Inv X pins σ H' s' → Q (.ref D) H' → s'.heap.Ns C m → FpOk X pins H' C → compPost (model X.prog X.w) X.A X.xe use Qf (.ref D) C (.ok .next) s') :
    wpAny (model X.prog X.w) X.A (comprehension (.DictComp kx vx [⟨tg, iter, ifs, 0⟩] scope pos) scope X.env pos2 newDict false (eval iter X.env) use) Qf X.xe s := by
  have cells : ∀ y ∈ scope.names, y.2 = .free → ∃ c, X.env.cells.lookup y.1 = some c := fun y m z => (bok.free y m z).elim (fun q => inv.ok.has _ (.inl q)) fun q => inv.ok.has _ (.inr q)
  refine wpAny_comprehension_free (use := use) rfl fold (closure_ok cells) bok.kind (fun y m z => by rw [bok.uniq y m, z]) (thn (hi.run pins s σ H _ inv h) fun xv sa hx => thn hx fun itv sb hb => ?_)
  obtain ⟨it, fp, tn, J, Ha, rfl, invb, T, sta, fpa, q⟩ := hb
  refine wpAny_newObj_type (newEnv_comp ?_)
  generalize eD : sb.heap.objs.size = D
  obtain ⟨W, ⟨m0, w0⟩, turn⟩ := q D (invb.hok.fresh (Nat.le_of_eq eD))
  generalize esc : ({ sb with heap := sb.heap.push { cls := .type "dict", data := .dict #[] } } : Shared) = sc
  have invc : Inv X pins σ (upd Ha D (dO D 0 [])) sc := by
    rw [← esc]
    refine invb.laid (t' := sb.toks) (fun b o z => Heap.get?_push_of_some _ z) (Nat.le_of_eq eD) ?_
    rw [← eD]
    exact dO_ok ⟨Nat.zero_le _, beq_eq_false_iff_ne.mpr (Ne.symm (Nat.ne_of_lt invb.big)), fun _ z => absurd z List.not_mem_nil, X.w, [], .nil, _, #[], Heap.get?_push_size _ rfl, ⟨rfl, rfl, rfl⟩, rfl, rfl, List.nodup_nil⟩
  have hsc : sc.heap = sb.heap.push { cls := .type "dict", data := .dict #[] } := by rw [← esc]
  have fpc : ∀ b ∈ fp, FpOk X pins (upd Ha D (dO D 0 [])) b ∧ b < sc.heap.objs.size := fun b m => by
    obtain ⟨o, z, _⟩ := T.obj _ _ sta b m
    have lt := Heap.lt_size z
    refine ⟨⟨?_, (fpa b m).2⟩, by rw [hsc, Heap.size_push]; exact Nat.lt_succ_of_lt lt⟩
    rw [upd_ne (by rw [← eD]; exact Nat.ne_of_lt lt)]
    exact (fpa b m).1
  have stc : tn 0 sc.heap := T.keep _ _ _ sta fun b _ o z => by rw [hsc]; exact Heap.get?_push_of_some _ z
  have invd := block_start invc bok nd fpc
  have rg := hg sc (upd Ha D (dO D 0 [])) sc.heap.objs.size (cellsFrom (sc.heap.objs.size + 1) scope.names (cloFrom X.env.cells scope.names [])) fp
  have rt := ht sc (upd Ha D (dO D 0 [])) sc.heap.objs.size (cellsFrom (sc.heap.objs.size + 1) scope.names (cloFrom X.env.cells scope.names [])) fp
  have rk := hk sc (upd Ha D (dO D 0 [])) sc.heap.objs.size (cellsFrom (sc.heap.objs.size + 1) scope.names (cloFrom X.env.cells scope.names [])) fp
  have rv := hv sc (upd Ha D (dO D 0 [])) sc.heap.objs.size (cellsFrom (sc.heap.objs.size + 1) scope.names (cloFrom X.env.cells scope.names [])) fp
  have nfp : ∀ b ∈ fp, (upd Ha D (dO D 0 [])) b = none := fun b m => (fpc b m).1.1
  show codeAny _ _ (.compStart _ 0 (.ref it) (.ref D) (compEnvC scope (cellsFrom (sc.heap.objs.size + 1) scope.names (cloFrom X.env.cells scope.names [])) sc.heap.objs.size X.env)) (compPost _ X.A X.xe use Qf (.ref D) sc.heap.objs.size) { sc with heap := pushCells (sc.heap.push { cls := .type "dict", data := .dict #[] }) scope.names }
  unfold Blk at rg rt rk rv
  generalize ece : compEnvC scope (cellsFrom (sc.heap.objs.size + 1) scope.names (cloFrom X.env.cells scope.names [])) sc.heap.objs.size X.env = ce at invd rg rt rk rv ⊢
  have loc : ce.locals = sc.heap.objs.size := by subst ece; rfl
  generalize eHc : upd Ha D (dO D 0 []) = Hc at invc invd rg rt rk rv w0 nfp fpc
  generalize esd : ({ sc with heap := pushCells (sc.heap.push { cls := .type "dict", data := .dict #[] }) scope.names } : Shared) = sd at invd ⊢
  have std : tn 0 sd.heap := T.keep _ _ _ stc fun b _ o z => by rw [← esd]; exact pushCells_keeps _ _ _ _ (Heap.get?_push_of_some _ z)
  have pinned : ∀ {σ1 : L2.St} {H1 : Hp} {s1 : Shared}, Inv (X.blk sc Hc scope ce fp) [] σ1 H1 s1 → (∀ b ∈ fp, H1 b = none) → ∀ b ∈ fp, FpOk (X.blk sc Hc scope ce fp) [] H1 b := fun i1 n1 b m =>
    ⟨n1 b m, (i1.ok.exf b m).1, i1.ok.exfs b m, .inl m, fun x c z => (i1.ok.exf b m).2 x c z, fun p z => absurd (show p ∈ ([] : List (Addr × Obj)) ++ [] from z) (by simp)⟩
  have loop : codeAny (model X.prog X.w) X.A (.compLoop (.DictComp kx vx [⟨tg, iter, ifs, 0⟩] scope pos) 0 (.ref it) (.ref D) ce) (compPost (model X.prog X.w) X.A X.xe use Qf (.ref D) sc.heap.objs.size) sd := by
    refine compLoop_anyD (fun n s1 => ∃ i H1, W i n H1 ∧ Inv (X.blk sc Hc scope ce fp) [] (wipe σ (own.map (·.2))) H1 s1 ∧ tn i s1.heap ∧ ∀ b ∈ fp, H1 b = none) ?_ m0 ⟨0, Hc, w0, invd, std, nfp⟩
    rintro n s1 ⟨i, H1, w1, i1, st1, n1⟩
    rcases turn i n H1 w1 with ⟨stop, qq⟩ | ⟨go, N, hN, step⟩
    · refine thnF (T.done (X.blk sc Hc scope ce fp) rfl rfl rfl hcalm i [] s1 _ H1 (fun _ _ => False) i1 (pinned i1 n1) st1 stop) fun r s2 ⟨hr, i2⟩ => ?_
      subst hr
      have i3 : Inv X pins σ H1 s2 := invc.call' (ch := fp) i2.os i2.base i2.hok i2.bare fun b m => ⟨(fpc b m).1.2.2.2.1, (fpc b m).1.2.1, (fpc b m).1.2.2.2.2.1, (fpc b m).1.2.2.2.2.2⟩
      have free := i2.free
      obtain ⟨m, hn, _⟩ := i2.loc
      have free : H1 ce.locals = none := free
      have hn : s2.heap.Ns ce.locals m := hn
      rw [loc] at free hn
      exact back D sc.heap.objs.size s2 m H1 i3 qq hn (invc.fpOk (Nat.le_refl _) free)
    · refine thnF (T.item (X.blk sc Hc scope ce fp) rfl rfl rfl hcalm i [] s1 _ H1 (fun _ _ => False) i1 (pinned i1 n1) st1 go) fun r s2 ⟨u, hr, h2⟩ => ?_
      subst hr
      refine thnF h2 fun _ s3 ⟨x, H3, i3, r3, y3, st3, n3⟩ => ?_
      refine thnF (rg.run _ s3 _ H3 x u _ (i3.pinned (pinned i3 n3) (T.obj _ _ st3)) r3 (step x H3 y3)) fun _ s4 ⟨σ4, H4, i4, ew, q4⟩ => ?_
      refine thnF (rt.run _ s4 σ4 H4 _ i4 q4) fun b s5 ⟨H5, i5, q5⟩ => ?_
      have again : ∀ {s' : Shared} {H' : Hp}, Inv (X.blk sc Hc scope ce fp) ([] ++ pinsAt fp s3.heap) σ4 H' s' → N H' → ∃ m, m < n ∧ ∃ i H', W i m H' ∧ Inv (X.blk sc Hc scope ce fp) [] (wipe σ (own.map (·.2))) H' s' ∧ tn i s'.heap ∧ ∀ b ∈ fp, H' b = none := fun {s' H'} i' nx => by
        obtain ⟨m', lt, w'⟩ := hN H' nx
        have pin : ∀ b ∈ fp, ∀ o, s3.heap.get? b = some o → s'.heap.get? b = some o ∧ H' b = none := fun b mb o z =>
          let y := i'.pin (b, o) (List.mem_append_right _ (List.mem_append_right _ (mem_pinsAt mb z)))
          ⟨y.1, y.2.1⟩
        refine ⟨m', lt, i + 1, H', w', (i'.unpinned (pins := [])).weak (by rw [← ew, wipe_length]) (fun j v z => ?_), T.keep _ _ _ st3 fun b mb o z => (pin b mb o z).1, fun b mb => ?_⟩
        · rw [← ew] at z
          exact (wipe_some z).1
        · obtain ⟨o, z, _⟩ := T.obj _ _ st3 b mb
          exact (pin b mb o z).2
      cases b with
      | false =>
        simp only [Bool.false_eq_true, if_false] at q5 ⊢
        exact again i5 q5
      | true =>
        simp only [if_true] at q5 ⊢
        refine thnF (rk.run _ s5 σ4 H5 _ i5 q5) fun u6 s6 ⟨y6, H6, i6, r6, q6⟩ => ?_
        refine thnF (rv.run _ s6 σ4 H6 _ i6 q6) fun u7 s7 ⟨y7, H7, i7, r7, q7⟩ => ?_
        exact d_setD (X := X.blk sc Hc scope ce fp) hu i7 r6 r7 q7 fun H8 s8 i8 nx => again i8 nx
  exact codeAny_compStart_dict loop (T.self X.A 0 _ _ _ std loop)
theorem pe_dcD (hu : X.A.units + 65 < cLine) (hcalm : X.calm = true) (nd : X.N.Nodup) (hi : PI X tg iter wi) (bok : BlkOk X.N X.env.scope scope own)
    (hg : ∀ s H C cl fp, PG (Blk X scope s H C cl fp) tg g) (ht : ∀ s H C cl fp, PTs (Blk X scope s H C cl fp) ifs tt) (hk : ∀ s H C cl fp, PE (Blk X scope s H C cl fp) kx tk) (hv : ∀ s H C cl fp, PE (Blk X scope s H C cl fp) vx tv)
    (fold : ∀ x, foldedSetIterable iter X.env x = pure x := by intro _; rfl) : PE X (.DictComp kx vx [⟨tg, iter, ifs, 0⟩] scope pos) (tDcD X.K wi g tt tk tv (own.map (·.2))) := by
  refine ⟨fun pins s σ H Q I h => ?_⟩
  rw [arm_eval_DictComp]
  refine dcD_core hu hcalm nd I hi bok hg ht hk hv fold h fun D C s' m H' i' q hn f => ⟨m, hn, fun h2 sb => ?_⟩
  exact ⟨.ref D, H', i'.turned (t' := s'.toks) (fun b o hb z => (sb.2 b hb).trans z) f.1 f.2.1 f.2.2.2.1 f.2.2.2.2.1 f.2.2.2.2.2, rfl, q⟩
end
end PL
namespace PL
open PySem PySem.Spec PyProof.Rows L2 PD
section
variable {X : Cx} {kx vx tg iter : Expr} {ifs : List Expr} {scope : Scope} {own : List (Str × Nat)} {pos : Pos} {wi : TI} {g : TG} {tt : TT} {tk tv : TE}
end
end PL
set_option Elab.async false
set_option linter.all false
set_option maxRecDepth 100000
namespace PL
open PySem PySem.Spec PyProof.Rows L2 PD
/-! ### {k: v for target in iter if ..} -/
abbrev Stp := PV → PSt → Option PSt
def stpN (i : Nat) : Stp := fun x σ => some (σ.set i (some x))
def stpT (is : List Nat) : Stp := fun x σ => (tupF x).bind fun ys => setsP is ys σ
def pDcL (st : Stp) (tt : PTT) (tk tv : PTE) : List PV → List (NestedKey × PV) → PSt → Mem → (List (NestedKey × PV) → Mem → Prop) → Prop
  | [], kvs => fun _ M Q => Q kvs M
  | x :: xs, kvs => fun σ M Q => need (st x σ) fun σ1 => tt noX σ1 M fun b M1 => if b = true then tk noX σ1 M1 fun y M2 => tv noX σ1 M2 fun z M3 => kKey y fun k => kvs.length < sizeLine ∧ pDcL st tt tk tv xs (putD kvs k z) σ M3 Q
    else pDcL st tt tk tv xs kvs σ M1 Q
/-- the new dict may change -/
def pDc (wi : PTI) (st : Stp) (tt : PTT) (tk tv : PTE) : PTE := fun E σ M Q => wi E σ M fun xs M1 => pDcL st tt tk tv xs [] σ M1 fun kvs M2 => ∀ p, M2 p = none → Q (.ptr p) (M2.put p (.dct p kvs))
/-- the new dict never changes -/
def pDcF (wi : PTI) (st : Stp) (tt : PTT) (tk tv : PTE) : PTE := fun E σ M Q => wi E σ M fun xs M1 => pDcL st tt tk tv xs [] σ M1 fun kvs M2 => Q (.dct kvs) M2
/-- the target stores as st says -/
def Stores (K : PySem.W.Frag) (g : TG) (vs : List Nat) (st : Stp) : Prop := ∀ (x : PV) (v : V) (σ σ1 : PSt) (σv : L2.St) (F : Hp) (M : Mem) (H : Hp), RM K F M H → R K F x v → RS K F σ σv → st x σ = some σ1 →
  ∀ Q : L2.St → Hp → Prop, (∀ σ2, RS K F σ1 σ2 → wipe σ2 vs = wipe σv vs → Q σ2 H) → g v (wipe σv vs) H Q
theorem dc_finM {K : PySem.W.Frag} {F M H F1 M1 H1 F2 M2 H2} {D : Addr} {ep : Nat} {kvs : List (NestedKey × PV)} {es : List VRow} {Q : PQ} (b1 : Beh K F M H F1 M1 H1) (nD : H1 D = none) (b2 : Beh K F M H F2 M2 H2) (nF2 : F2 D = none) (nM2 : M2 D = none) (hD : H2 D = some (dO D ep es)) (rk : RKs K F2 kvs es) (h2 : ∀ p, M2 p = none → Q (.ptr p) (M2.put p (.dct p kvs))) : LQ K F M H Q (.ref D) H2 := by
  have hH : H D = none := by
    cases q : H D with
    | none => rfl
    | some u => exact absurd nD (b1.fr.there D (by rw [q]; exact Option.some_ne_none _))
  refine ⟨F2, M2.put D (.dct D kvs), _, ⟨b2.sm, ⟨b2.rm.fr, fun c hc => ?_, fun c mo hc => ?_⟩, ⟨b2.fr.keep, fun c hc => ?_, b2.fr.there⟩, b2.fg⟩, .ptr D, h2 D nM2⟩
  · by_cases e : c = D
    · rw [e]; exact nF2
    · rw [put_ne e] at hc; exact b2.rm.dj c hc
  · by_cases e : c = D
    · subst e; rw [put_same] at hc; cases hc; exact ⟨_, hD, .dct rk⟩
    · rw [put_ne e] at hc; exact b2.rm.mu c mo hc
  · by_cases e : c = D
    · rw [e]; exact .inr hH
    · rw [put_ne e] at hc; exact b2.fr.grow c hc
section
variable {X : Cx} {kx vx tg iter : Expr} {ifs : List Expr} {scope : Scope} {own : List (Str × Nat)} {pos : Pos} {wi : PTI} {st : Stp} {g : TG} {tt : PTT} {tk tv : PTE}
theorem dc_t (hi : LI X tg iter wi) (hst : Stores X.K g (own.map (·.2)) st)
    (ht : ∀ s H C cl fp, LTs (Blk X scope s H C cl fp) ifs tt) (hk : ∀ s H C cl fp, LE (Blk X scope s H C cl fp) kx tk) (hv : ∀ s H C cl fp, LE (Blk X scope s H C cl fp) vx tv)
    {σv : L2.St} {H : Hp} {σ : PSt} {F : Hp} {M : Mem} {Q : PQ} {E : PXK} {eQ : List (NestedKey × PV) → Mem → Prop} (fin : ∀ {F1 M1 H1 F2 M2 H2} {D : Addr} {ep : Nat} {kvs : List (NestedKey × PV)} {es : List VRow}, Beh X.K F M H F1 M1 H1 → H1 D = none → Beh X.K F M H F2 M2 H2 → F2 D = none → M2 D = none → H2 D = some (dO D ep es) → RKs X.K F2 kvs es → eQ kvs M2 → LQ X.K F M H Q (.ref D) H2)
    (tk0 : PTk X F M H E) (rm : RM X.K F M H) (rs : RS X.K F σ σv) (h : wi E σ M fun xs M1 => pDcL st tt tk tv xs [] σ M1 eQ) : tDcD X.K (WI X tg iter) g (TBlk X scope ifs) (EBlk X scope kx) (EBlk X scope vx) (own.map (·.2)) σv H (LQ X.K F M H Q) := by
  refine (hi.run σv H σ F M _ E tk0 rm rs h).mono ?_
  rintro J H1 ⟨F1, M1, xs, b1, sta, h1⟩
  intro D nD
  obtain ⟨nF, nM⟩ := b1.rm.nones nD
  have b1' := b1.trans ((b1.rm.behHid (o := dO D 0 []) nF nM).2 nD)
  refine ⟨fun j m H' => m = xs.length - j ∧ j ≤ xs.length ∧ ∃ F' M' ep kvs es, Beh X.K F M H F' M' H' ∧ Same F1 F' ∧ F' D = none ∧ M' D = none ∧ H' D = some (dO D ep es) ∧ RKs X.K F' kvs es ∧ pDcL st tt tk tv (xs.drop j) kvs σ M' eQ,
    ⟨xs.length, rfl, Nat.zero_le _, F1, M1, 0, [], [], b1', Same.refl _, nF, nM, upd_same, .nil, h1⟩, ?_⟩
  rintro j m H2 ⟨rfl, hj, F2, M2, ep, kvs, es, b2, sm2, nF2, nM2, hD, rk, h2⟩
  obtain ⟨s1, s2⟩ := sta j F2 M2 H2 sm2 b2.rm
  by_cases hlt : j < xs.length
  · obtain ⟨go, yl⟩ := s1 hlt
    rw [List.drop_eq_getElem_cons hlt] at h2
    refine .inr ⟨go, _, fun H' n => ⟨_, (show xs.length - (j + 1) < xs.length - j by omega), n⟩, fun v H3 y => ?_⟩
    obtain ⟨F3, b3, r3⟩ := yl v H3 y
    obtain ⟨σ1, es1, h2⟩ := need_of h2
    have keep : ∀ {Fa Ma Ha}, Beh X.K F2 M2 H2 Fa Ma Ha → Fa D = none ∧ Ma D = none ∧ Ha D = some (dO D ep es) := fun b => keepD nF2 nM2 hD b
    refine hst _ v σ σ1 σv F3 M2 H3 b3.rm r3 (rs.same (b2.trans b3).sm) es1 _ fun σ2 rs2 ew => ⟨ew, ?_⟩
    intro s0 H0 C cl fp pins s0' I
    refine thn ((ht s0 H0 C cl fp).run σ2 H3 σ1 F3 M2 _ b3.rm rs2 h2 pins s0' I) ?_
    rintro b s4 ⟨H4, I4, F4, M4, b4, h4⟩
    have b34 := b3.trans b4
    refine ⟨H4, I4, ?_⟩
    cases b with
    | false =>
      rw [if_neg Bool.false_ne_true] at h4 ⊢
      obtain ⟨k1, k2, k3⟩ := keep b34
      exact ⟨rfl, hlt, F4, M4, ep, kvs, es, b2.trans b34, sm2.trans b34.sm, k1, k2, k3, rk.same b34.sm, h4⟩
    | true =>
      rw [if_pos rfl] at h4 ⊢
      intro s1 H01 C1 cl1 fp1
      refine ((hk s1 H01 C1 cl1 fp1).run σ2 H4 σ1 F4 M4 _ noX PTk.no b4.rm (rs2.same b4.sm) h4).mono ?_
      rintro yv H5 ⟨F5, M5, y5, b5, r5, h5⟩
      intro s2 H02 C2 cl2 fp2
      refine ((hv s2 H02 C2 cl2 fp2).run σ2 H5 σ1 F5 M5 _ noX PTk.no b5.rm ((rs2.same b4.sm).same b5.sm) h5).mono ?_
      rintro zv H6 ⟨F6, M6, z6, b6, r6, h6⟩
      obtain ⟨k, rfl, ok, hz, h7⟩ := kKey.of h6
      have b36 := (b34.trans b5).trans b6
      obtain ⟨k1, k2, k3⟩ := keep b36
      have rk6 := rk.same b36.sm
      refine ⟨D, es, k, rfl, ⟨ep, k3⟩, rk6.keysV b6.rm.fr, R.keyV b6.rm.fr k yv (r5.same b6.sm), ok, by rw [rk6.length]; exact hz, fun ep' => ⟨rfl, hlt, F6, M6, ep', putD kvs k z6, putV es k yv zv, ?_, sm2.trans b36.sm, k1, k2, upd_same, RKs.put (r5.same b6.sm) r6 rk6, h7⟩⟩
      have b06 := b2.trans b36
      refine ⟨b06.sm, hid_app b06.rm k1 k2, ⟨fun c u hc nc => ?_, b06.fr.grow, fun c hc => ?_⟩, b06.fg⟩
      · have ne : c ≠ D := fun z => by
          subst z
          exact absurd nD (b1.fr.there c (by rw [hc]; exact Option.some_ne_none _))
        rw [upd_ne ne]
        exact b06.fr.keep c u hc nc
      · by_cases e : c = D
        · subst e; rw [upd_same]; exact Option.some_ne_none _
        · rw [upd_ne e]; exact b06.fr.there c hc
  · have e : j = xs.length := by omega
    subst e
    rw [List.drop_length] at h2
    exact .inl ⟨s2 (Nat.le_refl _), fin b1 nD b2 nF2 nM2 hD rk h2⟩
theorem LE.dc (hu : X.A.units + 65 < cLine) (hcalm : X.calm = true) (nd : X.N.Nodup) (hi : LI X tg iter wi) (bok : BlkOk X.N X.env.scope scope own) (hst : Stores X.K g (own.map (·.2)) st)
    (hg : ∀ s H C cl fp, PG (Blk X scope s H C cl fp) tg g) (ht : ∀ s H C cl fp, LTs (Blk X scope s H C cl fp) ifs tt) (hk : ∀ s H C cl fp, LE (Blk X scope s H C cl fp) kx tk) (hv : ∀ s H C cl fp, LE (Blk X scope s H C cl fp) vx tv)
    (fold : ∀ x, foldedSetIterable iter X.env x = pure x := by intro _; rfl) : LE X (.DictComp kx vx [⟨tg, iter, ifs, 0⟩] scope pos) (pDc wi st tt tk tv) := by
  refine ⟨fun σv H σ F M Q E tk0 rm rs h => WE.of (pe_dcD (own := own) (g := g) (tt := TBlk X scope ifs) (tk := EBlk X scope kx) (tv := EBlk X scope vx) hu hcalm nd WI.pi bok hg (fun s0 H0 C cl fp => ⟨fun pins s σ H Q I hh => hh s0 H0 C cl fp pins s I⟩) (fun s0 H0 C cl fp => ⟨fun pins s σ H Q I hh => hh s0 H0 C cl fp pins s I⟩) (fun s0 H0 C cl fp => ⟨fun pins s σ H Q I hh => hh s0 H0 C cl fp pins s I⟩) fold) ?_⟩
  exact dc_t hi hst ht hk hv (fun b1 nD b2 nF nM hD rk q => dc_finM b1 nD b2 nF nM hD rk q) tk0 rm rs h
end
theorem w_dc {wi : PTI} {st : Stp} {tt : PTT} {tk tv : PTE} {E : PXK} {σ : PSt} {M : Mem} {Q : PQ} (h : wi E σ M fun xs M1 => pDcL st tt tk tv xs [] σ M1 fun kvs M2 => ∀ p, M2 p = none → Q (.ptr p) (M2.put p (.dct p kvs))) : pDc wi st tt tk tv E σ M Q := h
theorem w_dcF {wi : PTI} {st : Stp} {tt : PTT} {tk tv : PTE} {E : PXK} {σ : PSt} {M : Mem} {Q : PQ} (h : wi E σ M fun xs M1 => pDcL st tt tk tv xs [] σ M1 fun kvs M2 => Q (.dct kvs) M2) : pDcF wi st tt tk tv E σ M Q := h
end PL
set_option Elab.async false
set_option linter.all false
set_option maxRecDepth 100000
namespace PL
open PySem PySem.Spec PyProof.Rows L2 PD
/-! ### a list comprehension with three clauses and no tests -/
abbrev LC3 (elt t0 i0 t1 i1 t2 i2 : Expr) (scope : Scope) (pos : Pos) : Expr := .ListComp elt [⟨t0, i0, [], 0⟩, ⟨t1, i1, [], 0⟩, ⟨t2, i2, [], 0⟩] scope pos
section
variable {elt t0 i0 t1 i1 t2 i2 : Expr} {scope : Scope} {pos : Pos} {prog : Program} {w : World} {A : Around} {R : Result → Shared → Prop} {it acc : Value} {env : Env}
end
section
variable {elt t0 i0 t1 i1 t2 i2 : Expr} {scope : Scope} {pos : Pos} {it acc : Value} {env : Env}
def nextClause (e i : Expr) (k : Nat) (acc : Value) (env : Env) (K : Sem PySem.Fin) : Sem PySem.Fin := do
  let x ← eval i env
  standAt i.pos
  let x ← foldedSetIterable i env x
  let _ ← runOwn (.compStart e k (← holding [x] (pyIter x)) acc env) env
  K
def lastClause (elt : Expr) (acc : Value) (env : Env) (K : Sem PySem.Fin) : Sem PySem.Fin := do
  (do let _ ← call (.builtin "list.append") [acc, ← eval elt env])
  K
end
section
variable {elt t0 i0 t1 i1 t2 i2 : Expr} {scope : Scope} {pos : Pos} {prog : Program} {w : World} {A : Around} {R : Result → Shared → Prop} {it acc : Value} {env : Env} {s : Shared} {K : Sem PySem.Fin} {Q : PySem.Fin → Shared → Prop} {E : Value → Shared → Prop}
end
section
variable {elt t0 i0 t1 i1 t2 i2 : Expr} {scope : Scope} {pos : Pos}
/-- slots that know no less -/
def Weak (a b : L2.St) : Prop := a.length = b.length ∧ ∀ (j : Nat) v, a[j]? = some (some v) → b[j]? = some (some v)
def BodyOk (Y : Cx) (vs : List Nat) (body : L2.St → Hp → (Hp → Prop) → Prop) (B : Sem PySem.Fin → Sem PySem.Fin) : Prop := ∀ σ σ2 H2 N s2 pins2, Inv Y pins2 σ2 H2 s2 → wipe σ2 vs = wipe σ vs → body σ2 H2 N → ∀ K Q (E : Value → Shared → Prop),
  (∀ σ3 H3 s3, Inv Y pins2 σ3 H3 s3 → Weak (wipe σ vs) σ3 → N H3 → wpAny (model Y.prog Y.w) Y.A K Q E s3) → wpAny (model Y.prog Y.w) Y.A (B K) Q E s2
def tLv (J : It) (g : TG) (vs : List Nat) (body : L2.St → Hp → (Hp → Prop) → Prop) (σ : L2.St) (Done : Hp → Prop) (H0 : Hp) : Prop := ∃ W : Nat → Nat → Hp → Prop, (∃ m, W 0 m H0) ∧ ∀ i m H, W i m H →
  (J.stop i H ∧ Done H) ∨ (J.go i H ∧ ∃ N : Hp → Prop, (∀ H', N H' → ∃ m', m' < m ∧ W (i + 1) m' H') ∧ ∀ x H', J.yld i H x H' → g x (wipe σ vs) H' fun σ2 H2 => wipe σ2 vs = wipe σ vs ∧ body σ2 H2 N)
end
end PL
set_option Elab.async false
set_option linter.all false
set_option maxRecDepth 100000
namespace PL
open PySem PySem.Spec PyProof.Rows L2 PD
section
variable {X : Cx} {pins : List (Addr × Obj)} {s : Shared} {σ : L2.St} {H : Hp} {Q : VK} {elt t0 e0 t1 e1 t2 e2 : Expr} {scope : Scope} {own : List (Str × Nat)} {pos pos2 : Pos} {wi wi1 wi2 : TI} {g g1 g2 : TG} {te : TE} {vs1 vs2 : List Nat}
def tLc3 (wi : TI) (g : TG) (wi1 : TI) (g1 : TG) (wi2 : TI) (g2 : TG) (te : TE) (vs vs1 vs2 : List Nat) : TE := fun σ H Q => wi σ H fun J H1 => ∀ D, H1 D = none →
  tLv J g vs (fun σ2 H2 N => wi1 σ2 H2 fun J1 H3 => tLv J1 g1 vs1 (fun σ3 H4 N1 => wi2 σ3 H4 fun J2 H5 => tLv J2 g2 vs2 (fun σ4 H6 N2 => te σ4 H6 fun y H7 => ∃ acc, H7 D = some (.lst acc) ∧ acc.length < sizeLine ∧ N2 (upd H7 D (.lst (acc ++ [y])))) σ3 N1 H5) σ2 N H3) σ (Q (.ref D)) (upd H1 D (.lst []))
end
end PL
namespace PL
open PySem PySem.Spec PyProof.Rows L2 PD
theorem RS.wipe {K : PySem.W.Frag} {F : Hp} {σ : PSt} {σv : L2.St} (r : RS K F σ σv) : ∀ vs : List Nat, RS K F (vs.foldr (fun i σ => σ.set i none) σ) (L2.wipe σv vs)
  | [] => r
  | i :: vs => (RS.wipe r vs).setW i
/-- one clause's walk over a list -/
def pW1 (i : Nat) (ws : List Nat) (body : PSt → Mem → List PV → (List PV → Mem → Prop) → Prop) : List PV → List PV → PSt → Mem → (List PV → Mem → Prop) → Prop
  | [], acc => fun _ M Q => Q acc M
  | x :: xs, acc => fun σ M Q => body ((ws.foldr (fun i σ => σ.set i none) σ).set i (some x)) M acc fun acc' M2 => pW1 i ws body xs acc' σ M2 Q
def pLc3 (wi : PTI) (i : Nat) (wi1 : PTI) (i1 : Nat) (wi2 : PTI) (i2 : Nat) (te : PTE) : PTE := fun E σ M Q => wi E σ M fun xs M1 => pW1 i [i1, i2] (fun σ1 M2 acc R => wi1 noX σ1 M2 fun ys M3 => pW1 i1 [i2] (fun σ2 M4 acc R => wi2 noX σ2 M4 fun zs M5 =>
  pW1 i2 [] (fun σ3 M6 acc R => te noX σ3 M6 fun y M7 => acc.length < sizeLine ∧ R (acc ++ [y]) M7) zs acc σ2 M5 R) ys acc σ1 M3 R) xs [] σ M1 fun acc M2 => Q (.lst acc) M2
/-- the list at D is hidden yet -/
def Hid (K : PySem.W.Frag) (D : Addr) (F0 : Hp) (M0 : Mem) (H0 : Hp) (F : Hp) (M : Mem) (H : Hp) (acc : List PV) : Prop := ∃ vacc, Beh K F0 M0 H0 F M H ∧ F D = none ∧ M D = none ∧ H D = some (.lst vacc) ∧ RAll K F acc vacc
theorem Hid.go {K : PySem.W.Frag} {D : Addr} {F0 M0 H0 F M H F' M' H'} {acc : List PV} (h : Hid K D F0 M0 H0 F M H acc) (b : Beh K F M H F' M' H') : Hid K D F0 M0 H0 F' M' H' acc := by
  obtain ⟨vacc, b0, n1, n2, hD, ra⟩ := h
  obtain ⟨k1, k2, k3⟩ := keepD n1 n2 hD b
  exact ⟨vacc, b0.trans b, k1, k2, k3, ra.same b.sm⟩
section
variable {X : Cx} {elt e0 e1 e2 : Expr} {x0 x1 x2 : Str} {p0 p1 p2 : Pos} {scope : Scope} {i i1 i2 : Nat} {pos : Pos} {wi wi1 wi2 : PTI} {te : PTE}
end
end PL
set_option Elab.async false
set_option linter.all false
set_option maxRecDepth 100000
namespace PL
open PySem PySem.Spec PyProof.Rows L2 PD
/-! ### zip of three tuples -/
def ItZ3 (K : PySem.W.Frag) (a b c : Addr) (n1 n2 n3 : Nat) : It :=
  ⟨fun i H => ∃ (xs ys zs : List V) (x y z : V), SqT K H a xs ∧ SqT K H b ys ∧ SqT K H c zs ∧ xs.length = n1 ∧ ys.length = n2 ∧ zs.length = n3 ∧ xs[i]? = some x ∧ ys[i]? = some y ∧ zs[i]? = some z,
    fun i H v H' => ∃ T x y z, v = .ref T ∧ H T = none ∧ H' = upd H T (.tup [x, y, z]) ∧ (∀ xs, SqT K H a xs → xs[i]? = some x) ∧ (∀ ys, SqT K H b ys → ys[i]? = some y) ∧ ∀ zs, SqT K H c zs → zs[i]? = some z,
    fun i H => ∃ xs ys zs : List V, SqT K H a xs ∧ SqT K H b ys ∧ SqT K H c zs ∧ xs.length = n1 ∧ ys.length = n2 ∧ zs.length = n3 ∧ (n1 ≤ i ∨ n2 ≤ i ∨ n3 ≤ i)⟩
def iZip3 (K : PySem.W.Frag) (ta : TA) : TI := fun σ H R => ta σ H fun vs H1 => ∃ a b c xs ys zs, vs = [.ref a, .ref b, .ref c] ∧ SqT K H1 a xs ∧ SqT K H1 b ys ∧ SqT K H1 c zs ∧ R (ItZ3 K a b c xs.length ys.length zs.length) H1
/-- the triples -/
def zip3P (xs ys zs : List PV) : List PV := (xs.zip (ys.zip zs)).map fun p => .tup [p.1, p.2.1, p.2.2]
def piZ3 (ta tb tc : PTE) : PTI := fun E σ M Q => ta E σ M fun x M1 => tb E σ M1 fun y M2 => tc E σ M2 fun z M3 => need (tupF x) fun xs => need (tupF y) fun ys => need (tupF z) fun zs => Q (zip3P xs ys zs) M3
theorem w_piZ3 {ta tb tc : PTE} {E : PXK} {σ : PSt} {M : Mem} {Q : List PV → Mem → Prop} (h : ta E σ M fun x M1 => tb E σ M1 fun y M2 => tc E σ M2 fun z M3 => need (tupF x) fun xs => need (tupF y) fun ys => need (tupF z) fun zs => Q (zip3P xs ys zs) M3) : piZ3 ta tb tc E σ M Q := h
end PL
set_option Elab.async false
set_option linter.all false
set_option maxRecDepth 100000
namespace PD
open PySem PySem.Spec PyProof.Rows L2
section
variable {prog : Program} {w : World} {K : Type} [DecidableEq K] {knd : HeapKind prog w K} {A : Around} {E : Value → Shared → Prop} {s : Shared}
end
end PD
namespace PD
open PySem PySem.Spec PyProof.Rows L2
def isTupK : NestedKey → Prop
  | .tup _ => True
  | _ => False
def toRow (x : NestedKey × Addr × Value) : Row := (x.1, .ref x.2.1, x.2.2)
section
variable {X : Cx}
/-- dict(d): a copy -/
def rDctC (K : PySem.W.Frag) : List V → Hp → VK → Prop := fun vs H Q => ∃ (a : Addr) (es : List VRow), vs = [V.ref a] ∧ dAt H a es ∧ KeysV K H es ∧ (∀ e ∈ es, isTupK e.1) ∧ (∀ w : World, (es.map fun e => e.1.hash w).Nodup) ∧ ∀ p, H p = none → ∀ ep, Q (.ref p) (upd H p (dO p ep es))
/-- isinstance(d, dict) -/
def rIsD : List V → Hp → VK → Prop := fun vs H Q => ∃ (a : Addr) (es : List VRow), vs = [V.ref a, .ty "dict"] ∧ dAt H a es ∧ Q (.bl true) H
/-- len(d) -/
def rLenD : List V → Hp → VK → Prop := fun vs H Q => ∃ (a : Addr) (es : List VRow), vs = [V.ref a] ∧ dAt H a es ∧ Q (.int es.length) H
end
end PD
namespace PD
open PySem PySem.Spec PyProof.Rows L2
section
variable {X : Cx}
def rLenT (K : PySem.W.Frag) : List V → Hp → VK → Prop := fun vs H Q => ∃ (a : Addr) (es : List VRow), vs = [V.ref a] ∧ dAt H a es ∧ KeysV K H es ∧ (∀ e ∈ es, isTupK e.1) ∧ Q (.int es.length) H
/-- {k: v} -/
def tD1 (K : PySem.W.Frag) (tk tv : TE) : TE := fun σ H Q => ∀ D, H D = none → tk σ (upd H D (dO D 0 [])) fun y H2 => tv σ H2 fun z H3 => H3 D = some (dO D 0 []) ∧ ∃ k, KeyV K H3 k y ∧ okK k ∧ isTupK k ∧ ∀ ep, Q (.ref D) (upd H3 D (dO D ep [(k, y, z)]))
end
end PD
set_option Elab.async false
set_option linter.all false
set_option maxRecDepth 100000
namespace PL
open PySem PySem.Spec PyProof.Rows L2 PD
section
variable {X : Cx} {e a b : Expr} {ta tb te : PTE} {t : PTA} {pos p : Pos}
/-! ### dict(d), len(d), isinstance(d, dict), {k: v} -/
def kDCopy (x : PV) (M : Mem) (Q : PQ) : Prop := need (dctOf M x) fun kvs => (∀ e ∈ kvs, isTupK e.1) ∧ (∀ w : World, (kvs.map fun e => e.1.hash w).Nodup) ∧ ∀ p, M p = none → Q (.ptr p) (M.put p (.dct p kvs))
def kLenD (x : PV) (M : Mem) (Q : PQ) : Prop := need (dctOf M x) fun kvs => (∀ e ∈ kvs, isTupK e.1) ∧ Q (.int kvs.length) M
def pIsD (ta : PTE) : PTE := fun E σ M Q => ta E σ M fun x M1 => need (dctOf M1 x) fun _ => Q (.bl true) M1
/-- {k: v}, which may change -/
def pDct1 (ta tb : PTE) : PTE := fun E σ M Q => ta E σ M fun y M1 => tb E σ M1 fun z M2 => kKey y fun k => isTupK k ∧ ∀ p, M2 p = none → Q (.ptr p) (M2.put p (.dct p [(k, z)]))
end
theorem w_pIsD {ta : PTE} {E : PXK} {σ : PSt} {M : Mem} {Q : PQ} (h : ta E σ M fun x M1 => need (dctOf M1 x) fun _ => Q (.bl true) M1) : pIsD ta E σ M Q := h
theorem w_dct1 {ta tb : PTE} {E : PXK} {σ : PSt} {M : Mem} {Q : PQ} (h : ta E σ M fun y M1 => tb E σ M1 fun z M2 => kKey y fun k => isTupK k ∧ ∀ p, M2 p = none → Q (.ptr p) (M2.put p (.dct p [(k, z)]))) : pDct1 ta tb E σ M Q := h
end PL
set_option Elab.async false
set_option linter.all false
set_option maxRecDepth 100000
namespace PD
open PySem
open Sem (wp)
section
variable {prog : Program} {w : World} {A : Around} {E : Value → Shared → Prop} {s : Shared}
end
end PD
namespace PD
open PySem PySem.Spec PyProof.Rows L2
section
variable {X : Cx}
end
end PD
namespace PL
open PySem PySem.Spec PyProof.Rows L2 PD
section
variable {X : Cx} {a b : Expr} {ta tb : PTE} {pos : Pos}
def oNinD : PO2 := fun y x M Q => need (dctOf M x) fun kvs => kKey y fun k => Q (.bl (!(atP kvs k).isSome)) M
end
end PL
set_option Elab.async false
set_option linter.all false
set_option maxRecDepth 100000
/-! enumerate(tuple) -/
namespace PySem
open PySem.Spec
theorem meets_enumerate_new1 {v : Value} {o : Obj} {H : Heap → Prop} (B : Begins v o H) :
    Meets (Builtin.«enumerate.__new__» ⟨[.type "enumerate", v], []⟩) (fun _ R s => H s.heap ∧
      R (.ok (.ret (.ref (s.heap.push o).objs.size))) { s with heap := (s.heap.push o).push { cls := .type "enumerate", data := .fields #[.none, .bool false, .ref s.heap.objs.size, rawInt 0, .none, .none] } }) :=
  .of_wp fun prog w A R s h => by
    obtain ⟨hp, g, d, tk, os⟩ := s; obtain ⟨h1, h⟩ := h
    have hsub := sub_enumerate
    have q1 : ∀ {A' : Around} {E : Value → Shared → Prop} {Q : Value → Shared → Prop}, Q (.ref hp.objs.size) ⟨hp.push o, g, d, tk, os⟩ → wpAny (model prog w) A' (pyIter v) Q E ⟨hp, g, d, tk, os⟩ :=
      fun q => B.iter prog w _ _ ⟨hp, g, d, tk, os⟩ _ h1 q
    wp_walk using q1
    refine wpAny_stack_any fun st => wpAny_pure ?_
    split
    · rename_i c _ _ _ _ _
      cases (c == Value.type "enumerate")
      · wp_walk using q1
        exact ⟨_, rfl, h⟩
      · wp_walk using q1
        exact ⟨_, rfl, h⟩
    · wp_walk using q1
      exact ⟨_, rfl, h⟩
theorem enum_begins1 {prog : Program} {w : World} {A : Around} {E : Value → Shared → Prop} {s : Shared} {v : Value} {o : Obj} {H : Heap → Prop} {Q : Value → Shared → Prop} (B : Begins v o H) (h1 : H s.heap)
    (h : ∀ h', IsEnum h' (s.heap.objs.size + 1) s.heap.objs.size 0 .none → h'.get? s.heap.objs.size = some o → h'.objs.size = s.heap.objs.size + 2 →
      (∀ b o, s.heap.get? b = some o → h'.get? b = some o) → Q (.ref (s.heap.objs.size + 1)) { s with heap := h' }) :
    wpAny (model prog w) A (call (.type "enumerate") [v]) Q E s := by
  refine callType_new F.called_enumerate (by decide) (F.typeCall_enumerate_1 _) (F.newCall_enumerate_1 _) (fun obj => F.args_object_init_2 obj _) F.entry_enumerate_new
    (meets_enumerate_new1 B) ⟨h1, ?_⟩
  have hz : (s.heap.push o).objs.size = s.heap.objs.size + 1 := Heap.size_push ..
  show _ ∧ _
  rw [hz]
  have he : IsEnum ((s.heap.push o).push { cls := .type "enumerate", data := .fields #[.none, .bool false, .ref s.heap.objs.size, rawInt 0, .none, .none] }) (s.heap.objs.size + 1) s.heap.objs.size 0 .none := by
    have := Heap.get?_push_size (s.heap.push o) (o := { cls := .type "enumerate", data := .fields #[.none, .bool false, .ref s.heap.objs.size, rawInt 0, .none, .none] }) rfl
    rw [hz] at this; exact this
  refine ⟨⟨_, he, rfl⟩, h _ he (Heap.get?_push_of_some _ (Heap.get?_push_size _ B.free)) (by rw [Heap.size_push, hz]) fun b o x => Heap.get?_push_of_some _ (Heap.get?_push_of_some _ x)⟩
end PySem
namespace PL
open PySem PySem.Spec PyProof.Rows L2 PD
def ItET (K : PySem.W.Frag) (a : Addr) (n : Nat) : It :=
  ⟨fun i H => ∃ (xs : List V) (x : V), SqT K H a xs ∧ xs.length = n ∧ xs[i]? = some x, fun i H v H' => ∃ T x, v = .ref T ∧ H T = none ∧ H' = upd H T (.tup [.int (i : Nat), x]) ∧ ∀ xs, SqT K H a xs → xs[i]? = some x, fun i H => ∃ xs : List V, SqT K H a xs ∧ xs.length = n ∧ n ≤ i⟩
theorem in2 {d e it : Addr} (h : d ∈ [e, it]) : d = e ∨ d = it := by simpa using h
theorem turn_enumT {P : Program} {w : World} {K : PySem.W.Frag} {elts : List Expr} {kk : Nat} {tpos : Pos} {a e it : Addr} {n : Nat} (ne : e ≠ it) (na : a ≠ it) (nea : e ≠ a) :
    Turn P w K (.Tuple elts kk tpos) (ItET K a n) [e, it] e (fun i h => (∃ old, IsEnum h e it ((i : Nat) : Int) old) ∧ h.IsTupleIter it a i ∧ i ≤ n) where
  mem := List.mem_cons_self
  self := fun _ _ _ _ _ st h => by obtain ⟨⟨_, he⟩, _⟩ := st; exact wpAny_pyIter_enum he h
  obj := fun i h st d hd => by
    obtain ⟨⟨old, q1⟩, ⟨o2, e2, _, d2⟩, _⟩ := st
    rcases in2 hd with rfl | rfl
    · exact ⟨_, q1, fun v q => nomatch q⟩
    · exact ⟨o2, e2, fun v q => by rw [d2] at q; cases q⟩
  keep := fun i h h' st k => by
    obtain ⟨⟨old, q1⟩, h1, hi⟩ := st
    exact ⟨⟨old, k e (by simp) _ q1⟩, h1.at fun o q => k it (by simp) o q, hi⟩
  item := by
    intro X hP hw hK hc i pins s σ H E I hf st hg
    subst hP hw hK
    obtain ⟨⟨old, q1⟩, h1, hi⟩ := st
    obtain ⟨xs, x, hx, hn, gx⟩ := hg
    obtain ⟨l1, r1, p1, _⟩ := I.tuple hx
    obtain ⟨v1, g1, w1⟩ := r1.get gx
    have hh : X.A.in1.handled = none := I.ok.hd hc
    have el : e < s.heap.objs.size := Heap.lt_size q1
    refine wpAny_pyNext_enum_itemC (Draws.tuple hh it a na l1.toArray) q1 ⟨h1, p1⟩ (by have := (List.getElem?_eq_some_iff.mp g1).1; simpa using this) ne (by simp [ne, nea]) fun x1 h' tk y1 z' s1 hT hsz hk => ?_
    obtain rfl : x1 = v1 := Option.some.inj ((show l1[i]? = some x1 by simpa using y1).symm.trans g1)
    refine ⟨_, rfl, wpAny_letOwnedTupleGo_enum (s := { s with heap := h', toks := tk + 1 }) z' fun h2' z2' sb => ?_⟩
    have hT2 : h2'.get? s.heap.objs.size = some { cls := .type "tuple", data := .seq #[.int i tk, x1] } := (sb.2 _ (Nat.ne_of_gt el)).trans hT
    have new : ObjOk X.prog X.w (upd H s.heap.objs.size (.tup [.int (i : Nat), x])) h2' s.heap.objs.size (.tup [.int (i : Nat), x]) := ⟨by show 2 ≤ sizeLine; decide, [.int i tk, x1], .cons ⟨_, rfl⟩ (.cons w1 .nil), ⟨_, hT2, rfl, _, rfl⟩⟩
    have n2 : ∀ {d : Addr}, d ∉ [e, it] → d ≠ e ∧ d ≠ it := fun h => ⟨fun q => h (by simp [q]), fun q => h (by simp [q])⟩
    have I1 : Inv X pins σ (upd H s.heap.objs.size (.tup [.int (i : Nat), x])) { s with heap := h2', toks := tk + 1 } :=
      I.turnedNew (t' := tk + 1) (ch := [e, it]) (fun d o hd q => (sb.2 d (n2 hd).1).trans (hk d o (n2 hd).1 (n2 hd).2 q)) hf (Nat.le_refl _) new
    refine ⟨.ref s.heap.objs.size, _, I1, rfl, ⟨_, x, rfl, I.hok.fresh (Nat.le_refl _), rfl, fun l hl => by rw [I.tuple_inj hl hx]; exact gx⟩, ⟨⟨x1, ?_⟩, s1.1.at fun o q => (sb.2 it (Ne.symm ne)).trans q, by have := (List.getElem?_eq_some_iff.mp gx).1; omega⟩, fun d hd => ?_⟩
    · have e1 : ((i + 1 : Nat) : Int) = (i : Int) + 1 := by omega
      rw [e1]; exact z2'
    · have lt : d < s.heap.objs.size := by
        rcases in2 hd with rfl | rfl
        · exact el
        · obtain ⟨_, q, _⟩ := h1; exact Heap.lt_size q
      rw [upd_ne (Nat.ne_of_lt lt)]
      exact (hf d hd).1
  done := by
    intro X hP hw hK hc i pins s σ H E I hf st hg
    subst hP hw hK
    obtain ⟨⟨old, q1⟩, h1, hi⟩ := st
    obtain ⟨xs, hx, hn, hl⟩ := hg
    obtain ⟨l1, r1, p1, _⟩ := I.tuple hx
    have hh : X.A.in1.handled = none := I.ok.hd hc
    have m1 : l1.toArray.size = xs.length := by have := r1.length; simp; omega
    obtain rfl : i = l1.toArray.size := by omega
    obtain ⟨f0, f1, f2, f3, f4, f5⟩ := hf it (by simp)
    exact wpAny_pyNext_enum_endD (Draws.tuple hh it a na l1.toArray) q1 ⟨h1, p1⟩ fun h' eb => ⟨rfl, I.turned (t' := s.toks) (fun b o hb q => eb b o hb q) f0 f1 f3 f4 f5⟩
def iEnumT (K : PySem.W.Frag) (ta : TA) : TI := fun σ H R => ta σ H fun vs H1 => ∃ a xs, vs = [.ref a] ∧ SqT K H1 a xs ∧ R (ItET K a xs.length) H1
theorem pi_enumT {X : Cx} {e : Expr} {ta : TA} {p pos tpos : Pos} {elts : List Expr} {kk : Nat} (hg : Gl X "enumerate") (hm : X.mg "enumerate" = none) (ha : PA X [e] ta) (hs : starEach [e] X.env = [(false, eval e X.env)] := by rfl) :
    PI X (.Tuple elts kk tpos) (.Call (.Name "enumerate" p) [e] [] pos) (iEnumT X.K ta) := by
  refine ⟨fun pins s σ H R I h => ?_⟩
  refine Call_ (ld_blt I hg hm boot_enumerate (PyProof.Rows.callWith_type1 (thn (ha.run pos pins s σ H _ I h) fun us s1 ⟨vs, H1, I1, r1, q1⟩ => ?_) hs rfl))
  obtain ⟨a, xs, ex, hq, q⟩ := q1
  subst ex
  cases r1 with
  | cons r rr =>
    cases rr
    cases r
    obtain ⟨l1, _, p1, _⟩ := I1.tuple hq
    have t1 : s1.heap.IsTuple a l1.toArray := p1
    obtain ⟨o1, g1, _⟩ := id p1
    have la := Heap.lt_size g1
    refine enum_begins1 (begins_tuple a l1.toArray) t1 fun h' he hit hsz hk => wpAny_pyIter_enum he ?_
    have I2 : Inv X pins σ H1 { s1 with heap := h' } := I1.kept (t' := s1.toks) hk
    refine ⟨s1.heap.objs.size + 1, [s1.heap.objs.size + 1, s1.heap.objs.size], _, _, H1, rfl, I2, turn_enumT (Nat.succ_ne_self _) (Nat.ne_of_lt la) (Nat.ne_of_gt (Nat.lt_succ_of_lt la)), ⟨⟨.none, he⟩, ⟨_, hit, rfl, rfl⟩, Nat.zero_le _⟩, fun b hb => ?_, q⟩
    have hle : s1.heap.objs.size ≤ b := by
      rcases in2 hb with z | z
      · rw [z]; exact Nat.le_add_right _ _
      · rw [z]; exact Nat.le_refl _
    exact I1.fpOk hle (I1.hok.fresh hle)
theorem stab_enumT {K : PySem.W.Frag} {F : Hp} {a : Addr} {xs : List PV} {vs : List V} (h : SqT K F a vs) (r : RAll K F xs vs) : Stab K (ItET K a vs.length) F (enumF 0 xs) := by
  intro i F' M H sm rm
  have hH : SqT K H a vs := sqT_same rm.fr (sqT_same sm h)
  have hl := enumF_len 0 xs
  refine ⟨fun hi => ?_, fun hi => ⟨vs, hH, rfl, by rw [← r.length]; omega⟩⟩
  have hi2 : i < xs.length := by omega
  obtain ⟨v, e, rv⟩ := r.get (List.getElem?_eq_getElem hi2)
  refine ⟨⟨vs, v, hH, rfl, e⟩, fun u H' y => ?_⟩
  obtain ⟨T, v1, rfl, nT, rfl, y1⟩ := y
  have e2 := y1 vs hH
  rw [e] at e2
  cases e2
  have eq : (enumF 0 xs)[i] = .tup [.int (i : Nat), xs[i]] := by
    have z := enumF_at (k := 0) (List.getElem?_eq_getElem hi2)
    rw [List.getElem?_eq_getElem hi, Nat.zero_add] at z
    exact Option.some.inj z
  rw [eq]
  exact ⟨_, rm.beh nT, .tup (SqT.of upd_same) (.cons (.int _) (.cons ((rv.same sm).same (rm.beh (o := .tup [.int (i : Nat), v]) nT).sm) .nil))⟩
def piET (ta : PTE) : PTI := fun E σ M Q => ta E σ M fun x M1 => need (tupF x) fun xs => Q (enumF 0 xs) M1
theorem LI.enumT {X : Cx} {a : Expr} {ta : PTE} {p pos : Pos} {elts : List Expr} {kk : Nat} {tpos : Pos} (hg : Gl X "enumerate") (hm : X.mg "enumerate" = none) (ha : LE X a ta)
    (hs : starEach [a] X.env = [(false, eval a X.env)] := by rfl) : LI X (.Tuple elts kk tpos) (.Call (.Name "enumerate" p) [a] [] pos) (piET ta) := by
  refine ⟨fun σv H σ F M Q E tk rm rs h => WI.of (pi_enumT hg hm (pa_cons WE.pe pa_nil hs) hs) ?_⟩
  refine (ha.run σv H σ F M _ E tk rm rs h).mono ?_
  rintro v H1 ⟨F1, M1, x, b1, rx, hx⟩
  obtain ⟨xs, e1, h2⟩ := need_of hx
  obtain ⟨a, vs, rfl, s1, ra⟩ := R.tupI rx e1
  exact ⟨_, _, rfl, sqT_same b1.rm.fr s1, F1, M1, _, b1, stab_enumT s1 ra, h2⟩
theorem w_piET {ta : PTE} {E : PXK} {σ : PSt} {M : Mem} {Q : List PV → Mem → Prop} (h : ta E σ M fun x M1 => need (tupF x) fun xs => Q (enumF 0 xs) M1) : piET ta E σ M Q := h
end PL
set_option Elab.async false
set_option linter.all false
set_option maxRecDepth 100000
namespace PL
open PySem PySem.Spec PyProof.Rows L2
/-! ### list comprehensions over a tuple of names, one of which may stand twice -/
section
variable {X : Cx} {elt tg iter : Expr} {ifs : List Expr} {scope : Scope} {is : List Nat} {pos pt : Pos} {wi : PTI} {tt : PTT} {te : PTE} {own : List (Str × Nat)} {els : List Expr} {kk : Nat}
end
end PL
set_option Elab.async false
set_option linter.all false
set_option maxRecDepth 100000
/-! a, b, c = x, y, z -/
namespace PL
open PySem PySem.Spec PyProof.Rows L2
section
variable {X : Cx} {x : Str} {pos : Pos}
def kPar3 (i j l : Nat) (σ : PSt) (dn : PNx) (xs : List PV) (M : Mem) : Prop := match xs with
  | [x, y, z] => dn (((σ.set i (some x)).set j (some y)).set l (some z)) M
  | _ => False
def pPar3 (i j l : Nat) (ta : PTA) : PTS := fun D σ M => ta D.ex σ M fun xs M1 => kPar3 i j l σ D.nx xs M1
theorem w_kpar3 {i j l : Nat} {x y z : PV} {σ σ1 σ2 σ3 : PSt} {dn : PNx} {M : Mem} (e1 : σ.set i (some x) = σ1) (e2 : σ1.set j (some y) = σ2) (e3 : σ2.set l (some z) = σ3) (h : dn σ3 M) : kPar3 i j l σ dn [x, y, z] M := by
  subst e1
  subst e2
  subst e3
  exact h
theorem RAll.three {K : PySem.W.Frag} {F : Hp} {x y z : PV} {vs : List V} (r : RAll K F [x, y, z] vs) : ∃ u v w, vs = [u, v, w] ∧ R K F x u ∧ R K F y v ∧ R K F z w := by
  cases r with
  | cons a r => cases r with
    | cons b r => cases r with
      | cons c r => cases r; exact ⟨_, _, _, rfl, a, b, c⟩
theorem w_par3 {i j l : Nat} {ta : PTA} {dn db dc : PNx} {dr : PQ} {de : PXK} {σ : PSt} {M : Mem} (h : ta de σ M fun xs M1 => kPar3 i j l σ dn xs M1) : pPar3 i j l ta (PEnds.mk dn dr de db dc) σ M := h
end
end PL
set_option Elab.async false
set_option linter.all false
set_option maxRecDepth 100000
set_option maxHeartbeats 1000000
namespace PL
open PySem PySem.Spec PyProof.Rows L2 RT
/-! ### list(reversed(x)) of a list -/
section
variable {prog : Program} {w : World} {A : Around} {E : Value → Shared → Prop} {s : Shared}
end
section
variable {X : Cx} {a b c e : Expr} {ta tb tc te : PTE} {pos p p2 pos2 : Pos} {es : List Expr} {t : PTA} {x : Str}
def kLstRev (x : PV) (M : Mem) (Q : PQ) : Prop := need (lstF x) fun xs => ∀ p, M p = none → Q (.ptr p) (M.put p (.lst xs.reverse))
def pLstRev (te : PTE) : PTE := fun E σ M Q => te E σ M fun x M1 => kLstRev x M1 Q
theorem w_lstRev {E : PXK} {σ : PSt} {M : Mem} {Q : PQ} (h : te E σ M fun x M1 => kLstRev x M1 Q) : pLstRev te E σ M Q := h
theorem w_lstRevK {xs : List PV} {M : Mem} {Q : PQ} (h : ∀ p, M p = none → Q (.ptr p) (M.put p (.lst xs.reverse))) : kLstRev (.lst xs) M Q := h
end
end PL
set_option Elab.async false
set_option linter.all false
set_option maxRecDepth 100000
set_option maxHeartbeats 1000000
namespace PL
open PySem PySem.Spec PyProof.Rows L2 RT
/-! ### tuple(reversed(x)) of a list -/
section
variable {X : Cx} {a b c e : Expr} {ta tb tc te : PTE} {pos p p2 pos2 : Pos} {es : List Expr} {t : PTA} {x : Str}
def kTupRevL (x : PV) (M : Mem) (Q : PQ) : Prop := need (lstF x) fun xs => Q (.tup xs.reverse) M
def pTupRevL (te : PTE) : PTE := fun E σ M Q => te E σ M fun x M1 => kTupRevL x M1 Q
theorem w_tupRevL {E : PXK} {σ : PSt} {M : Mem} {Q : PQ} (h : te E σ M fun x M1 => kTupRevL x M1 Q) : pTupRevL te E σ M Q := h
theorem w_tupRevLK {xs : List PV} {M : Mem} {Q : PQ} (h : Q (.tup xs.reverse) M) : kTupRevL (.lst xs) M Q := h
end
end PL
set_option Elab.async false
set_option linter.all false
set_option maxRecDepth 100000
set_option maxHeartbeats 1000000
namespace PL
open PySem PySem.Spec PyProof.Rows L2
section
variable {X : Cx} {a b c e : Expr} {ta tb tc te : PTE} {pos p p2 pos2 : Pos} {es : List Expr} {t : PTA} {x : Str}
/-! ### (e, ..), of which it is known that it has no dict -/
def pTupN (t : PTA) : PTE := fun E σ M Q => t E σ M fun xs M1 => Q (.tpd xs) M1
theorem LE.tupN {x1} (h : LA X es t) (hn : es.length ≤ 1000 := by decide) : LE X (.Tuple es x1 pos) (pTupN t) := by
  refine ⟨fun σv H σ F M Q E tk rm rs hh => WE.of (pe_tupN WA.pa) ?_⟩
  refine (h.run σv H σ F M _ E tk rm rs hh).mono ?_
  rintro vs H1 ⟨hl, F1, M1, xs, b1, rx, hx⟩
  refine ⟨by rw [hl]; exact Nat.le_of_lt (small1000 hn), fun p o hd np => ?_⟩
  have b2 := b1.rm.beh (o := .frz o (.tup vs)) np
  exact ⟨_, M1, _, b1.trans b2, .tpd upd_same hd (rx.same b2.sm), hx⟩
theorem w_tupN {E : PXK} {σ : PSt} {M : Mem} {Q : PQ} (h : t E σ M fun xs M1 => Q (.tpd xs) M1) : pTupN t E σ M Q := h
/-! ### tuple(x) of a list, without a dict -/
theorem call_tuple_ofD : CallR X (.type "tuple") (fun xs H Q => ∃ p ys, xs = [.ref p] ∧ SqL X.K H p ys ∧ kNewT ys H Q) := by
  intro pins s σ H xs us Q I r h
  obtain ⟨p, ys, rfl, hq, q⟩ := h
  rw [Vals.ref1 r]
  obtain ⟨its, r', pl, hz⟩ := I.list hq
  have hlen := r'.length
  refine call_tuple_list pl.isList (fun h' kp => ?_) (by simp only [List.size_toArray] <;> omega)
  have I1 : Inv X pins σ H { s with heap := h' } := I.kept (t' := s.toks) kp
  have I2 : Inv X pins σ (upd H h'.objs.size (.frz { cls := .type "tuple", data := .seq its.toArray } (.tup ys))) { s with heap := h'.push { cls := .type "tuple", data := .seq its.toArray } } :=
    I1.laid (t' := s.toks) (fun b o e => Heap.get?_push_of_some _ e) (Nat.le_refl _) ⟨Heap.get?_push_size _ rfl, hz, its, r', IsTup.new _ _⟩
  exact ⟨.ref h'.objs.size, _, I2, rfl, q _ _ rfl (I1.hok.fresh (Nat.le_refl _))⟩
def kTupD (x : PV) (M : Mem) (Q : PQ) : Prop := need (lstOf M x) fun xs => Q (.tpd xs) M
theorem LE.tupOfD (hg : Gl X "tuple") (hm : X.mg "tuple" = none) (ha : LA X [e] t) (he : starEach [e] X.env = (false, eval e X.env) :: starEach [] X.env := by rfl) : LE X (.Call (.Name "tuple" p) [e] [] pos) (pCallB (on1 kTupD) t) := by
  refine LE.callT call_tuple_ofD (fun F M H xs vs Q Qv rm rx h k => ?_) hg hm (by decide +kernel) ha (he := he)
  obtain ⟨x, ex, h1⟩ := on1_of h
  subst ex
  obtain ⟨v, ev, rx1⟩ := rx.one
  subst ev
  obtain ⟨ys, e, h2⟩ := need_of h1
  obtain ⟨q, ws, ev, hs, ra⟩ := rx1.lstI rm e
  subst ev
  exact ⟨q, ws, rfl, hs, fun p o hd np => k _ _ ⟨_, M, _, rm.beh np, .tpd upd_same hd (ra.same (rm.beh (o := .frz o (.tup ws)) np).sm), h2⟩⟩
theorem w_tupD {x : PV} {xs : List PV} {M : Mem} {Q : PQ} (e : lstOf M x = some xs) (h : Q (.tpd xs) M) : kTupD x M Q := need_by e h
theorem w_tupDL {xs : List PV} {M : Mem} {Q : PQ} (h : Q (.tpd xs) M) : kTupD (.lst xs) M Q := h
/-! ### sum(xs), min(xs) of a list of ints -/
def kSum (x : PV) (M : Mem) (Q : PQ) : Prop := need (lstOf M x) fun xs => need (intsOf xs) fun ns => Q (.int ns.sum) M
theorem LE.sum (hc : X.calm = true) (hg : Gl X "sum") (hm : X.mg "sum" = none) (ha : LA X [e] t) (he : starEach [e] X.env = (false, eval e X.env) :: starEach [] X.env := by rfl) : LE X (.Call (.Name "sum" p) [e] [] pos) (pCallB (on1 kSum) t) := by
  refine LE.callB (cr_sum hc) (fun F M H xs vs Q Qv rm rx h k => ?_) hg hm (by decide +kernel) ha (he := he)
  obtain ⟨x, ex, h1⟩ := on1_of h
  subst ex
  obtain ⟨v, ev, rx1⟩ := rx.one
  subst ev
  obtain ⟨ys, e1, h2⟩ := need_of h1
  obtain ⟨ns, e2, h3⟩ := need_of h2
  obtain ⟨q, ws, ev, hs, ra⟩ := rx1.lstI rm e1
  subst ev
  rw [intsOf_eq e2] at ra
  rw [ra.intsI] at hs
  exact ⟨_, ns, rfl, hs, k _ _ (LQ.now rm (.int _) h3)⟩
theorem w_sum {ns : List Int} {M : Mem} {Q : PQ} (h : Q (.int ns.sum) M) : kSum (.lst (ns.map .int)) M Q := need_by (a := ns.map PV.int) rfl (need_by (intsOf_map ns) h)
def kMinL (x : PV) (M : Mem) (Q : PQ) : Prop := need (lstOf M x) fun xs => need (intsOf xs) fun ns => 0 < ns.length ∧ ∀ m, m ∈ ns → (∀ y, y ∈ ns → m ≤ y) → Q (.int m) M
/-! ### t < u, tuples of ints -/
def oLtT (x y : PV) (M : Mem) (Q : PQ) : Prop := match x, y with
  | .tup xs, .tup ys => need (intsOf xs) fun ns => need (intsOf ys) fun ms => Q (.bl (HT.lexLt ns ms)) M
  | _, _ => False
theorem LE.ltT (hu : X.A.units + 65 < cLine) (ha : LE X a ta) (hb : LE X b tb) : LE X (.Compare a [.Lt] [b] pos) (pBin oLtT ta tb) := by
  refine LE.cmp (op_ltT (by omega)) (fun F M H x y xv yv Q Qv rm rx ry h k => ?_) (nomark _) ha hb
  unfold oLtT at h
  split at h
  · obtain ⟨ns, e1, h1⟩ := need_of h
    obtain ⟨ms, e2, h2⟩ := need_of h1
    cases rx with
    | tup q1 r1 =>
      cases ry with
      | tup q2 r2 =>
        rw [intsOf_eq e1] at r1
        rw [intsOf_eq e2] at r2
        have h3 := sqT_same rm.fr q1
        have h4 := sqT_same rm.fr q2
        rw [r1.intsI] at h3
        rw [r2.intsI] at h4
        exact ⟨_, _, ns, ms, rfl, rfl, h3, h4, k _ _ (LQ.now rm (.bl _) h2)⟩
  · exact h.elim
theorem w_ltT {ns ms : List Int} {M : Mem} {Q : PQ} (h : Q (.bl (HT.lexLt ns ms)) M) : oLtT (.tup (ns.map .int)) (.tup (ms.map .int)) M Q := need_by (intsOf_map ns) (need_by (intsOf_map ms) h)
/-! ### list(range(a, b)) -/
def kLstRg2 (x y : PV) (M : Mem) (Q : PQ) : Prop := match x, y with
  | .int i, .int j => (-(2 ^ 40) ≤ i ∧ i ≤ j ∧ j ≤ i + 16777216 ∧ j < 2 ^ 40) ∧ ∀ p, M p = none → Q (.ptr p) (M.put p (.lst (rngP i (j - i).toNat)))
  | _, _ => False
def pLstRg2 (ta tb : PTE) : PTE := fun E σ M Q => ta E σ M fun x M1 => tb E σ M1 fun y M2 => kLstRg2 x y M2 Q
theorem rall_rng2 {K : PySem.W.Frag} {F : Hp} (i : Int) : ∀ ns : List Nat, RAll K F (ns.map fun (k : Nat) => PV.int (i + (k : Int))) (ns.map fun (k : Nat) => V.int (i + (k : Int)))
  | [] => .nil
  | n :: r => .cons (.int _) (rall_rng2 i r)
theorem LE.listRg2 {pr pl : Pos} (hc : X.calm = true) (hg : Gl X "list") (hm : X.mg "list" = none) (hg2 : Gl X "range") (hm2 : X.mg "range" = none) (ha : LE X a ta) (hb : LE X b tb) (na : starEach [a, b] X.env = (false, eval a X.env) :: starEach [b] X.env := by rfl) (nb : starEach [b] X.env = (false, eval b X.env) :: starEach [] X.env := by rfl)
    (hp : (backTo p (starEach [b] X.env)).any (·.1) = false := by rfl)
    (ne : starEach [.Call (.Name "range" pr) [a, b] [] p] X.env = (false, eval (.Call (.Name "range" pr) [a, b] [] p) X.env) :: starEach [] X.env := by rfl) :
    LE X (.Call (.Name "list" pl) [.Call (.Name "range" pr) [a, b] [] p] [] pos) (pLstRg2 ta tb) := by
  refine ⟨fun σv H σ F M Q E tk rm rs h => WE.of (pe_listRg hc hg hm (prg_2 hg2 hm2 WE.pe WE.pe na nb hp) ne) ?_⟩
  refine (ha.run σv H σ F M _ E tk rm rs h).mono ?_
  rintro v H1 ⟨F1, M1, x, b1, rx, hx⟩
  refine (hb.run σv H1 σ F1 M1 _ E (tk.tr b1) b1.rm (rs.same b1.sm) hx).mono ?_
  rintro w H2 ⟨F2, M2, y, b2, ry, hy⟩
  unfold kLstRg2 at hy
  split at hy
  · cases rx
    cases ry
    rename_i i j
    obtain ⟨⟨h0, h1, h2, h3⟩, hz⟩ := hy
    refine ⟨i, j, rfl, rfl, ?_, fun q nq => ?_⟩
    · exact ⟨by omega, by omega, by omega, by omega, by omega⟩
    · have rr : RAll X.K F2 (rngP i (j - i).toNat) (rgV i j) := by
        unfold rngP rgV
        exact rall_rng2 i _
      have b12 := b1.trans b2
      exact ⟨_, _, _, b12.trans (b12.rm.behNew nq (.lst rr)), .ptr q, hz q (b12.rm.nones nq).2⟩
  · exact hy.elim
theorem w_lstRg2 {E : PXK} {σ : PSt} {M : Mem} {Q : PQ} (h : ta E σ M fun x M1 => tb E σ M1 fun y M2 => kLstRg2 x y M2 Q) : pLstRg2 ta tb E σ M Q := h
/-! ### len(set(t)), t a tuple of ints -/
def kLenSet (x : PV) (M : Mem) (Q : PQ) : Prop := match x with
  | .tup xs => need (intsOf xs) fun ns => ns.length ≤ 60 ∧ ∀ ks : List Int, ks.Nodup → (∀ k, k ∈ ks ↔ k ∈ ns) → Q (.int ks.length) M
  | _ => False
def pLenSet (te : PTE) : PTE := fun E σ M Q => te E σ M fun x M1 => kLenSet x M1 Q
theorem pe_lenSetT {a : Expr} {ta : TE} {p p2 q pos : Pos} (hc : X.calm = true) (hg : Gl X "len") (hm : X.mg "len" = none) (hg2 : Gl X "set") (hm2 : X.mg "set" = none) (ha : PE X a ta)
    (na : starEach [a] X.env = (false, eval a X.env) :: starEach [] X.env := by rfl) : PE X (.Call (.Name "len" p) [.Call (.Name "set" p2) [a] [] q] [] pos) (fun σ H Q => ta σ H fun x H1 => ∃ (l : Addr) (ns : List Int), x = V.ref l ∧ SqT X.K H1 l (ns.map V.int) ∧ ns.length ≤ 60 ∧ ∀ ks : List Int, ks.Nodup → (∀ k, k ∈ ks ↔ k ∈ ns) → Q (.int ks.length) H1) := by
  refine ⟨fun pins s σ H Q I h => ?_⟩
  refine Call_ (ld_blt I hg hm PySem.boot_len ?_)
  refine PyProof.Rows.callWith_builtin1 (PyProof.Rows.args_cons ?_ rfl) rfl rfl
  refine Call_ (ld_blt I hg2 hm2 PyProof.Rows.boot_set ?_)
  refine PyProof.Rows.callWith_type1 (PyProof.Rows.args_cons (thn (ha.run pins s σ H _ I h) fun v s1 ⟨x, H1, I1, r1, q1⟩ => PyProof.Rows.args_nil ?_) na) na rfl
  obtain ⟨l, ns, rfl, hq, h1, q1⟩ := q1
  cases r1
  obtain ⟨its, r, pl, hz⟩ := I1.tuple hq
  refine call_set_tupI ns (I1.ok.hd hc) pl (by simpa using r.ints) (by unfold scanBound; omega) fun h' tk c hS hc2 hk => ?_
  refine PyProof.Rows.args_nil ?_
  obtain ⟨o, es, ep, t, ho, hex, hd, _, nd, mem, hb, hf, hn, _⟩ := hS
  have I2 : Inv X pins σ H1 { s1 with heap := h', toks := tk } := I1.kept hk
  refine call_len_set ho hex hd hf (by rw [hn]; omega) ⟨.int es.size, H1, I2.tok _, ⟨_, rfl⟩, ?_⟩
  have := q1 (es.toList.map keyOf) nd (fun k => by rw [← mem k, decide_eq_true_eq])
  rw [List.length_map, Array.length_toList] at this
  exact this
theorem LE.lenSet {p3 : Pos} (hc : X.calm = true) (hg : Gl X "len") (hm : X.mg "len" = none) (hg2 : Gl X "set") (hm2 : X.mg "set" = none) (ha : LE X a ta) (na : starEach [a] X.env = (false, eval a X.env) :: starEach [] X.env := by rfl) :
    LE X (.Call (.Name "len" p) [.Call (.Name "set" p2) [a] [] p3] [] pos) (pLenSet ta) := by
  refine ⟨fun σv H σ F M Q E tk rm rs h => WE.of (pe_lenSetT hc hg hm hg2 hm2 WE.pe na) ?_⟩
  refine (ha.run σv H σ F M _ E tk rm rs h).mono ?_
  rintro v H1 ⟨F1, M1, x, b1, rx, hx⟩
  unfold kLenSet at hx
  split at hx
  · obtain ⟨ns, e, hl, hz⟩ := need_of hx
    cases rx with
    | tup q r =>
      rw [intsOf_eq e] at r
      have h3 := sqT_same b1.rm.fr q
      rw [r.intsI] at h3
      exact ⟨_, ns, rfl, h3, hl, fun ks nd mem => LQ.tr b1 (LQ.now b1.rm (.int _) (hz ks nd mem))⟩
  · exact hx.elim
theorem w_lenSet {E : PXK} {σ : PSt} {M : Mem} {Q : PQ} (h : ta E σ M fun x M1 => kLenSet x M1 Q) : pLenSet ta E σ M Q := h
theorem w_lenSetK {ns : List Int} {M : Mem} {Q : PQ} (h0 : ns.length ≤ 60) (h : ∀ ks : List Int, ks.Nodup → (∀ k, k ∈ ks ↔ k ∈ ns) → Q (.int ks.length) M) : kLenSet (.tup (ns.map .int)) M Q := need_by (intsOf_map ns) ⟨h0, h⟩
/-! ### f() -/
theorem LE.call0 {k : Nat} {ps : List Str} {sp : PSp} (G : GFn X.prog X.w X.K X.mg X.base x k ps sp) (hr : Room k X.A) (hg : Gl X x) (hl : 0 = ps.length := by rfl) (hdb : (x == ("__debug__" : Str)) = false := by decide) : LE X (.Call (.Name x p) [] [] pos) (pCall sp pNil) := by
  obtain ⟨f, fd, G, hm, hk, hb⟩ := G.ex
  refine ⟨fun σv H σ F M Q E tk rm rs h => WE.of (pe_call0 (E := LX X.K F M H E) G hr hg hm hk hb .nil (passes_call tk fun _ _ _ _ z => z) hdb) ?_⟩
  exact lift_of hl rm .nil h (fun v H' q => q) fun cls d H' q => q
end
end PL
set_option Elab.async false
set_option linter.all false
set_option maxRecDepth 100000
namespace PL
open PySem PySem.Spec PyProof.Rows L2
/-! ### list comprehensions over any target -/
/-- what storing an item under the target does -/
structure GoalOk (K : PySem.W.Frag) (is : List Nat) (g : TG) (sp : PV → PSt → Option PSt) : Prop where
  ok : ∀ (F : Hp) (M : Mem) (H : Hp) (x : PV) (v : V) (σ σ1 : PSt) (σv : L2.St), RM K F M H → R K F x v → RS K F σ σv → sp x σ = some σ1 → ∃ σ2, RS K F σ1 σ2 ∧ wipe σ2 is = wipe σv is ∧ ∀ Q : L2.St → Hp → Prop, Q σ2 H → g v (wipe σv is) H Q
def pLcGL (sp : PV → PSt → Option PSt) (tt : PTT) (te : PTE) : List PV → List PV → PSt → Mem → PQ → Prop
  | [], acc => fun _ M Q => Q (.lst acc) M
  | x :: xs, acc => fun σ M Q => need (sp x σ) fun σ1 => tt noX σ1 M fun b M1 => if b = true then te noX σ1 M1 fun y M2 => pLcGL sp tt te xs (acc ++ [y]) σ M2 Q else pLcGL sp tt te xs acc σ M1 Q
def pLcG (wi : PTI) (sp : PV → PSt → Option PSt) (tt : PTT) (te : PTE) : PTE := fun E σ M Q => wi E σ M fun xs M1 => xs.length ≤ sizeLine ∧ pLcGL sp tt te xs [] σ M1 Q
section
variable {X : Cx} {elt tg iter : Expr} {ifs : List Expr} {scope : Scope} {pos pt : Pos} {wi : PTI} {tt : PTT} {te : PTE} {own : List (Str × Nat)} {els : List Expr} {kk : Nat} {sp : PV → PSt → Option PSt}
/-- the turns of the block, D the new list -/
theorem lcG_turns {is : List Nat} {g : TG} (G : GoalOk X.K is g sp) {te' : TE} {tt' : TT} 
    (ht : ∀ (σv : L2.St) (H : Hp) (σ : PSt) (F : Hp) (M : Mem) (Q : Bool → Mem → Prop), RM X.K F M H → RS X.K F σ σv → tt noX σ M Q → tt' σv H (LB X.K F M H Q))
    (he : ∀ (σv : L2.St) (H : Hp) (σ : PSt) (F : Hp) (M : Mem) (Q : PQ), RM X.K F M H → RS X.K F σ σv → te noX σ M Q → te' σv H (LQ X.K F M H Q))
    (mt : ∀ σv H Q Q', tt' σv H Q → (∀ b H', Q b H' → Q' b H') → tt' σv H Q') (me : ∀ σv H Q Q', te' σv H Q → (∀ b H', Q b H' → Q' b H') → te' σv H Q')
    {σv : L2.St} {σ : PSt} {F M H F1 M1 H1} {Q : PQ} {J : It} {xs : List PV} (b1 : Beh X.K F M H F1 M1 H1) (rs : RS X.K F σ σv) (st : Stab X.K J F1 xs) (hz : xs.length ≤ sizeLine) (h1 : pLcGL sp tt te xs [] σ M1 Q) {D : Addr} (nD : H1 D = none) :
    ∃ W : Nat → Nat → Hp → Prop, (∃ m, W 0 m (upd H1 D (.lst []))) ∧ ∀ j m H', W j m H' →
      (J.stop j H' ∧ LQ X.K F M H Q (.ref D) H') ∨ (J.go j H' ∧ ∃ Nx : Hp → Prop, (∀ H2, Nx H2 → ∃ m', m' < m ∧ W (j + 1) m' H2) ∧ ∀ v H2, J.yld j H' v H2 → g v (wipe σv is) H2 fun σ2 H3 => wipe σ2 is = wipe σv is ∧ tt' σ2 H3 fun b H4 =>
        if b = true then te' σ2 H4 fun y H5 => ∃ acc, H5 D = some (.lst acc) ∧ acc.length < sizeLine ∧ Nx (upd H5 D (.lst (acc ++ [y]))) else Nx H4) := by
  obtain ⟨nF, nM⟩ := b1.rm.nones nD
  have b1' := b1.trans ((b1.rm.behHid (o := .lst []) nF nM).2 nD)
  refine ⟨fun j m H' => m = xs.length - j ∧ j ≤ xs.length ∧ ∃ F' M' acc vacc, Beh X.K F M H F' M' H' ∧ Same F1 F' ∧ F' D = none ∧ M' D = none ∧ H' D = some (.lst vacc) ∧ RAll X.K F' acc vacc ∧ acc.length ≤ j ∧ pLcGL sp tt te (xs.drop j) acc σ M' Q,
    ⟨xs.length, rfl, Nat.zero_le _, F1, M1, [], [], b1', Same.refl _, nF, nM, upd_same, .nil, Nat.le_refl _, h1⟩, ?_⟩
  rintro j m H2 ⟨rfl, hj, F2, M2, acc, vacc, b2, sm2, nF2, nM2, hD, ra, hl, h2⟩
  obtain ⟨s1, s2⟩ := st j F2 M2 H2 sm2 b2.rm
  by_cases hlt : j < xs.length
  · obtain ⟨go, yl⟩ := s1 hlt
    rw [List.drop_eq_getElem_cons hlt] at h2
    refine .inr ⟨go, _, fun H' n => ⟨_, (show xs.length - (j + 1) < xs.length - j by omega), n⟩, fun v H3 y => ?_⟩
    obtain ⟨F3, b3, r3⟩ := yl v H3 y
    have keepD : ∀ {Fa : Hp} {Ma : Mem} {Ha : Hp}, Beh X.K F2 M2 H2 Fa Ma Ha → Fa D = none ∧ Ma D = none ∧ Ha D = some (.lst vacc) := fun {Fa Ma Ha} b => by
      refine ⟨?_, ?_, b.fr.keep D _ hD nM2⟩
      · cases q : Fa D with
        | none => rfl
        | some u =>
          rcases b.fg D (by rw [q]; exact Option.some_ne_none _) with z | z | z
          · exact absurd nF2 z
          · exact absurd nM2 z
          · rw [hD] at z; cases z
      · cases q : Ma D with
        | none => rfl
        | some u =>
          rcases b.fr.grow D (by rw [q]; exact Option.some_ne_none _) with z | z
          · exact absurd nM2 z
          · rw [hD] at z; cases z
    have hs : pLcGL sp tt te (xs[j] :: xs.drop (j + 1)) acc σ M2 Q := h2
    unfold pLcGL at hs
    obtain ⟨σ1, es, h2⟩ := need_of hs
    obtain ⟨σ2, rs3, hw, hg⟩ := G.ok F3 M2 H3 _ v _ σ1 σv b3.rm r3 (rs.same (b2.trans b3).sm) es
    refine hg _ ⟨hw, ?_⟩
    refine mt _ _ _ _ (ht _ H3 _ F3 M2 _ b3.rm rs3 h2) ?_
    rintro b H4 ⟨F4, M4, b4, h4⟩
    have b24 := b3.trans b4
    split
    · rename_i e
      rw [if_pos e] at h4
      refine me _ _ _ _ (he _ H4 _ F4 M4 _ b4.rm (rs3.same b4.sm) h4) ?_
      rintro yv H5 ⟨F5, M5, y5, b5, r5, h5⟩
      have b25 := b24.trans b5
      obtain ⟨k1, k2, k3⟩ := keepD b25
      refine ⟨vacc, k3, by rw [← ra.length]; omega, rfl, hlt, F5, M5, acc ++ [y5], vacc ++ [yv], ?_, sm2.trans b25.sm, k1, k2, upd_same, (ra.same b25.sm).append (.cons r5 .nil), by rw [List.length_append]; show acc.length + 1 ≤ j + 1; omega, h5⟩
      have b05 := b2.trans b25
      have x : RM X.K F5 M5 (upd H5 D (.lst (vacc ++ [yv]))) := hid_app b05.rm k1 k2
      refine ⟨b05.sm, x, ⟨fun c u hc nc => ?_, b05.fr.grow, fun c hc => ?_⟩, b05.fg⟩
      · have hcD : c ≠ D := fun z => by
          subst z
          rcases b1.fr.there c (by rw [hc]; exact Option.some_ne_none _) with _
          exact absurd nD (b1.fr.there c (by rw [hc]; exact Option.some_ne_none _))
        rw [upd_ne hcD]
        exact b05.fr.keep c u hc nc
      · by_cases hcD : c = D
        · subst hcD; rw [upd_same]; exact Option.some_ne_none _
        · rw [upd_ne hcD]; exact b05.fr.there c hc
    · rename_i e
      rw [if_neg e] at h4
      obtain ⟨k1, k2, k3⟩ := keepD b24
      exact ⟨rfl, hlt, F4, M4, acc, vacc, b2.trans b24, sm2.trans b24.sm, k1, k2, k3, ra.same b24.sm, by omega, h4⟩
  · have e : j = xs.length := by omega
    subst e
    rw [List.drop_length] at h2
    refine .inl ⟨s2 (Nat.le_refl _), ?_⟩
    have sm : Same F2 (upd F2 D (.lst vacc)) := same_upd nF2
    refine ⟨upd F2 D (.lst vacc), M2, _, ⟨b2.sm.trans sm, ⟨fun c u hc => ?_, fun c hc => ?_, fun c mo hc => ?_⟩, b2.fr, fun c hc => ?_⟩, .lst upd_same (ra.same sm), h2⟩
    · by_cases hcD : c = D
      · subst hcD; rw [upd_same] at hc; cases hc; exact hD
      · rw [upd_ne hcD] at hc; exact b2.rm.fr c u hc
    · have hcD : c ≠ D := fun z => hc (by rw [z]; exact nM2)
      rw [upd_ne hcD]; exact b2.rm.dj c hc
    · obtain ⟨u, e1, e2⟩ := b2.rm.mu c mo hc
      exact ⟨u, e1, e2.same sm⟩
    · by_cases hcD : c = D
      · subst hcD
        right; right
        cases q : H c with
        | none => rfl
        | some u => exact absurd nD (b1.fr.there c (by rw [q]; exact Option.some_ne_none _))
      · rw [upd_ne hcD] at hc; exact b2.fg c hc
theorem lcG_core {is : List Nat} {g : TG} (G : GoalOk X.K is g sp) (hi : LI X tg iter wi)
    (ht : ∀ (s : Shared) (H : Hp) (C : Addr) (cl : List (Str × Addr)) (fp : List Addr), LTs (Blk X scope s H C cl fp) ifs tt)
    (he : ∀ (s : Shared) (H : Hp) (C : Addr) (cl : List (Str × Addr)) (fp : List Addr), LE (Blk X scope s H C cl fp) elt te)
    {σv : L2.St} {H : Hp} {σ : PSt} {F : Hp} {M : Mem} {Q : PQ} {E : PXK} (tk : PTk X F M H E) (rm : RM X.K F M H) (rs : RS X.K F σ σv) (h : pLcG wi sp tt te E σ M Q) : tLc (WI X tg iter) g (TBlk X scope ifs) (EBlk X scope elt) is σv H (LQ X.K F M H Q) := by
  refine (hi.run σv H σ F M _ E tk rm rs h).mono ?_
  rintro J H1 ⟨F1, M1, xs, b1, st, hz, h1⟩
  intro D nD
  exact lcG_turns (te := te) (tt := tt) (te' := EBlk X scope elt) (tt' := TBlk X scope ifs) G (fun σv H σ F M Q rm rs h s0 H0 C cl fp pins s I => (ht s0 H0 C cl fp).run σv H σ F M Q rm rs h pins s I)
    (fun σv H σ F M Q rm rs h s0 H0 C cl fp => (he s0 H0 C cl fp).run σv H σ F M Q noX PTk.no rm rs h)
    (fun σv H Q Q' h m => TBlk.mono h m) (fun σv H Q Q' h m => EBlk.mono h m) b1 rs st hz h1 nD
theorem LE.lcG {g : TG} (G : GoalOk X.K (own.map (·.2)) g sp) (hc : X.calm = true) (hN : X.N.Nodup) (hi : LI X tg iter wi) (ok : BlkOk X.N X.env.scope scope own)
    (hg : ∀ (s : Shared) (H : Hp) (C : Addr) (cl : List (Str × Addr)) (fp : List Addr), PG (Blk X scope s H C cl fp) tg g)
    (ht : ∀ (s : Shared) (H : Hp) (C : Addr) (cl : List (Str × Addr)) (fp : List Addr), LTs (Blk X scope s H C cl fp) ifs tt)
    (he : ∀ (s : Shared) (H : Hp) (C : Addr) (cl : List (Str × Addr)) (fp : List Addr), LE (Blk X scope s H C cl fp) elt te)
    (hs : ∀ v, foldedSetIterable iter X.env v = pure v := by intro _; rfl) : LE X (.ListComp elt [⟨tg, iter, ifs, 0⟩] scope pos) (pLcG wi sp tt te) := by
  refine ⟨fun σv H σ F M Q E tk rm rs h => ?_⟩
  refine WE.of (pe_lc (own := own) (g := g) (tt := TBlk X scope ifs) (te := EBlk X scope elt) hc hN WI.pi ok hg (fun s0 H0 C cl fp => ⟨fun pins s σ H Q I hh => hh s0 H0 C cl fp pins s I⟩) (fun s0 H0 C cl fp => ⟨fun pins s σ H Q I hh => hh s0 H0 C cl fp pins s I⟩) hs) ?_
  exact lcG_core G hi ht he tk rm rs h
theorem w_lcG {E : PXK} {σ : PSt} {M : Mem} {Q : PQ} (h : wi E σ M fun xs M1 => xs.length ≤ sizeLine ∧ pLcGL sp tt te xs [] σ M1 Q) : pLcG wi sp tt te E σ M Q := h
theorem lcGf_map {α : Type} {σ : PSt} {M : Mem} {Q : PQ} (h : α → PV) (p : α → Bool) (f : α → PV) : ∀ (l : List α) (acc : List PV), (∀ a ∈ l, ∃ σ1, sp (h a) σ = some σ1 ∧ (∀ R : Bool → Mem → Prop, R (p a) M → tt noX σ1 M R) ∧ (p a = true → ∀ R : PQ, R (f a) M → te noX σ1 M R)) → Q (.lst (acc ++ (l.filter p).map f)) M → pLcGL sp tt te (l.map h) acc σ M Q
  | [], acc, _, q => by
    rw [List.filter_nil, List.map_nil, List.append_nil] at q
    exact q
  | a :: l, acc, he, q => by
    obtain ⟨σ1, e1, h1, h2⟩ := he a List.mem_cons_self
    show need (sp (h a) σ) _
    refine need_by e1 (h1 _ ?_)
    cases hp : p a with
    | true =>
      rw [if_pos rfl]
      refine h2 hp _ (lcGf_map h p f l (acc ++ [f a]) (fun b hb => he b (List.mem_cons_of_mem _ hb)) ?_)
      rw [List.filter_cons, if_pos hp, List.map_cons] at q
      rw [List.append_assoc]
      exact q
    | false =>
      rw [if_neg Bool.false_ne_true]
      refine lcGf_map h p f l acc (fun b hb => he b (List.mem_cons_of_mem _ hb)) ?_
      rw [List.filter_cons, if_neg (by rw [hp]; exact Bool.false_ne_true)] at q
      exact q
end
/-- i, (j, k) -/
def sp12 (i j k : Nat) (x : PV) (σ : PSt) : Option PSt := match x with
  | .tup [a, .tup [b, c]] => some (((σ.set i (some a)).set j (some b)).set k (some c))
  | _ => none
theorem goal12 {K : PySem.W.Frag} {i j k : Nat} (hn : [i, j, k].Nodup) : GoalOk K [i, j, k] (gTup K 2 (gCons (gName i) (gCons (gTup K 2 (gCons (gName j) (gCons (gName k) gNil))) gNil))) (sp12 i j k) := by
  refine ⟨fun F M H x v σ σ1 σv rm r rs e => ?_⟩
  unfold sp12 at e
  split at e
  · rename_i a b c
    cases e
    obtain ⟨p, vs, rfl, hq, ra⟩ := R.tupI r rfl
    cases ra with
    | cons r1 t1 =>
      cases t1 with
      | cons r2 t2 =>
        cases t2
        obtain ⟨p2, vs2, rfl, hq2, ra2⟩ := R.tupI r2 rfl
        cases ra2 with
        | cons r3 t3 =>
          cases t3 with
          | cons r4 t4 =>
            cases t4
            rename_i va vb vc
            refine ⟨setsV [i, j, k] [va, vb, vc] σv, RS.sets [i, j, k] rs (.cons r1 (.cons r3 (.cons r4 .nil))) rfl, wipe_sets hn rfl, fun Q q => ?_⟩
            rw [← setsV_wipe hn rfl] at q
            exact ⟨p, _, rfl, sqT_same rm.fr hq, rfl, va, _, rfl, _, _, rfl, ⟨p2, _, rfl, sqT_same rm.fr hq2, rfl, vb, _, rfl, vc, _, rfl, ⟨rfl, ⟨rfl, q⟩⟩⟩⟩
  · cases e
end PL
set_option Elab.async false
set_option linter.all false
set_option maxRecDepth 100000
/-! TM: ordinary tape machines, as plain Lean -/
namespace TM
open PySem PySem.Spec PyProof.Rows L2 PL
abbrev TRow := Option (Int × Int × Int)
def rowP : TRow → PV
  | none => .non
  | some (w, mv, t) => .tup [.int w, .int mv, .int t]
def RowOk (m s : Int) : TRow → Prop
  | none => True
  | some (w, mv, t) => (0 ≤ w ∧ w < m) ∧ (mv = 1 ∨ mv = -1) ∧ (0 ≤ t ∧ t < s)
structure Mach (m s : Int) (rows : List TRow) : Prop where
  m2 : 2 ≤ m
  m8 : m ≤ 8
  s1 : 1 ≤ s
  s40 : s ≤ 40
  len : (rows.length : Int) = m * s
  ok : ∀ r ∈ rows, RowOk m s r
def tI (xs : List Int) : PV := .tup (xs.map PV.int)
def trimL (ms : List Int) : List Int := (ms.reverse.dropWhile (fun x => decide (x = 0))).reverse
structure Cf where
  q : Int
  l : List Int
  a : Int
  r : List Int
def cfP (c : Cf) : PV := .tup [.int c.q, tI c.l, .int c.a, tI c.r]
structure SideOk (m : Int) (xs : List Int) : Prop where
  mm : ∀ x ∈ xs, 0 ≤ x ∧ x < m
  tr : trimL xs = xs
structure CfOk (m s : Int) (c : Cf) : Prop where
  q0 : 0 ≤ c.q
  qs : c.q < s
  a0 : 0 ≤ c.a
  am : c.a < m
  l : SideOk m c.l
  r : SideOk m c.r
def push (w : Int) (l : List Int) : List Int := if w = 0 ∧ l = [] then [] else w :: l
def hd (l : List Int) : Int := l.headD 0
def rowAt (rows : List TRow) (m q a : Int) : TRow := (rows[(q * m + a).toNat]?).getD none
def stepM (rows : List TRow) (m : Int) (c : Cf) : Option Cf := match rowAt rows m c.q c.a with
  | none => none
  | some (w, mv, t) => if mv = 1 then some ⟨t, push w c.l, hd c.r, c.r.tail⟩ else some ⟨t, c.l.tail, hd c.l, push w c.r⟩
def runM (rows : List TRow) (m : Int) : Nat → Cf → Cf × Nat
  | 0, c => (c, 0)
  | n + 1, c => match stepM rows m c with
    | none => (c, 0)
    | some d => let (e, k) := runM rows m n d; (e, k + 1)
def optP : Option Cf → PV
  | none => .non
  | some c => cfP c
def tapeF (m s : Int) (rows : List TRow) : List (Str × PV) := [(Str.ofString "marks", .int m), (Str.ofString "states", .int s), (Str.ofString "_rows", .lst (rows.map rowP))]
/-! ### trimming -/
theorem trimL_snoc0 (xs : List Int) : trimL (xs ++ [0]) = trimL xs := by
  unfold trimL
  rw [List.reverse_append]
  simp
theorem trimL_snoc (xs : List Int) {x : Int} (h : x ≠ 0) : trimL (xs ++ [x]) = xs ++ [x] := by
  unfold trimL
  rw [List.reverse_append]
  simp [h]
theorem trimL_len (xs : List Int) : (trimL xs).length ≤ xs.length := by
  unfold trimL
  rw [List.length_reverse]
  exact Nat.le_trans ((List.dropWhile_suffix _).length_le) (by rw [List.length_reverse]; exact Nat.le_refl _)
/-- it is trimmed: it is empty, or its last is no blank -/
theorem trimL_eq_iff (xs : List Int) : trimL xs = xs ↔ ∀ x, xs.getLast? = some x → x ≠ 0 := by
  rcases List.eq_nil_or_concat xs with rfl | ⟨r, y, rfl⟩
  · simp [trimL]
  · rw [List.concat_eq_append]
    constructor
    · intro h x hx
      rw [List.getLast?_append] at hx
      simp at hx
      subst hx
      intro z
      subst z
      rw [trimL_snoc0] at h
      have := trimL_len r
      rw [h] at this
      simp at this
      omega
    · intro h
      exact trimL_snoc r (h y (by simp))
theorem SideOk.tail {m : Int} {xs : List Int} (h : SideOk m xs) : SideOk m xs.tail := by
  refine ⟨fun x hx => h.mm x (List.mem_of_mem_tail hx), ?_⟩
  rw [trimL_eq_iff]
  have h2 := (trimL_eq_iff xs).mp h.tr
  cases xs with
  | nil => exact h2
  | cons a r =>
    intro x hx
    refine h2 x ?_
    show (a :: r).getLast? = some x
    cases r with
    | nil => cases hx
    | cons b r =>
      rw [List.getLast?_cons_cons]
      exact hx
theorem SideOk.push {m w : Int} {xs : List Int} (h : SideOk m xs) (hw : 0 ≤ w ∧ w < m) : SideOk m (push w xs) := by
  unfold TM.push
  split
  · exact ⟨fun x hx => (nomatch hx), rfl⟩
  · rename_i hn
    refine ⟨fun x hx => ?_, ?_⟩
    · rcases List.mem_cons.mp hx with e | e
      · rw [e]; exact hw
      · exact h.mm x e
    · rw [trimL_eq_iff]
      have h2 := (trimL_eq_iff xs).mp h.tr
      cases xs with
      | nil =>
        intro x hx
        simp at hx
        subst hx
        intro z
        exact hn ⟨z, rfl⟩
      | cons b r =>
        intro x hx
        rw [List.getLast?_cons_cons] at hx
        exact h2 x hx
theorem SideOk.hd {m : Int} {xs : List Int} (h : SideOk m xs) (hm : 0 < m) : 0 ≤ hd xs ∧ hd xs < m := by
  cases xs with
  | nil => exact ⟨Int.le_refl 0, hm⟩
  | cons a r => exact h.mm a List.mem_cons_self
/-! ### readings over tuples of ints -/
section
variable {M : Mem} {Q : PQ}
theorem eq_tI {l r : List Int} : oEq (tI l) (tI r) M Q = Q (.bl (decide (l = r))) M := eqP_tI
theorem eq_tI_nil {l : List Int} : oEq (tI l) (.tup []) M Q = Q (.bl (decide (l = []))) M := eqP_tI (ys := [])
theorem sl_tI_tail {l : List Int} : oSl (tI l) (some 1) none M Q = Q (tI l.tail) M := by
  unfold tI
  rw [PL.sl_tup, cutA_map, cutA_from1]
theorem len_tI {l : List Int} : kLen (tI l) M Q = Q (.int l.length) M := by
  unfold tI
  rw [PL.len_tup, List.length_map]
theorem tup_tI {l : List Int} : PL.kTup (tI l) M Q = Q (tI l) M := rfl
theorem add_tI {l r : List Int} : oAdd (tI l) (tI r) M Q = (l.length + r.length ≤ sizeLine ∧ Q (tI (l ++ r)) M) := by
  show ((l.map PV.int).length + (r.map PV.int).length ≤ sizeLine ∧ Q (.tup (l.map PV.int ++ r.map PV.int)) M) = _
  rw [List.length_map, List.length_map, ← List.map_append]
  rfl
end
section
variable {m s : Int} {rows : List TRow}
theorem lk_marks : List.lookup (Str.ofString "marks") (tapeF m s rows) = some (.int m) := rfl
theorem lk_states : List.lookup (Str.ofString "states") (tapeF m s rows) = some (.int s) := rfl
theorem lk_rows : List.lookup (Str.ofString "_rows") (tapeF m s rows) = some (.lst (rows.map rowP)) := rfl
theorem lk_row : List.lookup (Str.ofString "row") (tapeF m s rows) = none := rfl
theorem lk_table : List.lookup (Str.ofString "table") (tapeF m s rows) = none := rfl
theorem lk_begin : List.lookup (Str.ofString "begin") (tapeF m s rows) = none := rfl
theorem lk_step : List.lookup (Str.ofString "step") (tapeF m s rows) = none := rfl
theorem lk_stopped : List.lookup (Str.ofString "stopped") (tapeF m s rows) = none := rfl
theorem lk_run : List.lookup (Str.ofString "run") (tapeF m s rows) = none := rfl
end
/-! ### the count of places from which on something stands -/
def cntL (ms : List Int) : Nat := ((List.range ms.length).filter (fun i => (ms.drop i).any (fun x => decide (0 < x)))).length
section
variable {M : Mem} {Q : PQ}
end
end TM
set_option Elab.async false
set_option linter.all false
set_option maxRecDepth 100000
namespace My
open PySem PySem.Spec PyProof.Rows L2 PL
def topS (i : Nat) : Stmt := PySem.Challenge.pw_backstair_k68_balls_in_blocks.main.body.getD i (.Pass ⟨0, 0, 0, 0⟩)
abbrev s_is_whole : Stmt := topS 4
theorem sc_is_whole : FnScope ["value"] ["value"] (defScope s_is_whole) := ⟨rfl, rfl, rfl, by decide +kernel, rfl, by decide +kernel, by decide +kernel⟩
abbrev s_is_number : Stmt := topS 5
theorem sc_is_number : FnScope ["value", "low", "high"] ["value", "low", "high"] (defScope s_is_number) := ⟨rfl, rfl, rfl, by decide +kernel, rfl, by decide +kernel, by decide +kernel⟩
abbrev s_are_numbers : Stmt := topS 6
theorem sc_are_numbers : FnScope ["value", "low", "high", "item"] ["value", "low", "high"] (defScope s_are_numbers) := ⟨rfl, rfl, rfl, by decide +kernel, rfl, by decide +kernel, by decide +kernel⟩
abbrev s_is_rule : Stmt := topS 9
theorem sc_is_rule : FnScope ["value"] ["value"] (defScope s_is_rule) := ⟨rfl, rfl, rfl, by decide +kernel, rfl, by decide +kernel, by decide +kernel⟩
abbrev s_inverse_rule : Stmt := topS 10
theorem sc_inverse_rule : FnScope ["rule", "number"] ["rule"] (defScope s_inverse_rule) := ⟨rfl, rfl, rfl, by decide +kernel, rfl, by decide +kernel, by decide +kernel⟩
abbrev s_numbered_blocks : Stmt := topS 11
theorem sc_numbered_blocks : FnScope ["phase", "places", "blocks", "x", "y", "right", "below", "corner"] ["phase", "places"] (defScope s_numbered_blocks) := ⟨rfl, rfl, rfl, by decide +kernel, rfl, by decide +kernel, by decide +kernel⟩
abbrev s_replaced : Stmt := topS 12
theorem sc_replaced : FnScope ["rule", "phase", "places", "blocks", "found", "x", "y", "number", "at", "right", "below"] ["rule", "phase", "places"] (defScope s_replaced) := ⟨rfl, rfl, rfl, by decide +kernel, rfl, by decide +kernel, by decide +kernel⟩
abbrev s_is_place : Stmt := topS 13
theorem sc_is_place : FnScope ["value"] ["value"] (defScope s_is_place) := ⟨rfl, rfl, rfl, by decide +kernel, rfl, by decide +kernel, by decide +kernel⟩
abbrev s_Blocks_init : Stmt := inClass (topS 14) 0
theorem sc_Blocks_init : FnScope ["self", "values"] ["self", "values"] (defScope s_Blocks_init) := ⟨rfl, rfl, rfl, by decide +kernel, rfl, by decide +kernel, by decide +kernel⟩
abbrev s_Blocks_is_configuration : Stmt := inClass (topS 14) 1
theorem sc_Blocks_is_configuration : FnScope ["self", "value", "phase", "places", "place", "one", "two"] ["self", "value"] (defScope s_Blocks_is_configuration) := ⟨rfl, rfl, rfl, by decide +kernel, rfl, by decide +kernel, by decide +kernel⟩
abbrev s_Blocks_step : Stmt := inClass (topS 14) 2
theorem sc_Blocks_step : FnScope ["self", "configuration", "phase", "places"] ["self", "configuration"] (defScope s_Blocks_step) := ⟨rfl, rfl, rfl, by decide +kernel, rfl, by decide +kernel, by decide +kernel⟩
abbrev s_Blocks_back : Stmt := inClass (topS 14) 3
theorem sc_Blocks_back : FnScope ["self", "configuration", "phase"] ["self", "configuration"] (defScope s_Blocks_back) := ⟨rfl, rfl, rfl, by decide +kernel, rfl, by decide +kernel, by decide +kernel⟩
abbrev s_Blocks_run : Stmt := inClass (topS 14) 4
theorem sc_Blocks_run : FnScope ["self", "configuration", "steps", "_"] ["self", "configuration", "steps"] (defScope s_Blocks_run) := ⟨rfl, rfl, rfl, by decide +kernel, rfl, by decide +kernel, by decide +kernel⟩
abbrev s_Blocks_run_back : Stmt := inClass (topS 14) 5
theorem sc_Blocks_run_back : FnScope ["self", "configuration", "steps", "_"] ["self", "configuration", "steps"] (defScope s_Blocks_run_back) := ⟨rfl, rfl, rfl, by decide +kernel, rfl, by decide +kernel, by decide +kernel⟩
abbrev s_balls : Stmt := topS 15
theorem sc_balls : FnScope [] [] (defScope s_balls) := ⟨rfl, rfl, rfl, by decide +kernel, rfl, by decide +kernel, by decide +kernel⟩
abbrev s_many_balls : Stmt := topS 16
theorem sc_many_balls : FnScope ["number", "at"] ["number"] (defScope s_many_balls) := ⟨rfl, rfl, rfl, by decide +kernel, rfl, by decide +kernel, by decide +kernel⟩
abbrev s_keeps : Stmt := topS 17
theorem sc_keeps : FnScope ["machine", "number", "value"] ["machine"] (defScope s_keeps) := ⟨rfl, rfl, rfl, by decide +kernel, rfl, by decide +kernel, by decide +kernel⟩
abbrev s_turned_about : Stmt := topS 18
theorem sc_turned_about : FnScope ["configuration", "phase", "places"] ["configuration"] (defScope s_turned_about) := ⟨rfl, rfl, rfl, by decide +kernel, rfl, by decide +kernel, by decide +kernel⟩
abbrev s_law_cell : Stmt := topS 21
theorem sc_law_cell : FnScope ["script", "k"] ["script", "k"] (defScope s_law_cell) := ⟨rfl, rfl, rfl, by decide +kernel, rfl, by decide +kernel, by decide +kernel⟩
abbrev s_law_mixed : Stmt := topS 22
theorem sc_law_mixed : FnScope ["cell", "k", "first", "second"] ["cell", "k"] (defScope s_law_mixed) := ⟨rfl, rfl, rfl, by decide +kernel, rfl, by decide +kernel, by decide +kernel⟩
abbrev s_law_digits : Stmt := topS 23
theorem sc_law_digits : FnScope ["cell", "count", "many", "digits", "k"] ["cell", "count", "many"] (defScope s_law_digits) := ⟨rfl, rfl, rfl, by decide +kernel, rfl, by decide +kernel, by decide +kernel⟩
abbrev s_law_values : Stmt := topS 24
theorem sc_law_values : FnScope ["cell", "digits", "left", "values", "k"] ["cell"] (defScope s_law_values) := ⟨rfl, rfl, rfl, by decide +kernel, rfl, by decide +kernel, by decide +kernel⟩
abbrev s_law_keeping : Stmt := topS 25
theorem sc_law_keeping : FnScope ["cell", "digits", "values", "at", "group", "left", "block"] ["cell"] (defScope s_law_keeping) := ⟨rfl, rfl, rfl, by decide +kernel, rfl, by decide +kernel, by decide +kernel⟩
abbrev s_law_step : Stmt := topS 26
theorem sc_law_step : FnScope ["values", "configuration", "phase", "places", "corners", "x", "y", "corner", "found", "spots", "number", "value", "k"] ["values", "configuration"] (defScope s_law_step) := ⟨rfl, rfl, rfl, by decide +kernel, rfl, by decide +kernel, by decide +kernel⟩
abbrev s_law_places : Stmt := topS 27
theorem sc_law_places : FnScope ["digits", "wide", "far", "places", "one", "place"] ["digits", "wide", "far"] (defScope s_law_places) := ⟨rfl, rfl, rfl, by decide +kernel, rfl, by decide +kernel, by decide +kernel⟩
abbrev s_law : Stmt := topS 28
theorem sc_law : FnScope ["script", "number", "values", "machine", "undone", "far", "here", "begin", "k", "after", "before", "block"] ["script"] (defScope s_law) := ⟨rfl, rfl, rfl, by decide +kernel, rfl, by decide +kernel, by decide +kernel⟩
def gv_PLACES : PV := .tup [.tup [.int 0, .int 0], .tup [.int 1, .int 0], .tup [.int 0, .int 1], .tup [.int 1, .int 1]]
/-- where the classes of the text stand -/
structure Ctx where
  Blocks : Addr
  BackError : Addr
  BadBlocks : Addr
  exm : Addr → Addr → Option Bool
  kit : Addr → Value → Option Bool
structure ClBlocks (K : PySem.W.Frag) (C : Addr) : Prop where
  cl : Cls K C
  n_inverse : NoAttr K C (PySem.Str.ofString "_inverse")
  n_index : NoAttr K C (PySem.Str.ofString "index")
  n_rule : NoAttr K C (PySem.Str.ofString "rule")
structure Txt (K : PySem.W.Frag) (mg : Str → Option Value) (Γ : Ctx) : Prop where
  b_all : mg (PySem.Str.ofString "all") = none
  b_bool : mg (PySem.Str.ofString "bool") = none
  b_enumerate : mg (PySem.Str.ofString "enumerate") = none
  b_int : mg (PySem.Str.ofString "int") = none
  b_isinstance : mg (PySem.Str.ofString "isinstance") = none
  b_len : mg (PySem.Str.ofString "len") = none
  b_list : mg (PySem.Str.ofString "list") = none
  b_range : mg (PySem.Str.ofString "range") = none
  b_set : mg (PySem.Str.ofString "set") = none
  b_sorted : mg (PySem.Str.ofString "sorted") = none
  b_sum : mg (PySem.Str.ofString "sum") = none
  b_tuple : mg (PySem.Str.ofString "tuple") = none
  b_zip : mg (PySem.Str.ofString "zip") = none
  m_PLACES : ∃ v, mg (PySem.Str.ofString "PLACES") = some v ∧ KIs K gv_PLACES v
  cBlocks : ClBlocks K Γ.Blocks
  g_BackError : mg (PySem.Str.ofString "BackError") = some (.ref Γ.BackError)
  g_BadBlocks : mg (PySem.Str.ofString "BadBlocks") = some (.ref Γ.BadBlocks)
  r_BadBlocks : OwnErr K Γ.BadBlocks
  exm_ok : ∀ C X b, Γ.exm C X = some b → PySem.W.exmOne K (.ref C) (.ref X) = some b
  exm_cls : ∀ C X b, Γ.exm C X = some b → ExcC K C
  kit_ok : ∀ C v b, Γ.kit C v = some b → PySem.W.kitOne K (.ref C) v = some b
end My
set_option Elab.async false
set_option linter.all false
set_option maxRecDepth 100000
namespace My
open PySem PySem.Spec PyProof.Rows L2 PL TM PD
/-! ### promises -/
def isNum (lo hi : Int) : PV → Bool
  | .int i => decide (lo ≤ i) && decide (i ≤ hi)
  | _ => false
def areNum (lo hi : Int) : PV → Bool
  | .tup xs => xs.all (isNum lo hi)
  | _ => false
def known (M : Mem) (v : PV) : Prop := tyOf M v ≠ none
def isWh : PV → Bool
  | .int _ => true
  | _ => false
def sp_is_whole (Γ : Ctx) : PSp := fun xs M Q _ => ∃ v, xs = [v] ∧ known M v ∧ Q (.bl (isWh v)) M
def sp_is_number (Γ : Ctx) : PSp := fun xs M Q _ => ∃ v lo hi, xs = [v, .int lo, .int hi] ∧ known M v ∧ Q (.bl (isNum lo hi v)) M
def sp_are_numbers (Γ : Ctx) : PSp := fun xs M Q _ => ∃ v lo hi, xs = [v, .int lo, .int hi] ∧ known M v ∧ (∀ ys, v = .tup ys → ys.length ≤ sizeLine ∧ ∀ y ∈ ys, known M y) ∧ Q (.bl (areNum lo hi v)) M
def lI (xs : List Int) : PV := .lst (xs.map PV.int)
/-- a tuple of these ints, of which it may be known that it has no dict -/
def TuI (v : PV) (ns : List Int) : Prop := v = tI ns ∨ v = .tpd (ns.map .int)
def okRule (ns : List Int) : Bool := ns.all (fun n => decide (0 ≤ n) && decide (n ≤ 15)) && (decide (ns.length = 16) && (decide (ns.head? = some 0) && decide ns.Nodup))
def invR (ns : List Int) : List Int := (List.range 16).map fun (k : Nat) => ((ns.idxOf (k : Int) : Nat) : Int)
def noTu (v : PV) : Prop := v = .non ∨ ∃ ys, v = .lst ys
def isPl : List PV → Bool
  | [a, b] => isWh a && isWh b
  | _ => false
def ppP (p : Int × Int) : PV := .tup [.int p.1, .int p.2]
def ltP (p q : Int × Int) : Bool := decide (p.1 < q.1) || (decide (p.1 = q.1) && decide (p.2 < q.2))
def adjB (ps : List (Int × Int)) : Bool := (ps.zip ps.tail).all fun pq => ltP pq.1 pq.2
def blkF (Γ : Ctx) (ns : List Int) : List (Str × PV) := [(Str.ofString "rule", .tpd (ns.map .int)), (Str.ofString "_inverse", .tpd ((invR ns).map .int))]
def blkP (Γ : Ctx) (ns : List Int) : PV := .obj Γ.Blocks (blkF Γ ns)
def popc (n : Nat) : Nat := n % 2 + n / 2 % 2 + n / 4 % 2 + n / 8 % 2
def ballsL : List Int := [0, 8, 4, 3, 2, 5, 9, 7, 1, 6, 10, 11, 12, 13, 14, 15]
def kpB (ns : List Int) : Bool := (List.range 16).all fun k => decide (popc k = popc ((ns[k]?).getD 0).toNat)
def srtd (ps : List (Int × Int)) : Prop := ps.Pairwise fun p q => ltP p q = true
/-! cells -/
def cellAt (c : Int × Int) (k : Nat) : Int × Int := (c.1 + ((k % 2 : Nat) : Int), c.2 + ((k / 2 : Nat) : Int))
def cor (ph : Int) (p : Int × Int) : Int × Int := (p.1 - (p.1 + ph) % 2, p.2 - (p.2 + ph) % 2)
def bitB (n k : Nat) : Bool := decide (n / 2 ^ k % 2 = 1)
def bits4 (b : Nat → Bool) : Nat := (((List.range 4).filter b).map fun k => 2 ^ k).sum
def bits (S : List (Int × Int)) (c : Int × Int) : Nat := bits4 fun k => decide (cellAt c k ∈ S)
def addC (cs : List (Int × Int)) (c : Int × Int) : List (Int × Int) := if c ∈ cs then cs else cs ++ [c]
def corners (ph : Int) (S : List (Int × Int)) : List (Int × Int) := S.foldl (fun cs p => addC cs (cor ph p)) []
def rn (ns : List Int) (n : Nat) : Nat := ((ns[n]?).getD 0).toNat
def foundL (ns : List Int) (ph : Int) (S : List (Int × Int)) : List (Int × Int) := ((corners ph S).map fun c => ((List.range 4).filter (bitB (rn ns (bits S c)))).map (cellAt c)).flatten
def leP (p q : Int × Int) : Bool := decide (p.1 < q.1 ∨ (p.1 = q.1 ∧ p.2 ≤ q.2))
def stepB (ns : List Int) (ph : Int) (S : List (Int × Int)) : List (Int × Int) := (foundL ns ph S).mergeSort leP
def sp_is_rule (Γ : Ctx) : PSp := fun xs M Q _ => ∃ v, xs = [v] ∧ ((∃ ns, TuI v ns ∧ ns.length ≤ 60 ∧ Q (.bl (okRule ns)) M) ∨ (noTu v ∧ Q (.bl false) M))
def sp_inverse_rule (Γ : Ctx) : PSp := fun xs M Q _ => ∃ ns, xs = [.tpd (ns.map .int)] ∧ okRule ns = true ∧ Q (.tpd ((invR ns).map .int)) M
def sp_is_place (Γ : Ctx) : PSp := fun xs M Q _ => ∃ ys, xs = [.tup ys] ∧ (∀ y ∈ ys, known M y) ∧ Q (.bl (isPl ys)) M
def sp_Blocks_init (Γ : Ctx) : PSp := fun xs M Q E => ∃ p v, xs = [.ptr p, v] ∧ M p = some (.obj Γ.Blocks []) ∧ ((∃ ns, v = .tpd (ns.map .int) ∧ okRule ns = true ∧ Q .non (M.put p (.obj Γ.Blocks (blkF Γ ns)))) ∨ (((∃ ns, TuI v ns ∧ ns.length ≤ 60 ∧ okRule ns = false) ∨ noTu v) ∧ E Γ.BadBlocks [] M))
def badCf (M : Mem) (v : PV) : Prop := (∃ ys, v = .lst ys) ∨ (∃ ph pl, v = .tup [ph, pl] ∧ known M ph ∧ isNum 0 1 ph = false) ∨ (∃ ys, v = .tup [.int 0, .lst ys]) ∨ (∃ qs : List (List PV), v = .tup [.int 0, .tup (qs.map PV.tup)] ∧ qs.length ≤ 1000 ∧ (∀ q ∈ qs, ∀ y ∈ q, known M y) ∧ qs.all isPl = false)
def sp_Blocks_is_configuration (Γ : Ctx) : PSp := fun xs M Q _ => ∃ ns v, xs = [blkP Γ ns, v] ∧ ((∃ (ph : Int) (ps : List (Int × Int)), v = .tup [.int ph, .tup (ps.map ppP)] ∧ ps.length ≤ 10000 ∧ (0 ≤ ph ∧ ph ≤ 1) ∧ Q (.bl (adjB ps)) M) ∨ (badCf M v ∧ Q (.bl false) M))
def sp_inverse_blocks (Γ : Ctx) : PSp := fun xs M Q _ => ∃ ns, xs = [blkP Γ ns] ∧ okRule ns = true ∧ Q (blkP Γ (invR ns)) M
def sp_balls (Γ : Ctx) : PSp := fun xs M Q _ => xs = [] ∧ Q (blkP Γ ballsL) M
def sp_many_balls (Γ : Ctx) : PSp := fun xs M Q _ => ∃ n : Nat, xs = [.int n] ∧ n < 16 ∧ Q (.int (popc n : Nat)) M
def sp_keeps (Γ : Ctx) : PSp := fun xs M Q _ => ∃ ns, xs = [blkP Γ ns] ∧ okRule ns = true ∧ Q (.bl (kpB ns)) M
def sp_turned_about (Γ : Ctx) : PSp := fun xs M Q _ => ∃ (ph : Int) (pl : PV), xs = [.tup [.int ph, pl]] ∧ Q (.tup [.int (1 - ph), pl]) M
/-! balls in blocks -/
def kPp (c : Int × Int) : NestedKey := .tup [.num c.1, .num c.2]
abbrev Cfg := Int × List (Int × Int)
def cfgP (c : Cfg) : PV := .tup [.int c.1, .tup (c.2.map ppP)]
def stepCf (ns : List Int) (c : Cfg) : Cfg := (1 - c.1, stepB ns c.1 c.2)
def backCf (ns : List Int) (c : Cfg) : Cfg := (1 - c.1, stepB (invR ns) (1 - c.1) c.2)
def itC (f : Cfg → Cfg) : Nat → Cfg → Cfg
  | 0, c => c
  | n + 1, c => itC f n (f c)
def okC (c : Cfg) : Prop := srtd c.2 ∧ c.2.length ≤ 10000
def blkD (S : List (Int × Int)) (cs : List (Int × Int)) : List (NestedKey × PV) := cs.map fun c => (kPp c, .int (bits S c : Nat))
def sp_numbered_blocks (Γ : Ctx) : PSp := fun xs M Q _ => ∃ (ph : Int) (S : List (Int × Int)), xs = [.int ph, .tup (S.map ppP)] ∧ srtd S ∧ S.length ≤ 10000 ∧ Q (.dct (blkD S (corners ph S))) M
def sp_replaced (Γ : Ctx) : PSp := fun xs M Q _ => ∃ v ns ph S, xs = [v, .int ph, .tup (S.map ppP)] ∧ TuI v ns ∧ okRule ns = true ∧ srtd S ∧ S.length ≤ 10000 ∧ (stepB ns ph S).length ≤ 10000 ∧ Q (.tup ((stepB ns ph S).map ppP)) M
def sp_Blocks_step (Γ : Ctx) : PSp := fun xs M Q _ => ∃ ns c, xs = [blkP Γ ns, cfgP c] ∧ okRule ns = true ∧ okC c ∧ okC (stepCf ns c) ∧ Q (cfgP (stepCf ns c)) M
def sp_Blocks_back (Γ : Ctx) : PSp := fun xs M Q _ => ∃ ns c, xs = [blkP Γ ns, cfgP c] ∧ okRule ns = true ∧ okC c ∧ okC (backCf ns c) ∧ Q (cfgP (backCf ns c)) M
def sp_Blocks_run (Γ : Ctx) : PSp := fun xs M Q _ => ∃ ns c, ∃ n : Nat, xs = [blkP Γ ns, cfgP c, .int n] ∧ okRule ns = true ∧ n ≤ 1000 ∧ (∀ j ≤ n, okC (itC (stepCf ns) j c)) ∧ Q (cfgP (itC (stepCf ns) n c)) M
def sp_Blocks_run_back (Γ : Ctx) : PSp := fun xs M Q _ => ∃ ns c, ∃ n : Nat, xs = [blkP Γ ns, cfgP c, .int n] ∧ okRule ns = true ∧ n ≤ 1000 ∧ (∀ j ≤ n, okC (itC (backCf ns) j c)) ∧ Q (cfgP (itC (backCf ns) n c)) M
def sp_law_step (Γ : Ctx) : PSp := fun xs M Q _ => ∃ v ns c, xs = [v, cfgP c] ∧ (TuI v ns ∨ v = lI ns) ∧ okRule ns = true ∧ okC c ∧ okC (stepCf ns c) ∧ Q (cfgP (stepCf ns c)) M
/-! the law's own -/
def sp_law_cell (Γ : Ctx) : PSp := fun xs M Q _ => ∃ (zs : List Int) (k : Nat), xs = [.scr (zs.map .int), .int k] ∧ zs.length ≤ 63 ∧ ∀ c, Q (.int c) M
def sp_law_mixed (Γ : Ctx) : PSp := fun xs M Q _ => ∃ (c : Int) (k : Nat), xs = [.int c, .int k] ∧ k ≤ 1000 ∧ ∀ v, 0 ≤ v → Q (.int v) M
def sp_law_digits (Γ : Ctx) : PSp := fun xs M Q _ => ∃ (c : Int) (n : Nat) (many : Int), xs = [.int c, .int n, .int many] ∧ n ≤ 1000 ∧ (1 ≤ many ∧ many ≤ 100000) ∧ ∀ ds : List Int, ds.length = n → (∀ d ∈ ds, 0 ≤ d ∧ d < many) → Q (lI ds) M
def sp_law_values (Γ : Ctx) : PSp := fun xs M Q _ => ∃ c : Int, xs = [.int c] ∧ ∀ ns, okRule ns = true → Q (.tpd (ns.map .int)) M
def sp_law_keeping (Γ : Ctx) : PSp := fun xs M Q _ => ∃ c : Int, xs = [.int c] ∧ ∀ ns, okRule ns = true → Q (.tpd (ns.map .int)) M
def sp_law_refused (Γ : Ctx) : PSp := fun xs M Q _ => ∃ v, xs = [v] ∧ ((∃ ns, TuI v ns ∧ ns.length ≤ 60 ∧ okRule ns = false) ∨ noTu v) ∧ ∀ M', Q (.bl true) M'
def sp_law_count (Γ : Ctx) : PSp := fun xs M Q _ => ∃ n : Nat, xs = [.int n] ∧ n < 16 ∧ Q (.int (popc n : Nat)) M
def sp_law_places (Γ : Ctx) : PSp := fun xs M Q _ => ∃ (ds : List Int) (wide far : Int), xs = [lI ds, .int wide, .int far] ∧ ds.length ≤ 100 ∧ (1 ≤ wide ∧ wide ≤ 100) ∧ ∀ ps : List (Int × Int), ps.length ≤ ds.length → (0 < ds.length → ps ≠ []) → srtd ps → Q (.lst (ps.map ppP)) M
def sp_top : PSp := fun xs M Q _ => ∃ (zs : List Int), xs = [.scr (zs.map .int)] ∧ zs.length ≤ 63 ∧ ∀ M', Q (.bl true) M'
def sp_law (_ : Ctx) : PSp := sp_top
end My
set_option Elab.async false
set_option linter.all false
set_option maxRecDepth 100000
namespace My
open PySem PySem.Spec PyProof.Rows L2 PL
def t_is_whole (Γ : Ctx) : PTS := (pRet (pAndV (fun E σ M Q => (pVar 0) E σ M fun x M1 => kIsi "int" x M1 Q) (pNotV (fun E σ M Q => (pVar 0) E σ M fun x M1 => kIsi "bool" x M1 Q))))
theorem d_is_whole {P : Program} {w : World} {K : PySem.W.Frag} {mg : Str → Option Value} {base : Heap} {Γ : Ctx} (T : Txt K mg Γ)  {f : Addr} {cdv : Value} {A : Around} {outer : List Env} {s : Shared} {H : Hp} {E : XK}
    (hr : Room 0 (A.deeper (envOfC "is_whole" (defScope s_is_whole) s.heap.objs.size f cdv))) :
    LSs (cxOf (L2.CX P w) P w K mg base ["value"] "is_whole" (defScope s_is_whole) f cdv A outer s H E) (defBody s_is_whole) (t_is_whole Γ) :=
  (LSs.one (LS.ret (PL.LE.and (PL.LE.isi (Ts := "int") rfl T.b_isinstance rfl T.b_int (by decide +kernel) (PL.LE.var 0)) (PL.LE.one (PL.LE.not (PL.LE.isi (Ts := "bool") rfl T.b_isinstance rfl T.b_bool (by decide +kernel) (PL.LE.var 0)))))))
def t_is_number (Γ : Ctx) : PTS := (pRet (pAndV (pCall (sp_is_whole Γ) (pCons (pVar 0) pNil)) (pChain (fun i j => decide (i ≤ j)) (fun i j => decide (i ≤ j)) (pVar 1) (pVar 0) (pVar 2))))
theorem d_is_number {P : Program} {w : World} {K : PySem.W.Frag} {mg : Str → Option Value} {base : Heap} {Γ : Ctx} (T : Txt K mg Γ) (G_is_whole : GFn P w K mg base (PySem.Str.ofString "is_whole") 1 ["value"] (sp_is_whole Γ)) {f : Addr} {cdv : Value} {A : Around} {outer : List Env} {s : Shared} {H : Hp} {E : XK}
    (hr : Room 1 (A.deeper (envOfC "is_number" (defScope s_is_number) s.heap.objs.size f cdv))) :
    LSs (cxOf (L2.CX P w) P w K mg base ["value", "low", "high"] "is_number" (defScope s_is_number) f cdv A outer s H E) (defBody s_is_number) (t_is_number Γ) :=
  (LSs.one (LS.ret (PL.LE.and (PL.LE.call G_is_whole (hr.mono (by decide)) rfl (LA.cons (PL.LE.var 0) LA.nil)) (PL.LE.one (PL.LE.lele (PL.LE.var 1) (PL.LE.var 0) (PL.LE.var 2))))))
def t_are_numbers (Γ : Ctx) : PTS := (pSeq (pIfS (pNot (pTest (fun E σ M Q => (pVar 0) E σ M fun x M1 => kIsi "tuple" x M1 Q))) (pRet (pC (.bl false))) pNext) (pRet (pCallB (on1 kAll) (pCons (pLc (piT (pVar 0)) 3 pYes (pCall (sp_is_number Γ) (pCons (pVar 3) (pCons (pVar 1) (pCons (pVar 2) pNil))))) pNil))))
theorem d_are_numbers {P : Program} {w : World} {K : PySem.W.Frag} {mg : Str → Option Value} {base : Heap} {Γ : Ctx} (T : Txt K mg Γ) (G_is_number : GFn P w K mg base (PySem.Str.ofString "is_number") 2 ["value", "low", "high"] (sp_is_number Γ)) {f : Addr} {cdv : Value} {A : Around} {outer : List Env} {s : Shared} {H : Hp} {E : XK}
    (hr : Room 2 (A.deeper (envOfC "are_numbers" (defScope s_are_numbers) s.heap.objs.size f cdv))) :
    LSs (cxOf (L2.CX P w) P w K mg base ["value", "low", "high", "item"] "are_numbers" (defScope s_are_numbers) f cdv A outer s H E) (defBody s_are_numbers) (t_are_numbers Γ) :=
  (LSs.cons (LS.ite (PL.LT.not (PL.LT.val (PL.LE.isi (Ts := "tuple") rfl T.b_isinstance rfl T.b_tuple (by decide +kernel) (PL.LE.var 0)))) (LSs.one (LS.ret PL.LE.bl)) LSs.nil) (LSs.one (LS.ret (PL.LE.all rfl rfl T.b_all (LA.cons (PL.LE.lc rfl sc_are_numbers.nd (LI.tup (PL.LE.var 0)) (blkOk_by (N := ["value", "low", "high", "item"]) (sc := defScope s_are_numbers) (by decide +kernel)) (fun _ _ _ _ _ => pg_name (i := 3) sc_are_numbers.nd rfl (Or.inl rfl)) (fun _ _ _ _ _ => LTs.nil) (fun _ _ _ _ _ => (PL.LE.call G_is_number (hr.mono (by decide)) rfl (LA.cons (PL.LE.var 3) (LA.cons (PL.LE.var 1) (LA.cons (PL.LE.var 2) LA.nil)))))) LA.nil)))))
def t_is_rule (Γ : Ctx) : PTS := (pSeq (pIfS (pOr (pNot (pTest (pCall (sp_are_numbers Γ) (pCons (pAsT (pVar 0)) (pCons (pC (.int 0)) (pCons (pC (.int 15)) pNil)))))) (pTest (pBin oNe (pCallB (on1 kLen) (pCons (pAsT (pVar 0)) pNil)) (pC (.int 16))))) (pRet (pC (.bl false))) pNext) (pRet (pAndV (pBin oEq (pBin oIx (pAsT (pVar 0)) (pC (.int 0))) (pC (.int 0))) (pBin oEq (pLenSet (pAsT (pVar 0))) (pC (.int 16))))))
theorem d_is_rule {P : Program} {w : World} {K : PySem.W.Frag} {mg : Str → Option Value} {base : Heap} {Γ : Ctx} (T : Txt K mg Γ) (G_are_numbers : GFn P w K mg base (PySem.Str.ofString "are_numbers") 3 ["value", "low", "high"] (sp_are_numbers Γ)) {f : Addr} {cdv : Value} {A : Around} {outer : List Env} {s : Shared} {H : Hp} {E : XK}
    (hr : Room 3 (A.deeper (envOfC "is_rule" (defScope s_is_rule) s.heap.objs.size f cdv))) :
    LSs (cxOf (L2.CX P w) P w K mg base ["value"] "is_rule" (defScope s_is_rule) f cdv A outer s H E) (defBody s_is_rule) (t_is_rule Γ) :=
  (LSs.cons (LS.ite (LW.lt (LW.or (PL.LT.not (PL.LT.val (PL.LE.call G_are_numbers (hr.mono (by decide)) rfl (LA.cons (PL.LE.asT (PL.LE.var 0)) (LA.cons PL.LE.int (LA.cons PL.LE.int LA.nil)))))) (LW.or1 (PL.LT.ne hr.units (PL.LE.len rfl T.b_len (LA.cons (PL.LE.asT (PL.LE.var 0)) LA.nil)) PL.LE.int)))) (LSs.one (LS.ret PL.LE.bl)) LSs.nil) (LSs.one (LS.ret (PL.LE.and (PL.LE.eq hr.units (PL.LE.ix (PL.LE.asT (PL.LE.var 0)) PL.LE.int) PL.LE.int) (PL.LE.one (PL.LE.eq hr.units (PL.LE.lenSet rfl rfl T.b_len rfl T.b_set (PL.LE.asT (PL.LE.var 0))) PL.LE.int))))))
def t_inverse_rule (Γ : Ctx) : PTS := (pRet (pCallB (on1 kTupD) (pCons (pLc (piR1 (pC (.int 16))) 1 pYes (pTIdx (pVar 0) (pVar 1))) pNil)))
theorem d_inverse_rule {P : Program} {w : World} {K : PySem.W.Frag} {mg : Str → Option Value} {base : Heap} {Γ : Ctx} (T : Txt K mg Γ)  {f : Addr} {cdv : Value} {A : Around} {outer : List Env} {s : Shared} {H : Hp} {E : XK}
    (hr : Room 0 (A.deeper (envOfC "inverse_rule" (defScope s_inverse_rule) s.heap.objs.size f cdv))) :
    LSs (cxOf (L2.CX P w) P w K mg base ["rule", "number"] "inverse_rule" (defScope s_inverse_rule) f cdv A outer s H E) (defBody s_inverse_rule) (t_inverse_rule Γ) :=
  (LSs.one (LS.ret (PL.LE.tupOfD rfl T.b_tuple (LA.cons (PL.LE.lc rfl sc_inverse_rule.nd (LI.rng1 rfl T.b_range PL.LE.int) (blkOk_by (N := ["rule", "number"]) (sc := defScope s_inverse_rule) (by decide +kernel)) (fun _ _ _ _ _ => pg_name (i := 1) sc_inverse_rule.nd rfl (Or.inl rfl)) (fun _ _ _ _ _ => LTs.nil) (fun _ _ _ _ _ => (PL.LE.tidx (PL.LE.var 0) (PL.LE.var 1)))) LA.nil))))
def b_numbered_blocks_1 (Γ : Ctx) := ((pSeq (pSet 5 (pBin oBand (pBin oSub (pVar 3) (pVar 0)) (pC (.int 1)))) (pSeq (pSet 6 (pBin oBand (pBin oSub (pVar 4) (pVar 0)) (pC (.int 1)))) (pSeq (pSet 7 (pTup (pCons (pBin oSub (pVar 3) (pVar 5)) (pCons (pBin oSub (pVar 4) (pVar 6)) pNil)))) (pAsg (pBin oAdd (pDGet2 (pVar 2) (pVar 7) (pC (.int 0))) (pBin oShl (pC (.int 1)) (pBin oAdd (pVar 5) (pBin oMul (pC (.int 2)) (pVar 6))))) (gpSubD (pVar 2) (pVar 7)))))) : PTS)
def t_numbered_blocks (Γ : Ctx) : PTS := (pSeq (pSet 2 pDNew) (pSeq (pFor (piT (pVar 1)) (gpTup 2 (gpCons (gpName 3) (gpCons (gpName 4) gpNil))) (b_numbered_blocks_1 Γ)) (pRetF (pVar 2))))
theorem d_numbered_blocks {P : Program} {w : World} {K : PySem.W.Frag} {mg : Str → Option Value} {base : Heap} {Γ : Ctx} (T : Txt K mg Γ)  {f : Addr} {cdv : Value} {A : Around} {outer : List Env} {s : Shared} {H : Hp} {E : XK}
    (hr : Room 0 (A.deeper (envOfC "numbered_blocks" (defScope s_numbered_blocks) s.heap.objs.size f cdv))) :
    LSs (cxOf (L2.CX P w) P w K mg base ["phase", "places", "blocks", "x", "y", "right", "below", "corner"] "numbered_blocks" (defScope s_numbered_blocks) f cdv A outer s H E) (defBody s_numbered_blocks) (t_numbered_blocks Γ) :=
  (LSs.cons (LS.set 2 sc_numbered_blocks.nd PL.LE.dnew) (LSs.cons (LS.for (passes_of rfl) rfl (LI.tup (PL.LE.var 1)) (LG.tup rfl (LGs.cons (LG.name 3 sc_numbered_blocks.nd) (LGs.cons (LG.name 4 sc_numbered_blocks.nd) LGs.nil))) (LSs.cons (LS.set 5 sc_numbered_blocks.nd (PL.LE.band (PL.LE.sub (PL.LE.var 3) (PL.LE.var 0)) PL.LE.int)) (LSs.cons (LS.set 6 sc_numbered_blocks.nd (PL.LE.band (PL.LE.sub (PL.LE.var 4) (PL.LE.var 0)) PL.LE.int)) (LSs.cons (LS.set 7 sc_numbered_blocks.nd (PL.LE.tup (LA.cons (PL.LE.sub (PL.LE.var 3) (PL.LE.var 5)) (LA.cons (PL.LE.sub (PL.LE.var 4) (PL.LE.var 6)) LA.nil)))) (LSs.one (LS.asg (PL.LE.add (PL.LE.dget2 (Room.units65 hr) (PL.LE.var 2) (PL.LE.var 7) PL.LE.int ⟨rfl, rfl, rfl, rfl⟩) (PL.LE.shl PL.LE.int (PL.LE.add (PL.LE.var 5) (PL.LE.mul PL.LE.int (PL.LE.var 6))))) (LG.subD (Room.units65 hr) (PL.LE.var 2) (PL.LE.var 7)))))))) (LSs.one (LS.retF (PL.LE.var 2)))))
def b_replaced_1 (Γ : Ctx) := ((pSeq (pSet 7 (pBin oIx (pAsT (pVar 0)) (pBin oIxD (pVar 3) (pTup (pCons (pVar 5) (pCons (pVar 6) pNil)))))) (pAug 4 oExt (pLcG (piET (pC (gv_PLACES))) (sp12 8 9 10) (pTest (pBin oEq (pBin oBand (pBin oShr (pVar 7) (pVar 8)) (pC (.int 1))) (pC (.int 1)))) (pTup (pCons (pBin oAdd (pVar 5) (pVar 9)) (pCons (pBin oAdd (pVar 6) (pVar 10)) pNil)))))) : PTS)
def t_replaced (Γ : Ctx) : PTS := (pSeq (pSet 3 (pCall (sp_numbered_blocks Γ) (pCons (pVar 1) (pCons (pVar 2) pNil)))) (pSeq (pSet 4 (pLstM pNil)) (pSeq (pFor (piD (pVar 3)) (gpTup 2 (gpCons (gpName 5) (gpCons (gpName 6) gpNil))) (b_replaced_1 Γ)) (pRetD [4] (pCallB (on1 kTup) (pCons (pCallB (on1 kSortD) (pCons (pVar 4) pNil)) pNil))))))
theorem d_replaced {P : Program} {w : World} {K : PySem.W.Frag} {mg : Str → Option Value} {base : Heap} {Γ : Ctx} (T : Txt K mg Γ) (G_numbered_blocks : GFn P w K mg base (PySem.Str.ofString "numbered_blocks") 1 ["phase", "places"] (sp_numbered_blocks Γ)) {f : Addr} {cdv : Value} {A : Around} {outer : List Env} {s : Shared} {H : Hp} {E : XK}
    (hr : Room 1 (A.deeper (envOfC "replaced" (defScope s_replaced) s.heap.objs.size f cdv))) :
    LSs (cxOf (L2.CX P w) P w K mg base ["rule", "phase", "places", "blocks", "found", "x", "y", "number", "at", "right", "below"] "replaced" (defScope s_replaced) f cdv A outer s H E) (defBody s_replaced) (t_replaced Γ) :=
  (LSs.cons (LS.set 3 sc_replaced.nd (PL.LE.call G_numbered_blocks (hr.mono (by decide)) rfl (LA.cons (PL.LE.var 1) (LA.cons (PL.LE.var 2) LA.nil)))) (LSs.cons (LS.set 4 sc_replaced.nd (PL.LE.lstM LA.nil)) (LSs.cons (LS.for (passes_of rfl) rfl (LI.dct (PL.LE.var 3)) (LG.tup rfl (LGs.cons (LG.name 5 sc_replaced.nd) (LGs.cons (LG.name 6 sc_replaced.nd) LGs.nil))) (LSs.cons (LS.set 7 sc_replaced.nd (PL.LE.ix (PL.LE.asT (PL.LE.var 0)) (PL.LE.ixD (Room.units65 hr) (PL.LE.var 3) (PL.LE.tup (LA.cons (PL.LE.var 5) (LA.cons (PL.LE.var 6) LA.nil)))))) (LSs.one (LS.augExt 4 sc_replaced.nd (PL.LE.lcG (own := [("at", 8), ("right", 9), ("below", 10)]) (goal12 (by decide)) rfl sc_replaced.nd (LI.enumT rfl T.b_enumerate (PL.LE.globT rfl T.m_PLACES)) (blkOk_by (N := ["rule", "phase", "places", "blocks", "found", "x", "y", "number", "at", "right", "below"]) (sc := defScope s_replaced) (own := [("at", 8), ("right", 9), ("below", 10)]) (by decide +kernel)) (fun _ _ _ _ _ => pg_tup rfl (pgs_cons (pg_name (i := 8) sc_replaced.nd rfl (Or.inl rfl)) (pgs_cons (pg_tup rfl (pgs_cons (pg_name (i := 9) sc_replaced.nd rfl (Or.inl rfl)) (pgs_cons (pg_name (i := 10) sc_replaced.nd rfl (Or.inl rfl)) pgs_nil)) rfl rfl) pgs_nil)) rfl rfl) (fun _ _ _ _ _ => (LTs.one (PL.LT.eq hr.units (PL.LE.band (PL.LE.shr (PL.LE.var 7) (PL.LE.var 8)) PL.LE.int) PL.LE.int))) (fun _ _ _ _ _ => (PL.LE.tup (LA.cons (PL.LE.add (PL.LE.var 5) (PL.LE.var 9)) (LA.cons (PL.LE.add (PL.LE.var 6) (PL.LE.var 10)) LA.nil))))))))) (LSs.one (LS.retD [4] (PL.LE.tupOf rfl T.b_tuple (LA.cons (PL.LE.sortedD (Room.units65 hr) rfl T.b_sorted (LA.cons (PL.LE.var 4) LA.nil)) LA.nil)))))))
def t_is_place (Γ : Ctx) : PTS := (pRet (pAndV (fun E σ M Q => (pVar 0) E σ M fun x M1 => kIsi "tuple" x M1 Q) (pAndV (pBin oEq (pCallB (on1 kLen) (pCons (pVar 0) pNil)) (pC (.int 2))) (pAndV (pCall (sp_is_whole Γ) (pCons (pBin oIx (pVar 0) (pC (.int 0))) pNil)) (pCall (sp_is_whole Γ) (pCons (pBin oIx (pVar 0) (pC (.int 1))) pNil))))))
theorem d_is_place {P : Program} {w : World} {K : PySem.W.Frag} {mg : Str → Option Value} {base : Heap} {Γ : Ctx} (T : Txt K mg Γ) (G_is_whole : GFn P w K mg base (PySem.Str.ofString "is_whole") 1 ["value"] (sp_is_whole Γ)) {f : Addr} {cdv : Value} {A : Around} {outer : List Env} {s : Shared} {H : Hp} {E : XK}
    (hr : Room 1 (A.deeper (envOfC "is_place" (defScope s_is_place) s.heap.objs.size f cdv))) :
    LSs (cxOf (L2.CX P w) P w K mg base ["value"] "is_place" (defScope s_is_place) f cdv A outer s H E) (defBody s_is_place) (t_is_place Γ) :=
  (LSs.one (LS.ret (PL.LE.and (PL.LE.isi (Ts := "tuple") rfl T.b_isinstance rfl T.b_tuple (by decide +kernel) (PL.LE.var 0)) (PL.LE.and (PL.LE.eq hr.units (PL.LE.len rfl T.b_len (LA.cons (PL.LE.var 0) LA.nil)) PL.LE.int) (PL.LE.and (PL.LE.call G_is_whole (hr.mono (by decide)) rfl (LA.cons (PL.LE.ix (PL.LE.var 0) PL.LE.int) LA.nil)) (PL.LE.one (PL.LE.call G_is_whole (hr.mono (by decide)) rfl (LA.cons (PL.LE.ix (PL.LE.var 0) PL.LE.int) LA.nil))))))))
def t_Blocks_init (Γ : Ctx) : PTS := (pSeq (pIfS (pNot (pTest (pCall (sp_is_rule Γ) (pCons (pVar 1) pNil)))) (pRaise Γ.BadBlocks) pNext) (pSeq (pFldS Γ.Blocks (PySem.Str.ofString "rule") (pVar 0) (pVar 1)) (pFldS Γ.Blocks (PySem.Str.ofString "_inverse") (pVar 0) (pCall (sp_inverse_rule Γ) (pCons (pVar 1) pNil)))))
theorem d_Blocks_init {P : Program} {w : World} {K : PySem.W.Frag} {mg : Str → Option Value} {base : Heap} {Γ : Ctx} (T : Txt K mg Γ) (G_inverse_rule : GFn P w K mg base (PySem.Str.ofString "inverse_rule") 1 ["rule"] (sp_inverse_rule Γ)) (G_is_rule : GFn P w K mg base (PySem.Str.ofString "is_rule") 4 ["value"] (sp_is_rule Γ)) {f : Addr} {cdv : Value} {A : Around} {outer : List Env} {s : Shared} {H : Hp} {E : XK}
    (hr : Room 4 (A.deeper (envOfC "Blocks.__init__" (defScope s_Blocks_init) s.heap.objs.size f cdv))) :
    LSs (cxOf (L2.CX P w) P w K mg base ["self", "values"] "Blocks.__init__" (defScope s_Blocks_init) f cdv A outer s H E) (defBody s_Blocks_init) (t_Blocks_init Γ) :=
  (LSs.cons (LS.ite (PL.LT.not (PL.LT.val (PL.LE.call G_is_rule (hr.mono (by decide)) rfl (LA.cons (PL.LE.var 1) LA.nil)))) (LSs.one (LS.raise PySem.F.excBase_ValueError T.r_BadBlocks.x T.g_BadBlocks T.r_BadBlocks.k (raises_own T.r_BadBlocks.b T.r_BadBlocks.t) rfl)) LSs.nil) (LSs.cons (LS.fld T.cBlocks.cl T.cBlocks.n_rule (PL.LE.var 0) (PL.LE.var 1)) (LSs.one (LS.fld T.cBlocks.cl T.cBlocks.n_inverse (PL.LE.var 0) (PL.LE.call G_inverse_rule (hr.mono (by decide)) rfl (LA.cons (PL.LE.var 1) LA.nil))))))
def t_Blocks_is_configuration (Γ : Ctx) : PTS := (pSeq (pIfS (pOr (pNot (pTest (fun E σ M Q => (pVar 1) E σ M fun x M1 => kIsi "tuple" x M1 Q))) (pTest (pBin oNe (pCallB (on1 kLen) (pCons (pVar 1) pNil)) (pC (.int 2))))) (pRet (pC (.bl false))) pNext) (pSeq (pAsg (pVar 1) (gpTup 2 (gpCons (gpName 2) (gpCons (gpName 3) gpNil)))) (pSeq (pIfS (pOr (pNot (pTest (pCall (sp_is_number Γ) (pCons (pVar 2) (pCons (pC (.int 0)) (pCons (pC (.int 1)) pNil)))))) (pNot (pTest (fun E σ M Q => (pVar 3) E σ M fun x M1 => kIsi "tuple" x M1 Q)))) (pRet (pC (.bl false))) pNext) (pSeq (pIfS (pNot (pTest (pCallB (on1 kAll) (pCons (pLc (piT (pVar 3)) 4 pYes (pCall (sp_is_place Γ) (pCons (pVar 4) pNil))) pNil)))) (pRet (pC (.bl false))) pNext) (pRet (pCallB (on1 kAll) (pCons (pLcT (piZ (pVar 3) (pSl (pVar 3) (pPart (pC (.int 1))) pNoPart)) [5, 6] pYes (pBin oLtT (pVar 5) (pVar 6))) pNil)))))))
theorem d_Blocks_is_configuration {P : Program} {w : World} {K : PySem.W.Frag} {mg : Str → Option Value} {base : Heap} {Γ : Ctx} (T : Txt K mg Γ) (G_is_number : GFn P w K mg base (PySem.Str.ofString "is_number") 2 ["value", "low", "high"] (sp_is_number Γ)) (G_is_place : GFn P w K mg base (PySem.Str.ofString "is_place") 2 ["value"] (sp_is_place Γ)) {f : Addr} {cdv : Value} {A : Around} {outer : List Env} {s : Shared} {H : Hp} {E : XK}
    (hr : Room 2 (A.deeper (envOfC "Blocks.is_configuration" (defScope s_Blocks_is_configuration) s.heap.objs.size f cdv))) :
    LSs (cxOf (L2.CX P w) P w K mg base ["self", "value", "phase", "places", "place", "one", "two"] "Blocks.is_configuration" (defScope s_Blocks_is_configuration) f cdv A outer s H E) (defBody s_Blocks_is_configuration) (t_Blocks_is_configuration Γ) :=
  (LSs.cons (LS.ite (LW.lt (LW.or (PL.LT.not (PL.LT.val (PL.LE.isi (Ts := "tuple") rfl T.b_isinstance rfl T.b_tuple (by decide +kernel) (PL.LE.var 1)))) (LW.or1 (PL.LT.ne hr.units (PL.LE.len rfl T.b_len (LA.cons (PL.LE.var 1) LA.nil)) PL.LE.int)))) (LSs.one (LS.ret PL.LE.bl)) LSs.nil) (LSs.cons (LS.asg (PL.LE.var 1) (LG.tup rfl (LGs.cons (LG.name 2 sc_Blocks_is_configuration.nd) (LGs.cons (LG.name 3 sc_Blocks_is_configuration.nd) LGs.nil)))) (LSs.cons (LS.ite (LW.lt (LW.or (PL.LT.not (PL.LT.val (PL.LE.call G_is_number (hr.mono (by decide)) rfl (LA.cons (PL.LE.var 2) (LA.cons PL.LE.int (LA.cons PL.LE.int LA.nil)))))) (LW.or1 (PL.LT.not (PL.LT.val (PL.LE.isi (Ts := "tuple") rfl T.b_isinstance rfl T.b_tuple (by decide +kernel) (PL.LE.var 3))))))) (LSs.one (LS.ret PL.LE.bl)) LSs.nil) (LSs.cons (LS.ite (PL.LT.not (PL.LT.val (PL.LE.all rfl rfl T.b_all (LA.cons (PL.LE.lc rfl sc_Blocks_is_configuration.nd (LI.tup (PL.LE.var 3)) (blkOk_by (N := ["self", "value", "phase", "places", "place", "one", "two"]) (sc := defScope s_Blocks_is_configuration) (by decide +kernel)) (fun _ _ _ _ _ => pg_name (i := 4) sc_Blocks_is_configuration.nd rfl (Or.inl rfl)) (fun _ _ _ _ _ => LTs.nil) (fun _ _ _ _ _ => (PL.LE.call G_is_place (hr.mono (by decide)) rfl (LA.cons (PL.LE.var 4) LA.nil)))) LA.nil)))) (LSs.one (LS.ret PL.LE.bl)) LSs.nil) (LSs.one (LS.ret (PL.LE.all rfl rfl T.b_all (LA.cons (PL.LE.lcT (own := [("one", 5), ("two", 6)]) (by decide) rfl rfl sc_Blocks_is_configuration.nd (LI.zip rfl T.b_zip (PL.LE.var 3) (PL.LE.slice (PL.LE.var 3) (LO.some PL.LE.int) LO.none)) (blkOk_by (N := ["self", "value", "phase", "places", "place", "one", "two"]) (sc := defScope s_Blocks_is_configuration) (own := [("one", 5), ("two", 6)]) (by decide +kernel)) (fun _ _ _ _ _ => (pgs_cons (pg_name (i := 5) sc_Blocks_is_configuration.nd rfl (Or.inl rfl)) (pgs_cons (pg_name (i := 6) sc_Blocks_is_configuration.nd rfl (Or.inl rfl)) pgs_nil))) (fun _ _ _ _ _ => ⟨rfl, rfl⟩) (fun _ _ _ _ _ => LTs.nil) (fun _ _ _ _ _ => (PL.LE.ltT (Room.units65 hr) (PL.LE.var 5) (PL.LE.var 6)))) LA.nil))))))))
def t_Blocks_step (Γ : Ctx) : PTS := (pSeq (pAsg (pVar 1) (gpTup 2 (gpCons (gpName 2) (gpCons (gpName 3) gpNil)))) (pRet (pTup (pCons (pBin oSub (pC (.int 1)) (pVar 2)) (pCons (pCall (sp_replaced Γ) (pCons (pFld Γ.Blocks (pVar 0) (PySem.Str.ofString "rule")) (pCons (pVar 2) (pCons (pVar 3) pNil)))) pNil)))))
theorem d_Blocks_step {P : Program} {w : World} {K : PySem.W.Frag} {mg : Str → Option Value} {base : Heap} {Γ : Ctx} (T : Txt K mg Γ) (G_replaced : GFn P w K mg base (PySem.Str.ofString "replaced") 2 ["rule", "phase", "places"] (sp_replaced Γ)) {f : Addr} {cdv : Value} {A : Around} {outer : List Env} {s : Shared} {H : Hp} {E : XK}
    (hr : Room 2 (A.deeper (envOfC "Blocks.step" (defScope s_Blocks_step) s.heap.objs.size f cdv))) :
    LSs (cxOf (L2.CX P w) P w K mg base ["self", "configuration", "phase", "places"] "Blocks.step" (defScope s_Blocks_step) f cdv A outer s H E) (defBody s_Blocks_step) (t_Blocks_step Γ) :=
  (LSs.cons (LS.asg (PL.LE.var 1) (LG.tup rfl (LGs.cons (LG.name 2 sc_Blocks_step.nd) (LGs.cons (LG.name 3 sc_Blocks_step.nd) LGs.nil)))) (LSs.one (LS.ret (PL.LE.tup (LA.cons (PL.LE.sub PL.LE.int (PL.LE.var 2)) (LA.cons (PL.LE.call G_replaced (hr.mono (by decide)) rfl (LA.cons (PL.LE.fld T.cBlocks.cl T.cBlocks.n_rule (PL.LE.var 0)) (LA.cons (PL.LE.var 2) (LA.cons (PL.LE.var 3) LA.nil)))) LA.nil))))))
def t_Blocks_back (Γ : Ctx) : PTS := (pSeq (pSet 2 (pBin oSub (pC (.int 1)) (pBin oIx (pVar 1) (pC (.int 0))))) (pRet (pTup (pCons (pVar 2) (pCons (pCall (sp_replaced Γ) (pCons (pFld Γ.Blocks (pVar 0) (PySem.Str.ofString "_inverse")) (pCons (pVar 2) (pCons (pBin oIx (pVar 1) (pC (.int 1))) pNil)))) pNil)))))
theorem d_Blocks_back {P : Program} {w : World} {K : PySem.W.Frag} {mg : Str → Option Value} {base : Heap} {Γ : Ctx} (T : Txt K mg Γ) (G_replaced : GFn P w K mg base (PySem.Str.ofString "replaced") 2 ["rule", "phase", "places"] (sp_replaced Γ)) {f : Addr} {cdv : Value} {A : Around} {outer : List Env} {s : Shared} {H : Hp} {E : XK}
    (hr : Room 2 (A.deeper (envOfC "Blocks.back" (defScope s_Blocks_back) s.heap.objs.size f cdv))) :
    LSs (cxOf (L2.CX P w) P w K mg base ["self", "configuration", "phase"] "Blocks.back" (defScope s_Blocks_back) f cdv A outer s H E) (defBody s_Blocks_back) (t_Blocks_back Γ) :=
  (LSs.cons (LS.set 2 sc_Blocks_back.nd (PL.LE.sub PL.LE.int (PL.LE.ix (PL.LE.var 1) PL.LE.int))) (LSs.one (LS.ret (PL.LE.tup (LA.cons (PL.LE.var 2) (LA.cons (PL.LE.call G_replaced (hr.mono (by decide)) rfl (LA.cons (PL.LE.fld T.cBlocks.cl T.cBlocks.n_inverse (PL.LE.var 0)) (LA.cons (PL.LE.var 2) (LA.cons (PL.LE.ix (PL.LE.var 1) PL.LE.int) LA.nil)))) LA.nil))))))
def b_Blocks_run_1 (Γ : Ctx) := ((pSet 1 (pMeth Γ.Blocks (PySem.Str.ofString "step") (sp_Blocks_step Γ) (pVar 0) (pCons (pVar 1) pNil))) : PTS)
def t_Blocks_run (Γ : Ctx) : PTS := (pSeq (pFor (piR1 (pVar 2)) (gpName 3) (b_Blocks_run_1 Γ)) (pRet (pVar 1)))
theorem d_Blocks_run {P : Program} {w : World} {K : PySem.W.Frag} {mg : Str → Option Value} {base : Heap} {Γ : Ctx} (T : Txt K mg Γ) (G_Blocks_step : GMt P w K mg base Γ.Blocks (PySem.Str.ofString "step") 3 ["self", "configuration"] (sp_Blocks_step Γ)) {f : Addr} {cdv : Value} {A : Around} {outer : List Env} {s : Shared} {H : Hp} {E : XK}
    (hr : Room 3 (A.deeper (envOfC "Blocks.run" (defScope s_Blocks_run) s.heap.objs.size f cdv))) :
    LSs (cxOf (L2.CX P w) P w K mg base ["self", "configuration", "steps", "_"] "Blocks.run" (defScope s_Blocks_run) f cdv A outer s H E) (defBody s_Blocks_run) (t_Blocks_run Γ) :=
  (LSs.cons (LS.for (passes_of rfl) rfl (LI.rng1 rfl T.b_range (PL.LE.var 2)) (LG.name 3 sc_Blocks_run.nd) (LSs.one (LS.set 1 sc_Blocks_run.nd (PL.LE.meth G_Blocks_step T.cBlocks.cl (hr.mono (by decide)) (PL.LE.var 0) (LA.cons (PL.LE.var 1) LA.nil))))) (LSs.one (LS.ret (PL.LE.var 1))))
def b_Blocks_run_back_1 (Γ : Ctx) := ((pSet 1 (pMeth Γ.Blocks (PySem.Str.ofString "back") (sp_Blocks_back Γ) (pVar 0) (pCons (pVar 1) pNil))) : PTS)
def t_Blocks_run_back (Γ : Ctx) : PTS := (pSeq (pFor (piR1 (pVar 2)) (gpName 3) (b_Blocks_run_back_1 Γ)) (pRet (pVar 1)))
theorem d_Blocks_run_back {P : Program} {w : World} {K : PySem.W.Frag} {mg : Str → Option Value} {base : Heap} {Γ : Ctx} (T : Txt K mg Γ) (G_Blocks_back : GMt P w K mg base Γ.Blocks (PySem.Str.ofString "back") 3 ["self", "configuration"] (sp_Blocks_back Γ)) {f : Addr} {cdv : Value} {A : Around} {outer : List Env} {s : Shared} {H : Hp} {E : XK}
    (hr : Room 3 (A.deeper (envOfC "Blocks.run_back" (defScope s_Blocks_run_back) s.heap.objs.size f cdv))) :
    LSs (cxOf (L2.CX P w) P w K mg base ["self", "configuration", "steps", "_"] "Blocks.run_back" (defScope s_Blocks_run_back) f cdv A outer s H E) (defBody s_Blocks_run_back) (t_Blocks_run_back Γ) :=
  (LSs.cons (LS.for (passes_of rfl) rfl (LI.rng1 rfl T.b_range (PL.LE.var 2)) (LG.name 3 sc_Blocks_run_back.nd) (LSs.one (LS.set 1 sc_Blocks_run_back.nd (PL.LE.meth G_Blocks_back T.cBlocks.cl (hr.mono (by decide)) (PL.LE.var 0) (LA.cons (PL.LE.var 1) LA.nil))))) (LSs.one (LS.ret (PL.LE.var 1))))
def t_balls (Γ : Ctx) : PTS := (pRet (pMake Γ.Blocks (sp_Blocks_init Γ) (pCons (pTupN (pCons (pC (.int 0)) (pCons (pC (.int 8)) (pCons (pC (.int 4)) (pCons (pC (.int 3)) (pCons (pC (.int 2)) (pCons (pC (.int 5)) (pCons (pC (.int 9)) (pCons (pC (.int 7)) (pCons (pC (.int 1)) (pCons (pC (.int 6)) (pCons (pC (.int 10)) (pCons (pC (.int 11)) (pCons (pC (.int 12)) (pCons (pC (.int 13)) (pCons (pC (.int 14)) (pCons (pC (.int 15)) pNil))))))))))))))))) pNil)))
theorem d_balls {P : Program} {w : World} {K : PySem.W.Frag} {mg : Str → Option Value} {base : Heap} {Γ : Ctx} (T : Txt K mg Γ) (G_Blocks_init : GMk P w K mg base (PySem.Str.ofString "Blocks") Γ.Blocks 5 ["self", "values"] (sp_Blocks_init Γ)) {f : Addr} {cdv : Value} {A : Around} {outer : List Env} {s : Shared} {H : Hp} {E : XK}
    (hr : Room 6 (A.deeper (envOfC "balls" (defScope s_balls) s.heap.objs.size f cdv))) :
    LSs (cxOf (L2.CX P w) P w K mg base [] "balls" (defScope s_balls) f cdv A outer s H E) (defBody s_balls) (t_balls Γ) :=
  (LSs.one (LS.ret (PL.LE.make G_Blocks_init (hr.mono (by decide)) rfl (LA.cons (PL.LE.tupN (LA.cons PL.LE.int (LA.cons PL.LE.int (LA.cons PL.LE.int (LA.cons PL.LE.int (LA.cons PL.LE.int (LA.cons PL.LE.int (LA.cons PL.LE.int (LA.cons PL.LE.int (LA.cons PL.LE.int (LA.cons PL.LE.int (LA.cons PL.LE.int (LA.cons PL.LE.int (LA.cons PL.LE.int (LA.cons PL.LE.int (LA.cons PL.LE.int (LA.cons PL.LE.int LA.nil))))))))))))))))) LA.nil))))
def t_many_balls (Γ : Ctx) : PTS := (pRet (pCallB (on1 kSum) (pCons (pLc (piR1 (pC (.int 4))) 1 pYes (pBin oBand (pBin oShr (pVar 0) (pVar 1)) (pC (.int 1)))) pNil)))
theorem d_many_balls {P : Program} {w : World} {K : PySem.W.Frag} {mg : Str → Option Value} {base : Heap} {Γ : Ctx} (T : Txt K mg Γ)  {f : Addr} {cdv : Value} {A : Around} {outer : List Env} {s : Shared} {H : Hp} {E : XK}
    (hr : Room 0 (A.deeper (envOfC "many_balls" (defScope s_many_balls) s.heap.objs.size f cdv))) :
    LSs (cxOf (L2.CX P w) P w K mg base ["number", "at"] "many_balls" (defScope s_many_balls) f cdv A outer s H E) (defBody s_many_balls) (t_many_balls Γ) :=
  (LSs.one (LS.ret (PL.LE.sum rfl rfl T.b_sum (LA.cons (PL.LE.lc rfl sc_many_balls.nd (LI.rng1 rfl T.b_range PL.LE.int) (blkOk_by (N := ["number", "at"]) (sc := defScope s_many_balls) (by decide +kernel)) (fun _ _ _ _ _ => pg_name (i := 1) sc_many_balls.nd rfl (Or.inl rfl)) (fun _ _ _ _ _ => LTs.nil) (fun _ _ _ _ _ => (PL.LE.band (PL.LE.shr (PL.LE.var 0) (PL.LE.var 1)) PL.LE.int))) LA.nil))))
def t_keeps (Γ : Ctx) : PTS := (pRet (pCallB (on1 kAll) (pCons (pLcT (piET (pAsT (pFld Γ.Blocks (pVar 0) (PySem.Str.ofString "rule")))) [1, 2] pYes (pBin oEq (pCall (sp_many_balls Γ) (pCons (pVar 1) pNil)) (pCall (sp_many_balls Γ) (pCons (pVar 2) pNil)))) pNil)))
theorem d_keeps {P : Program} {w : World} {K : PySem.W.Frag} {mg : Str → Option Value} {base : Heap} {Γ : Ctx} (T : Txt K mg Γ) (G_many_balls : GFn P w K mg base (PySem.Str.ofString "many_balls") 1 ["number"] (sp_many_balls Γ)) {f : Addr} {cdv : Value} {A : Around} {outer : List Env} {s : Shared} {H : Hp} {E : XK}
    (hr : Room 1 (A.deeper (envOfC "keeps" (defScope s_keeps) s.heap.objs.size f cdv))) :
    LSs (cxOf (L2.CX P w) P w K mg base ["machine", "number", "value"] "keeps" (defScope s_keeps) f cdv A outer s H E) (defBody s_keeps) (t_keeps Γ) :=
  (LSs.one (LS.ret (PL.LE.all rfl rfl T.b_all (LA.cons (PL.LE.lcT (own := [("number", 1), ("value", 2)]) (by decide) rfl rfl sc_keeps.nd (LI.enumT rfl T.b_enumerate (PL.LE.asT (PL.LE.fld T.cBlocks.cl T.cBlocks.n_rule (PL.LE.var 0)))) (blkOk_by (N := ["machine", "number", "value"]) (sc := defScope s_keeps) (own := [("number", 1), ("value", 2)]) (by decide +kernel)) (fun _ _ _ _ _ => (pgs_cons (pg_name (i := 1) sc_keeps.nd rfl (Or.inl rfl)) (pgs_cons (pg_name (i := 2) sc_keeps.nd rfl (Or.inl rfl)) pgs_nil))) (fun _ _ _ _ _ => ⟨rfl, rfl⟩) (fun _ _ _ _ _ => LTs.nil) (fun _ _ _ _ _ => (PL.LE.eq hr.units (PL.LE.call G_many_balls (hr.mono (by decide)) rfl (LA.cons (PL.LE.var 1) LA.nil)) (PL.LE.call G_many_balls (hr.mono (by decide)) rfl (LA.cons (PL.LE.var 2) LA.nil))))) LA.nil))))
def t_turned_about (Γ : Ctx) : PTS := (pSeq (pAsg (pVar 0) (gpTup 2 (gpCons (gpName 1) (gpCons (gpName 2) gpNil)))) (pRet (pTup (pCons (pBin oSub (pC (.int 1)) (pVar 1)) (pCons (pVar 2) pNil)))))
theorem d_turned_about {P : Program} {w : World} {K : PySem.W.Frag} {mg : Str → Option Value} {base : Heap} {Γ : Ctx} (T : Txt K mg Γ)  {f : Addr} {cdv : Value} {A : Around} {outer : List Env} {s : Shared} {H : Hp} {E : XK}
    (hr : Room 0 (A.deeper (envOfC "turned_about" (defScope s_turned_about) s.heap.objs.size f cdv))) :
    LSs (cxOf (L2.CX P w) P w K mg base ["configuration", "phase", "places"] "turned_about" (defScope s_turned_about) f cdv A outer s H E) (defBody s_turned_about) (t_turned_about Γ) :=
  (LSs.cons (LS.asg (PL.LE.var 0) (LG.tup rfl (LGs.cons (LG.name 1 sc_turned_about.nd) (LGs.cons (LG.name 2 sc_turned_about.nd) LGs.nil)))) (LSs.one (LS.ret (PL.LE.tup (LA.cons (PL.LE.sub PL.LE.int (PL.LE.var 1)) (LA.cons (PL.LE.var 2) LA.nil))))))
def t_law_cell (Γ : Ctx) : PTS := (pSeq (pIfS (pTest (pBin oLt (pVar 1) (pCallB (on1 kLen) (pCons (pVar 0) pNil)))) (pRet (pBin oIx (pVar 0) (pVar 1))) pNext) (pRet (pC (.int 0))))
theorem d_law_cell {P : Program} {w : World} {K : PySem.W.Frag} {mg : Str → Option Value} {base : Heap} {Γ : Ctx} (T : Txt K mg Γ)  {f : Addr} {cdv : Value} {A : Around} {outer : List Env} {s : Shared} {H : Hp} {E : XK}
    (hr : Room 0 (A.deeper (envOfC "_law_cell" (defScope s_law_cell) s.heap.objs.size f cdv))) :
    LSs (cxOf (L2.CX P w) P w K mg base ["script", "k"] "_law_cell" (defScope s_law_cell) f cdv A outer s H E) (defBody s_law_cell) (t_law_cell Γ) :=
  (LSs.cons (LS.ite (PL.LT.lt (PL.LE.var 1) (PL.LE.len rfl T.b_len (LA.cons (PL.LE.var 0) LA.nil))) (LSs.one (LS.ret (PL.LE.ix (PL.LE.var 0) (PL.LE.var 1)))) LSs.nil) (LSs.one (LS.ret PL.LE.int)))
def t_law_mixed (Γ : Ctx) : PTS := (pSeq (pSet 2 (pBin oMod (pCallB (on1 kInt) (pCons (pBin oAdd (pBin oAdd (pBin oMul (pCallB (on1 kInt) (pCons (pVar 0) pNil)) (pC (.int 48271))) (pBin oMul (pVar 1) (pC (.int 69621)))) (pC (.int 11))) pNil)) (pC (.int 2147483647)))) (pSeq (pSet 3 (pBin oMod (pCallB (on1 kInt) (pCons (pBin oAdd (pBin oAdd (pBin oMul (pVar 2) (pC (.int 16807))) (pBin oMul (pBin oAdd (pVar 1) (pC (.int 3))) (pC (.int 40692)))) (pC (.int 5))) pNil)) (pC (.int 2147483563)))) (pRet (pBin oDiv (pVar 3) (pC (.int 5))))))
theorem d_law_mixed {P : Program} {w : World} {K : PySem.W.Frag} {mg : Str → Option Value} {base : Heap} {Γ : Ctx} (T : Txt K mg Γ)  {f : Addr} {cdv : Value} {A : Around} {outer : List Env} {s : Shared} {H : Hp} {E : XK}
    (hr : Room 0 (A.deeper (envOfC "_law_mixed" (defScope s_law_mixed) s.heap.objs.size f cdv))) :
    LSs (cxOf (L2.CX P w) P w K mg base ["cell", "k", "first", "second"] "_law_mixed" (defScope s_law_mixed) f cdv A outer s H E) (defBody s_law_mixed) (t_law_mixed Γ) :=
  (LSs.cons (LS.set 2 sc_law_mixed.nd (PL.LE.mod (PL.LE.intOf rfl T.b_int (LA.cons (PL.LE.add (PL.LE.add (PL.LE.mul (PL.LE.intOf rfl T.b_int (LA.cons (PL.LE.var 0) LA.nil)) PL.LE.int) (PL.LE.mul (PL.LE.var 1) PL.LE.int)) PL.LE.int) LA.nil)) PL.LE.int)) (LSs.cons (LS.set 3 sc_law_mixed.nd (PL.LE.mod (PL.LE.intOf rfl T.b_int (LA.cons (PL.LE.add (PL.LE.add (PL.LE.mul (PL.LE.var 2) PL.LE.int) (PL.LE.mul (PL.LE.add (PL.LE.var 1) PL.LE.int) PL.LE.int)) PL.LE.int) LA.nil)) PL.LE.int)) (LSs.one (LS.ret (PL.LE.div (PL.LE.var 3) PL.LE.int)))))
def b_law_digits_1 (Γ : Ctx) := ((pDrop (pApp (pVar 3) (pBin oMod (pCallB (on1 kInt) (pCons (pCall (sp_law_mixed Γ) (pCons (pVar 0) (pCons (pVar 4) pNil))) pNil)) (pVar 2)))) : PTS)
def b_law_digits_2 (Γ : Ctx) := ((pSeq (pDrop (pApp (pVar 3) (pBin oMod (pCallB (on1 kInt) (pCons (pVar 0) pNil)) (pVar 2)))) (pSet 0 (pBin oDiv (pVar 0) (pVar 2)))) : PTS)
def t_law_digits (Γ : Ctx) : PTS := (pSeq (pSet 3 (pLstM pNil)) (pSeq (pIfS (pTest (pBin oLt (pVar 0) (pBin oPow (pC (.int 10)) (pC (.int 18))))) (pSeq (pFor (piR1 (pVar 1)) (gpName 4) (b_law_digits_1 Γ)) (pRetF (pVar 3))) pNext) (pSeq (pFor (piR1 (pVar 1)) (gpName 4) (b_law_digits_2 Γ)) (pRetF (pVar 3)))))
theorem d_law_digits {P : Program} {w : World} {K : PySem.W.Frag} {mg : Str → Option Value} {base : Heap} {Γ : Ctx} (T : Txt K mg Γ) (G_law_mixed : GFn P w K mg base (PySem.Str.ofString "_law_mixed") 1 ["cell", "k"] (sp_law_mixed Γ)) {f : Addr} {cdv : Value} {A : Around} {outer : List Env} {s : Shared} {H : Hp} {E : XK}
    (hr : Room 1 (A.deeper (envOfC "_law_digits" (defScope s_law_digits) s.heap.objs.size f cdv))) :
    LSs (cxOf (L2.CX P w) P w K mg base ["cell", "count", "many", "digits", "k"] "_law_digits" (defScope s_law_digits) f cdv A outer s H E) (defBody s_law_digits) (t_law_digits Γ) :=
  (LSs.cons (LS.set 3 sc_law_digits.nd (PL.LE.lstM LA.nil)) (LSs.cons (LS.ite (PL.LT.lt (PL.LE.var 0) (PL.LE.pow PL.LE.int PL.LE.int)) (LSs.cons (LS.for (passes_of rfl) rfl (LI.rng1 rfl T.b_range (PL.LE.var 1)) (LG.name 4 sc_law_digits.nd) (LSs.one (LS.expr (PL.LE.app (PL.LE.var 3) (PL.LE.mod (PL.LE.intOf rfl T.b_int (LA.cons (PL.LE.call G_law_mixed (hr.mono (by decide)) rfl (LA.cons (PL.LE.var 0) (LA.cons (PL.LE.var 4) LA.nil))) LA.nil)) (PL.LE.var 2)))))) (LSs.one (LS.retF (PL.LE.var 3)))) LSs.nil) (LSs.cons (LS.for (passes_of rfl) rfl (LI.rng1 rfl T.b_range (PL.LE.var 1)) (LG.name 4 sc_law_digits.nd) (LSs.cons (LS.expr (PL.LE.app (PL.LE.var 3) (PL.LE.mod (PL.LE.intOf rfl T.b_int (LA.cons (PL.LE.var 0) LA.nil)) (PL.LE.var 2)))) (LSs.one (LS.set 0 sc_law_digits.nd (PL.LE.div (PL.LE.var 0) (PL.LE.var 2)))))) (LSs.one (LS.retF (PL.LE.var 3))))))
def b_law_values_1 (Γ : Ctx) := ((pDrop (pApp (pVar 3) (pPop (pVar 2) (pBin oMod (pBin oIx (pVar 1) (pVar 4)) (pCallB (on1 kLen) (pCons (pVar 2) pNil)))))) : PTS)
def t_law_values (Γ : Ctx) : PTS := (pSeq (pSet 1 (pCall (sp_law_digits Γ) (pCons (pVar 0) (pCons (pC (.int 15)) (pCons (pC (.int 840)) pNil))))) (pSeq (pPar 2 3 (pCons (pLstRg2 (pC (.int 1)) (pC (.int 16))) (pCons (pLstM (pCons (pC (.int 0)) pNil)) pNil))) (pSeq (pFor (piR1 (pC (.int 15))) (gpName 4) (b_law_values_1 Γ)) (pRetD [2, 3] (pCallB (on1 kTupD) (pCons (pVar 3) pNil))))))
theorem d_law_values {P : Program} {w : World} {K : PySem.W.Frag} {mg : Str → Option Value} {base : Heap} {Γ : Ctx} (T : Txt K mg Γ) (G_law_digits : GFn P w K mg base (PySem.Str.ofString "_law_digits") 2 ["cell", "count", "many"] (sp_law_digits Γ)) {f : Addr} {cdv : Value} {A : Around} {outer : List Env} {s : Shared} {H : Hp} {E : XK}
    (hr : Room 2 (A.deeper (envOfC "_law_values" (defScope s_law_values) s.heap.objs.size f cdv))) :
    LSs (cxOf (L2.CX P w) P w K mg base ["cell", "digits", "left", "values", "k"] "_law_values" (defScope s_law_values) f cdv A outer s H E) (defBody s_law_values) (t_law_values Γ) :=
  (LSs.cons (LS.set 1 sc_law_values.nd (PL.LE.call G_law_digits (hr.mono (by decide)) rfl (LA.cons (PL.LE.var 0) (LA.cons PL.LE.int (LA.cons PL.LE.int LA.nil))))) (LSs.cons (LS.par 2 3 rfl sc_law_values.nd (by decide) (LA.cons (PL.LE.listRg2 rfl rfl T.b_list rfl T.b_range PL.LE.int PL.LE.int) (LA.cons (PL.LE.lstM (LA.cons PL.LE.int LA.nil)) LA.nil)) (by rfl)) (LSs.cons (LS.for (passes_of rfl) rfl (LI.rng1 rfl T.b_range PL.LE.int) (LG.name 4 sc_law_values.nd) (LSs.one (LS.expr (PL.LE.app (PL.LE.var 3) (PL.LE.popAt (PL.LE.var 2) (PL.LE.mod (PL.LE.ix (PL.LE.var 1) (PL.LE.var 4)) (PL.LE.len rfl T.b_len (LA.cons (PL.LE.var 2) LA.nil)))))))) (LSs.one (LS.retD [2, 3] (PL.LE.tupOfD rfl T.b_tuple (LA.cons (PL.LE.var 3) LA.nil)))))))
def b_law_keeping_2 (Γ : Ctx) := ((pSeq (pAsg (pPop (pVar 5) (pBin oMod (pBin oIx (pVar 1) (pVar 3)) (pCallB (on1 kLen) (pCons (pVar 5) pNil)))) (gpSub (pVar 2) (pVar 6))) (pSet 3 (pBin oAdd (pVar 3) (pC (.int 1))))) : PTS)
def b_law_keeping_1 (Γ : Ctx) := ((pSeq (pSet 5 (pCallB (on1 kListM) (pCons (pVar 4) pNil))) (pSeq (pFor (piL (pVar 4)) (gpName 6) (b_law_keeping_2 Γ)) (pDropAt 5 pNext))) : PTS)
def t_law_keeping (Γ : Ctx) : PTS := (pSeq (pSet 1 (pCall (sp_law_digits Γ) (pCons (pVar 0) (pCons (pC (.int 14)) (pCons (pC (.int 840)) pNil))))) (pSeq (pSet 2 (pLstRg (pC (.int 16)))) (pSeq (pSet 3 (pC (.int 0))) (pSeq (pFor (piL (pLst (pCons (pLst (pCons (pC (.int 1)) (pCons (pC (.int 2)) (pCons (pC (.int 4)) (pCons (pC (.int 8)) pNil))))) (pCons (pLst (pCons (pC (.int 3)) (pCons (pC (.int 5)) (pCons (pC (.int 6)) (pCons (pC (.int 9)) (pCons (pC (.int 10)) (pCons (pC (.int 12)) pNil))))))) (pCons (pLst (pCons (pC (.int 7)) (pCons (pC (.int 11)) (pCons (pC (.int 13)) (pCons (pC (.int 14)) pNil))))) pNil))))) (gpName 4) (b_law_keeping_1 Γ)) (pRetD [2, 5] (pCallB (on1 kTupD) (pCons (pVar 2) pNil)))))))
theorem d_law_keeping {P : Program} {w : World} {K : PySem.W.Frag} {mg : Str → Option Value} {base : Heap} {Γ : Ctx} (T : Txt K mg Γ) (G_law_digits : GFn P w K mg base (PySem.Str.ofString "_law_digits") 2 ["cell", "count", "many"] (sp_law_digits Γ)) {f : Addr} {cdv : Value} {A : Around} {outer : List Env} {s : Shared} {H : Hp} {E : XK}
    (hr : Room 2 (A.deeper (envOfC "_law_keeping" (defScope s_law_keeping) s.heap.objs.size f cdv))) :
    LSs (cxOf (L2.CX P w) P w K mg base ["cell", "digits", "values", "at", "group", "left", "block"] "_law_keeping" (defScope s_law_keeping) f cdv A outer s H E) (defBody s_law_keeping) (t_law_keeping Γ) :=
  (LSs.cons (LS.set 1 sc_law_keeping.nd (PL.LE.call G_law_digits (hr.mono (by decide)) rfl (LA.cons (PL.LE.var 0) (LA.cons PL.LE.int (LA.cons PL.LE.int LA.nil))))) (LSs.cons (LS.set 2 sc_law_keeping.nd (PL.LE.listRg rfl rfl T.b_list rfl T.b_range PL.LE.int)) (LSs.cons (LS.set 3 sc_law_keeping.nd PL.LE.int) (LSs.cons (LS.for (passes_of rfl) rfl (LI.list (PL.LE.lst (LA.cons (PL.LE.lst (LA.cons PL.LE.int (LA.cons PL.LE.int (LA.cons PL.LE.int (LA.cons PL.LE.int LA.nil))))) (LA.cons (PL.LE.lst (LA.cons PL.LE.int (LA.cons PL.LE.int (LA.cons PL.LE.int (LA.cons PL.LE.int (LA.cons PL.LE.int (LA.cons PL.LE.int LA.nil))))))) (LA.cons (PL.LE.lst (LA.cons PL.LE.int (LA.cons PL.LE.int (LA.cons PL.LE.int (LA.cons PL.LE.int LA.nil))))) LA.nil))))) (LG.name 4 sc_law_keeping.nd) (LSs.cons (LS.set 5 sc_law_keeping.nd (PL.LE.listM rfl T.b_list (LA.cons (PL.LE.var 4) LA.nil))) (LSs.cons (LS.for (passes_of rfl) rfl (LI.list (PL.LE.var 4)) (LG.name 6 sc_law_keeping.nd) (LSs.cons (LS.asg (PL.LE.popAt (PL.LE.var 5) (PL.LE.mod (PL.LE.ix (PL.LE.var 1) (PL.LE.var 3)) (PL.LE.len rfl T.b_len (LA.cons (PL.LE.var 5) LA.nil)))) (LG.sub (PL.LE.var 2) (PL.LE.var 6))) (LSs.one (LS.set 3 sc_law_keeping.nd (PL.LE.add (PL.LE.var 3) PL.LE.int))))) (LSs.dropAt 5 LSs.nil)))) (LSs.one (LS.retD [2, 5] (PL.LE.tupOfD rfl T.b_tuple (LA.cons (PL.LE.var 2) LA.nil))))))))
def b_law_step_1 (Γ : Ctx) := ((pSeq (pSet 7 (pTup (pCons (pBin oSub (pVar 5) (pBin oMod (pCallB (on1 kInt) (pCons (pBin oAdd (pVar 5) (pVar 2)) pNil)) (pC (.int 2)))) (pCons (pBin oSub (pVar 6) (pBin oMod (pCallB (on1 kInt) (pCons (pBin oAdd (pVar 6) (pVar 2)) pNil)) (pC (.int 2)))) pNil)))) (pIfS (pTest (pBin oNinL (pVar 7) (pVar 4))) (pDrop (pApp (pVar 4) (pVar 7))) pNext)) : PTS)
def b_law_step_2 (Γ : Ctx) := ((pSeq (pSet 9 (pLst (pCons (pTup (pCons (pVar 5) (pCons (pVar 6) pNil))) (pCons (pTup (pCons (pBin oAdd (pVar 5) (pC (.int 1))) (pCons (pVar 6) pNil))) (pCons (pTup (pCons (pVar 5) (pCons (pBin oAdd (pVar 6) (pC (.int 1))) pNil))) (pCons (pTup (pCons (pBin oAdd (pVar 5) (pC (.int 1))) (pCons (pBin oAdd (pVar 6) (pC (.int 1))) pNil))) pNil)))))) (pSeq (pSet 10 (pCallB (on1 kSum) (pCons (pLc (piR1 (pC (.int 4))) 12 (pTest (pBin oIn (pBin oIx (pVar 9) (pVar 12)) (pVar 3))) (pBin oIx (pLst (pCons (pC (.int 1)) (pCons (pC (.int 2)) (pCons (pC (.int 4)) (pCons (pC (.int 8)) pNil))))) (pVar 12))) pNil))) (pSeq (pSet 11 (pBin oIx (pAsT (pVar 0)) (pVar 10))) (pSet 8 (pBin oAdd (pVar 8) (pLc (piR1 (pC (.int 4))) 12 (pTest (pBin oEq (pBin oMod (pCallB (on1 kInt) (pCons (pBin oDiv (pVar 11) (pBin oIx (pLst (pCons (pC (.int 1)) (pCons (pC (.int 2)) (pCons (pC (.int 4)) (pCons (pC (.int 8)) pNil))))) (pVar 12))) pNil)) (pC (.int 2))) (pC (.int 1)))) (pBin oIx (pVar 9) (pVar 12)))))))) : PTS)
def t_law_step (Γ : Ctx) : PTS := (pSeq (pAsg (pVar 1) (gpTup 2 (gpCons (gpName 2) (gpCons (gpName 3) gpNil)))) (pSeq (pSet 4 (pLstM pNil)) (pSeq (pFor (piT (pVar 3)) (gpTup 2 (gpCons (gpName 5) (gpCons (gpName 6) gpNil))) (b_law_step_1 Γ)) (pFz 4 (pSeq (pSet 8 (pLst pNil)) (pSeq (pFor (piL (pVar 4)) (gpTup 2 (gpCons (gpName 5) (gpCons (gpName 6) gpNil))) (b_law_step_2 Γ)) (pRetD [4] (pTup (pCons (pBin oSub (pC (.int 1)) (pVar 2)) (pCons (pCallB (on1 kTup) (pCons (pCallB (on1 kSortD) (pCons (pVar 8) pNil)) pNil)) pNil))))))))))
theorem d_law_step {P : Program} {w : World} {K : PySem.W.Frag} {mg : Str → Option Value} {base : Heap} {Γ : Ctx} (T : Txt K mg Γ)  {f : Addr} {cdv : Value} {A : Around} {outer : List Env} {s : Shared} {H : Hp} {E : XK}
    (hr : Room 0 (A.deeper (envOfC "_law_step" (defScope s_law_step) s.heap.objs.size f cdv))) :
    LSs (cxOf (L2.CX P w) P w K mg base ["values", "configuration", "phase", "places", "corners", "x", "y", "corner", "found", "spots", "number", "value", "k"] "_law_step" (defScope s_law_step) f cdv A outer s H E) (defBody s_law_step) (t_law_step Γ) :=
  (LSs.cons (LS.asg (PL.LE.var 1) (LG.tup rfl (LGs.cons (LG.name 2 sc_law_step.nd) (LGs.cons (LG.name 3 sc_law_step.nd) LGs.nil)))) (LSs.cons (LS.set 4 sc_law_step.nd (PL.LE.lstM LA.nil)) (LSs.cons (LS.for (passes_of rfl) rfl (LI.tup (PL.LE.var 3)) (LG.tup rfl (LGs.cons (LG.name 5 sc_law_step.nd) (LGs.cons (LG.name 6 sc_law_step.nd) LGs.nil))) (LSs.cons (LS.set 7 sc_law_step.nd (PL.LE.tup (LA.cons (PL.LE.sub (PL.LE.var 5) (PL.LE.mod (PL.LE.intOf rfl T.b_int (LA.cons (PL.LE.add (PL.LE.var 5) (PL.LE.var 2)) LA.nil)) PL.LE.int)) (LA.cons (PL.LE.sub (PL.LE.var 6) (PL.LE.mod (PL.LE.intOf rfl T.b_int (LA.cons (PL.LE.add (PL.LE.var 6) (PL.LE.var 2)) LA.nil)) PL.LE.int)) LA.nil)))) (LSs.one (LS.ite (PL.LT.ninL (Room.units65 hr) (PL.LE.var 7) (PL.LE.var 4)) (LSs.one (LS.expr (PL.LE.app (PL.LE.var 4) (PL.LE.var 7)))) LSs.nil)))) (LSs.fz 4 (LSs.cons (LS.set 8 sc_law_step.nd (PL.LE.lst LA.nil)) (LSs.cons (LS.for (passes_of rfl) rfl (LI.list (PL.LE.var 4)) (LG.tup rfl (LGs.cons (LG.name 5 sc_law_step.nd) (LGs.cons (LG.name 6 sc_law_step.nd) LGs.nil))) (LSs.cons (LS.set 9 sc_law_step.nd (PL.LE.lst (LA.cons (PL.LE.tup (LA.cons (PL.LE.var 5) (LA.cons (PL.LE.var 6) LA.nil))) (LA.cons (PL.LE.tup (LA.cons (PL.LE.add (PL.LE.var 5) PL.LE.int) (LA.cons (PL.LE.var 6) LA.nil))) (LA.cons (PL.LE.tup (LA.cons (PL.LE.var 5) (LA.cons (PL.LE.add (PL.LE.var 6) PL.LE.int) LA.nil))) (LA.cons (PL.LE.tup (LA.cons (PL.LE.add (PL.LE.var 5) PL.LE.int) (LA.cons (PL.LE.add (PL.LE.var 6) PL.LE.int) LA.nil))) LA.nil)))))) (LSs.cons (LS.set 10 sc_law_step.nd (PL.LE.sum rfl rfl T.b_sum (LA.cons (PL.LE.lc rfl sc_law_step.nd (LI.rng1 rfl T.b_range PL.LE.int) (blkOk_by (N := ["values", "configuration", "phase", "places", "corners", "x", "y", "corner", "found", "spots", "number", "value", "k"]) (sc := defScope s_law_step) (by decide +kernel)) (fun _ _ _ _ _ => pg_name (i := 12) sc_law_step.nd rfl (Or.inl rfl)) (fun _ _ _ _ _ => (LTs.one (PL.LT.inT (Room.units65 hr) (PL.LE.ix (PL.LE.var 9) (PL.LE.var 12)) (PL.LE.var 3)))) (fun _ _ _ _ _ => (PL.LE.ix (PL.LE.lst (LA.cons PL.LE.int (LA.cons PL.LE.int (LA.cons PL.LE.int (LA.cons PL.LE.int LA.nil))))) (PL.LE.var 12)))) LA.nil))) (LSs.cons (LS.set 11 sc_law_step.nd (PL.LE.ix (PL.LE.asT (PL.LE.var 0)) (PL.LE.var 10))) (LSs.one (LS.set 8 sc_law_step.nd (PL.LE.add (PL.LE.var 8) (PL.LE.lc rfl sc_law_step.nd (LI.rng1 rfl T.b_range PL.LE.int) (blkOk_by (N := ["values", "configuration", "phase", "places", "corners", "x", "y", "corner", "found", "spots", "number", "value", "k"]) (sc := defScope s_law_step) (by decide +kernel)) (fun _ _ _ _ _ => pg_name (i := 12) sc_law_step.nd rfl (Or.inl rfl)) (fun _ _ _ _ _ => (LTs.one (PL.LT.eq hr.units (PL.LE.mod (PL.LE.intOf rfl T.b_int (LA.cons (PL.LE.div (PL.LE.var 11) (PL.LE.ix (PL.LE.lst (LA.cons PL.LE.int (LA.cons PL.LE.int (LA.cons PL.LE.int (LA.cons PL.LE.int LA.nil))))) (PL.LE.var 12))) LA.nil)) PL.LE.int) PL.LE.int))) (fun _ _ _ _ _ => (PL.LE.ix (PL.LE.var 9) (PL.LE.var 12))))))))))) (LSs.one (LS.retD [4] (PL.LE.tup (LA.cons (PL.LE.sub PL.LE.int (PL.LE.var 2)) (LA.cons (PL.LE.tupOf rfl T.b_tuple (LA.cons (PL.LE.sortedD (Room.units65 hr) rfl T.b_sorted (LA.cons (PL.LE.var 8) LA.nil)) LA.nil)) LA.nil)))))))))))
def b_law_places_1 (Γ : Ctx) := ((pSeq (pSet 5 (pTup (pCons (pBin oAdd (pBin oSub (pBin oMod (pCallB (on1 kInt) (pCons (pVar 4) pNil)) (pVar 1)) (pBin oDiv (pVar 1) (pC (.int 2)))) (pVar 2)) (pCons (pBin oSub (pBin oSub (pBin oMod (pCallB (on1 kInt) (pCons (pBin oDiv (pVar 4) (pVar 1)) pNil)) (pVar 1)) (pBin oDiv (pVar 1) (pC (.int 2)))) (pVar 2)) pNil)))) (pIfS (pTest (pBin oNinL (pVar 5) (pVar 3))) (pDrop (pApp (pVar 3) (pVar 5))) pNext)) : PTS)
def t_law_places (Γ : Ctx) : PTS := (pSeq (pSet 3 (pLstM pNil)) (pSeq (pFor (piL (pVar 0)) (gpName 4) (b_law_places_1 Γ)) (pRetD [3] (pCallB (on1 kSortD) (pCons (pVar 3) pNil)))))
theorem d_law_places {P : Program} {w : World} {K : PySem.W.Frag} {mg : Str → Option Value} {base : Heap} {Γ : Ctx} (T : Txt K mg Γ)  {f : Addr} {cdv : Value} {A : Around} {outer : List Env} {s : Shared} {H : Hp} {E : XK}
    (hr : Room 0 (A.deeper (envOfC "_law_places" (defScope s_law_places) s.heap.objs.size f cdv))) :
    LSs (cxOf (L2.CX P w) P w K mg base ["digits", "wide", "far", "places", "one", "place"] "_law_places" (defScope s_law_places) f cdv A outer s H E) (defBody s_law_places) (t_law_places Γ) :=
  (LSs.cons (LS.set 3 sc_law_places.nd (PL.LE.lstM LA.nil)) (LSs.cons (LS.for (passes_of rfl) rfl (LI.list (PL.LE.var 0)) (LG.name 4 sc_law_places.nd) (LSs.cons (LS.set 5 sc_law_places.nd (PL.LE.tup (LA.cons (PL.LE.add (PL.LE.sub (PL.LE.mod (PL.LE.intOf rfl T.b_int (LA.cons (PL.LE.var 4) LA.nil)) (PL.LE.var 1)) (PL.LE.div (PL.LE.var 1) PL.LE.int)) (PL.LE.var 2)) (LA.cons (PL.LE.sub (PL.LE.sub (PL.LE.mod (PL.LE.intOf rfl T.b_int (LA.cons (PL.LE.div (PL.LE.var 4) (PL.LE.var 1)) LA.nil)) (PL.LE.var 1)) (PL.LE.div (PL.LE.var 1) PL.LE.int)) (PL.LE.var 2)) LA.nil)))) (LSs.one (LS.ite (PL.LT.ninL (Room.units65 hr) (PL.LE.var 5) (PL.LE.var 3)) (LSs.one (LS.expr (PL.LE.app (PL.LE.var 3) (PL.LE.var 5)))) LSs.nil)))) (LSs.one (LS.retD [3] (PL.LE.sortedD (Room.units65 hr) rfl T.b_sorted (LA.cons (PL.LE.var 3) LA.nil))))))
def q_law_1_7 (Γ : Ctx) := ((pIfS (pOr (pTest (pBin oNe (pMeth Γ.Blocks (PySem.Str.ofString "run") (sp_Blocks_run Γ) (pVar 3) (pCons (pVar 7) (pCons (pBin oAdd (pVar 8) (pC (.int 1))) pNil))) (pVar 6))) (pTest (pBin oNe (pMeth Γ.Blocks (PySem.Str.ofString "run_back") (sp_Blocks_run_back Γ) (pVar 3) (pCons (pVar 6) (pCons (pBin oAdd (pVar 8) (pC (.int 1))) pNil))) (pVar 7)))) (pRet (pC (.bl false))) pNext) : PTS)
def q_law_1_6 (Γ : Ctx) := ((pSeq (pSet 6 (pVar 9)) (q_law_1_7 Γ)) : PTS)
def q_law_1_5 (Γ : Ctx) := ((pSeq (pIfS (pAnd (pTest (pCall (sp_keeps Γ) (pCons (pVar 3) pNil))) (pTest (pBin oNe (pCallB (on1 kLen) (pCons (pBin oIx (pVar 9) (pC (.int 1))) pNil)) (pCallB (on1 kLen) (pCons (pBin oIx (pVar 7) (pC (.int 1))) pNil))))) (pRet (pC (.bl false))) pNext) (q_law_1_6 Γ)) : PTS)
def q_law_1_4 (Γ : Ctx) := ((pSeq (pIfS (pAnd (pTest (pBin oEq (pCallB (on1 kList) (pCons (pAsT (pVar 2)) pNil)) (pVar 4))) (pTest (pBin oNe (pMeth Γ.Blocks (PySem.Str.ofString "step") (sp_Blocks_step Γ) (pVar 3) (pCons (pCall (sp_turned_about Γ) (pCons (pVar 6) pNil)) pNil)) (pCall (sp_turned_about Γ) (pCons (pVar 10) pNil))))) (pRet (pC (.bl false))) pNext) (q_law_1_5 Γ)) : PTS)
def q_law_1_3 (Γ : Ctx) := ((pSeq (pIfS (pOr (pTest (pBin oNe (pMeth Γ.Blocks (PySem.Str.ofString "step") (sp_Blocks_step Γ) (pVar 3) (pCons (pVar 6) pNil)) (pVar 9))) (pOr (pTest (pBin oNe (pMeth Γ.Blocks (PySem.Str.ofString "back") (sp_Blocks_back Γ) (pVar 3) (pCons (pVar 6) pNil)) (pVar 10))) (pOr (pTest (pBin oNe (pMeth Γ.Blocks (PySem.Str.ofString "back") (sp_Blocks_back Γ) (pVar 3) (pCons (pVar 9) pNil)) (pVar 6))) (pTest (pBin oNe (pMeth Γ.Blocks (PySem.Str.ofString "step") (sp_Blocks_step Γ) (pVar 3) (pCons (pVar 10) pNil)) (pVar 6)))))) (pRet (pC (.bl false))) pNext) (q_law_1_4 Γ)) : PTS)
def q_law_1_2 (Γ : Ctx) := ((pSeq (pSet 10 (pTup (pCons (pBin oSub (pC (.int 1)) (pBin oIx (pVar 6) (pC (.int 0)))) (pCons (pBin oIx (pVar 10) (pC (.int 1))) pNil)))) (q_law_1_3 Γ)) : PTS)
def q_law_1_1 (Γ : Ctx) := ((pSeq (pSet 10 (pCall (sp_law_step Γ) (pCons (pVar 4) (pCons (pTup (pCons (pBin oSub (pC (.int 1)) (pBin oIx (pVar 6) (pC (.int 0)))) (pCons (pBin oIx (pVar 6) (pC (.int 1))) pNil))) pNil)))) (q_law_1_2 Γ)) : PTS)
def b_law_1 (Γ : Ctx) := ((pSeq (pSet 9 (pCall (sp_law_step Γ) (pCons (pAsT (pVar 2)) (pCons (pVar 6) pNil)))) (q_law_1_1 Γ)) : PTS)
def r_law_10 (Γ : Ctx) := ((pRet (pBin oIsB (pMeth Γ.Blocks (PySem.Str.ofString "is_configuration") (sp_Blocks_is_configuration Γ) (pVar 3) (pCons (pVar 6) pNil)) (pC (.bl true)))) : PTS)
def r_law_9 (Γ : Ctx) := ((pSeq (pFor (piR1 (pBin oAdd (pC (.int 1)) (pBin oMod (pBin oDiv (pVar 1) (pC (.int 416))) (pC (.int 10))))) (gpName 8) (b_law_1 Γ)) (r_law_10 Γ)) : PTS)
def r_law_8 (Γ : Ctx) := ((pSeq (pSet 7 (pVar 6)) (r_law_9 Γ)) : PTS)
def r_law_7 (Γ : Ctx) := ((pSeq (pSet 6 (pTup (pCons (pBin oMod (pBin oDiv (pVar 1) (pC (.int 208))) (pC (.int 2))) (pCons (pCallB (on1 kTup) (pCons (pCall (sp_law_places Γ) (pCons (pCall (sp_law_digits Γ) (pCons (pCall (sp_law_cell Γ) (pCons (pVar 0) (pCons (pC (.int 2)) pNil))) (pCons (pBin oMod (pBin oDiv (pVar 1) (pC (.int 16))) (pC (.int 13))) (pCons (pC (.int 121)) pNil)))) (pCons (pC (.int 11)) (pCons (pVar 5) pNil)))) pNil)) pNil)))) (r_law_8 Γ)) : PTS)
def r_law_6 (Γ : Ctx) := ((pSeq (pSet 5 (pBin oIx (pLst (pCons (pC (.int 0)) (pCons (pC (.int 0)) (pCons (pC (.int 0)) (pCons (pC (.int 0)) (pCons (pC (.int 0)) (pCons (pC (.int 0)) (pCons (pBin oPow (pC (.int 10)) (pC (.int 40))) (pCons (pC (.int 999998)) pNil))))))))) (pBin oMod (pBin oDiv (pVar 1) (pC (.int 2))) (pC (.int 8))))) (r_law_7 Γ)) : PTS)
def r_law_5 (Γ : Ctx) := ((pSeq (pSet 4 (pLc (piR1 (pC (.int 16))) 11 pYes (pTIdx (pVar 2) (pVar 11)))) (r_law_6 Γ)) : PTS)
def r_law_4 (Γ : Ctx) := ((pSeq (pSet 3 (pMake Γ.Blocks (sp_Blocks_init Γ) (pCons (pVar 2) pNil))) (r_law_5 Γ)) : PTS)
def r_law_3 (Γ : Ctx) := ((pSeq (pIfS (pTest (pBin oEq (pBin oMod (pVar 1) (pC (.int 4))) (pC (.int 0)))) (pSet 2 (pCall (sp_law_keeping Γ) (pCons (pCall (sp_law_cell Γ) (pCons (pVar 0) (pCons (pC (.int 0)) pNil))) pNil))) pNext) (r_law_4 Γ)) : PTS)
def r_law_2 (Γ : Ctx) := ((pSeq (pIfS (pTest (pBin oEq (pBin oMod (pVar 1) (pC (.int 2))) (pC (.int 1)))) (pSet 2 (pFld Γ.Blocks (pCall (sp_balls Γ) pNil) (PySem.Str.ofString "rule"))) pNext) (r_law_3 Γ)) : PTS)
def r_law_1 (Γ : Ctx) := ((pSeq (pSet 2 (pCall (sp_law_values Γ) (pCons (pCall (sp_law_cell Γ) (pCons (pVar 0) (pCons (pC (.int 0)) pNil))) pNil))) (r_law_2 Γ)) : PTS)
def t_law (Γ : Ctx) : PTS := (pSeq (pSet 1 (pBin oMod (pCallB (on1 kInt) (pCons (pCall (sp_law_cell Γ) (pCons (pVar 0) (pCons (pC (.int 1)) pNil))) pNil)) (pC (.int 90000)))) (r_law_1 Γ))
theorem d_law {P : Program} {w : World} {K : PySem.W.Frag} {mg : Str → Option Value} {base : Heap} {Γ : Ctx} (T : Txt K mg Γ) (G_law_values : GFn P w K mg base (PySem.Str.ofString "_law_values") 3 ["cell"] (sp_law_values Γ)) (G_Blocks_init : GMk P w K mg base (PySem.Str.ofString "Blocks") Γ.Blocks 5 ["self", "values"] (sp_Blocks_init Γ)) (G_law_cell : GFn P w K mg base (PySem.Str.ofString "_law_cell") 1 ["script", "k"] (sp_law_cell Γ)) (G_law_keeping : GFn P w K mg base (PySem.Str.ofString "_law_keeping") 3 ["cell"] (sp_law_keeping Γ)) (G_law_step : GFn P w K mg base (PySem.Str.ofString "_law_step") 1 ["values", "configuration"] (sp_law_step Γ)) (G_Blocks_is_configuration : GMt P w K mg base Γ.Blocks (PySem.Str.ofString "is_configuration") 3 ["self", "value"] (sp_Blocks_is_configuration Γ)) (G_balls : GFn P w K mg base (PySem.Str.ofString "balls") 7 [] (sp_balls Γ)) (G_law_places : GFn P w K mg base (PySem.Str.ofString "_law_places") 1 ["digits", "wide", "far"] (sp_law_places Γ)) (G_keeps : GFn P w K mg base (PySem.Str.ofString "keeps") 2 ["machine"] (sp_keeps Γ)) (G_law_digits : GFn P w K mg base (PySem.Str.ofString "_law_digits") 2 ["cell", "count", "many"] (sp_law_digits Γ)) (G_Blocks_step : GMt P w K mg base Γ.Blocks (PySem.Str.ofString "step") 3 ["self", "configuration"] (sp_Blocks_step Γ)) (G_Blocks_back : GMt P w K mg base Γ.Blocks (PySem.Str.ofString "back") 3 ["self", "configuration"] (sp_Blocks_back Γ)) (G_turned_about : GFn P w K mg base (PySem.Str.ofString "turned_about") 1 ["configuration"] (sp_turned_about Γ)) (G_Blocks_run : GMt P w K mg base Γ.Blocks (PySem.Str.ofString "run") 4 ["self", "configuration", "steps"] (sp_Blocks_run Γ)) (G_Blocks_run_back : GMt P w K mg base Γ.Blocks (PySem.Str.ofString "run_back") 4 ["self", "configuration", "steps"] (sp_Blocks_run_back Γ)) {f : Addr} {cdv : Value} {A : Around} {outer : List Env} {s : Shared} {H : Hp} {E : XK}
    (hr : Room 7 (A.deeper (envOfC "law" (defScope s_law) s.heap.objs.size f cdv))) :
    LSs (cxOf (L2.CX P w) P w K mg base ["script", "number", "values", "machine", "undone", "far", "here", "begin", "k", "after", "before", "block"] "law" (defScope s_law) f cdv A outer s H E) (defBody s_law) (t_law Γ) :=
  (LSs.cons (LS.set 1 sc_law.nd (PL.LE.mod (PL.LE.intOf rfl T.b_int (LA.cons (PL.LE.call G_law_cell (hr.mono (by decide)) rfl (LA.cons (PL.LE.var 0) (LA.cons PL.LE.int LA.nil))) LA.nil)) PL.LE.int)) (LSs.cons (LS.set 2 sc_law.nd (PL.LE.call G_law_values (hr.mono (by decide)) rfl (LA.cons (PL.LE.call G_law_cell (hr.mono (by decide)) rfl (LA.cons (PL.LE.var 0) (LA.cons PL.LE.int LA.nil))) LA.nil))) (LSs.cons (LS.ite (PL.LT.eq hr.units (PL.LE.mod (PL.LE.var 1) PL.LE.int) PL.LE.int) (LSs.one (LS.set 2 sc_law.nd (PL.LE.fld T.cBlocks.cl T.cBlocks.n_rule (PL.LE.call0 G_balls (hr.mono (by decide)) rfl)))) LSs.nil) (LSs.cons (LS.ite (PL.LT.eq hr.units (PL.LE.mod (PL.LE.var 1) PL.LE.int) PL.LE.int) (LSs.one (LS.set 2 sc_law.nd (PL.LE.call G_law_keeping (hr.mono (by decide)) rfl (LA.cons (PL.LE.call G_law_cell (hr.mono (by decide)) rfl (LA.cons (PL.LE.var 0) (LA.cons PL.LE.int LA.nil))) LA.nil)))) LSs.nil) (LSs.cons (LS.set 3 sc_law.nd (PL.LE.make G_Blocks_init (hr.mono (by decide)) rfl (LA.cons (PL.LE.var 2) LA.nil))) (LSs.cons (LS.setLc 4 rfl sc_law.nd rfl rfl (sw_true rfl rfl rfl (by decide +kernel)) (LI.rng1 rfl T.b_range PL.LE.int) (blkOk_by (N := ["script", "number", "values", "machine", "undone", "far", "here", "begin", "k", "after", "before", "block"]) (sc := defScope s_law) (by decide +kernel)) (fun _ _ _ _ _ => pg_name (i := 11) sc_law.nd rfl (Or.inl rfl)) (fun _ _ _ _ _ => LTs.nil) (fun _ _ _ _ _ => (PL.LE.tidx (PL.LE.var 2) (PL.LE.var 11)))) (LSs.cons (LS.set 5 sc_law.nd (PL.LE.ix (PL.LE.lst (LA.cons PL.LE.int (LA.cons PL.LE.int (LA.cons PL.LE.int (LA.cons PL.LE.int (LA.cons PL.LE.int (LA.cons PL.LE.int (LA.cons (PL.LE.pow PL.LE.int PL.LE.int) (LA.cons PL.LE.int LA.nil))))))))) (PL.LE.mod (PL.LE.div (PL.LE.var 1) PL.LE.int) PL.LE.int))) (LSs.cons (LS.set 6 sc_law.nd (PL.LE.tup (LA.cons (PL.LE.mod (PL.LE.div (PL.LE.var 1) PL.LE.int) PL.LE.int) (LA.cons (PL.LE.tupOf rfl T.b_tuple (LA.cons (PL.LE.call G_law_places (hr.mono (by decide)) rfl (LA.cons (PL.LE.call G_law_digits (hr.mono (by decide)) rfl (LA.cons (PL.LE.call G_law_cell (hr.mono (by decide)) rfl (LA.cons (PL.LE.var 0) (LA.cons PL.LE.int LA.nil))) (LA.cons (PL.LE.mod (PL.LE.div (PL.LE.var 1) PL.LE.int) PL.LE.int) (LA.cons PL.LE.int LA.nil)))) (LA.cons PL.LE.int (LA.cons (PL.LE.var 5) LA.nil)))) LA.nil)) LA.nil)))) (LSs.cons (LS.set 7 sc_law.nd (PL.LE.var 6)) (LSs.cons (LS.for (passes_of rfl) rfl (LI.rng1 rfl T.b_range (PL.LE.add PL.LE.int (PL.LE.mod (PL.LE.div (PL.LE.var 1) PL.LE.int) PL.LE.int))) (LG.name 8 sc_law.nd) (LSs.cons (LS.set 9 sc_law.nd (PL.LE.call G_law_step (hr.mono (by decide)) rfl (LA.cons (PL.LE.asT (PL.LE.var 2)) (LA.cons (PL.LE.var 6) LA.nil)))) (LSs.cons (LS.set 10 sc_law.nd (PL.LE.call G_law_step (hr.mono (by decide)) rfl (LA.cons (PL.LE.var 4) (LA.cons (PL.LE.tup (LA.cons (PL.LE.sub PL.LE.int (PL.LE.ix (PL.LE.var 6) PL.LE.int)) (LA.cons (PL.LE.ix (PL.LE.var 6) PL.LE.int) LA.nil))) LA.nil)))) (LSs.cons (LS.set 10 sc_law.nd (PL.LE.tup (LA.cons (PL.LE.sub PL.LE.int (PL.LE.ix (PL.LE.var 6) PL.LE.int)) (LA.cons (PL.LE.ix (PL.LE.var 10) PL.LE.int) LA.nil)))) (LSs.cons (LS.ite (LW.lt (LW.or (PL.LT.ne hr.units (PL.LE.meth G_Blocks_step T.cBlocks.cl (hr.mono (by decide)) (PL.LE.var 3) (LA.cons (PL.LE.var 6) LA.nil)) (PL.LE.var 9)) (LW.or (PL.LT.ne hr.units (PL.LE.meth G_Blocks_back T.cBlocks.cl (hr.mono (by decide)) (PL.LE.var 3) (LA.cons (PL.LE.var 6) LA.nil)) (PL.LE.var 10)) (LW.or (PL.LT.ne hr.units (PL.LE.meth G_Blocks_back T.cBlocks.cl (hr.mono (by decide)) (PL.LE.var 3) (LA.cons (PL.LE.var 9) LA.nil)) (PL.LE.var 6)) (LW.or1 (PL.LT.ne hr.units (PL.LE.meth G_Blocks_step T.cBlocks.cl (hr.mono (by decide)) (PL.LE.var 3) (LA.cons (PL.LE.var 10) LA.nil)) (PL.LE.var 6))))))) (LSs.one (LS.ret PL.LE.bl)) LSs.nil) (LSs.cons (LS.ite (LW.lt (LW.and (PL.LT.eq hr.units (PL.LE.list rfl T.b_list (LA.cons (PL.LE.asT (PL.LE.var 2)) LA.nil)) (PL.LE.var 4)) (LW.and1 (PL.LT.ne hr.units (PL.LE.meth G_Blocks_step T.cBlocks.cl (hr.mono (by decide)) (PL.LE.var 3) (LA.cons (PL.LE.call G_turned_about (hr.mono (by decide)) rfl (LA.cons (PL.LE.var 6) LA.nil)) LA.nil)) (PL.LE.call G_turned_about (hr.mono (by decide)) rfl (LA.cons (PL.LE.var 10) LA.nil)))))) (LSs.one (LS.ret PL.LE.bl)) LSs.nil) (LSs.cons (LS.ite (LW.lt (LW.and (PL.LT.val (PL.LE.call G_keeps (hr.mono (by decide)) rfl (LA.cons (PL.LE.var 3) LA.nil))) (LW.and1 (PL.LT.ne hr.units (PL.LE.len rfl T.b_len (LA.cons (PL.LE.ix (PL.LE.var 9) PL.LE.int) LA.nil)) (PL.LE.len rfl T.b_len (LA.cons (PL.LE.ix (PL.LE.var 7) PL.LE.int) LA.nil)))))) (LSs.one (LS.ret PL.LE.bl)) LSs.nil) (LSs.cons (LS.set 6 sc_law.nd (PL.LE.var 9)) (LSs.one (LS.ite (LW.lt (LW.or (PL.LT.ne hr.units (PL.LE.meth G_Blocks_run T.cBlocks.cl (hr.mono (by decide)) (PL.LE.var 3) (LA.cons (PL.LE.var 7) (LA.cons (PL.LE.add (PL.LE.var 8) PL.LE.int) LA.nil))) (PL.LE.var 6)) (LW.or1 (PL.LT.ne hr.units (PL.LE.meth G_Blocks_run_back T.cBlocks.cl (hr.mono (by decide)) (PL.LE.var 3) (LA.cons (PL.LE.var 6) (LA.cons (PL.LE.add (PL.LE.var 8) PL.LE.int) LA.nil))) (PL.LE.var 7))))) (LSs.one (LS.ret PL.LE.bl)) LSs.nil)))))))))) (LSs.one (LS.ret (PL.LE.isB (PL.LE.meth G_Blocks_is_configuration T.cBlocks.cl (hr.mono (by decide)) (PL.LE.var 3) (LA.cons (PL.LE.var 6) LA.nil)) PL.LE.bl)))))))))))))
end My
set_option Elab.async false
set_option linter.all false
set_option maxRecDepth 100000
namespace My
open PySem PL TM PD
theorem okR {ns : List Int} (h : okRule ns = true) : (∀ n ∈ ns, 0 ≤ n ∧ n ≤ 15) ∧ ns.length = 16 ∧ ns.head? = some 0 ∧ ns.Nodup := by
  unfold okRule at h
  rw [Bool.and_eq_true, Bool.and_eq_true, Bool.and_eq_true, List.all_eq_true] at h
  obtain ⟨h1, h2, h3, h4⟩ := h
  refine ⟨fun n hn => ?_, of_decide_eq_true h2, of_decide_eq_true h3, of_decide_eq_true h4⟩
  have := h1 n hn
  rw [Bool.and_eq_true] at this
  exact ⟨of_decide_eq_true this.1, of_decide_eq_true this.2⟩
theorem okR_mk {ns : List Int} (h1 : ∀ n ∈ ns, 0 ≤ n ∧ n ≤ 15) (h2 : ns.length = 16) (h3 : ns.head? = some 0) (h4 : ns.Nodup) : okRule ns = true := by
  unfold okRule
  rw [Bool.and_eq_true, Bool.and_eq_true, Bool.and_eq_true, List.all_eq_true]
  exact ⟨fun n hn => by rw [Bool.and_eq_true]; exact ⟨decide_eq_true (h1 n hn).1, decide_eq_true (h1 n hn).2⟩, decide_eq_true h2, decide_eq_true h3, decide_eq_true h4⟩
theorem perm_of {α : Type} [DecidableEq α] : ∀ (l m : List α), l.Nodup → (∀ x ∈ l, x ∈ m) → m.length ≤ l.length → m.Perm l
  | [], m, _, _, h => by
    have : m = [] := List.eq_nil_of_length_eq_zero (by simpa using h)
    rw [this]
  | x :: l, m, hn, hs, h => by
    have hx := hs x List.mem_cons_self
    have h2 := List.nodup_cons.mp hn
    have hp := List.length_pos_of_mem hx
    have ih := perm_of l (m.erase x) h2.2 (fun y hy => (List.mem_erase_of_ne (fun (e : y = x) => h2.1 (e ▸ hy))).mpr (hs y (List.mem_cons_of_mem _ hy))) (by rw [List.length_erase_of_mem hx]; rw [List.length_cons] at h; omega)
    exact (List.perm_cons_erase hx).trans (ih.cons x)
theorem sub_len {α : Type} [DecidableEq α] : ∀ (l m : List α), l.Nodup → (∀ x ∈ l, x ∈ m) → l.length ≤ m.length
  | [], m, _, _ => Nat.zero_le _
  | x :: l, m, hn, hs => by
    have hx := hs x List.mem_cons_self
    have h2 := List.nodup_cons.mp hn
    have := sub_len l (m.erase x) h2.2 fun y hy => (List.mem_erase_of_ne (fun (e : y = x) => h2.1 (e ▸ hy))).mpr (hs y (List.mem_cons_of_mem _ hy))
    rw [List.length_erase_of_mem hx] at this
    have := List.length_pos_of_mem hx
    rw [List.length_cons]
    omega
/-- as many different ones as there are -/
theorem set_len {ns ks : List Int} (h1 : ks.Nodup) (h2 : ∀ k, k ∈ ks ↔ k ∈ ns) : (ks.length = ns.length) ↔ ns.Nodup := by
  constructor
  · intro h
    exact (perm_of ks ns h1 (fun x hx => (h2 x).mp hx) (by omega)).nodup_iff.mpr h1
  · intro h
    have := sub_len ks ns h1 fun x hx => (h2 x).mp hx
    have := sub_len ns ks h fun x hx => (h2 x).mpr hx
    omega
def all16 : List Int := (List.range 16).map fun (k : Nat) => (k : Int)
theorem mem16 {n : Int} : n ∈ all16 ↔ 0 ≤ n ∧ n ≤ 15 := by
  constructor
  · intro h
    obtain ⟨k, hk, rfl⟩ := List.mem_map.mp h
    have := List.mem_range.mp hk
    omega
  · intro h
    exact List.mem_map.mpr ⟨n.toNat, List.mem_range.mpr (by omega), by omega⟩
theorem nodup16 : all16.Nodup := by decide
/-- as many different ones of the sixteen are all -/
theorem full16 {ns : List Int} (hn : ns.Nodup) (hl : ns.length = 16) (h : ∀ n ∈ ns, 0 ≤ n ∧ n ≤ 15) {k : Int} (hk : 0 ≤ k ∧ k ≤ 15) : k ∈ ns := by
  refine Classical.byContradiction fun hk2 => ?_
  have h1 : ∀ {α : Type} [DecidableEq α] (l m : List α), l.Nodup → (∀ x ∈ l, x ∈ m) → l.length ≤ m.length := by
    intro α _ l
    induction l with
    | nil => intro m _ _; exact Nat.zero_le _
    | cons x l ih =>
      intro m hn hs
      have hx := hs x List.mem_cons_self
      have h2 := List.nodup_cons.mp hn
      have := ih (m.erase x) h2.2 fun y hy => (List.mem_erase_of_ne (fun (e : y = x) => h2.1 (e ▸ hy))).mpr (hs y (List.mem_cons_of_mem _ hy))
      rw [List.length_erase_of_mem hx] at this
      have := List.length_pos_of_mem hx
      rw [List.length_cons]
      omega
  have h2 := h1 (k :: ns) all16 (List.nodup_cons.mpr ⟨hk2, hn⟩) fun x hx => by
    rcases List.mem_cons.mp hx with rfl | hx
    · exact mem16.mpr hk
    · exact mem16.mpr (h x hx)
  rw [List.length_cons, hl] at h2
  exact absurd h2 (by decide)
theorem idx_at {ns : List Int} (hn : ns.Nodup) {j : Nat} {z : Int} (h : ns[j]? = some z) : ns.idxOf z = j := by
  obtain ⟨hj, e⟩ := List.getElem?_eq_some_iff.mp h
  rw [← e]
  exact hn.idxOf_getElem j hj
theorem at_idx {ns : List Int} {z : Int} (h : z ∈ ns) : ns[ns.idxOf z]? = some z := by
  have hl := List.idxOf_lt_length_of_mem h
  rw [List.getElem?_eq_getElem hl, List.getElem_idxOf hl]
theorem inv_at {ns : List Int} {k : Nat} (hk : k < 16) : (invR ns)[k]? = some ((ns.idxOf (k : Int) : Nat) : Int) := by
  unfold invR
  rw [List.getElem?_map, List.getElem?_range hk]
  rfl
theorem inv_ok {ns : List Int} (h : okRule ns = true) : okRule (invR ns) = true := by
  obtain ⟨h1, h2, h3, h4⟩ := okR h
  have mem : ∀ k : Nat, k < 16 → (k : Int) ∈ ns := fun k hk => full16 h4 h2 h1 ⟨by omega, by omega⟩
  refine okR_mk (fun n hn => ?_) (by unfold invR; rw [List.length_map, List.length_range]) ?_ ?_
  · obtain ⟨k, hk, rfl⟩ := List.mem_map.mp hn
    have := List.idxOf_lt_length_of_mem (mem k (List.mem_range.mp hk))
    omega
  · have e : ns.idxOf ((0 : Nat) : Int) = 0 := idx_at h4 (by rw [List.head?_eq_getElem?] at h3; exact h3)
    show some (((ns.idxOf ((0 : Nat) : Int) : Nat) : Int)) = some 0
    rw [e]
    rfl
  · unfold invR
    rw [List.Nodup, List.pairwise_map]
    refine List.Pairwise.imp_of_mem (fun {a b} ha hb hne e => hne ?_) (List.nodup_range (n := 16))
    have ea := at_idx (mem a (List.mem_range.mp ha))
    have eb := at_idx (mem b (List.mem_range.mp hb))
    have e' : ns.idxOf (a : Int) = ns.idxOf (b : Int) := by omega
    rw [e', eb] at ea
    have := Option.some.inj ea
    omega
/-- what was undone -/
theorem inv_undo {ns : List Int} (h : okRule ns = true) {b : Nat} (hb : b < 16) : ∃ v : Nat, ns[b]? = some (v : Int) ∧ v < 16 ∧ (invR ns)[v]? = some (b : Int) := by
  obtain ⟨h1, h2, h3, h4⟩ := okR h
  have hg : ns[b]? = some ns[b] := List.getElem?_eq_getElem (by omega)
  have hr := h1 _ (List.getElem_mem (l := ns) (n := b) (by omega))
  refine ⟨ns[b].toNat, by rw [hg, Int.toNat_of_nonneg hr.1], by omega, ?_⟩
  rw [inv_at (by omega), Int.toNat_of_nonneg hr.1, idx_at h4 hg]
theorem inv_inv {ns : List Int} (h : okRule ns = true) : invR (invR ns) = ns := by
  have hi := inv_ok h
  obtain ⟨g1, g2, g3, g4⟩ := okR hi
  obtain ⟨h1, h2, h3, h4⟩ := okR h
  refine List.ext_getElem? fun k => ?_
  by_cases hk : k < 16
  · obtain ⟨v, e1, hv, e2⟩ := inv_undo h hk
    rw [inv_at hk, idx_at g4 e2, e1]
  · rw [List.getElem?_eq_none (by unfold invR; rw [List.length_map, List.length_range]; omega), List.getElem?_eq_none (by omega)]
theorem idx_first {ns : List Int} {z : Int} : ∀ m, m < ns.idxOf z → ns[m]? ≠ some z := fun m hm e => by
  obtain ⟨h, e⟩ := List.getElem?_eq_some_iff.mp e
  have := List.not_of_lt_findIdx (p := (· == z)) (xs := ns) (i := m) hm
  rw [e] at this
  simp at this
/-! wrong ones -/
theorem okr_balls : okRule ballsL = true := by decide
/-! pairs in order -/
theorem ltP_lex (p q : Int × Int) : HT.lexLt [p.1, p.2] [q.1, q.2] = ltP p q := by
  unfold ltP
  rw [HT.lexLt_cons, HT.lexLt_cons, HT.lexLt_nil_nil]
  by_cases h : p.1 = q.1
  · rw [if_pos h, decide_eq_false (show ¬ p.1 < q.1 by omega), decide_eq_true h, Bool.false_or, Bool.true_and]
    by_cases h2 : p.2 = q.2
    · rw [if_pos h2, decide_eq_false (show ¬ p.2 < q.2 by omega)]
    · rw [if_neg h2]
  · rw [if_neg h, decide_eq_false h, Bool.false_and, Bool.or_false]
theorem ltP_irr (p : Int × Int) : ltP p p = false := by
  unfold ltP
  rw [decide_eq_false (by omega), decide_eq_true rfl, decide_eq_false (by omega)]
  rfl
theorem srtd_adj : ∀ {ps : List (Int × Int)}, srtd ps → adjB ps = true
  | [], _ => rfl
  | [_], _ => rfl
  | p :: q :: r, h => by
    have h1 := List.pairwise_cons.mp h
    have ih := srtd_adj (ps := q :: r) h1.2
    unfold adjB at ih ⊢
    show ((p, q) :: (q :: r).zip r).all _ = true
    rw [List.all_cons, h1.1 q List.mem_cons_self, Bool.true_and]
    exact ih
theorem srt_pp {ps : List (Int × Int)} (hn : ps.Nodup) : srtd (ps.mergeSort leP) ∧ (ps.mergeSort leP).Perm ps := by
  have hp : (ps.mergeSort leP).Perm ps := List.mergeSort_perm _ _
  refine ⟨?_, hp⟩
  have h1 : (ps.mergeSort leP).Pairwise fun a b => leP a b = true := List.pairwise_mergeSort (fun a b c h1 h2 => by
    unfold leP at *
    rw [decide_eq_true_eq] at *
    omega) (fun a b => by
    unfold leP
    rw [Bool.or_eq_true, decide_eq_true_eq, decide_eq_true_eq]
    omega) ps
  have h2 := hp.nodup_iff.mpr hn
  unfold srtd
  refine (h1.and h2).imp fun {a b} h => ?_
  obtain ⟨h, hne⟩ := h
  unfold leP at h
  unfold ltP
  rw [decide_eq_true_eq] at h
  rw [Bool.or_eq_true, Bool.and_eq_true, decide_eq_true_eq, decide_eq_true_eq, decide_eq_true_eq]
  rcases h with h | ⟨h3, h4⟩
  · exact .inl h
  · refine .inr ⟨h3, ?_⟩
    have : a.2 ≠ b.2 := fun e => hne (Prod.ext h3 e)
    omega
/-! blocks of four cells -/
def kOf (ph : Int) (p : Int × Int) : Nat := ((p.1 + ph) % 2 + 2 * ((p.2 + ph) % 2)).toNat
theorem kOf_lt (ph : Int) (p : Int × Int) : kOf ph p < 4 := by unfold kOf; omega
theorem cell_of (ph : Int) (p : Int × Int) : cellAt (cor ph p) (kOf ph p) = p := by
  obtain ⟨x, y⟩ := p
  unfold cellAt cor kOf
  dsimp only
  have h1 := Int.emod_nonneg (x + ph) (b := 2) (by decide)
  have h2 := Int.emod_lt_of_pos (x + ph) (b := 2) (by decide)
  have h3 := Int.emod_nonneg (y + ph) (b := 2) (by decide)
  have h4 := Int.emod_lt_of_pos (y + ph) (b := 2) (by decide)
  generalize (x + ph) % 2 = a at *
  generalize (y + ph) % 2 = b at *
  exact Prod.ext (by show x - a + _ = x; omega) (by show y - b + _ = y; omega)
theorem cor_cell {ph : Int} {c : Int × Int} (hc : cor ph c = c) {k : Nat} (hk : k < 4) : cor ph (cellAt c k) = c ∧ kOf ph (cellAt c k) = k := by
  obtain ⟨x, y⟩ := c
  have e1 : x - (x + ph) % 2 = x := congrArg Prod.fst hc
  have e2 : y - (y + ph) % 2 = y := congrArg Prod.snd hc
  unfold cor kOf cellAt
  dsimp only
  have hk' : k = 0 ∨ k = 1 ∨ k = 2 ∨ k = 3 := by omega
  rcases hk' with rfl | rfl | rfl | rfl
  all_goals
    refine ⟨Prod.ext ?_ ?_, ?_⟩ <;> (try dsimp only) <;> omega
theorem cor_cor (ph : Int) (p : Int × Int) : cor ph (cor ph p) = cor ph p := by
  obtain ⟨x, y⟩ := p
  unfold cor
  dsimp only
  exact Prod.ext (by dsimp only; omega) (by dsimp only; omega)
theorem bits4_eq (b : Nat → Bool) : bits4 b = (if b 0 = true then 1 else 0) + ((if b 1 = true then 2 else 0) + ((if b 2 = true then 4 else 0) + (if b 3 = true then 8 else 0))) := by
  unfold bits4
  rw [show List.range 4 = [0, 1, 2, 3] from rfl]
  cases h0 : b 0 <;> cases h1 : b 1 <;> cases h2 : b 2 <;> cases h3 : b 3 <;> simp [List.filter, h0, h1, h2, h3]
theorem bits4_lt (b : Nat → Bool) : bits4 b < 16 := by
  rw [bits4_eq]
  split <;> split <;> split <;> split <;> omega
theorem bit_bits4 (b : Nat → Bool) {k : Nat} (hk : k < 4) : bitB (bits4 b) k = b k := by
  rw [bits4_eq]
  unfold bitB
  have hk' : k = 0 ∨ k = 1 ∨ k = 2 ∨ k = 3 := by omega
  cases h0 : b 0 <;> cases h1 : b 1 <;> cases h2 : b 2 <;> cases h3 : b 3 <;> rcases hk' with rfl | rfl | rfl | rfl <;> simp [h0, h1, h2, h3]
theorem bits4_bit {n : Nat} (hn : n < 16) : bits4 (bitB n) = n := by
  have h : ∀ n < 16, bits4 (bitB n) = n := by decide
  exact h n hn
theorem bits4_congr {b c : Nat → Bool} (h : ∀ k < 4, b k = c k) : bits4 b = bits4 c := by
  rw [bits4_eq, bits4_eq, h 0 (by decide), h 1 (by decide), h 2 (by decide), h 3 (by decide)]
theorem bits_lt (S : List (Int × Int)) (c : Int × Int) : bits S c < 16 := bits4_lt _
theorem bit_at_cell (S : List (Int × Int)) (c : Int × Int) {k : Nat} (hk : k < 4) : bitB (bits S c) k = decide (cellAt c k ∈ S) := bit_bits4 _ hk
theorem popc_bits {n : Nat} (hn : n < 16) : ((List.range 4).filter (bitB n)).length = popc n := by
  have h : ∀ n < 16, ((List.range 4).filter (bitB n)).length = popc n := by decide
  exact h n hn
/-! corners -/
theorem mem_addC {cs : List (Int × Int)} {c d : Int × Int} : d ∈ addC cs c ↔ d ∈ cs ∨ d = c := by
  unfold addC
  split
  · rename_i h
    exact ⟨.inl, fun z => z.elim id fun e => e ▸ h⟩
  · rw [List.mem_append, List.mem_singleton]
theorem addC_nodup {cs : List (Int × Int)} {c : Int × Int} (h : cs.Nodup) : (addC cs c).Nodup := by
  unfold addC
  split
  · exact h
  · rename_i hc
    refine List.nodup_append.mpr ⟨h, by simp, fun x hx y hy e => ?_⟩
    rw [List.mem_singleton.mp hy] at e
    exact hc (e ▸ hx)
theorem corners_snoc (ph : Int) (S : List (Int × Int)) (p : Int × Int) : corners ph (S ++ [p]) = addC (corners ph S) (cor ph p) := by
  unfold corners
  rw [List.foldl_append]
  rfl
theorem mem_fold (ph : Int) (d : Int × Int) : ∀ (S acc : List (Int × Int)), d ∈ S.foldl (fun cs p => addC cs (cor ph p)) acc ↔ d ∈ acc ∨ ∃ p ∈ S, cor ph p = d
  | [], acc => by simp
  | p :: S, acc => by
    rw [List.foldl_cons, mem_fold ph d S, mem_addC]
    constructor
    · rintro ((h | h) | ⟨q, hq, e⟩)
      · exact .inl h
      · exact .inr ⟨p, List.mem_cons_self, h.symm⟩
      · exact .inr ⟨q, List.mem_cons_of_mem _ hq, e⟩
    · rintro (h | ⟨q, hq, e⟩)
      · exact .inl (.inl h)
      · rcases List.mem_cons.mp hq with rfl | hq
        · exact .inl (.inr e.symm)
        · exact .inr ⟨q, hq, e⟩
theorem mem_corners {ph : Int} {S : List (Int × Int)} {d : Int × Int} : d ∈ corners ph S ↔ ∃ p ∈ S, cor ph p = d := by
  unfold corners
  rw [mem_fold]
  simp
theorem corners_nodup (ph : Int) (S : List (Int × Int)) : (corners ph S).Nodup := by
  unfold corners
  have : ∀ (S acc : List (Int × Int)), acc.Nodup → (S.foldl (fun cs p => addC cs (cor ph p)) acc).Nodup := by
    intro S
    induction S with
    | nil => exact fun _ h => h
    | cons p S ih => exact fun acc h => ih _ (addC_nodup h)
  exact this S [] List.nodup_nil
theorem corners_cor {ph : Int} {S : List (Int × Int)} {c : Int × Int} (h : c ∈ corners ph S) : cor ph c = c := by
  obtain ⟨p, _, rfl⟩ := mem_corners.mp h
  exact cor_cor ph p
theorem addC_len (cs : List (Int × Int)) (c : Int × Int) : (addC cs c).length ≤ cs.length + 1 := by
  unfold addC
  split
  · omega
  · rw [List.length_append, List.length_singleton]; exact Nat.le_refl _
theorem corners_len (ph : Int) (S : List (Int × Int)) : (corners ph S).length ≤ S.length := by
  unfold corners
  have : ∀ (S acc : List (Int × Int)), (S.foldl (fun cs p => addC cs (cor ph p)) acc).length ≤ acc.length + S.length := by
    intro S
    induction S with
    | nil => exact fun _ => Nat.le_refl _
    | cons p S ih =>
      intro acc
      have h1 := ih (addC acc (cor ph p))
      have h2 := addC_len acc (cor ph p)
      rw [List.foldl_cons, List.length_cons]
      omega
  have := this S []
  simpa using this
/-- a block without cells -/
theorem bits_none {S : List (Int × Int)} {ph : Int} {c : Int × Int} (hc : cor ph c = c) (h : c ∉ corners ph S) : bits S c = 0 := by
  have : bits S c = bits4 fun _ => false := bits4_congr fun k hk => decide_eq_false fun hm => h (mem_corners.mpr ⟨_, hm, (cor_cell hc hk).1⟩)
  rw [this]
  rfl
/-! a step -/
theorem rn_lt {ns : List Int} (ok : okRule ns = true) {n : Nat} (hn : n < 16) : rn ns n < 16 := by
  obtain ⟨v, e, hv, _⟩ := inv_undo ok hn
  unfold rn
  rw [e]
  exact hv
theorem rn_zero {ns : List Int} (ok : okRule ns = true) : rn ns 0 = 0 := by
  have h := (okR ok).2.2.1
  unfold rn
  rw [← List.head?_eq_getElem?, h]
  rfl
theorem rn_inv {ns : List Int} (ok : okRule ns = true) {n : Nat} (hn : n < 16) : rn (invR ns) (rn ns n) = n := by
  obtain ⟨v, e1, hv, e2⟩ := inv_undo ok hn
  unfold rn
  rw [e1]
  show (((invR ns)[v]?).getD 0).toNat = n
  rw [e2]
  rfl
theorem mem_blk {n : Nat} {c p : Int × Int} : p ∈ ((List.range 4).filter (bitB n)).map (cellAt c) ↔ ∃ k < 4, bitB n k = true ∧ cellAt c k = p := by
  rw [List.mem_map]
  constructor
  · rintro ⟨k, hk, e⟩
    have := List.mem_filter.mp hk
    exact ⟨k, List.mem_range.mp this.1, this.2, e⟩
  · rintro ⟨k, hk, hb, e⟩
    exact ⟨k, List.mem_filter.mpr ⟨List.mem_range.mpr hk, hb⟩, e⟩
theorem mem_found {ns : List Int} (ok : okRule ns = true) {ph : Int} {S : List (Int × Int)} {p : Int × Int} : p ∈ foundL ns ph S ↔ bitB (rn ns (bits S (cor ph p))) (kOf ph p) = true := by
  unfold foundL
  constructor
  · intro h
    obtain ⟨l, hl, hp⟩ := List.mem_flatten.mp h
    obtain ⟨c, hc, rfl⟩ := List.mem_map.mp hl
    obtain ⟨k, hk, hb, rfl⟩ := mem_blk.mp hp
    obtain ⟨e1, e2⟩ := cor_cell (corners_cor hc) hk
    rw [e1, e2]
    exact hb
  · intro h
    have hc : cor ph p ∈ corners ph S := by
      refine Classical.byContradiction fun hn => ?_
      rw [bits_none (cor_cor ph p) hn, rn_zero ok] at h
      unfold bitB at h
      rw [Nat.zero_div] at h
      exact absurd (of_decide_eq_true h) (by decide)
    exact List.mem_flatten.mpr ⟨_, List.mem_map.mpr ⟨_, hc, rfl⟩, mem_blk.mpr ⟨_, kOf_lt ph p, h, cell_of ph p⟩⟩
theorem cellAt_inj {c : Int × Int} {j k : Nat} (hj : j < 4) (hk : k < 4) (e : cellAt c j = cellAt c k) : j = k := by
  have e1 : c.1 + ((j % 2 : Nat) : Int) = c.1 + ((k % 2 : Nat) : Int) := congrArg Prod.fst e
  have e2 : c.2 + ((j / 2 : Nat) : Int) = c.2 + ((k / 2 : Nat) : Int) := congrArg Prod.snd e
  omega
theorem nodup_flat' {α β : Type} (f : α → List β) : ∀ xs : List α, xs.Nodup → (∀ x ∈ xs, (f x).Nodup) → (∀ x ∈ xs, ∀ y ∈ xs, x ≠ y → ∀ b, b ∈ f x → b ∉ f y) → ((xs.map f).flatten).Nodup
  | [], _, _, _ => List.nodup_nil
  | x :: xs, hn, h1, h2 => by
    have hx := List.nodup_cons.mp hn
    rw [List.map_cons, List.flatten_cons]
    refine List.nodup_append.mpr ⟨h1 x List.mem_cons_self, nodup_flat' f xs hx.2 (fun y hy => h1 y (List.mem_cons_of_mem _ hy)) (fun y hy z hz => h2 y (List.mem_cons_of_mem _ hy) z (List.mem_cons_of_mem _ hz)), fun a ha b hb e => ?_⟩
    subst e
    obtain ⟨l, hl, hb⟩ := List.mem_flatten.mp hb
    obtain ⟨y, hy, rfl⟩ := List.mem_map.mp hl
    exact h2 x List.mem_cons_self y (List.mem_cons_of_mem _ hy) (fun e => hx.1 (e ▸ hy)) a ha hb
theorem nodup_blk (n : Nat) (c : Int × Int) : (((List.range 4).filter (bitB n)).map (cellAt c)).Nodup := by
  have h : ((List.range 4).filter (bitB n)).Nodup := List.Pairwise.filter _ List.nodup_range
  rw [List.Nodup, List.pairwise_map]
  refine List.Pairwise.imp_of_mem (fun {a b} ha hb hne e => hne ?_) h
  exact cellAt_inj (List.mem_range.mp (List.mem_filter.mp ha).1) (List.mem_range.mp (List.mem_filter.mp hb).1) e
theorem nodup_found (ns : List Int) (ph : Int) (S : List (Int × Int)) : (foundL ns ph S).Nodup := by
  unfold foundL
  refine nodup_flat' _ _ (corners_nodup ph S) (fun c _ => nodup_blk _ c) fun c hc d hd hne b hb hb2 => hne ?_
  obtain ⟨j, hj, _, rfl⟩ := mem_blk.mp hb
  obtain ⟨k, hk, _, e⟩ := mem_blk.mp hb2
  rw [← (cor_cell (corners_cor hc) hj).1, ← e, (cor_cell (corners_cor hd) hk).1]
theorem step_srt (ns : List Int) (ph : Int) (S : List (Int × Int)) : srtd (stepB ns ph S) ∧ (stepB ns ph S).Perm (foundL ns ph S) := srt_pp (nodup_found ns ph S)
theorem mem_step {ns : List Int} (ok : okRule ns = true) {ph : Int} {S : List (Int × Int)} {p : Int × Int} : p ∈ stepB ns ph S ↔ bitB (rn ns (bits S (cor ph p))) (kOf ph p) = true := by
  rw [(step_srt ns ph S).2.mem_iff, mem_found ok]
theorem ltP_asym {p q : Int × Int} (h : ltP p q = true) : ltP q p = false := by
  unfold ltP at *
  rw [Bool.or_eq_true, Bool.and_eq_true, decide_eq_true_eq, decide_eq_true_eq, decide_eq_true_eq] at h
  rw [Bool.or_eq_false_iff, Bool.and_eq_false_iff, decide_eq_false_iff_not, decide_eq_false_iff_not, decide_eq_false_iff_not]
  omega
theorem srtd_nodup {A : List (Int × Int)} (h : srtd A) : A.Nodup := List.Pairwise.imp (fun {a b} h e => by rw [e, ltP_irr] at h; exact absurd h Bool.false_ne_true) h
theorem srtd_ext : ∀ {A B : List (Int × Int)}, srtd A → srtd B → (∀ p, p ∈ A ↔ p ∈ B) → A = B
  | [], [], _, _, _ => rfl
  | [], b :: B, _, _, h => absurd ((h b).mpr List.mem_cons_self) List.not_mem_nil
  | a :: A, [], _, _, h => absurd ((h a).mp List.mem_cons_self) List.not_mem_nil
  | a :: A, b :: B, hA, hB, h => by
    have hA2 := List.pairwise_cons.mp hA
    have hB2 := List.pairwise_cons.mp hB
    have e : a = b := by
      refine Classical.byContradiction fun hne => ?_
      have h1 : a ∈ B := (List.mem_cons.mp ((h a).mp List.mem_cons_self)).resolve_left hne
      have h2 : b ∈ A := (List.mem_cons.mp ((h b).mpr List.mem_cons_self)).resolve_left (Ne.symm hne)
      have h3 := hB2.1 a h1
      have h4 := ltP_asym (hA2.1 b h2)
      rw [h3] at h4
      exact absurd h4.symm Bool.false_ne_true
    subst e
    rw [srtd_ext hA2.2 hB2.2 fun p => ?_]
    have na : a ∉ A := fun hm => by have := hA2.1 a hm; rw [ltP_irr] at this; exact Bool.false_ne_true this
    have nb : a ∉ B := fun hm => by have := hB2.1 a hm; rw [ltP_irr] at this; exact Bool.false_ne_true this
    have hp := h p
    rw [List.mem_cons, List.mem_cons] at hp
    constructor
    · intro hm
      exact (hp.mp (.inr hm)).resolve_left fun e => na (e ▸ hm)
    · intro hm
      exact (hp.mpr (.inr hm)).resolve_left fun e => nb (e ▸ hm)
/-- the number of a block behind a step -/
theorem bits_step {ns : List Int} (ok : okRule ns = true) {ph : Int} {S : List (Int × Int)} {c : Int × Int} (hc : cor ph c = c) : bits (stepB ns ph S) c = rn ns (bits S c) := by
  rw [← bits4_bit (rn_lt ok (bits_lt S c))]
  refine bits4_congr fun k hk => ?_
  obtain ⟨e1, e2⟩ := cor_cell hc hk
  have := mem_step ok (ph := ph) (S := S) (p := cellAt c k)
  rw [e1, e2] at this
  cases hb : bitB (rn ns (bits S c)) k with
  | true => exact decide_eq_true (this.mpr hb)
  | false => exact decide_eq_false fun hm => by rw [this, hb] at hm; exact Bool.false_ne_true hm
theorem back_step {ns : List Int} (ok : okRule ns = true) {ph : Int} {S : List (Int × Int)} (hS : srtd S) : stepB (invR ns) ph (stepB ns ph S) = S := by
  refine srtd_ext (step_srt _ _ _).1 hS fun p => ?_
  rw [mem_step (inv_ok ok), bits_step ok (cor_cor ph p), rn_inv ok (bits_lt _ _), bit_at_cell _ _ (kOf_lt ph p), cell_of, decide_eq_true_eq]
theorem step_back {ns : List Int} (ok : okRule ns = true) {ph : Int} {S : List (Int × Int)} (hS : srtd S) : stepB ns ph (stepB (invR ns) ph S) = S := by
  have := back_step (inv_ok ok) (ph := ph) hS
  rw [inv_inv ok] at this
  exact this
/-! balls that stay -/
theorem ok_all16 : okRule all16 = true := by decide
theorem rn_all16 {n : Nat} (hn : n < 16) : rn all16 n = n := by
  have h : ∀ n < 16, rn all16 n = n := by decide
  exact h n hn
theorem same_step {ph : Int} {S : List (Int × Int)} (hS : srtd S) : stepB all16 ph S = S := by
  refine srtd_ext (step_srt _ _ _).1 hS fun p => ?_
  rw [mem_step ok_all16, rn_all16 (bits_lt _ _), bit_at_cell _ _ (kOf_lt ph p), cell_of, decide_eq_true_eq]
theorem found_len {ns : List Int} (ok : okRule ns = true) (ph : Int) (S : List (Int × Int)) : (foundL ns ph S).length = ((corners ph S).map fun c => popc (rn ns (bits S c))).sum := by
  unfold foundL
  rw [List.length_flatten, List.map_map]
  congr 1
  refine List.map_congr_left fun c _ => ?_
  show (((List.range 4).filter (bitB (rn ns (bits S c)))).map (cellAt c)).length = _
  rw [List.length_map, popc_bits (rn_lt ok (bits_lt S c))]
theorem step_len {ns : List Int} (ok : okRule ns = true) (kp : kpB ns = true) {ph : Int} {S : List (Int × Int)} (hS : srtd S) : (stepB ns ph S).length = S.length := by
  have e1 := (step_srt ns ph S).2.length_eq
  have e2 := (step_srt all16 ph S).2.length_eq
  rw [same_step hS] at e2
  rw [e1, e2, found_len ok, found_len ok_all16]
  congr 1
  refine List.map_congr_left fun c _ => ?_
  rw [rn_all16 (bits_lt S c)]
  have := List.all_eq_true.mp kp _ (List.mem_range.mpr (bits_lt S c))
  exact (of_decide_eq_true this).symm
/-! how far a step reaches -/
def nearC (n : Int) (p q : Int × Int) : Prop := (p.1 - q.1 ≤ n ∧ q.1 - p.1 ≤ n) ∧ (p.2 - q.2 ≤ n ∧ q.2 - p.2 ≤ n)
theorem step_near {ns : List Int} (ok : okRule ns = true) {ph : Int} {S : List (Int × Int)} {p : Int × Int} (h : p ∈ stepB ns ph S) : ∃ q ∈ S, nearC 1 p q := by
  rw [mem_step ok] at h
  have hc : cor ph p ∈ corners ph S := by
    refine Classical.byContradiction fun hn => ?_
    rw [bits_none (cor_cor ph p) hn, rn_zero ok] at h
    unfold bitB at h
    rw [Nat.zero_div] at h
    exact absurd (of_decide_eq_true h) (by decide)
  obtain ⟨q, hq, e⟩ := mem_corners.mp hc
  refine ⟨q, hq, ?_⟩
  have e1 : q.1 - (q.1 + ph) % 2 = p.1 - (p.1 + ph) % 2 := congrArg Prod.fst e
  have e2 : q.2 - (q.2 + ph) % 2 = p.2 - (p.2 + ph) % 2 := congrArg Prod.snd e
  unfold nearC
  omega
def boxL (n : Nat) (q : Int × Int) : List (Int × Int) := ((List.range (2 * n + 1)).map fun (i : Nat) => (List.range (2 * n + 1)).map fun (j : Nat) => (q.1 - n + (i : Int), q.2 - n + (j : Int))).flatten
theorem mem_box {n : Nat} {p q : Int × Int} (h : nearC n p q) : p ∈ boxL n q := by
  unfold nearC at h
  refine List.mem_flatten.mpr ⟨_, List.mem_map.mpr ⟨(p.1 - (q.1 - n)).toNat, List.mem_range.mpr (by omega), rfl⟩, List.mem_map.mpr ⟨(p.2 - (q.2 - n)).toNat, List.mem_range.mpr (by omega), ?_⟩⟩
  exact Prod.ext (by dsimp only; omega) (by dsimp only; omega)
theorem flat_len {α β : Type} (f : α → List β) (n : Nat) : ∀ xs : List α, (∀ x ∈ xs, (f x).length = n) → ((xs.map f).flatten).length = xs.length * n
  | [], _ => by simp
  | x :: xs, h => by
    rw [List.map_cons, List.flatten_cons, List.length_append, h x List.mem_cons_self, flat_len f n xs fun y hy => h y (List.mem_cons_of_mem _ hy), List.length_cons, Nat.succ_mul, Nat.add_comm]
theorem box_len (n : Nat) (q : Int × Int) : (boxL n q).length = (2 * n + 1) * (2 * n + 1) := by
  unfold boxL
  rw [flat_len _ (2 * n + 1) _ fun i _ => by rw [List.length_map, List.length_range], List.length_range]
theorem near_len {n : Nat} {A S : List (Int × Int)} (hA : srtd A) (h : ∀ p ∈ A, ∃ q ∈ S, nearC n p q) : A.length ≤ S.length * ((2 * n + 1) * (2 * n + 1)) := by
  rw [← flat_len (boxL n) ((2 * n + 1) * (2 * n + 1)) S fun q _ => box_len n q]
  refine sub_len A _ (srtd_nodup hA) fun p hp => ?_
  obtain ⟨q, hq, hn⟩ := h p hp
  exact List.mem_flatten.mpr ⟨_, List.mem_map.mpr ⟨q, hq, rfl⟩, mem_box hn⟩
end My
set_option Elab.async false
set_option linter.all false
set_option maxRecDepth 100000
namespace My
open PySem PL TM
section
variable {M : Mem} {Q : PQ}
theorem len_lI {ns : List Int} {M : Mem} {Q : PQ} : kLen (lI ns) M Q = Q (.int ns.length) M := by
  unfold lI
  rw [PL.len_lst, List.length_map]
theorem tupF_tI {l : List Int} : tupF (tI l) = some (l.map PV.int) := rfl
theorem tI_rev {l : List Int} : PV.tup (List.map PV.int l).reverse = tI l.reverse := by unfold tI; rw [List.map_reverse]
theorem addR_tI {l : List Int} {w : Int} : oAdd (tI l) (.tup [.int w]) M Q = (l.length + 1 ≤ sizeLine ∧ Q (tI (l ++ [w])) M) := add_tI (r := [w])
theorem addL_tI {l : List Int} {w : Int} : oAdd (.tup [.int w]) (tI l) M Q = (1 + l.length ≤ sizeLine ∧ Q (tI (w :: l)) M) := add_tI (l := [w])
end
local macro_rules | `(tactic| walk_at "pl") => `(tactic| try simp only [pSeq, pNext, pSet, pRet, pRetN, pIfS, pVar, pC, pTest, pBin, pAnd, pOr, pNot, pAndV, pOrV, pNotV, pIsN, pNotN, pTIsN, pTNotN, pCons, pNil, pTup, pLst, pLstM, pCall, pCallB, pDrop, pAsg, gpName, kB_bl, need_some, need_none, pIf, pSl, pNoPart,
  piL, piT, pFor, pLc, pAug, pFldS, pForM, pMeth, pFld, fldOf_obj, objOf_obj, pApp, gpSub, pRetF, pRetFD, pRetD, dropSlots, pTupRev, pBreak, pCont, pRaise, pTryAs, pMake, kIsE, r_isB, r_notB,
  pstart, List.map_cons, List.map_nil, List.cons_append, List.nil_append, List.length_cons, List.length_nil, List.replicate, List.getElem?_cons_zero, List.getElem?_cons_succ, List.set_cons_zero, List.set_cons_succ, Nat.reduceSub, Nat.reduceAdd, Nat.zero_add, Nat.add_zero, Nat.sub_self,
  Bool.false_eq_true, if_false, if_true, ite_true, ite_false, reduceIte, Bool.not_true, Bool.not_false, Bool.true_eq_false, decide_eq_true_eq, Bool.not_eq_true', List.length_append, true_and, and_true, List.length_map,
  isi_int, isi_bl, isi_str, isi_non, isi_tup, isi_lst, kit_ib, kit_ii, kit_it, kit_il, kit_is, kit_bb, kit_bi, kit_bt, kit_bl, kit_bs, kit_tb, kit_ti, kit_tt, kit_tl, kit_ts, kit_lb, kit_li, kit_lt, kit_ll, kit_ls, kit_sb, kit_si, kit_st, kit_sl, kit_ss, kit_nb, kit_ni, kit_nt, kit_nl, kit_ns,
  PL.ix_tup, PL.ix_lst, ix_scr, at_0, at_1, at_2, at_3, at_4, at_5, len_tup, len_lst, len_scr, eq_int', ne_int', eq_bl', ne_bl', eq_str', ne_str', sl_tup, sl_lst, sl_scr, cutA_map, cutA_from1,
  r_add_int, r_add_str, r_add_tup, r_add_lst, r_mulA_int, r_mulA_tup, r_I0, r_I, r_neg, r_neg_int, r_chain, r_ch1, r_ch2, r_abs, r_int, r_min2, r_max2, r_list_lst, r_list_tup, r_list_scr, r_tup_lst, r_tup_tup, r_listM_lst, r_listM_tup, r_on1, r_on2, r_gtup, r_gcons, r_gnil,
  r_non_non, r_non_int, r_non_tup, r_non_lst, r_non_str, r_non_bl, r_non_ptr, r_non_obj, r_part, r_part_int, r_R1, r_R1_int, r_R2, r_R2_int, r_lstF, r_lstF_scr, r_tupF, cdiv_eq, Int.reduceLT, Int.reduceLE, Int.reduceNeg, Int.reduceAdd, Int.reduceSub, Int.reduceMul, Int.reduceEq, Int.reducePow, Nat.reducePow,
  eq_tI, eq_tI_nil, len_lI, tupF_tI, tI_rev, addR_tI, addL_tI, sl_tI_tail, len_tI, tup_tI, add_tI])
theorem tyOf_ptr_list {M : Mem} {a : Addr} {n : String} (ht : tyOf M (.ptr a) = some n) : n = "list" := by
  have h' : (match M a with | some (.lst _) => some "list" | _ => none) = some n := ht
  cases hm : M a with
  | none => rw [hm] at h'; cases h'
  | some m =>
    rw [hm] at h'
    cases m with
    | lst xs => cases h'; rfl
    | obj C fs => cases h'
    | dct _ _ => cases h'
theorem k_is_whole (Γ : Ctx) : Keeps (t_is_whole Γ) 1 1 (sp_is_whole Γ) := by
  rintro xs M Q E hl ⟨v, rfl, hk, q⟩
  unfold t_is_whole
  walk_at "pl"
  cases v with
  | int i => walk_at "pl"; exact q
  | bl b => walk_at "pl"; exact q
  | str b => walk_at "pl"; exact q
  | non => walk_at "pl"; exact q
  | tup b => walk_at "pl"; exact q
  | lst b => walk_at "pl"; exact q
  | ptr a =>
    cases ht : tyOf M (.ptr a) with
    | none => exact absurd ht hk
    | some n =>
      have hn := tyOf_ptr_list ht
      subst hn
      simp only [isi_of ht]
      walk_at "pl"
      exact q
  | ty n => exact absurd rfl hk
  | scr xs => exact absurd rfl hk
  | obj C fs => exact absurd rfl hk
  | dct _ => exact absurd rfl hk
  | exc _ _ _ => exact absurd rfl hk
  | rng _ _ => exact absurd rfl hk
  | tpd _ => exact absurd rfl hk
theorem k_is_number (Γ : Ctx) : Keeps (t_is_number Γ) 3 3 (sp_is_number Γ) := by
  rintro xs M Q E hl ⟨v, lo, hi, rfl, hk, q⟩
  unfold t_is_number
  walk_at "pl"
  refine ⟨_, rfl, hk, ?_⟩
  cases v with
  | int i =>
    walk_at "pl"
    by_cases h : lo ≤ i
    · rw [if_pos h]
      have e : isNum lo hi (.int i) = decide (i ≤ hi) := by unfold isNum; simp [h]
      rw [e] at q
      exact q
    · rw [if_neg h]
      have e : isNum lo hi (.int i) = false := by unfold isNum; simp [h]
      rw [e] at q
      exact q
  | bl b => exact q
  | str b => exact q
  | non => exact q
  | tup b => exact q
  | lst b => exact q
  | ptr a => exact q
  | ty n => exact absurd rfl hk
  | scr xs => exact absurd rfl hk
  | obj C fs => exact absurd rfl hk
  | dct _ => exact absurd rfl hk
  | exc _ _ _ => exact absurd rfl hk
  | rng _ _ => exact absurd rfl hk
  | tpd _ => exact absurd rfl hk
end My
set_option Elab.async false
set_option linter.all false
set_option maxRecDepth 100000
namespace My
open PySem PL TM PD
local macro_rules | `(tactic| walk_at "hd") => `(tactic| repeat (first | (with_reducible refine w_cons ?_) | ((with_reducible refine' w_var ?_ ?_); rotate_left; exact rfl) | (with_reducible refine w_seq ?_) | (with_reducible refine w_C ?_) | (with_reducible refine w_nil ?_) | (with_reducible refine w_bin ?_) | (with_reducible refine w_tup ?_) | ((with_reducible refine' w_pset ?_ ?_); rotate_left; (intro x; first | with_reducible exact set_h0 | with_reducible exact set_h1 | with_reducible exact set_h2 | with_reducible exact set_h3 | with_reducible exact set_h4 | with_reducible exact set_h5 | with_reducible exact set_h6 | with_reducible exact set_h7 | with_reducible exact set_h8 | with_reducible exact set_h9 | with_reducible exact set_h10 | with_reducible exact set_h11 | with_reducible exact set_h12 | with_reducible exact set_h13 | with_reducible exact set_h14 | with_reducible exact set_h15 | with_reducible exact set_h16 | with_reducible exact set_h17 | with_reducible exact set_h18 | with_reducible exact set_h19 | with_reducible exact set_h20 | with_reducible exact set_h21 | with_reducible exact set_h22 | with_reducible exact set_h23 | with_reducible exact set_h24 | with_reducible exact set_h25)) | (with_reducible refine w_add ?_) | (with_reducible refine w_test ?_) | (with_reducible refine w_kB ?_) | (with_reducible refine w_call ?_) | (with_reducible refine w_ifs ?_) | (with_reducible refine w_next ?_) | ((with_reducible refine' w_gname ?_ ?_); rotate_left; (first | with_reducible exact set_h0 | with_reducible exact set_h1 | with_reducible exact set_h2 | with_reducible exact set_h3 | with_reducible exact set_h4 | with_reducible exact set_h5 | with_reducible exact set_h6 | with_reducible exact set_h7 | with_reducible exact set_h8 | with_reducible exact set_h9 | with_reducible exact set_h10 | with_reducible exact set_h11 | with_reducible exact set_h12 | with_reducible exact set_h13 | with_reducible exact set_h14 | with_reducible exact set_h15 | with_reducible exact set_h16 | with_reducible exact set_h17 | with_reducible exact set_h18 | with_reducible exact set_h19 | with_reducible exact set_h20 | with_reducible exact set_h21 | with_reducible exact set_h22 | with_reducible exact set_h23 | with_reducible exact set_h24 | with_reducible exact set_h25)) | (with_reducible refine w_ret ?_) | (with_reducible refine w_fld ?_) | (with_reducible refine w_ifd ?_) | ((with_reducible refine' w_fldO ?_ ?_); rotate_left; exact rfl) | (with_reducible refine w_gcons ?_) | (with_reducible refine w_callB ?_) | (with_reducible refine w_on1 ?_) | ((with_reducible refine w_mod ?_ ?_); (first | decide | omega)) | (with_reducible refine w_int ?_) | (with_reducible refine w_drop ?_) | (with_reducible refine w_for ?_) | (with_reducible refine w_I0 ?_) | (with_reducible refine w_ifF ?_) | (with_reducible refine w_part ?_) | (with_reducible refine w_partI ?_) | (with_reducible refine w_sl ?_) | (with_reducible refine w_nop ?_) | (with_reducible refine w_ifT ?_) | (with_reducible refine w_R1 ?_) | ((with_reducible refine w_R1I ?_ ?_); (first | decide | omega)) | (with_reducible refine w_gnil ?_) | (with_reducible refine w_ixtup0 ?_) | (with_reducible refine w_ifn ?_) | (with_reducible refine w_asg ?_) | ((with_reducible refine w_gtup ?_ ?_); exact rfl) | (with_reducible refine w_eqInt ?_) | (with_reducible refine w_ixtup1 ?_) | (with_reducible refine w_or ?_) | (with_reducible refine w_not ?_) | (with_reducible refine w_in_non ?_) | (with_reducible refine w_lc ?_) | ((with_reducible refine w_div ?_ ?_); (first | decide | omega)) | (with_reducible refine w_neg ?_) | (with_reducible refine w_negI ?_) | (with_reducible refine w_eqStr ?_) | (with_reducible refine w_slT ?_) | (with_reducible refine w_lentup ?_) | (with_reducible refine w_tupL ?_) | (with_reducible refine w_lstF ?_) | (with_reducible refine w_app ?_) | (with_reducible refine w_tisN ?_) | (with_reducible refine w_meth ?_) | ((with_reducible refine w_objO ?_ ?_); exact rfl) | (with_reducible refine w_lstM ?_) | (with_reducible refine w_ixtup2 ?_) | (with_reducible refine w_retF ?_) | (with_reducible refine w_iL ?_) | (with_reducible refine w_make ?_) | (with_reducible refine w_fldS ?_) | (with_reducible refine w_rg1 ?_) | (with_reducible refine w_dnew ?_) | (with_reducible refine w_piD ?_) | (with_reducible refine w_dctF ?_) | (with_reducible refine w_dc ?_) | (with_reducible refine w_dcF ?_) | (with_reducible refine w_piZ3 ?_) | (with_reducible refine w_piET ?_) | (with_reducible refine w_pIsD ?_) | (with_reducible refine w_dct1 ?_) | (with_reducible refine w_gsubD ?_) | (with_reducible refine w_lst ?_) | (with_reducible refine w_ixtup3 ?_) | (with_reducible refine w_lenlst ?_) | (with_reducible refine w_and ?_) | (with_reducible refine w_in_tup ?_) | ((with_reducible refine' w_aug ?_ ?_ ?_); rotate_left 2; exact rfl; (intro x; first | with_reducible exact set_h0 | with_reducible exact set_h1 | with_reducible exact set_h2 | with_reducible exact set_h3 | with_reducible exact set_h4 | with_reducible exact set_h5 | with_reducible exact set_h6 | with_reducible exact set_h7 | with_reducible exact set_h8 | with_reducible exact set_h9 | with_reducible exact set_h10 | with_reducible exact set_h11 | with_reducible exact set_h12 | with_reducible exact set_h13 | with_reducible exact set_h14 | with_reducible exact set_h15 | with_reducible exact set_h16 | with_reducible exact set_h17 | with_reducible exact set_h18 | with_reducible exact set_h19 | with_reducible exact set_h20 | with_reducible exact set_h21 | with_reducible exact set_h22 | with_reducible exact set_h23 | with_reducible exact set_h24 | with_reducible exact set_h25)) | (with_reducible refine w_lc2 ?_) | (with_reducible refine w_lcT ?_) | (with_reducible refine w_on2 ?_) | (with_reducible refine w_neInt ?_) | (with_reducible refine w_slL ?_) | (with_reducible refine w_tnotN ?_) | (with_reducible refine w_iT ?_) | (with_reducible refine w_tupF ?_) | (with_reducible refine w_par ?_) | ((with_reducible refine' w_kpar ?_ ?_ ?_); rotate_left 2; (first | with_reducible exact set_h0 | with_reducible exact set_h1 | with_reducible exact set_h2 | with_reducible exact set_h3 | with_reducible exact set_h4 | with_reducible exact set_h5 | with_reducible exact set_h6 | with_reducible exact set_h7 | with_reducible exact set_h8 | with_reducible exact set_h9 | with_reducible exact set_h10 | with_reducible exact set_h11 | with_reducible exact set_h12 | with_reducible exact set_h13 | with_reducible exact set_h14 | with_reducible exact set_h15 | with_reducible exact set_h16 | with_reducible exact set_h17 | with_reducible exact set_h18 | with_reducible exact set_h19 | with_reducible exact set_h20 | with_reducible exact set_h21 | with_reducible exact set_h22 | with_reducible exact set_h23 | with_reducible exact set_h24 | with_reducible exact set_h25); (first | with_reducible exact set_h0 | with_reducible exact set_h1 | with_reducible exact set_h2 | with_reducible exact set_h3 | with_reducible exact set_h4 | with_reducible exact set_h5 | with_reducible exact set_h6 | with_reducible exact set_h7 | with_reducible exact set_h8 | with_reducible exact set_h9 | with_reducible exact set_h10 | with_reducible exact set_h11 | with_reducible exact set_h12 | with_reducible exact set_h13 | with_reducible exact set_h14 | with_reducible exact set_h15 | with_reducible exact set_h16 | with_reducible exact set_h17 | with_reducible exact set_h18 | with_reducible exact set_h19 | with_reducible exact set_h20 | with_reducible exact set_h21 | with_reducible exact set_h22 | with_reducible exact set_h23 | with_reducible exact set_h24 | with_reducible exact set_h25)) | (with_reducible refine w_par3 ?_) | ((with_reducible refine' w_kpar3 ?_ ?_ ?_ ?_); rotate_left 3; (first | with_reducible exact set_h0 | with_reducible exact set_h1 | with_reducible exact set_h2 | with_reducible exact set_h3 | with_reducible exact set_h4 | with_reducible exact set_h5 | with_reducible exact set_h6 | with_reducible exact set_h7 | with_reducible exact set_h8 | with_reducible exact set_h9 | with_reducible exact set_h10 | with_reducible exact set_h11 | with_reducible exact set_h12 | with_reducible exact set_h13 | with_reducible exact set_h14 | with_reducible exact set_h15 | with_reducible exact set_h16 | with_reducible exact set_h17 | with_reducible exact set_h18 | with_reducible exact set_h19 | with_reducible exact set_h20 | with_reducible exact set_h21 | with_reducible exact set_h22 | with_reducible exact set_h23 | with_reducible exact set_h24 | with_reducible exact set_h25); (first | with_reducible exact set_h0 | with_reducible exact set_h1 | with_reducible exact set_h2 | with_reducible exact set_h3 | with_reducible exact set_h4 | with_reducible exact set_h5 | with_reducible exact set_h6 | with_reducible exact set_h7 | with_reducible exact set_h8 | with_reducible exact set_h9 | with_reducible exact set_h10 | with_reducible exact set_h11 | with_reducible exact set_h12 | with_reducible exact set_h13 | with_reducible exact set_h14 | with_reducible exact set_h15 | with_reducible exact set_h16 | with_reducible exact set_h17 | with_reducible exact set_h18 | with_reducible exact set_h19 | with_reducible exact set_h20 | with_reducible exact set_h21 | with_reducible exact set_h22 | with_reducible exact set_h23 | with_reducible exact set_h24 | with_reducible exact set_h25); (first | with_reducible exact set_h0 | with_reducible exact set_h1 | with_reducible exact set_h2 | with_reducible exact set_h3 | with_reducible exact set_h4 | with_reducible exact set_h5 | with_reducible exact set_h6 | with_reducible exact set_h7 | with_reducible exact set_h8 | with_reducible exact set_h9 | with_reducible exact set_h10 | with_reducible exact set_h11 | with_reducible exact set_h12 | with_reducible exact set_h13 | with_reducible exact set_h14 | with_reducible exact set_h15 | with_reducible exact set_h16 | with_reducible exact set_h17 | with_reducible exact set_h18 | with_reducible exact set_h19 | with_reducible exact set_h20 | with_reducible exact set_h21 | with_reducible exact set_h22 | with_reducible exact set_h23 | with_reducible exact set_h24 | with_reducible exact set_h25)) | (with_reducible refine w_rg2 ?_) | (with_reducible refine w_asT ?_) | (with_reducible refine w_kTp ?_) | (with_reducible refine w_pdget2 ?_) | (with_reducible refine w_zT ?_) | (with_reducible refine w_dct ?_) | (with_reducible refine w_listL ?_) | (with_reducible refine w_andV ?_) | (with_reducible refine w_isN ?_) | (with_reducible refine w_cnt ?_) | (with_reducible refine w_retD ?_) | ((with_reducible refine' w_isi_i ?_ ?_); rotate_left; (first | with_reducible exact kit_ib | with_reducible exact kit_ii | with_reducible exact kit_it | with_reducible exact kit_il | with_reducible exact kit_is)) | ((with_reducible refine' w_isi_t ?_ ?_); rotate_left; (first | with_reducible exact kit_tb | with_reducible exact kit_ti | with_reducible exact kit_tt | with_reducible exact kit_tl | with_reducible exact kit_ts)) | (with_reducible refine w_lc2M ?_) | (with_reducible refine w_lcM ?_) | (with_reducible refine w_catN ?_) | (with_reducible refine w_tcnt ?_) | (with_reducible refine w_kTCnt ?_) | (with_reducible refine w_catR ?_) | (with_reducible refine w_tidx ?_) | (with_reducible refine w_pdget1 ?_) | (with_reducible refine w_rv ?_) | (with_reducible refine w_z ?_) | (with_reducible refine w_gsub ?_) | (with_reducible refine w_ixlst0 ?_) | (with_reducible refine w_ixlst1 ?_) | (with_reducible refine w_slS ?_) | (with_reducible refine w_abs ?_) | (with_reducible refine w_listML ?_) | (with_reducible refine w_notB ?_) | (with_reducible refine w_brk ?_) | (with_reducible refine w_fzE ?_) | ((with_reducible refine' w_isi_l ?_ ?_); rotate_left; (first | with_reducible exact kit_lb | with_reducible exact kit_li | with_reducible exact kit_lt | with_reducible exact kit_ll | with_reducible exact kit_ls)) | (with_reducible refine w_join ?_) | (with_reducible refine w_kStr ?_) | (with_reducible refine w_zL ?_) | (with_reducible refine w_tupRg ?_) | ((with_reducible refine w_shr ?_ ?_); (first | decide | omega)) | (with_reducible refine w_retN ?_) | (with_reducible refine w_dnx ?_) | (with_reducible refine w_drt ?_) | (with_reducible refine w_dbk ?_) | (with_reducible refine w_eqBl ?_) | (with_reducible refine w_neBl ?_) | (with_reducible refine w_neStr ?_) | (with_reducible refine w_ixlst2 ?_) | (with_reducible refine w_ixlst3 ?_) | (with_reducible refine w_ixtup4 ?_) | (with_reducible refine w_ixlst4 ?_) | (with_reducible refine w_ixtup5 ?_) | (with_reducible refine w_ixlst5 ?_) | (with_reducible refine w_need ?_) | (with_reducible refine w_lenscr ?_) | (with_reducible refine w_listT ?_) | (with_reducible refine w_listS ?_) | (with_reducible refine w_tupT ?_) | (with_reducible refine w_listMT ?_) | (with_reducible refine w_orV ?_) | (with_reducible refine w_notV ?_) | (with_reducible refine w_if ?_) | (with_reducible refine w_notN ?_) | (with_reducible refine w_in_int ?_) | (with_reducible refine w_in_lst ?_) | (with_reducible refine w_in_ptr ?_) | (with_reducible refine w_in_str ?_) | (with_reducible refine w_in_bl ?_) | (with_reducible refine w_isB ?_) | (with_reducible refine w_lstFs ?_) | (with_reducible refine w_R2 ?_) | (with_reducible refine w_forM ?_) | (with_reducible refine w_lcnil ?_) | (with_reducible refine w_lccons ?_) | (with_reducible refine w_retFD ?_) | (with_reducible refine w_raise ?_) | (with_reducible refine w_raiseF ?_) | (with_reducible refine w_tryF ?_) | (with_reducible refine w_isFp ?_) | (with_reducible refine w_isFx ?_) | ((with_reducible refine' w_xf ?_ ?_); rotate_left; exact rfl) | (with_reducible refine w_try ?_) | (with_reducible refine w_lstRg ?_) | (with_reducible refine w_lstRev ?_) | (with_reducible refine w_tupRevL ?_) | (with_reducible refine w_tupN ?_) | (with_reducible refine w_tupDL ?_) | (with_reducible refine w_lenSet ?_) | (with_reducible refine w_lstRg2 ?_) | (with_reducible refine w_sum ?_) | (with_reducible refine w_tupRevLK ?_) | (with_reducible refine w_lstRevK ?_) | (with_reducible refine w_pop ?_) | (with_reducible refine w_rev ?_) | (with_reducible refine w_revL ?_) | (with_reducible refine w_forE ?_) | ((with_reducible refine' w_isi_b ?_ ?_); rotate_left; (first | with_reducible exact kit_bb | with_reducible exact kit_bi | with_reducible exact kit_bt | with_reducible exact kit_bl | with_reducible exact kit_bs)) | ((with_reducible refine' w_isi_s ?_ ?_); rotate_left; (first | with_reducible exact kit_sb | with_reducible exact kit_si | with_reducible exact kit_st | with_reducible exact kit_sl | with_reducible exact kit_ss)) | ((with_reducible refine' w_isi_n ?_ ?_); rotate_left; (first | with_reducible exact kit_nb | with_reducible exact kit_ni | with_reducible exact kit_nt | with_reducible exact kit_nl | with_reducible exact kit_ns))))
local macro_rules | `(tactic| walk_at "st") => `(tactic| simp only [pstart, List.map_cons, List.map_nil, List.cons_append, List.nil_append, List.length_cons, List.length_nil, List.replicate, Nat.reduceSub, Nat.reduceAdd, Nat.zero_add])
local macro_rules | `(tactic| walk_at "pl") => `(tactic| try simp only [pSeq, pNext, pSet, pRet, pRetN, pIfS, pVar, pC, pTest, pBin, pAnd, pOr, pNot, pAndV, pOrV, pNotV, pIsN, pNotN, pTIsN, pTNotN, pCons, pNil, pTup, pLst, pLstM, pCall, pCallB, pDrop, pAsg, gpName, kB_bl, need_some, need_none, pIf, pSl, pNoPart,
  piL, piT, pFor, pLc, pAug, pFldS, pForM, pMeth, pFld, fldOf_obj, objOf_obj, pApp, gpSub, pRetF, pRetFD, pRetD, dropSlots, pTupRev, pBreak, pCont,
  pstart, List.map_cons, List.map_nil, List.cons_append, List.nil_append, List.length_cons, List.length_nil, List.replicate, List.getElem?_cons_zero, List.getElem?_cons_succ, List.set_cons_zero, List.set_cons_succ, Nat.reduceSub, Nat.reduceAdd, Nat.zero_add, Nat.add_zero, Nat.sub_self,
  Bool.false_eq_true, if_false, if_true, ite_true, ite_false, reduceIte, Bool.not_true, Bool.not_false, Bool.true_eq_false, decide_eq_true_eq, Bool.not_eq_true', List.length_append, true_and, and_true, List.length_map,
  isi_int, isi_bl, isi_str, isi_non, isi_tup, isi_lst, kit_ib, kit_ii, kit_it, kit_il, kit_is, kit_bb, kit_bi, kit_bt, kit_bl, kit_bs, kit_tb, kit_ti, kit_tt, kit_tl, kit_ts, kit_lb, kit_li, kit_lt, kit_ll, kit_ls, kit_sb, kit_si, kit_st, kit_sl, kit_ss, kit_nb, kit_ni, kit_nt, kit_nl, kit_ns,
  PL.ix_tup, PL.ix_lst, ix_scr, at_0, at_1, at_2, at_3, at_4, at_5, len_tup, len_lst, len_scr, eq_int', ne_int', eq_bl', ne_bl', eq_str', ne_str', sl_tup, sl_lst, sl_scr, cutA_map, cutA_from1,
  r_add_int, r_add_str, r_add_tup, r_add_lst, r_mulA_int, r_mulA_tup, r_I0, r_I, r_neg, r_neg_int, r_chain, r_ch1, r_ch2, r_abs, r_int, r_min2, r_max2, r_list_lst, r_list_tup, r_list_scr, r_tup_lst, r_tup_tup, r_listM_lst, r_listM_tup, r_on1, r_on2, r_gtup, r_gcons, r_gnil,
  r_non_non, r_non_int, r_non_tup, r_non_lst, r_non_str, r_non_bl, r_non_ptr, r_non_obj, r_part, r_part_int, r_R1, r_R1_int, r_R2, r_R2_int, r_lstF, r_lstF_scr, r_tupF,
  eq_tI, eq_tI_nil, sl_tI_tail, len_tI, tup_tI, add_tI, lk_marks, lk_states, lk_rows, lk_row, lk_table, lk_begin, lk_step, lk_stopped, lk_run])
theorem c_is_number {Γ : Ctx} {i lo hi : Int} {M : Mem} {Q : PQ} {E : PXK} : sp_is_number Γ [.int i, .int lo, .int hi] M Q E = Q (.bl (decide (lo ≤ i) && decide (i ≤ hi))) M := by
  refine propext ⟨?_, fun q => ⟨_, _, _, rfl, (fun h => nomatch h), q⟩⟩
  rintro ⟨v, lo', hi', e, _, q⟩
  cases e
  exact q
theorem c_is_number' {Γ : Ctx} {v : PV} {lo hi : Int} {M : Mem} {Q : PQ} {E : PXK} (h : known M v) (q : Q (.bl (isNum lo hi v)) M) : sp_is_number Γ [v, .int lo, .int hi] M Q E := ⟨_, _, _, rfl, h, q⟩
theorem k_are_numbers (Γ : Ctx) : Keeps (t_are_numbers Γ) 3 4 (sp_are_numbers Γ) := by
  rintro xs M Q E hl ⟨v, lo, hi, rfl, hk, hys, q⟩
  unfold t_are_numbers
  walk_at "pl"
  cases v with
  | tup ys =>
    walk_at "pl"
    obtain ⟨hz, hys⟩ := hys ys rfl
    refine ⟨hz, lc_map (fun y => .bl (isNum lo hi y)) (fun y hy R hR => ?_) ?_⟩
    · walk_at "pl"
      exact c_is_number' (hys y hy) hR
    · have e : ys.map (fun y => PV.bl (isNum lo hi y)) = (ys.map (isNum lo hi)).map PV.bl := by rw [List.map_map]; rfl
      unfold kAll
      rw [e]
      show need (blsOf _) _
      rw [blsOf_map]
      show Q (.bl ((ys.map (isNum lo hi)).all id)) M
      rw [List.all_map]
      exact q
  | int i => walk_at "pl"; exact q
  | bl b => walk_at "pl"; exact q
  | str b => walk_at "pl"; exact q
  | non => walk_at "pl"; exact q
  | lst b => walk_at "pl"; exact q
  | ptr a =>
    cases ht : tyOf M (.ptr a) with
    | none => exact absurd ht hk
    | some n =>
      have hn := tyOf_ptr_list ht
      subst hn
      simp only [isi_of ht]
      walk_at "pl"
      exact q
  | ty n => exact absurd rfl hk
  | scr xs => exact absurd rfl hk
  | obj C fs => exact absurd rfl hk
  | dct _ => exact absurd rfl hk
  | exc _ _ _ => exact absurd rfl hk
  | rng _ _ => exact absurd rfl hk
  | tpd _ => exact absurd rfl hk
end My
set_option Elab.async false
set_option linter.all false
set_option maxRecDepth 100000
namespace My
open PySem PL TM PD
local macro_rules | `(tactic| walk_at "hd") => `(tactic| repeat (first | (with_reducible refine w_cons ?_) | ((with_reducible refine' w_var ?_ ?_); rotate_left; exact rfl) | (with_reducible refine w_seq ?_) | (with_reducible refine w_C ?_) | (with_reducible refine w_nil ?_) | (with_reducible refine w_bin ?_) | (with_reducible refine w_tup ?_) | ((with_reducible refine' w_pset ?_ ?_); rotate_left; (intro x; first | with_reducible exact set_h0 | with_reducible exact set_h1 | with_reducible exact set_h2 | with_reducible exact set_h3 | with_reducible exact set_h4 | with_reducible exact set_h5 | with_reducible exact set_h6 | with_reducible exact set_h7 | with_reducible exact set_h8 | with_reducible exact set_h9 | with_reducible exact set_h10 | with_reducible exact set_h11 | with_reducible exact set_h12 | with_reducible exact set_h13 | with_reducible exact set_h14 | with_reducible exact set_h15 | with_reducible exact set_h16 | with_reducible exact set_h17 | with_reducible exact set_h18 | with_reducible exact set_h19 | with_reducible exact set_h20 | with_reducible exact set_h21 | with_reducible exact set_h22 | with_reducible exact set_h23 | with_reducible exact set_h24 | with_reducible exact set_h25)) | (with_reducible refine w_add ?_) | (with_reducible refine w_test ?_) | (with_reducible refine w_kB ?_) | (with_reducible refine w_call ?_) | (with_reducible refine w_ifs ?_) | (with_reducible refine w_next ?_) | ((with_reducible refine' w_gname ?_ ?_); rotate_left; (first | with_reducible exact set_h0 | with_reducible exact set_h1 | with_reducible exact set_h2 | with_reducible exact set_h3 | with_reducible exact set_h4 | with_reducible exact set_h5 | with_reducible exact set_h6 | with_reducible exact set_h7 | with_reducible exact set_h8 | with_reducible exact set_h9 | with_reducible exact set_h10 | with_reducible exact set_h11 | with_reducible exact set_h12 | with_reducible exact set_h13 | with_reducible exact set_h14 | with_reducible exact set_h15 | with_reducible exact set_h16 | with_reducible exact set_h17 | with_reducible exact set_h18 | with_reducible exact set_h19 | with_reducible exact set_h20 | with_reducible exact set_h21 | with_reducible exact set_h22 | with_reducible exact set_h23 | with_reducible exact set_h24 | with_reducible exact set_h25)) | (with_reducible refine w_ret ?_) | (with_reducible refine w_fld ?_) | (with_reducible refine w_ifd ?_) | ((with_reducible refine' w_fldO ?_ ?_); rotate_left; exact rfl) | (with_reducible refine w_gcons ?_) | (with_reducible refine w_callB ?_) | (with_reducible refine w_on1 ?_) | ((with_reducible refine w_mod ?_ ?_); (first | decide | omega)) | (with_reducible refine w_int ?_) | (with_reducible refine w_drop ?_) | (with_reducible refine w_for ?_) | (with_reducible refine w_I0 ?_) | (with_reducible refine w_ifF ?_) | (with_reducible refine w_part ?_) | (with_reducible refine w_partI ?_) | (with_reducible refine w_sl ?_) | (with_reducible refine w_nop ?_) | (with_reducible refine w_ifT ?_) | (with_reducible refine w_R1 ?_) | ((with_reducible refine w_R1I ?_ ?_); (first | decide | omega)) | (with_reducible refine w_gnil ?_) | (with_reducible refine w_ixtup0 ?_) | (with_reducible refine w_ifn ?_) | (with_reducible refine w_asg ?_) | ((with_reducible refine w_gtup ?_ ?_); exact rfl) | (with_reducible refine w_eqInt ?_) | (with_reducible refine w_ixtup1 ?_) | (with_reducible refine w_or ?_) | (with_reducible refine w_not ?_) | (with_reducible refine w_in_non ?_) | (with_reducible refine w_lc ?_) | ((with_reducible refine w_div ?_ ?_); (first | decide | omega)) | (with_reducible refine w_neg ?_) | (with_reducible refine w_negI ?_) | (with_reducible refine w_eqStr ?_) | (with_reducible refine w_slT ?_) | (with_reducible refine w_lentup ?_) | (with_reducible refine w_tupL ?_) | (with_reducible refine w_lstF ?_) | (with_reducible refine w_app ?_) | (with_reducible refine w_tisN ?_) | (with_reducible refine w_meth ?_) | ((with_reducible refine w_objO ?_ ?_); exact rfl) | (with_reducible refine w_lstM ?_) | (with_reducible refine w_ixtup2 ?_) | (with_reducible refine w_retF ?_) | (with_reducible refine w_iL ?_) | (with_reducible refine w_make ?_) | (with_reducible refine w_fldS ?_) | (with_reducible refine w_rg1 ?_) | (with_reducible refine w_dnew ?_) | (with_reducible refine w_piD ?_) | (with_reducible refine w_dctF ?_) | (with_reducible refine w_dc ?_) | (with_reducible refine w_dcF ?_) | (with_reducible refine w_piZ3 ?_) | (with_reducible refine w_piET ?_) | (with_reducible refine w_pIsD ?_) | (with_reducible refine w_dct1 ?_) | (with_reducible refine w_gsubD ?_) | (with_reducible refine w_lst ?_) | (with_reducible refine w_ixtup3 ?_) | (with_reducible refine w_lenlst ?_) | (with_reducible refine w_and ?_) | (with_reducible refine w_in_tup ?_) | ((with_reducible refine' w_aug ?_ ?_ ?_); rotate_left 2; exact rfl; (intro x; first | with_reducible exact set_h0 | with_reducible exact set_h1 | with_reducible exact set_h2 | with_reducible exact set_h3 | with_reducible exact set_h4 | with_reducible exact set_h5 | with_reducible exact set_h6 | with_reducible exact set_h7 | with_reducible exact set_h8 | with_reducible exact set_h9 | with_reducible exact set_h10 | with_reducible exact set_h11 | with_reducible exact set_h12 | with_reducible exact set_h13 | with_reducible exact set_h14 | with_reducible exact set_h15 | with_reducible exact set_h16 | with_reducible exact set_h17 | with_reducible exact set_h18 | with_reducible exact set_h19 | with_reducible exact set_h20 | with_reducible exact set_h21 | with_reducible exact set_h22 | with_reducible exact set_h23 | with_reducible exact set_h24 | with_reducible exact set_h25)) | (with_reducible refine w_lc2 ?_) | (with_reducible refine w_lcT ?_) | (with_reducible refine w_on2 ?_) | (with_reducible refine w_neInt ?_) | (with_reducible refine w_slL ?_) | (with_reducible refine w_tnotN ?_) | (with_reducible refine w_iT ?_) | (with_reducible refine w_tupF ?_) | (with_reducible refine w_par ?_) | ((with_reducible refine' w_kpar ?_ ?_ ?_); rotate_left 2; (first | with_reducible exact set_h0 | with_reducible exact set_h1 | with_reducible exact set_h2 | with_reducible exact set_h3 | with_reducible exact set_h4 | with_reducible exact set_h5 | with_reducible exact set_h6 | with_reducible exact set_h7 | with_reducible exact set_h8 | with_reducible exact set_h9 | with_reducible exact set_h10 | with_reducible exact set_h11 | with_reducible exact set_h12 | with_reducible exact set_h13 | with_reducible exact set_h14 | with_reducible exact set_h15 | with_reducible exact set_h16 | with_reducible exact set_h17 | with_reducible exact set_h18 | with_reducible exact set_h19 | with_reducible exact set_h20 | with_reducible exact set_h21 | with_reducible exact set_h22 | with_reducible exact set_h23 | with_reducible exact set_h24 | with_reducible exact set_h25); (first | with_reducible exact set_h0 | with_reducible exact set_h1 | with_reducible exact set_h2 | with_reducible exact set_h3 | with_reducible exact set_h4 | with_reducible exact set_h5 | with_reducible exact set_h6 | with_reducible exact set_h7 | with_reducible exact set_h8 | with_reducible exact set_h9 | with_reducible exact set_h10 | with_reducible exact set_h11 | with_reducible exact set_h12 | with_reducible exact set_h13 | with_reducible exact set_h14 | with_reducible exact set_h15 | with_reducible exact set_h16 | with_reducible exact set_h17 | with_reducible exact set_h18 | with_reducible exact set_h19 | with_reducible exact set_h20 | with_reducible exact set_h21 | with_reducible exact set_h22 | with_reducible exact set_h23 | with_reducible exact set_h24 | with_reducible exact set_h25)) | (with_reducible refine w_par3 ?_) | ((with_reducible refine' w_kpar3 ?_ ?_ ?_ ?_); rotate_left 3; (first | with_reducible exact set_h0 | with_reducible exact set_h1 | with_reducible exact set_h2 | with_reducible exact set_h3 | with_reducible exact set_h4 | with_reducible exact set_h5 | with_reducible exact set_h6 | with_reducible exact set_h7 | with_reducible exact set_h8 | with_reducible exact set_h9 | with_reducible exact set_h10 | with_reducible exact set_h11 | with_reducible exact set_h12 | with_reducible exact set_h13 | with_reducible exact set_h14 | with_reducible exact set_h15 | with_reducible exact set_h16 | with_reducible exact set_h17 | with_reducible exact set_h18 | with_reducible exact set_h19 | with_reducible exact set_h20 | with_reducible exact set_h21 | with_reducible exact set_h22 | with_reducible exact set_h23 | with_reducible exact set_h24 | with_reducible exact set_h25); (first | with_reducible exact set_h0 | with_reducible exact set_h1 | with_reducible exact set_h2 | with_reducible exact set_h3 | with_reducible exact set_h4 | with_reducible exact set_h5 | with_reducible exact set_h6 | with_reducible exact set_h7 | with_reducible exact set_h8 | with_reducible exact set_h9 | with_reducible exact set_h10 | with_reducible exact set_h11 | with_reducible exact set_h12 | with_reducible exact set_h13 | with_reducible exact set_h14 | with_reducible exact set_h15 | with_reducible exact set_h16 | with_reducible exact set_h17 | with_reducible exact set_h18 | with_reducible exact set_h19 | with_reducible exact set_h20 | with_reducible exact set_h21 | with_reducible exact set_h22 | with_reducible exact set_h23 | with_reducible exact set_h24 | with_reducible exact set_h25); (first | with_reducible exact set_h0 | with_reducible exact set_h1 | with_reducible exact set_h2 | with_reducible exact set_h3 | with_reducible exact set_h4 | with_reducible exact set_h5 | with_reducible exact set_h6 | with_reducible exact set_h7 | with_reducible exact set_h8 | with_reducible exact set_h9 | with_reducible exact set_h10 | with_reducible exact set_h11 | with_reducible exact set_h12 | with_reducible exact set_h13 | with_reducible exact set_h14 | with_reducible exact set_h15 | with_reducible exact set_h16 | with_reducible exact set_h17 | with_reducible exact set_h18 | with_reducible exact set_h19 | with_reducible exact set_h20 | with_reducible exact set_h21 | with_reducible exact set_h22 | with_reducible exact set_h23 | with_reducible exact set_h24 | with_reducible exact set_h25)) | (with_reducible refine w_rg2 ?_) | (with_reducible refine w_asT ?_) | (with_reducible refine w_kTp ?_) | (with_reducible refine w_pdget2 ?_) | (with_reducible refine w_zT ?_) | (with_reducible refine w_dct ?_) | (with_reducible refine w_listL ?_) | (with_reducible refine w_andV ?_) | (with_reducible refine w_isN ?_) | (with_reducible refine w_cnt ?_) | (with_reducible refine w_retD ?_) | ((with_reducible refine' w_isi_i ?_ ?_); rotate_left; (first | with_reducible exact kit_ib | with_reducible exact kit_ii | with_reducible exact kit_it | with_reducible exact kit_il | with_reducible exact kit_is)) | ((with_reducible refine' w_isi_t ?_ ?_); rotate_left; (first | with_reducible exact kit_tb | with_reducible exact kit_ti | with_reducible exact kit_tt | with_reducible exact kit_tl | with_reducible exact kit_ts)) | (with_reducible refine w_lc2M ?_) | (with_reducible refine w_lcM ?_) | (with_reducible refine w_catN ?_) | (with_reducible refine w_tcnt ?_) | (with_reducible refine w_kTCnt ?_) | (with_reducible refine w_catR ?_) | (with_reducible refine w_tidx ?_) | (with_reducible refine w_pdget1 ?_) | (with_reducible refine w_rv ?_) | (with_reducible refine w_z ?_) | (with_reducible refine w_gsub ?_) | (with_reducible refine w_ixlst0 ?_) | (with_reducible refine w_ixlst1 ?_) | (with_reducible refine w_slS ?_) | (with_reducible refine w_abs ?_) | (with_reducible refine w_listML ?_) | (with_reducible refine w_notB ?_) | (with_reducible refine w_brk ?_) | (with_reducible refine w_fzE ?_) | ((with_reducible refine' w_isi_l ?_ ?_); rotate_left; (first | with_reducible exact kit_lb | with_reducible exact kit_li | with_reducible exact kit_lt | with_reducible exact kit_ll | with_reducible exact kit_ls)) | (with_reducible refine w_join ?_) | (with_reducible refine w_kStr ?_) | (with_reducible refine w_zL ?_) | (with_reducible refine w_tupRg ?_) | ((with_reducible refine w_shr ?_ ?_); (first | decide | omega)) | (with_reducible refine w_retN ?_) | (with_reducible refine w_dnx ?_) | (with_reducible refine w_drt ?_) | (with_reducible refine w_dbk ?_) | (with_reducible refine w_eqBl ?_) | (with_reducible refine w_neBl ?_) | (with_reducible refine w_neStr ?_) | (with_reducible refine w_ixlst2 ?_) | (with_reducible refine w_ixlst3 ?_) | (with_reducible refine w_ixtup4 ?_) | (with_reducible refine w_ixlst4 ?_) | (with_reducible refine w_ixtup5 ?_) | (with_reducible refine w_ixlst5 ?_) | (with_reducible refine w_need ?_) | (with_reducible refine w_lenscr ?_) | (with_reducible refine w_listT ?_) | (with_reducible refine w_listS ?_) | (with_reducible refine w_tupT ?_) | (with_reducible refine w_listMT ?_) | (with_reducible refine w_orV ?_) | (with_reducible refine w_notV ?_) | (with_reducible refine w_if ?_) | (with_reducible refine w_notN ?_) | (with_reducible refine w_in_int ?_) | (with_reducible refine w_in_lst ?_) | (with_reducible refine w_in_ptr ?_) | (with_reducible refine w_in_str ?_) | (with_reducible refine w_in_bl ?_) | (with_reducible refine w_isB ?_) | (with_reducible refine w_lstFs ?_) | (with_reducible refine w_R2 ?_) | (with_reducible refine w_forM ?_) | (with_reducible refine w_lcnil ?_) | (with_reducible refine w_lccons ?_) | (with_reducible refine w_retFD ?_) | (with_reducible refine w_raise ?_) | (with_reducible refine w_raiseF ?_) | (with_reducible refine w_tryF ?_) | (with_reducible refine w_isFp ?_) | (with_reducible refine w_isFx ?_) | ((with_reducible refine' w_xf ?_ ?_); rotate_left; exact rfl) | (with_reducible refine w_try ?_) | (with_reducible refine w_lstRg ?_) | (with_reducible refine w_lstRev ?_) | (with_reducible refine w_tupRevL ?_) | (with_reducible refine w_tupN ?_) | (with_reducible refine w_tupDL ?_) | (with_reducible refine w_lenSet ?_) | (with_reducible refine w_lstRg2 ?_) | (with_reducible refine w_sum ?_) | (with_reducible refine w_tupRevLK ?_) | (with_reducible refine w_lstRevK ?_) | (with_reducible refine w_pop ?_) | (with_reducible refine w_rev ?_) | (with_reducible refine w_revL ?_) | (with_reducible refine w_forE ?_) | ((with_reducible refine' w_isi_b ?_ ?_); rotate_left; (first | with_reducible exact kit_bb | with_reducible exact kit_bi | with_reducible exact kit_bt | with_reducible exact kit_bl | with_reducible exact kit_bs)) | ((with_reducible refine' w_isi_s ?_ ?_); rotate_left; (first | with_reducible exact kit_sb | with_reducible exact kit_si | with_reducible exact kit_st | with_reducible exact kit_sl | with_reducible exact kit_ss)) | ((with_reducible refine' w_isi_n ?_ ?_); rotate_left; (first | with_reducible exact kit_nb | with_reducible exact kit_ni | with_reducible exact kit_nt | with_reducible exact kit_nl | with_reducible exact kit_ns))))
local macro_rules | `(tactic| walk_at "st") => `(tactic| simp only [pstart, List.map_cons, List.map_nil, List.cons_append, List.nil_append, List.length_cons, List.length_nil, List.replicate, Nat.reduceSub, Nat.reduceAdd, Nat.zero_add])
theorem at_I {ds : List Int} {i : Nat} (h : i < ds.length) : L2.atI (ds.map PV.int) (i : Int) = some (.int ds[i]) := by
  rw [at_pos _ (by omega), List.getElem?_map, Int.toNat_natCast, List.getElem?_eq_getElem h]
  rfl
theorem w_appI {p : Addr} {ds : List Int} {v : Int} {M : Mem} {Q : PQ} (hl : ds.length < 1000000) (h : Q .non (M.put p (.lst ((ds ++ [v]).map .int)))) : kApp (.ptr p) (.int v) (M.put p (.lst (ds.map .int))) Q := by
  rw [app_ptr put_same (by rw [List.length_map]; exact line_lt' (by omega)), put_put]
  rw [List.map_append] at h
  exact h
theorem lst_nn {p : Addr} {xs : List PV} {M : Mem} : lstOf (M.put p (.lst xs)) (.ptr p) ≠ none := by
  rw [lstOf_ptr put_same]
  exact fun z => nomatch z
theorem at_Ik {ds : List Int} {i : Int} {n : Nat} (e : i = n) (h : n < ds.length) : L2.atI (ds.map PV.int) i = some (.int ds[n]) := by
  rw [e]
  exact at_I h
theorem k_law_cell (Γ : Ctx) : Keeps (t_law_cell Γ) 2 2 (sp_law_cell Γ) := by
  rintro xs M Q E hl ⟨zs, k, rfl, hz, q⟩
  walk_at "st"
  unfold t_law_cell
  walk_at "hd"
  rw [List.length_map]
  by_cases h : k < zs.length
  · rw [if_pos (by omega)]
    walk_at "hd"
    have e : L2.atI (zs.map PV.int) (k : Int) = some (.int zs[k]) := by
      rw [at_pos _ (by omega), List.getElem?_map, Int.toNat_natCast, List.getElem?_eq_getElem h]; rfl
    show need (L2.atI (zs.map PV.int) (k : Int)) _
    exact need_by e (q _)
  · rw [if_neg (by omega)]
    walk_at "hd"
    exact q _
theorem k_law_mixed (Γ : Ctx) : Keeps (t_law_mixed Γ) 2 4 (sp_law_mixed Γ) := by
  rintro xs M Q E hl ⟨c, k, rfl, hk, q⟩
  walk_at "st"
  unfold t_law_mixed
  walk_at "hd"
  refine w_I (.inr ⟨by decide, by decide⟩) ?_
  walk_at "hd"
  refine w_I (.inr ⟨by decide, by decide⟩) ?_
  walk_at "hd"
  refine w_I (.inr ⟨by decide, by decide⟩) ?_
  walk_at "hd"
  refine w_I (.inr ⟨by decide, by decide⟩) ?_
  walk_at "hd"
  exact q _ (by omega)
theorem k_law_digits (Γ : Ctx) : Keeps (t_law_digits Γ) 3 5 (sp_law_digits Γ) := by
  rintro xs M Q E hl ⟨c, n, many, rfl, hn, hm, q⟩
  walk_at "st"
  unfold t_law_digits
  walk_at "hd"
  intro p hp
  walk_at "hd"
  refine w_I ⟨by decide, by decide, by decide⟩ ?_
  walk_at "hd"
  split
  · walk_at "hd"
    rw [Int.toNat_natCast]
    refine for_rng (fun i σ M' => ∃ x4 ds, σ = [some (.int c), some (.int n), some (.int many), some (.ptr p), x4] ∧ M' = M.put p (.lst (ds.map .int)) ∧ ds.length = i ∧ ∀ d ∈ ds, 0 ≤ d ∧ d < many) ⟨_, [], rfl, rfl, rfl, fun _ h => absurd h List.not_mem_nil⟩ ?_ ?_
    · rintro i σ M' K hi ⟨x4, ds, rfl, rfl, hl, hd⟩ hK
      unfold b_law_digits_1
      walk_at "hd"
      refine ⟨lst_nn, ?_⟩
      walk_at "hd"
      refine ⟨c, i, by rw [Int.zero_add], by omega, fun v hv => ?_⟩
      walk_at "hd"
      refine w_appI (by omega) ?_
      refine hK _ _ ⟨_, ds ++ [v % many], rfl, rfl, by rw [List.length_append, hl]; rfl, fun d hd2 => ?_⟩
      rcases List.mem_append.mp hd2 with h | h
      · exact hd d h
      · rw [List.mem_singleton.mp h]
        exact ⟨Int.emod_nonneg _ (by omega), Int.emod_lt_of_pos _ (by omega)⟩
    · rintro σ M' ⟨x4, ds, rfl, rfl, hl, hd⟩
      walk_at "hd"
      exact w_fzP put_same (by rw [put_drop hp]; exact q ds hl hd)
  · walk_at "hd"
    rw [Int.toNat_natCast]
    refine for_rng (fun i σ M' => ∃ c' x4 ds, σ = [some (.int c'), some (.int n), some (.int many), some (.ptr p), x4] ∧ M' = M.put p (.lst (ds.map .int)) ∧ ds.length = i ∧ ∀ d ∈ ds, 0 ≤ d ∧ d < many) ⟨c, _, [], rfl, rfl, rfl, fun _ h => absurd h List.not_mem_nil⟩ ?_ ?_
    · rintro i σ M' K hi ⟨c', x4, ds, rfl, rfl, hl, hd⟩ hK
      unfold b_law_digits_2
      walk_at "hd"
      refine ⟨lst_nn, ?_⟩
      walk_at "hd"
      refine w_appI (by omega) ?_
      walk_at "hd"
      refine hK _ _ ⟨_, _, ds ++ [c' % many], rfl, rfl, by rw [List.length_append, hl]; rfl, fun d hd2 => ?_⟩
      rcases List.mem_append.mp hd2 with h | h
      · exact hd d h
      · rw [List.mem_singleton.mp h]
        exact ⟨Int.emod_nonneg _ (by omega), Int.emod_lt_of_pos _ (by omega)⟩
    · rintro σ M' ⟨c', x4, ds, rfl, rfl, hl, hd⟩
      walk_at "hd"
      exact w_fzP put_same (by rw [put_drop hp]; exact q ds hl hd)
theorem bls_map : ∀ bs : List Bool, blsOf (bs.map PV.bl) = some bs
  | [] => rfl
  | b :: bs => by
    show (blsOf (bs.map PV.bl)).map (b :: ·) = _
    rw [bls_map bs]
    rfl
theorem w_allB {α : Type} {xs : List α} {f : α → Bool} {M : Mem} {Q : PQ} (h : Q (.bl (xs.all f)) M) : kAll (.lst (xs.map fun x => PV.bl (f x))) M Q := by
  refine need_by (show lstOf M (.lst (xs.map fun x => PV.bl (f x))) = some (xs.map fun x => PV.bl (f x)) from rfl) (need_by (a := xs.map f) ?_ ?_)
  · rw [show (xs.map fun x => PV.bl (f x)) = (xs.map f).map PV.bl by rw [List.map_map]; rfl, bls_map]
  · rw [List.all_map]
    exact h
theorem lcf_map {α : Type} {i : Nat} {tt : PTT} {te : PTE} {σ : PSt} {M : Mem} {Q : PQ} (h : α → PV) (p : α → Bool) (f : α → PV) : ∀ (xs : List α) (acc : List PV),
    (∀ a ∈ xs, (∀ R : Bool → Mem → Prop, R (p a) M → tt noX (σ.set i (some (h a))) M R) ∧ (p a = true → ∀ R : PQ, R (f a) M → te noX (σ.set i (some (h a))) M R)) → Q (.lst (acc ++ (xs.filter p).map f)) M → pLcL i tt te (xs.map h) acc σ M Q
  | [], acc, _, q => by
    rw [List.filter_nil, List.map_nil, List.append_nil] at q
    exact q
  | a :: xs, acc, he, q => by
    obtain ⟨h1, h2⟩ := he a List.mem_cons_self
    refine h1 _ ?_
    by_cases hp : p a = true
    · rw [if_pos hp]
      refine h2 hp _ (lcf_map h p f xs _ (fun b hb => he b (List.mem_cons_of_mem _ hb)) ?_)
      rw [List.filter_cons, if_pos hp] at q
      rw [List.append_assoc]
      exact q
    · rw [if_neg hp]
      refine lcf_map h p f xs _ (fun b hb => he b (List.mem_cons_of_mem _ hb)) ?_
      rw [List.filter_cons, if_neg hp] at q
      exact q
theorem lc_mapF {α : Type} {i : Nat} {te : PTE} {σ : PSt} {M : Mem} {Q : PQ} (h f : α → PV) : ∀ (l : List α) (acc : List PV), (∀ a ∈ l, ∀ R : PQ, R (f a) M → te noX (σ.set i (some (h a))) M R) → Q (.lst (acc ++ l.map f)) M → pLcL i pYes te (l.map h) acc σ M Q
  | [], acc, _, q => by
    rw [List.map_nil, List.append_nil] at q
    exact q
  | a :: l, acc, he, q => by
    refine w_lccons (he a List.mem_cons_self _ (lc_mapF h f l (acc ++ [f a]) (fun b hb => he b (List.mem_cons_of_mem _ hb)) ?_))
    rw [List.append_assoc]
    exact q
theorem w_pFzL {i : Nat} {t : PTS} {D : PEnds} {σ : PSt} {f : PV → PSt} {M : Mem} {p : Addr} {xs : List PV} (e : σ[i]? = some (some (.ptr p))) (g : ∀ y, σ.set i (some y) = f y) (m : M p = some (.lst xs)) (h : t D (f (.lst xs)) (M.drop p)) : pFz i t D σ M := by
  unfold pFz
  rw [e]
  dsimp only
  refine w_fzP m ?_
  rw [g]
  exact h
end My
set_option Elab.async false
set_option linter.all false
set_option maxRecDepth 100000
namespace My
open PySem PL TM PD
local macro_rules | `(tactic| walk_at "hd") => `(tactic| repeat (first | (with_reducible refine w_cons ?_) | ((with_reducible refine' w_var ?_ ?_); rotate_left; exact rfl) | (with_reducible refine w_seq ?_) | (with_reducible refine w_C ?_) | (with_reducible refine w_nil ?_) | (with_reducible refine w_bin ?_) | (with_reducible refine w_tup ?_) | ((with_reducible refine' w_pset ?_ ?_); rotate_left; (intro x; first | with_reducible exact set_h0 | with_reducible exact set_h1 | with_reducible exact set_h2 | with_reducible exact set_h3 | with_reducible exact set_h4 | with_reducible exact set_h5 | with_reducible exact set_h6 | with_reducible exact set_h7 | with_reducible exact set_h8 | with_reducible exact set_h9 | with_reducible exact set_h10 | with_reducible exact set_h11 | with_reducible exact set_h12 | with_reducible exact set_h13 | with_reducible exact set_h14 | with_reducible exact set_h15 | with_reducible exact set_h16 | with_reducible exact set_h17 | with_reducible exact set_h18 | with_reducible exact set_h19 | with_reducible exact set_h20 | with_reducible exact set_h21 | with_reducible exact set_h22 | with_reducible exact set_h23 | with_reducible exact set_h24 | with_reducible exact set_h25)) | (with_reducible refine w_add ?_) | (with_reducible refine w_test ?_) | (with_reducible refine w_kB ?_) | (with_reducible refine w_call ?_) | (with_reducible refine w_ifs ?_) | (with_reducible refine w_next ?_) | ((with_reducible refine' w_gname ?_ ?_); rotate_left; (first | with_reducible exact set_h0 | with_reducible exact set_h1 | with_reducible exact set_h2 | with_reducible exact set_h3 | with_reducible exact set_h4 | with_reducible exact set_h5 | with_reducible exact set_h6 | with_reducible exact set_h7 | with_reducible exact set_h8 | with_reducible exact set_h9 | with_reducible exact set_h10 | with_reducible exact set_h11 | with_reducible exact set_h12 | with_reducible exact set_h13 | with_reducible exact set_h14 | with_reducible exact set_h15 | with_reducible exact set_h16 | with_reducible exact set_h17 | with_reducible exact set_h18 | with_reducible exact set_h19 | with_reducible exact set_h20 | with_reducible exact set_h21 | with_reducible exact set_h22 | with_reducible exact set_h23 | with_reducible exact set_h24 | with_reducible exact set_h25)) | (with_reducible refine w_ret ?_) | (with_reducible refine w_fld ?_) | (with_reducible refine w_ifd ?_) | ((with_reducible refine' w_fldO ?_ ?_); rotate_left; exact rfl) | (with_reducible refine w_gcons ?_) | (with_reducible refine w_callB ?_) | (with_reducible refine w_on1 ?_) | ((with_reducible refine w_mod ?_ ?_); (first | decide | omega)) | (with_reducible refine w_int ?_) | (with_reducible refine w_drop ?_) | (with_reducible refine w_for ?_) | (with_reducible refine w_I0 ?_) | (with_reducible refine w_ifF ?_) | (with_reducible refine w_part ?_) | (with_reducible refine w_partI ?_) | (with_reducible refine w_sl ?_) | (with_reducible refine w_nop ?_) | (with_reducible refine w_ifT ?_) | (with_reducible refine w_R1 ?_) | ((with_reducible refine w_R1I ?_ ?_); (first | decide | omega)) | (with_reducible refine w_gnil ?_) | (with_reducible refine w_ixtup0 ?_) | (with_reducible refine w_ifn ?_) | (with_reducible refine w_asg ?_) | ((with_reducible refine w_gtup ?_ ?_); exact rfl) | (with_reducible refine w_eqInt ?_) | (with_reducible refine w_ixtup1 ?_) | (with_reducible refine w_or ?_) | (with_reducible refine w_not ?_) | (with_reducible refine w_in_non ?_) | (with_reducible refine w_lc ?_) | ((with_reducible refine w_div ?_ ?_); (first | decide | omega)) | (with_reducible refine w_neg ?_) | (with_reducible refine w_negI ?_) | (with_reducible refine w_eqStr ?_) | (with_reducible refine w_slT ?_) | (with_reducible refine w_lentup ?_) | (with_reducible refine w_tupL ?_) | (with_reducible refine w_lstF ?_) | (with_reducible refine w_app ?_) | (with_reducible refine w_tisN ?_) | (with_reducible refine w_meth ?_) | ((with_reducible refine w_objO ?_ ?_); exact rfl) | (with_reducible refine w_lstM ?_) | (with_reducible refine w_ixtup2 ?_) | (with_reducible refine w_retF ?_) | (with_reducible refine w_iL ?_) | (with_reducible refine w_make ?_) | (with_reducible refine w_fldS ?_) | (with_reducible refine w_rg1 ?_) | (with_reducible refine w_dnew ?_) | (with_reducible refine w_piD ?_) | (with_reducible refine w_dctF ?_) | (with_reducible refine w_dc ?_) | (with_reducible refine w_dcF ?_) | (with_reducible refine w_piZ3 ?_) | (with_reducible refine w_piET ?_) | (with_reducible refine w_pIsD ?_) | (with_reducible refine w_dct1 ?_) | (with_reducible refine w_gsubD ?_) | (with_reducible refine w_lst ?_) | (with_reducible refine w_ixtup3 ?_) | (with_reducible refine w_lenlst ?_) | (with_reducible refine w_and ?_) | (with_reducible refine w_in_tup ?_) | ((with_reducible refine' w_aug ?_ ?_ ?_); rotate_left 2; exact rfl; (intro x; first | with_reducible exact set_h0 | with_reducible exact set_h1 | with_reducible exact set_h2 | with_reducible exact set_h3 | with_reducible exact set_h4 | with_reducible exact set_h5 | with_reducible exact set_h6 | with_reducible exact set_h7 | with_reducible exact set_h8 | with_reducible exact set_h9 | with_reducible exact set_h10 | with_reducible exact set_h11 | with_reducible exact set_h12 | with_reducible exact set_h13 | with_reducible exact set_h14 | with_reducible exact set_h15 | with_reducible exact set_h16 | with_reducible exact set_h17 | with_reducible exact set_h18 | with_reducible exact set_h19 | with_reducible exact set_h20 | with_reducible exact set_h21 | with_reducible exact set_h22 | with_reducible exact set_h23 | with_reducible exact set_h24 | with_reducible exact set_h25)) | (with_reducible refine w_lc2 ?_) | (with_reducible refine w_lcT ?_) | (with_reducible refine w_on2 ?_) | (with_reducible refine w_neInt ?_) | (with_reducible refine w_slL ?_) | (with_reducible refine w_tnotN ?_) | (with_reducible refine w_iT ?_) | (with_reducible refine w_tupF ?_) | (with_reducible refine w_par ?_) | ((with_reducible refine' w_kpar ?_ ?_ ?_); rotate_left 2; (first | with_reducible exact set_h0 | with_reducible exact set_h1 | with_reducible exact set_h2 | with_reducible exact set_h3 | with_reducible exact set_h4 | with_reducible exact set_h5 | with_reducible exact set_h6 | with_reducible exact set_h7 | with_reducible exact set_h8 | with_reducible exact set_h9 | with_reducible exact set_h10 | with_reducible exact set_h11 | with_reducible exact set_h12 | with_reducible exact set_h13 | with_reducible exact set_h14 | with_reducible exact set_h15 | with_reducible exact set_h16 | with_reducible exact set_h17 | with_reducible exact set_h18 | with_reducible exact set_h19 | with_reducible exact set_h20 | with_reducible exact set_h21 | with_reducible exact set_h22 | with_reducible exact set_h23 | with_reducible exact set_h24 | with_reducible exact set_h25); (first | with_reducible exact set_h0 | with_reducible exact set_h1 | with_reducible exact set_h2 | with_reducible exact set_h3 | with_reducible exact set_h4 | with_reducible exact set_h5 | with_reducible exact set_h6 | with_reducible exact set_h7 | with_reducible exact set_h8 | with_reducible exact set_h9 | with_reducible exact set_h10 | with_reducible exact set_h11 | with_reducible exact set_h12 | with_reducible exact set_h13 | with_reducible exact set_h14 | with_reducible exact set_h15 | with_reducible exact set_h16 | with_reducible exact set_h17 | with_reducible exact set_h18 | with_reducible exact set_h19 | with_reducible exact set_h20 | with_reducible exact set_h21 | with_reducible exact set_h22 | with_reducible exact set_h23 | with_reducible exact set_h24 | with_reducible exact set_h25)) | (with_reducible refine w_par3 ?_) | ((with_reducible refine' w_kpar3 ?_ ?_ ?_ ?_); rotate_left 3; (first | with_reducible exact set_h0 | with_reducible exact set_h1 | with_reducible exact set_h2 | with_reducible exact set_h3 | with_reducible exact set_h4 | with_reducible exact set_h5 | with_reducible exact set_h6 | with_reducible exact set_h7 | with_reducible exact set_h8 | with_reducible exact set_h9 | with_reducible exact set_h10 | with_reducible exact set_h11 | with_reducible exact set_h12 | with_reducible exact set_h13 | with_reducible exact set_h14 | with_reducible exact set_h15 | with_reducible exact set_h16 | with_reducible exact set_h17 | with_reducible exact set_h18 | with_reducible exact set_h19 | with_reducible exact set_h20 | with_reducible exact set_h21 | with_reducible exact set_h22 | with_reducible exact set_h23 | with_reducible exact set_h24 | with_reducible exact set_h25); (first | with_reducible exact set_h0 | with_reducible exact set_h1 | with_reducible exact set_h2 | with_reducible exact set_h3 | with_reducible exact set_h4 | with_reducible exact set_h5 | with_reducible exact set_h6 | with_reducible exact set_h7 | with_reducible exact set_h8 | with_reducible exact set_h9 | with_reducible exact set_h10 | with_reducible exact set_h11 | with_reducible exact set_h12 | with_reducible exact set_h13 | with_reducible exact set_h14 | with_reducible exact set_h15 | with_reducible exact set_h16 | with_reducible exact set_h17 | with_reducible exact set_h18 | with_reducible exact set_h19 | with_reducible exact set_h20 | with_reducible exact set_h21 | with_reducible exact set_h22 | with_reducible exact set_h23 | with_reducible exact set_h24 | with_reducible exact set_h25); (first | with_reducible exact set_h0 | with_reducible exact set_h1 | with_reducible exact set_h2 | with_reducible exact set_h3 | with_reducible exact set_h4 | with_reducible exact set_h5 | with_reducible exact set_h6 | with_reducible exact set_h7 | with_reducible exact set_h8 | with_reducible exact set_h9 | with_reducible exact set_h10 | with_reducible exact set_h11 | with_reducible exact set_h12 | with_reducible exact set_h13 | with_reducible exact set_h14 | with_reducible exact set_h15 | with_reducible exact set_h16 | with_reducible exact set_h17 | with_reducible exact set_h18 | with_reducible exact set_h19 | with_reducible exact set_h20 | with_reducible exact set_h21 | with_reducible exact set_h22 | with_reducible exact set_h23 | with_reducible exact set_h24 | with_reducible exact set_h25)) | (with_reducible refine w_rg2 ?_) | (with_reducible refine w_asT ?_) | (with_reducible refine w_kTp ?_) | (with_reducible refine w_pdget2 ?_) | (with_reducible refine w_zT ?_) | (with_reducible refine w_dct ?_) | (with_reducible refine w_listL ?_) | (with_reducible refine w_andV ?_) | (with_reducible refine w_isN ?_) | (with_reducible refine w_cnt ?_) | (with_reducible refine w_retD ?_) | ((with_reducible refine' w_isi_i ?_ ?_); rotate_left; (first | with_reducible exact kit_ib | with_reducible exact kit_ii | with_reducible exact kit_it | with_reducible exact kit_il | with_reducible exact kit_is)) | ((with_reducible refine' w_isi_t ?_ ?_); rotate_left; (first | with_reducible exact kit_tb | with_reducible exact kit_ti | with_reducible exact kit_tt | with_reducible exact kit_tl | with_reducible exact kit_ts)) | (with_reducible refine w_lc2M ?_) | (with_reducible refine w_lcM ?_) | (with_reducible refine w_catN ?_) | (with_reducible refine w_tcnt ?_) | (with_reducible refine w_kTCnt ?_) | (with_reducible refine w_catR ?_) | (with_reducible refine w_tidx ?_) | (with_reducible refine w_pdget1 ?_) | (with_reducible refine w_rv ?_) | (with_reducible refine w_z ?_) | (with_reducible refine w_gsub ?_) | (with_reducible refine w_ixlst0 ?_) | (with_reducible refine w_ixlst1 ?_) | (with_reducible refine w_slS ?_) | (with_reducible refine w_abs ?_) | (with_reducible refine w_listML ?_) | (with_reducible refine w_notB ?_) | (with_reducible refine w_brk ?_) | (with_reducible refine w_fzE ?_) | ((with_reducible refine' w_isi_l ?_ ?_); rotate_left; (first | with_reducible exact kit_lb | with_reducible exact kit_li | with_reducible exact kit_lt | with_reducible exact kit_ll | with_reducible exact kit_ls)) | (with_reducible refine w_join ?_) | (with_reducible refine w_kStr ?_) | (with_reducible refine w_zL ?_) | (with_reducible refine w_tupRg ?_) | ((with_reducible refine w_shr ?_ ?_); (first | decide | omega)) | (with_reducible refine w_retN ?_) | (with_reducible refine w_dnx ?_) | (with_reducible refine w_drt ?_) | (with_reducible refine w_dbk ?_) | (with_reducible refine w_eqBl ?_) | (with_reducible refine w_neBl ?_) | (with_reducible refine w_neStr ?_) | (with_reducible refine w_ixlst2 ?_) | (with_reducible refine w_ixlst3 ?_) | (with_reducible refine w_ixtup4 ?_) | (with_reducible refine w_ixlst4 ?_) | (with_reducible refine w_ixtup5 ?_) | (with_reducible refine w_ixlst5 ?_) | (with_reducible refine w_need ?_) | (with_reducible refine w_lenscr ?_) | (with_reducible refine w_listT ?_) | (with_reducible refine w_listS ?_) | (with_reducible refine w_tupT ?_) | (with_reducible refine w_listMT ?_) | (with_reducible refine w_orV ?_) | (with_reducible refine w_notV ?_) | (with_reducible refine w_if ?_) | (with_reducible refine w_notN ?_) | (with_reducible refine w_in_int ?_) | (with_reducible refine w_in_lst ?_) | (with_reducible refine w_in_ptr ?_) | (with_reducible refine w_in_str ?_) | (with_reducible refine w_in_bl ?_) | (with_reducible refine w_isB ?_) | (with_reducible refine w_lstFs ?_) | (with_reducible refine w_R2 ?_) | (with_reducible refine w_forM ?_) | (with_reducible refine w_lcnil ?_) | (with_reducible refine w_lccons ?_) | (with_reducible refine w_retFD ?_) | (with_reducible refine w_raise ?_) | (with_reducible refine w_raiseF ?_) | (with_reducible refine w_tryF ?_) | (with_reducible refine w_isFp ?_) | (with_reducible refine w_isFx ?_) | ((with_reducible refine' w_xf ?_ ?_); rotate_left; exact rfl) | (with_reducible refine w_try ?_) | (with_reducible refine w_lstRg ?_) | (with_reducible refine w_lstRev ?_) | (with_reducible refine w_tupRevL ?_) | (with_reducible refine w_tupN ?_) | (with_reducible refine w_tupDL ?_) | (with_reducible refine w_lenSet ?_) | (with_reducible refine w_lstRg2 ?_) | (with_reducible refine w_sum ?_) | (with_reducible refine w_tupRevLK ?_) | (with_reducible refine w_lstRevK ?_) | (with_reducible refine w_pop ?_) | (with_reducible refine w_rev ?_) | (with_reducible refine w_revL ?_) | (with_reducible refine w_forE ?_) | ((with_reducible refine' w_isi_b ?_ ?_); rotate_left; (first | with_reducible exact kit_bb | with_reducible exact kit_bi | with_reducible exact kit_bt | with_reducible exact kit_bl | with_reducible exact kit_bs)) | ((with_reducible refine' w_isi_s ?_ ?_); rotate_left; (first | with_reducible exact kit_sb | with_reducible exact kit_si | with_reducible exact kit_st | with_reducible exact kit_sl | with_reducible exact kit_ss)) | ((with_reducible refine' w_isi_n ?_ ?_); rotate_left; (first | with_reducible exact kit_nb | with_reducible exact kit_ni | with_reducible exact kit_nt | with_reducible exact kit_nl | with_reducible exact kit_ns))))
local macro_rules | `(tactic| walk_at "st") => `(tactic| simp only [pstart, List.map_cons, List.map_nil, List.cons_append, List.nil_append, List.length_cons, List.length_nil, List.replicate, Nat.reduceSub, Nat.reduceAdd, Nat.zero_add])
theorem as_TuI {v : PV} {ns : List Int} (h : TuI v ns) : asT v = tI ns := by
  rcases h with rfl | rfl <;> rfl
theorem kn_int {M : Mem} {i : Int} : known M (.int i) := fun z => by cases z
theorem areNum_tI (lo hi : Int) (ns : List Int) : areNum lo hi (tI ns) = ns.all fun n => decide (lo ≤ n) && decide (n ≤ hi) := by
  show (ns.map PV.int).all (isNum lo hi) = _
  rw [List.all_map]
  rfl
theorem k_is_rule (Γ : Ctx) : Keeps (t_is_rule Γ) 1 1 (sp_is_rule Γ) := by
  rintro xs M Q E hl ⟨v, rfl, h⟩
  walk_at "st"
  unfold t_is_rule
  walk_at "hd"
  rcases h with ⟨ns, hv, hn, q⟩ | ⟨hv, q⟩
  · rw [as_TuI hv]
    refine ⟨tI ns, 0, 15, rfl, (fun z => by cases z), (fun ys e => ?_), ?_⟩
    · cases e
      exact ⟨line_lt (by rw [List.length_map]; omega), fun y hy => by
        obtain ⟨i, _, rfl⟩ := List.mem_map.mp hy
        exact kn_int⟩
    rw [areNum_tI]
    unfold okRule at q
    cases hb : ns.all fun n => decide (0 ≤ n) && decide (n ≤ 15) with
    | false =>
      rw [hb, Bool.false_and] at q
      walk_at "hd"
      exact q
    | true =>
      rw [hb, Bool.true_and] at q
      walk_at "hd"
      rw [as_TuI hv]
      unfold tI
      walk_at "hd"
      rw [List.length_map]
      by_cases h16 : ns.length = 16
      · rw [if_pos (by omega)]
        rw [decide_eq_true h16, Bool.true_and] at q
        walk_at "hd"
        rw [as_TuI hv]
        unfold tI
        obtain ⟨a, r, rfl⟩ : ∃ a r, ns = a :: r := by
          cases ns with
          | nil => cases h16
          | cons a r => exact ⟨a, r, rfl⟩
        rw [List.map_cons]
        refine w_ixT (x := .int a) (at_0 _) ?_
        walk_at "hd"
        by_cases h0 : a = 0
        · rw [decide_eq_true (show (a :: r).head? = some 0 by rw [h0]; rfl), Bool.true_and] at q
          rw [if_pos h0]
          walk_at "hd"
          rw [as_TuI hv]
          unfold tI
          refine w_lenSetK hn fun ks nd mem => ?_
          walk_at "hd"
          have e := set_len nd mem
          rw [show decide ((ks.length : Int) = 16) = decide (a :: r).Nodup from decide_eq_decide.mpr (by rw [← e]; omega)]
          exact q
        · rw [decide_eq_false (show ¬ (a :: r).head? = some 0 from fun z => h0 (Option.some.inj z)), Bool.false_and] at q
          rw [if_neg h0]
          walk_at "hd"
          exact q
      · rw [if_neg (by omega)]
        rw [decide_eq_false h16, Bool.false_and] at q
        walk_at "hd"
        exact q
  · rcases hv with rfl | ⟨ys, rfl⟩
    · rw [show asT PV.non = PV.non from rfl]
      refine ⟨.non, 0, 15, rfl, (fun z => by cases z), (fun ys e => by cases e), ?_⟩
      walk_at "hd"
      exact q
    · rw [show asT (PV.lst ys) = PV.lst ys from rfl]
      refine ⟨.lst ys, 0, 15, rfl, (fun z => by cases z), (fun ys e => by cases e), ?_⟩
      walk_at "hd"
      exact q
theorem k_inverse_rule (Γ : Ctx) : Keeps (t_inverse_rule Γ) 1 2 (sp_inverse_rule Γ) := by
  rintro xs M Q E hl ⟨ns, rfl, ok, q⟩
  obtain ⟨h1, h2, h3, h4⟩ := okR ok
  walk_at "st"
  unfold t_inverse_rule
  walk_at "hd"
  unfold rngP
  refine ⟨line_lt (by rw [List.length_map, List.length_range]; decide), lc_mapF (fun (i : Nat) => PV.int (0 + (i : Int))) (fun (k : Nat) => PV.int ((ns.idxOf (k : Int) : Nat) : Int)) _ [] (fun k hk R hR => ?_) ?_⟩
  · have hk2 := List.mem_range.mp hk
    walk_at "hd"
    rw [Int.zero_add]
    have hk3 : k < 16 := hk2
    refine w_kTidx (ns.idxOf (k : Int)) (at_idx (full16 h4 h2 h1 ⟨by omega, by omega⟩)) idx_first ?_
    exact hR
  rw [List.nil_append]
  walk_at "hd"
  have e : (List.range (16 : Int).toNat).map (fun (k : Nat) => PV.int ((ns.idxOf (k : Int) : Nat) : Int)) = (invR ns).map PV.int := by
    unfold invR
    rw [List.map_map]
    rfl
  rw [e]
  walk_at "hd"
  exact q
theorem k_is_place (Γ : Ctx) : Keeps (t_is_place Γ) 1 1 (sp_is_place Γ) := by
  rintro xs M Q E hl ⟨ys, rfl, hk, q⟩
  walk_at "st"
  unfold t_is_place
  walk_at "hd"
  by_cases h2 : ys.length = 2
  · match ys, h2 with
    | [a, b], _ =>
      have ka := hk a (by simp)
      have kb := hk b (by simp)
      rw [if_pos (show (([a, b] : List PV).length : Int) = 2 from rfl)]
      walk_at "hd"
      refine ⟨a, rfl, ka, ?_⟩
      have q' : Q (.bl (isWh a && isWh b)) M := q
      cases ha : isWh a with
      | false =>
        rw [ha, Bool.false_and] at q'
        walk_at "hd"
        exact q'
      | true =>
        rw [ha, Bool.true_and] at q'
        walk_at "hd"
        exact ⟨b, rfl, kb, q'⟩
  · rw [if_neg (by omega)]
    have e : isPl ys = false := by
      match ys, h2 with
      | [], _ => rfl
      | [_], _ => rfl
      | [_, _], h => exact absurd rfl h
      | _ :: _ :: _ :: _, _ => rfl
    rw [e] at q
    walk_at "hd"
    exact q
theorem k_Blocks_init (Γ : Ctx) : Keeps (t_Blocks_init Γ) 2 2 (sp_Blocks_init Γ) := by
  rintro xs M Q E hl ⟨p, v, rfl, hp, h⟩
  walk_at "st"
  unfold t_Blocks_init
  walk_at "hd"
  rcases h with ⟨ns, rfl, ok, q⟩ | ⟨hb, q⟩
  · refine ⟨_, rfl, .inl ⟨ns, .inr rfl, by have := (okR ok).2.1; omega, ?_⟩⟩
    rw [ok]
    walk_at "hd"
    rw [putF_ptr hp]
    refine ⟨(by show 0 < 1000; decide), ?_⟩
    walk_at "hd"
    refine ⟨ns, rfl, ok, ?_⟩
    walk_at "hd"
    rw [putF_ptr put_same, put_put]
    refine ⟨(by show 1 < 1000; decide), ?_⟩
    exact q
  · refine ⟨v, rfl, ?_⟩
    rcases hb with ⟨ns, hv, hn, hf⟩ | hv
    · refine .inl ⟨ns, hv, hn, ?_⟩
      rw [hf]
      walk_at "hd"
      exact q
    · refine .inr ⟨hv, ?_⟩
      walk_at "hd"
      exact q
theorem k_balls (Γ : Ctx) : Keeps (t_balls Γ) 0 0 (sp_balls Γ) := by
  rintro xs M Q E hl ⟨rfl, q⟩
  walk_at "st"
  unfold t_balls
  walk_at "hd"
  intro y hy
  refine ⟨y, _, rfl, put_same, .inl ⟨ballsL, rfl, okr_balls, ?_⟩⟩
  rw [put_put]
  refine ⟨rfl, ?_⟩
  simp only [put_same, true_and]
  rw [put_drop hy]
  exact q
theorem k_turned_about (Γ : Ctx) : Keeps (t_turned_about Γ) 1 3 (sp_turned_about Γ) := by
  rintro xs M Q E hl ⟨ph, pl, rfl, q⟩
  walk_at "st"
  unfold t_turned_about
  walk_at "hd"
  exact q
theorem bits_sum (n : Nat) : ((List.range 4).map fun (k : Nat) => ((n >>> k &&& 1 : Nat) : Int)).sum = (popc n : Int) := by
  unfold popc
  show ((n >>> 0 &&& 1 : Nat) : Int) + (((n >>> 1 &&& 1 : Nat) : Int) + (((n >>> 2 &&& 1 : Nat) : Int) + (((n >>> 3 &&& 1 : Nat) : Int) + 0))) = _
  simp only [Nat.shiftRight_eq_div_pow, Nat.and_one_is_mod]
  omega
theorem bit_at {n k : Nat} (hn : n < 16) (hk : k < 4) : Builtin.bitAnd ((n : Int) / 2 ^ ((k : Int)).toNat) 1 = ((n >>> k &&& 1 : Nat) : Int) := by
  have h : ∀ n : Nat, n < 16 → ∀ k : Nat, k < 4 → Builtin.bitAnd ((n : Int) / 2 ^ ((k : Int)).toNat) 1 = ((n >>> k &&& 1 : Nat) : Int) := by decide +kernel
  exact h n hn k hk
theorem k_many_balls (Γ : Ctx) : Keeps (t_many_balls Γ) 1 2 (sp_many_balls Γ) := by
  rintro xs M Q E hl ⟨n, rfl, hn, q⟩
  walk_at "st"
  unfold t_many_balls
  walk_at "hd"
  unfold rngP
  refine ⟨line_lt (by rw [List.length_map, List.length_range]; decide), lc_mapF (fun (i : Nat) => PV.int (0 + (i : Int))) (fun (k : Nat) => PV.int ((n >>> k &&& 1 : Nat) : Int)) _ [] (fun k hk R hR => ?_) ?_⟩
  · walk_at "hd"
    rw [Int.zero_add, bit_at hn (List.mem_range.mp hk)]
    exact hR
  rw [List.nil_append]
  walk_at "hd"
  rw [show (List.range (4 : Int).toNat).map (fun (k : Nat) => PV.int ((n >>> k &&& 1 : Nat) : Int)) = ((List.range 4).map fun (k : Nat) => ((n >>> k &&& 1 : Nat) : Int)).map PV.int from rfl]
  refine w_sum ?_
  rw [bits_sum]
  exact q
theorem enum_ints (ns : List Int) : enumF 0 (ns.map PV.int) = (List.range ns.length).map fun (i : Nat) => PV.tup [.int (i : Int), .int ((ns[i]?).getD 0)] := by
  refine List.ext_getElem (by rw [enumF_len, List.length_map, List.length_map, List.length_range]) fun i h1 h2 => ?_
  have hi : i < ns.length := by rw [enumF_len, List.length_map] at h1; exact h1
  have e := enumF_at (k := 0) (xs := ns.map PV.int) (i := i) (x := PV.int ns[i]) (by rw [List.getElem?_map, List.getElem?_eq_getElem hi]; rfl)
  rw [List.getElem?_eq_getElem h1] at e
  rw [Option.some.inj e, List.getElem_map, List.getElem_range, Nat.zero_add, List.getElem?_eq_getElem hi]
  rfl
theorem k_keeps (Γ : Ctx) : Keeps (t_keeps Γ) 1 3 (sp_keeps Γ) := by
  rintro xs M Q E hl ⟨ns, rfl, ok, q⟩
  obtain ⟨h1, h2, h3, h4⟩ := okR ok
  walk_at "st"
  unfold t_keeps blkP
  walk_at "hd"
  rw [show asT (PV.tpd (ns.map PV.int)) = tI ns from rfl]
  unfold tI
  walk_at "hd"
  rw [enum_ints]
  have hat : ∀ i : Nat, i < 16 → ∃ v : Nat, (ns[i]?).getD 0 = (v : Int) ∧ v < 16 := fun i hi => by
    obtain ⟨v, e, hv, _⟩ := inv_undo ok hi
    exact ⟨v, by rw [e]; rfl, hv⟩
  refine ⟨line_lt (by rw [List.length_map, List.length_range]; omega), lcT_map (fun i : Nat => [.int (i : Int), .int ((ns[i]?).getD 0)]) (fun i => .bl (decide (popc i = popc ((ns[i]?).getD 0).toNat))) _ [] (fun i hi => ⟨_, rfl, fun R hR => ?_⟩) ?_⟩
  · have hi2 := List.mem_range.mp hi
    obtain ⟨v, ev, hv⟩ := hat i (by omega)
    rw [ev, Int.toNat_natCast] at hR
    rw [ev]
    walk_at "hd"
    refine ⟨i, rfl, by omega, ?_⟩
    walk_at "hd"
    refine ⟨v, rfl, hv, ?_⟩
    walk_at "hd"
    rw [show decide (((popc i : Nat) : Int) = ((popc v : Nat) : Int)) = decide (popc i = popc v) from decide_eq_decide.mpr (by omega)]
    exact hR
  rw [List.nil_append]
  walk_at "hd"
  refine w_allB ?_
  rw [h2]
  exact q
theorem zip_adj (ps : List (Int × Int)) : zipP (ps.map ppP) ((ps.map ppP).drop 1) = (ps.zip ps.tail).map fun pq => PV.tup [ppP pq.1, ppP pq.2] := by
  rw [← List.map_drop, List.drop_one]
  induction ps with
  | nil => rfl
  | cons p r ih =>
    cases r with
    | nil => rfl
    | cons a r => exact congrArg (_ :: ·) ih
theorem k_Blocks_is_configuration (Γ : Ctx) : Keeps (t_Blocks_is_configuration Γ) 2 7 (sp_Blocks_is_configuration Γ) := by
  rintro xs M Q E hl ⟨ns, v, rfl, h⟩
  walk_at "st"
  unfold t_Blocks_is_configuration
  walk_at "hd"
  rcases h with ⟨ph, ps, rfl, hn, hph, q⟩ | ⟨hb, q⟩
  · walk_at "hd"
    rw [if_pos (show ((([PV.int ph, PV.tup (ps.map ppP)] : List PV).length : Nat) : Int) = 2 from rfl)]
    walk_at "hd"
    refine ⟨.int ph, 0, 1, rfl, kn_int, ?_⟩
    rw [show isNum 0 1 (PV.int ph) = true by show (decide (0 ≤ ph) && decide (ph ≤ 1)) = true; rw [decide_eq_true hph.1, decide_eq_true hph.2]; rfl]
    walk_at "hd"
    refine ⟨line_lt (by rw [List.length_map]; omega), lc_mapF ppP (fun _ => PV.bl true) ps [] (fun p hp R hR => ?_) ?_⟩
    · walk_at "hd"
      refine ⟨_, rfl, fun y hy => ?_, hR⟩
      simp only [List.mem_cons, List.not_mem_nil, or_false] at hy
      rcases hy with rfl | rfl <;> exact kn_int
    rw [List.nil_append]
    walk_at "hd"
    refine w_allB (f := fun _ => true) ?_
    rw [show (ps.all fun _ => true) = true by rw [List.all_eq_true]; exact fun _ _ => rfl]
    walk_at "hd"
    rw [cutA_from1, ← List.drop_one, zip_adj]
    refine ⟨line_lt (by rw [List.length_map, List.length_zip, List.length_tail]; omega), lcT_map (fun pq : (Int × Int) × (Int × Int) => [ppP pq.1, ppP pq.2]) (fun pq => .bl (ltP pq.1 pq.2)) _ [] (fun pq _ => ⟨_, rfl, fun R hR => ?_⟩) ?_⟩
    · walk_at "hd"
      refine w_ltT (ns := [pq.1.1, pq.1.2]) (ms := [pq.2.1, pq.2.2]) ?_
      rw [ltP_lex]
      exact hR
    rw [List.nil_append]
    walk_at "hd"
    refine w_allB ?_
    exact q
  · rcases hb with ⟨ys, rfl⟩ | ⟨ph, pl, rfl, kp, hf⟩ | ⟨ys, rfl⟩ | ⟨qs, rfl, hn, kq, hf⟩
    · walk_at "hd"
      exact q
    · walk_at "hd"
      rw [if_pos (show ((([ph, pl] : List PV).length : Nat) : Int) = 2 from rfl)]
      walk_at "hd"
      refine ⟨ph, 0, 1, rfl, kp, ?_⟩
      rw [hf]
      walk_at "hd"
      exact q
    · walk_at "hd"
      rw [if_pos (show ((([PV.int 0, PV.lst ys] : List PV).length : Nat) : Int) = 2 from rfl)]
      walk_at "hd"
      refine ⟨.int 0, 0, 1, rfl, kn_int, ?_⟩
      rw [show isNum 0 1 (PV.int 0) = true from rfl]
      walk_at "hd"
      exact q
    · walk_at "hd"
      rw [if_pos (show ((([PV.int 0, PV.tup (qs.map PV.tup)] : List PV).length : Nat) : Int) = 2 from rfl)]
      walk_at "hd"
      refine ⟨.int 0, 0, 1, rfl, kn_int, ?_⟩
      rw [show isNum 0 1 (PV.int 0) = true from rfl]
      walk_at "hd"
      refine ⟨line_lt (by rw [List.length_map]; omega), lc_mapF PV.tup (fun ys => PV.bl (isPl ys)) qs [] (fun ys hy R hR => ?_) ?_⟩
      · walk_at "hd"
        exact ⟨ys, rfl, kq ys hy, hR⟩
      rw [List.nil_append]
      walk_at "hd"
      refine w_allB ?_
      rw [hf]
      walk_at "hd"
      exact q
end My
set_option Elab.async false
set_option linter.all false
set_option maxRecDepth 100000
namespace My
open PySem PL TM PD
local macro_rules | `(tactic| walk_at "hd") => `(tactic| repeat (first | (with_reducible refine w_cons ?_) | ((with_reducible refine' w_var ?_ ?_); rotate_left; exact rfl) | (with_reducible refine w_seq ?_) | (with_reducible refine w_C ?_) | (with_reducible refine w_nil ?_) | (with_reducible refine w_bin ?_) | (with_reducible refine w_tup ?_) | ((with_reducible refine' w_pset ?_ ?_); rotate_left; (intro x; first | with_reducible exact set_h0 | with_reducible exact set_h1 | with_reducible exact set_h2 | with_reducible exact set_h3 | with_reducible exact set_h4 | with_reducible exact set_h5 | with_reducible exact set_h6 | with_reducible exact set_h7 | with_reducible exact set_h8 | with_reducible exact set_h9 | with_reducible exact set_h10 | with_reducible exact set_h11 | with_reducible exact set_h12 | with_reducible exact set_h13 | with_reducible exact set_h14 | with_reducible exact set_h15 | with_reducible exact set_h16 | with_reducible exact set_h17 | with_reducible exact set_h18 | with_reducible exact set_h19 | with_reducible exact set_h20 | with_reducible exact set_h21 | with_reducible exact set_h22 | with_reducible exact set_h23 | with_reducible exact set_h24 | with_reducible exact set_h25)) | (with_reducible refine w_add ?_) | (with_reducible refine w_test ?_) | (with_reducible refine w_kB ?_) | (with_reducible refine w_call ?_) | (with_reducible refine w_ifs ?_) | (with_reducible refine w_next ?_) | ((with_reducible refine' w_gname ?_ ?_); rotate_left; (first | with_reducible exact set_h0 | with_reducible exact set_h1 | with_reducible exact set_h2 | with_reducible exact set_h3 | with_reducible exact set_h4 | with_reducible exact set_h5 | with_reducible exact set_h6 | with_reducible exact set_h7 | with_reducible exact set_h8 | with_reducible exact set_h9 | with_reducible exact set_h10 | with_reducible exact set_h11 | with_reducible exact set_h12 | with_reducible exact set_h13 | with_reducible exact set_h14 | with_reducible exact set_h15 | with_reducible exact set_h16 | with_reducible exact set_h17 | with_reducible exact set_h18 | with_reducible exact set_h19 | with_reducible exact set_h20 | with_reducible exact set_h21 | with_reducible exact set_h22 | with_reducible exact set_h23 | with_reducible exact set_h24 | with_reducible exact set_h25)) | (with_reducible refine w_ret ?_) | (with_reducible refine w_fld ?_) | (with_reducible refine w_ifd ?_) | ((with_reducible refine' w_fldO ?_ ?_); rotate_left; exact rfl) | (with_reducible refine w_gcons ?_) | (with_reducible refine w_callB ?_) | (with_reducible refine w_on1 ?_) | ((with_reducible refine w_mod ?_ ?_); (first | decide | omega)) | (with_reducible refine w_int ?_) | (with_reducible refine w_drop ?_) | (with_reducible refine w_for ?_) | (with_reducible refine w_I0 ?_) | (with_reducible refine w_ifF ?_) | (with_reducible refine w_part ?_) | (with_reducible refine w_partI ?_) | (with_reducible refine w_sl ?_) | (with_reducible refine w_nop ?_) | (with_reducible refine w_ifT ?_) | (with_reducible refine w_R1 ?_) | ((with_reducible refine w_R1I ?_ ?_); (first | decide | omega)) | (with_reducible refine w_gnil ?_) | (with_reducible refine w_ixtup0 ?_) | (with_reducible refine w_ifn ?_) | (with_reducible refine w_asg ?_) | ((with_reducible refine w_gtup ?_ ?_); exact rfl) | (with_reducible refine w_eqInt ?_) | (with_reducible refine w_ixtup1 ?_) | (with_reducible refine w_or ?_) | (with_reducible refine w_not ?_) | (with_reducible refine w_in_non ?_) | (with_reducible refine w_lc ?_) | ((with_reducible refine w_div ?_ ?_); (first | decide | omega)) | (with_reducible refine w_neg ?_) | (with_reducible refine w_negI ?_) | (with_reducible refine w_eqStr ?_) | (with_reducible refine w_slT ?_) | (with_reducible refine w_lentup ?_) | (with_reducible refine w_tupL ?_) | (with_reducible refine w_lstF ?_) | (with_reducible refine w_app ?_) | (with_reducible refine w_tisN ?_) | (with_reducible refine w_meth ?_) | ((with_reducible refine w_objO ?_ ?_); exact rfl) | (with_reducible refine w_lstM ?_) | (with_reducible refine w_ixtup2 ?_) | (with_reducible refine w_retF ?_) | (with_reducible refine w_iL ?_) | (with_reducible refine w_make ?_) | (with_reducible refine w_fldS ?_) | (with_reducible refine w_rg1 ?_) | (with_reducible refine w_dnew ?_) | (with_reducible refine w_piD ?_) | (with_reducible refine w_dctF ?_) | (with_reducible refine w_dc ?_) | (with_reducible refine w_dcF ?_) | (with_reducible refine w_piZ3 ?_) | (with_reducible refine w_piET ?_) | (with_reducible refine w_pIsD ?_) | (with_reducible refine w_dct1 ?_) | (with_reducible refine w_gsubD ?_) | (with_reducible refine w_lst ?_) | (with_reducible refine w_ixtup3 ?_) | (with_reducible refine w_lenlst ?_) | (with_reducible refine w_and ?_) | (with_reducible refine w_in_tup ?_) | ((with_reducible refine' w_aug ?_ ?_ ?_); rotate_left 2; exact rfl; (intro x; first | with_reducible exact set_h0 | with_reducible exact set_h1 | with_reducible exact set_h2 | with_reducible exact set_h3 | with_reducible exact set_h4 | with_reducible exact set_h5 | with_reducible exact set_h6 | with_reducible exact set_h7 | with_reducible exact set_h8 | with_reducible exact set_h9 | with_reducible exact set_h10 | with_reducible exact set_h11 | with_reducible exact set_h12 | with_reducible exact set_h13 | with_reducible exact set_h14 | with_reducible exact set_h15 | with_reducible exact set_h16 | with_reducible exact set_h17 | with_reducible exact set_h18 | with_reducible exact set_h19 | with_reducible exact set_h20 | with_reducible exact set_h21 | with_reducible exact set_h22 | with_reducible exact set_h23 | with_reducible exact set_h24 | with_reducible exact set_h25)) | (with_reducible refine w_lc2 ?_) | (with_reducible refine w_lcT ?_) | (with_reducible refine w_on2 ?_) | (with_reducible refine w_neInt ?_) | (with_reducible refine w_slL ?_) | (with_reducible refine w_tnotN ?_) | (with_reducible refine w_iT ?_) | (with_reducible refine w_tupF ?_) | (with_reducible refine w_par ?_) | ((with_reducible refine' w_kpar ?_ ?_ ?_); rotate_left 2; (first | with_reducible exact set_h0 | with_reducible exact set_h1 | with_reducible exact set_h2 | with_reducible exact set_h3 | with_reducible exact set_h4 | with_reducible exact set_h5 | with_reducible exact set_h6 | with_reducible exact set_h7 | with_reducible exact set_h8 | with_reducible exact set_h9 | with_reducible exact set_h10 | with_reducible exact set_h11 | with_reducible exact set_h12 | with_reducible exact set_h13 | with_reducible exact set_h14 | with_reducible exact set_h15 | with_reducible exact set_h16 | with_reducible exact set_h17 | with_reducible exact set_h18 | with_reducible exact set_h19 | with_reducible exact set_h20 | with_reducible exact set_h21 | with_reducible exact set_h22 | with_reducible exact set_h23 | with_reducible exact set_h24 | with_reducible exact set_h25); (first | with_reducible exact set_h0 | with_reducible exact set_h1 | with_reducible exact set_h2 | with_reducible exact set_h3 | with_reducible exact set_h4 | with_reducible exact set_h5 | with_reducible exact set_h6 | with_reducible exact set_h7 | with_reducible exact set_h8 | with_reducible exact set_h9 | with_reducible exact set_h10 | with_reducible exact set_h11 | with_reducible exact set_h12 | with_reducible exact set_h13 | with_reducible exact set_h14 | with_reducible exact set_h15 | with_reducible exact set_h16 | with_reducible exact set_h17 | with_reducible exact set_h18 | with_reducible exact set_h19 | with_reducible exact set_h20 | with_reducible exact set_h21 | with_reducible exact set_h22 | with_reducible exact set_h23 | with_reducible exact set_h24 | with_reducible exact set_h25)) | (with_reducible refine w_par3 ?_) | ((with_reducible refine' w_kpar3 ?_ ?_ ?_ ?_); rotate_left 3; (first | with_reducible exact set_h0 | with_reducible exact set_h1 | with_reducible exact set_h2 | with_reducible exact set_h3 | with_reducible exact set_h4 | with_reducible exact set_h5 | with_reducible exact set_h6 | with_reducible exact set_h7 | with_reducible exact set_h8 | with_reducible exact set_h9 | with_reducible exact set_h10 | with_reducible exact set_h11 | with_reducible exact set_h12 | with_reducible exact set_h13 | with_reducible exact set_h14 | with_reducible exact set_h15 | with_reducible exact set_h16 | with_reducible exact set_h17 | with_reducible exact set_h18 | with_reducible exact set_h19 | with_reducible exact set_h20 | with_reducible exact set_h21 | with_reducible exact set_h22 | with_reducible exact set_h23 | with_reducible exact set_h24 | with_reducible exact set_h25); (first | with_reducible exact set_h0 | with_reducible exact set_h1 | with_reducible exact set_h2 | with_reducible exact set_h3 | with_reducible exact set_h4 | with_reducible exact set_h5 | with_reducible exact set_h6 | with_reducible exact set_h7 | with_reducible exact set_h8 | with_reducible exact set_h9 | with_reducible exact set_h10 | with_reducible exact set_h11 | with_reducible exact set_h12 | with_reducible exact set_h13 | with_reducible exact set_h14 | with_reducible exact set_h15 | with_reducible exact set_h16 | with_reducible exact set_h17 | with_reducible exact set_h18 | with_reducible exact set_h19 | with_reducible exact set_h20 | with_reducible exact set_h21 | with_reducible exact set_h22 | with_reducible exact set_h23 | with_reducible exact set_h24 | with_reducible exact set_h25); (first | with_reducible exact set_h0 | with_reducible exact set_h1 | with_reducible exact set_h2 | with_reducible exact set_h3 | with_reducible exact set_h4 | with_reducible exact set_h5 | with_reducible exact set_h6 | with_reducible exact set_h7 | with_reducible exact set_h8 | with_reducible exact set_h9 | with_reducible exact set_h10 | with_reducible exact set_h11 | with_reducible exact set_h12 | with_reducible exact set_h13 | with_reducible exact set_h14 | with_reducible exact set_h15 | with_reducible exact set_h16 | with_reducible exact set_h17 | with_reducible exact set_h18 | with_reducible exact set_h19 | with_reducible exact set_h20 | with_reducible exact set_h21 | with_reducible exact set_h22 | with_reducible exact set_h23 | with_reducible exact set_h24 | with_reducible exact set_h25)) | (with_reducible refine w_rg2 ?_) | (with_reducible refine w_asT ?_) | (with_reducible refine w_kTp ?_) | (with_reducible refine w_pdget2 ?_) | (with_reducible refine w_zT ?_) | (with_reducible refine w_dct ?_) | (with_reducible refine w_listL ?_) | (with_reducible refine w_andV ?_) | (with_reducible refine w_isN ?_) | (with_reducible refine w_cnt ?_) | (with_reducible refine w_retD ?_) | ((with_reducible refine' w_isi_i ?_ ?_); rotate_left; (first | with_reducible exact kit_ib | with_reducible exact kit_ii | with_reducible exact kit_it | with_reducible exact kit_il | with_reducible exact kit_is)) | ((with_reducible refine' w_isi_t ?_ ?_); rotate_left; (first | with_reducible exact kit_tb | with_reducible exact kit_ti | with_reducible exact kit_tt | with_reducible exact kit_tl | with_reducible exact kit_ts)) | (with_reducible refine w_lc2M ?_) | (with_reducible refine w_lcM ?_) | (with_reducible refine w_catN ?_) | (with_reducible refine w_tcnt ?_) | (with_reducible refine w_kTCnt ?_) | (with_reducible refine w_catR ?_) | (with_reducible refine w_tidx ?_) | (with_reducible refine w_pdget1 ?_) | (with_reducible refine w_rv ?_) | (with_reducible refine w_z ?_) | (with_reducible refine w_gsub ?_) | (with_reducible refine w_ixlst0 ?_) | (with_reducible refine w_ixlst1 ?_) | (with_reducible refine w_slS ?_) | (with_reducible refine w_abs ?_) | (with_reducible refine w_listML ?_) | (with_reducible refine w_notB ?_) | (with_reducible refine w_brk ?_) | (with_reducible refine w_fzE ?_) | ((with_reducible refine' w_isi_l ?_ ?_); rotate_left; (first | with_reducible exact kit_lb | with_reducible exact kit_li | with_reducible exact kit_lt | with_reducible exact kit_ll | with_reducible exact kit_ls)) | (with_reducible refine w_join ?_) | (with_reducible refine w_kStr ?_) | (with_reducible refine w_zL ?_) | (with_reducible refine w_tupRg ?_) | ((with_reducible refine w_shr ?_ ?_); (first | decide | omega)) | (with_reducible refine w_retN ?_) | (with_reducible refine w_dnx ?_) | (with_reducible refine w_drt ?_) | (with_reducible refine w_dbk ?_) | (with_reducible refine w_eqBl ?_) | (with_reducible refine w_neBl ?_) | (with_reducible refine w_neStr ?_) | (with_reducible refine w_ixlst2 ?_) | (with_reducible refine w_ixlst3 ?_) | (with_reducible refine w_ixtup4 ?_) | (with_reducible refine w_ixlst4 ?_) | (with_reducible refine w_ixtup5 ?_) | (with_reducible refine w_ixlst5 ?_) | (with_reducible refine w_need ?_) | (with_reducible refine w_lenscr ?_) | (with_reducible refine w_listT ?_) | (with_reducible refine w_listS ?_) | (with_reducible refine w_tupT ?_) | (with_reducible refine w_listMT ?_) | (with_reducible refine w_orV ?_) | (with_reducible refine w_notV ?_) | (with_reducible refine w_if ?_) | (with_reducible refine w_notN ?_) | (with_reducible refine w_in_int ?_) | (with_reducible refine w_in_lst ?_) | (with_reducible refine w_in_ptr ?_) | (with_reducible refine w_in_str ?_) | (with_reducible refine w_in_bl ?_) | (with_reducible refine w_isB ?_) | (with_reducible refine w_lstFs ?_) | (with_reducible refine w_R2 ?_) | (with_reducible refine w_forM ?_) | (with_reducible refine w_lcnil ?_) | (with_reducible refine w_lccons ?_) | (with_reducible refine w_retFD ?_) | (with_reducible refine w_raise ?_) | (with_reducible refine w_raiseF ?_) | (with_reducible refine w_tryF ?_) | (with_reducible refine w_isFp ?_) | (with_reducible refine w_isFx ?_) | ((with_reducible refine' w_xf ?_ ?_); rotate_left; exact rfl) | (with_reducible refine w_try ?_) | (with_reducible refine w_lstRg ?_) | (with_reducible refine w_lstRev ?_) | (with_reducible refine w_tupRevL ?_) | (with_reducible refine w_tupN ?_) | (with_reducible refine w_tupDL ?_) | (with_reducible refine w_lenSet ?_) | (with_reducible refine w_lstRg2 ?_) | (with_reducible refine w_sum ?_) | (with_reducible refine w_tupRevLK ?_) | (with_reducible refine w_lstRevK ?_) | (with_reducible refine w_pop ?_) | (with_reducible refine w_rev ?_) | (with_reducible refine w_revL ?_) | (with_reducible refine w_forE ?_) | ((with_reducible refine' w_isi_b ?_ ?_); rotate_left; (first | with_reducible exact kit_bb | with_reducible exact kit_bi | with_reducible exact kit_bt | with_reducible exact kit_bl | with_reducible exact kit_bs)) | ((with_reducible refine' w_isi_s ?_ ?_); rotate_left; (first | with_reducible exact kit_sb | with_reducible exact kit_si | with_reducible exact kit_st | with_reducible exact kit_sl | with_reducible exact kit_ss)) | ((with_reducible refine' w_isi_n ?_ ?_); rotate_left; (first | with_reducible exact kit_nb | with_reducible exact kit_ni | with_reducible exact kit_nt | with_reducible exact kit_nl | with_reducible exact kit_ns))))
local macro_rules | `(tactic| walk_at "st") => `(tactic| simp only [pstart, List.map_cons, List.map_nil, List.cons_append, List.nil_append, List.length_cons, List.length_nil, List.replicate, Nat.reduceSub, Nat.reduceAdd, Nat.zero_add])
theorem pick_perm {L : List Int} {k : Nat} (h : k < L.length) : (L[k] :: L.eraseIdx k).Perm L := by
  induction L generalizing k with
  | nil => exact absurd h (Nat.not_lt_zero _)
  | cons a L ih =>
    cases k with
    | zero => exact List.Perm.refl _
    | succ k =>
      have h' : k < L.length := by simpa using h
      exact (List.Perm.swap a L[k] (L.eraseIdx k)).trans (List.Perm.cons a (ih h'))
theorem w_popI {p : Addr} {k : Int} {M : Mem} {L : List Int} {Q : PQ} (m : M p = some (.lst (L.map .int))) (h0 : 0 ≤ k) (h1 : k < L.length) (hz : L.length < 1000000) (h : ∀ v (L' : List Int), (v :: L').Perm L → L'.length + 1 = L.length → Q (.int v) (M.put p (.lst (L'.map .int)))) : kPop (.ptr p) (.int k) M Q := by
  have h2 : k.toNat < L.length := by omega
  show (match M p with | some (.lst xs) => (0 ≤ k ∧ k < xs.length ∧ xs.length < 2 ^ 62) ∧ need xs[k.toNat]? fun y => Q y (M.put p (.lst (xs.eraseIdx k.toNat))) | _ => False)
  rw [m]
  refine ⟨⟨h0, by rw [List.length_map]; omega, by rw [List.length_map]; omega⟩, need_by (a := .int L[k.toNat]) (by rw [List.getElem?_map, List.getElem?_eq_getElem h2]; rfl) ?_⟩
  have em : ∀ (L : List Int) (k : Nat), (L.map PV.int).eraseIdx k = (L.eraseIdx k).map .int := by
    intro L
    induction L with
    | nil => intro k; rfl
    | cons a L ih =>
      intro k
      cases k with
      | zero => rfl
      | succ k => exact congrArg _ (ih k)
  rw [em]
  exact h _ _ (pick_perm h2) (by rw [List.length_eraseIdx, if_pos h2]; omega)
theorem w_appM {p : Addr} {xs : List PV} {x : PV} {M : Mem} {Q : PQ} (m : M p = some (.lst xs)) (hl : xs.length < 1000000) (h : Q .non (M.put p (.lst (xs ++ [x])))) : kApp (.ptr p) x M Q := by
  rw [app_ptr m (line_lt' (by omega))]
  exact h
theorem perm_ok {ns : List Int} (h : ns.Perm all16) (h0 : ns.head? = some 0) : okRule ns = true :=
  okR_mk (fun n hn => mem16.mp (h.mem_iff.mp hn)) (by rw [h.length_eq]; decide) h0 (h.nodup_iff.mpr nodup16)
theorem k_law_values (Γ : Ctx) : Keeps (t_law_values Γ) 1 5 (sp_law_values Γ) := by
  rintro xs M Q E hl ⟨c, rfl, q⟩
  walk_at "st"
  unfold t_law_values
  walk_at "hd"
  refine ⟨c, 15, 840, rfl, by decide, ⟨by decide, by decide⟩, fun ds hld hds => ?_⟩
  walk_at "hd"
  refine ⟨⟨by decide, by decide, by decide, by decide⟩, fun a ha => ?_⟩
  walk_at "hd"
  intro b hb
  have ab : a ≠ b := fun e => by rw [← e, put_same] at hb; cases hb
  have hb0 : M b = none := by rw [put_ne (Ne.symm ab)] at hb; exact hb
  walk_at "hd"
  rw [show rngP 1 ((16 : Int) - 1).toNat = ((List.range 15).map fun (i : Nat) => 1 + (i : Int)).map PV.int by unfold rngP; rw [List.map_map]; rfl]
  refine for_rng (fun i σ M' => ∃ (L V : List Int) (x4 : Option PV), L.length + i = 15 ∧ (V ++ L).Perm all16 ∧ V.head? = some 0 ∧ M' = (M.put a (.lst (L.map .int))).put b (.lst (V.map .int)) ∧ σ = [some (.int c), some (lI ds), some (.ptr a), some (.ptr b), x4]) ⟨(List.range 15).map fun (i : Nat) => 1 + (i : Int), [0], none, by decide, by decide, rfl, rfl, rfl⟩ ?_ ?_
  · rintro i σ M' K hi ⟨L, V, x4, hL, hp, hV, rfl, rfl⟩ hK
    have hi15 : i < 15 := hi
    have hlen := hp.length_eq
    rw [List.length_append, show all16.length = 16 from rfl] at hlen
    unfold b_law_values_1 lI
    walk_at "hd"
    refine ⟨lst_nn, ?_⟩
    walk_at "hd"
    refine ⟨(by rw [lstOf_ptr (show _ = some _ by rw [put_ne ab]; exact put_same)]; exact (fun z => nomatch z)), ?_⟩
    walk_at "hd"
    refine w_ixL (at_Ik (n := i) (by omega) (by omega)) ?_
    walk_at "hd"
    rw [len_ptr (show _ = some _ by rw [put_ne ab]; exact put_same), List.length_map]
    refine ⟨by omega, ?_⟩
    dsimp only
    refine w_popI (by rw [put_ne ab]; exact put_same) (Int.emod_nonneg _ (by omega)) (Int.emod_lt_of_pos _ (by omega)) (by omega) fun v L' hpv hlv => ?_
    rw [put_swap (Ne.symm ab), put_put]
    refine w_appM put_same (by rw [List.length_map]; omega) ?_
    rw [put_put]
    refine hK _ _ ⟨L', V ++ [v], _, by omega, ?_, by rw [List.head?_append, hV]; rfl, by rw [List.map_append]; rfl, rfl⟩
    rw [List.append_assoc]
    exact (List.Perm.append_left V hpv).trans hp
  · rintro σ M' ⟨L, V, x4, hL, hp, hV, rfl, rfl⟩
    have hL0 : L = [] := List.eq_nil_of_length_eq_zero (by have : ((15 : Int) - 0).toNat = 15 := rfl; omega)
    subst hL0
    rw [List.append_nil] at hp
    walk_at "hd"
    refine w_tupD (lstOf_ptr put_same) ?_
    show Q _ ((((M.put a _).put b _).drop a).drop b)
    rw [put_drop_swap (Ne.symm ab), put_drop ha, put_drop hb0]
    exact q _ (perm_ok hp hV)
/-! keeping rules -/
def vAt (V : List Int) (b : Nat) : Int := (V[b]?).getD 0
def grp : List (List Nat) := [[1, 2, 4, 8], [3, 5, 6, 9, 10, 12], [7, 11, 13, 14]]
def dn (g : Nat) : List Nat := (grp.take g).flatten
def iI (l : List Nat) : List Int := l.map fun (b : Nat) => (b : Int)
theorem vAt_set {V : List Int} {b : Nat} {v : Int} (hb : b < V.length) : vAt (V.set b v) b = v := by
  unfold vAt
  rw [List.getElem?_set_self hb]
  rfl
theorem vAt_set_ne {V : List Int} {b c : Nat} {v : Int} (h : b ≠ c) : vAt (V.set b v) c = vAt V c := by
  unfold vAt
  rw [List.getElem?_set_ne h]
structure Kp (V : List Int) (D : List Nat) : Prop where
  len : V.length = 16
  pm : (D.map (vAt V)).Perm (iI D)
  rest : ∀ i < 16, i ∉ D → vAt V i = (i : Int)
structure KpI (V : List Int) (D g : List Nat) (j : Nat) (L : List Int) : Prop where
  len : V.length = 16
  pm : (D.map (vAt V)).Perm (iI D)
  pg : ((g.take j).map (vAt V) ++ L).Perm (iI g)
  rest : ∀ i < 16, i ∉ D → i ∉ g.take j → vAt V i = (i : Int)
theorem kp_step {V : List Int} {D g : List Nat} {j : Nat} {L L' : List Int} {v : Int} (hj : j < g.length) (gn : g.Nodup) (gd : ∀ b ∈ g, b ∉ D) (g16 : ∀ b ∈ g, b < 16) (h : KpI V D g j L) (hp : (v :: L').Perm L) : KpI (V.set g[j] v) D g (j + 1) L' := by
  have hb := g16 _ (List.getElem_mem hj)
  have tk : g.take (j + 1) = g.take j ++ [g[j]] := by rw [List.take_succ, List.getElem?_eq_getElem hj]; rfl
  have nt : g[j] ∉ g.take j := fun hm => by
    have h2 := gn
    rw [← List.take_append_drop j g, List.nodup_append] at h2
    refine h2.2.2 _ hm _ ?_ rfl
    rw [List.drop_eq_getElem_cons hj]
    exact List.mem_cons_self
  have same : ∀ l : List Nat, g[j] ∉ l → l.map (vAt (V.set g[j] v)) = l.map (vAt V) := fun l hl => List.map_congr_left fun c hc => vAt_set_ne fun e => hl (e ▸ hc)
  refine ⟨by rw [List.length_set]; exact h.len, by rw [same D (gd _ (List.getElem_mem hj))]; exact h.pm, ?_, fun i hi h1 h2 => ?_⟩
  · rw [tk, List.map_append, same _ nt, List.map_singleton, vAt_set (by rw [h.len]; exact hb), List.append_assoc]
    exact (List.Perm.append_left _ hp).trans h.pg
  · rw [tk] at h2
    rw [vAt_set_ne fun e => h2 (List.mem_append_right _ (by rw [e]; exact List.mem_singleton.mpr rfl))]
    exact h.rest i hi h1 fun hm => h2 (List.mem_append_left _ hm)
theorem kp_group {V : List Int} {D g : List Nat} {L : List Int} (h : KpI V D g g.length L) (hL : L = []) : Kp V (D ++ g) := by
  subst hL
  have pg := h.pg
  rw [List.take_length, List.append_nil] at pg
  refine ⟨h.len, ?_, fun i hi hm => h.rest i hi (fun h1 => hm (List.mem_append_left _ h1)) fun h1 => hm (List.mem_append_right _ (by rw [List.take_length] at h1; exact h1))⟩
  unfold iI
  rw [List.map_append, List.map_append]
  exact h.pm.append pg
theorem kp_all {V : List Int} (h : Kp V (dn 3)) : okRule V = true := by
  have e : V = (List.range 16).map (vAt V) := by
    refine List.ext_getElem (by rw [h.len, List.length_map, List.length_range]) fun i h1 h2 => ?_
    rw [List.getElem_map, List.getElem_range]
    unfold vAt
    rw [List.getElem?_eq_getElem h1]
    rfl
  have p16 : (List.range 16).Perm ([0, 15] ++ dn 3) := by decide
  have p2 : V.Perm (([0, 15] ++ dn 3).map (vAt V)) := by
    have := p16.map (vAt V)
    rw [← e] at this
    exact this
  have r0 := h.rest 0 (by decide) (by decide)
  have r15 := h.rest 15 (by decide) (by decide)
  refine perm_ok ?_ ?_
  · refine p2.trans ?_
    rw [List.map_append]
    refine (List.Perm.append_left _ h.pm).trans ?_
    show ([vAt V 0, vAt V 15] ++ iI (dn 3)).Perm all16
    rw [r0, r15]
    decide
  · unfold vAt at r0
    rw [List.head?_eq_getElem?]
    have : (0 : Nat) < V.length := by rw [h.len]; decide
    rw [List.getElem?_eq_getElem this] at r0 ⊢
    exact congrArg some r0
theorem k_law_keeping (Γ : Ctx) : Keeps (t_law_keeping Γ) 1 7 (sp_law_keeping Γ) := by
  rintro xs M Q E hl ⟨c, rfl, q⟩
  walk_at "st"
  unfold t_law_keeping
  walk_at "hd"
  refine ⟨c, 14, 840, rfl, by decide, ⟨by decide, by decide⟩, fun ds hld hds => ?_⟩
  walk_at "hd"
  refine ⟨⟨by decide, by decide⟩, fun a ha => ?_⟩
  walk_at "hd"
  rw [show rngP 0 (16 : Int).toNat = ((List.range 16).map fun (i : Nat) => (i : Int)).map PV.int by unfold rngP; rw [List.map_map]; exact List.map_congr_left fun i _ => congrArg PV.int (Int.zero_add _)]
  have hpl : (PV.lst [PV.lst [PV.int 1, PV.int 2, PV.int 4, PV.int 8], PV.lst [PV.int 3, PV.int 5, PV.int 6, PV.int 9, PV.int 10, PV.int 12], PV.lst [PV.int 7, PV.int 11, PV.int 13, PV.int 14]]) = .lst (grp.map fun g => PV.lst (g.map fun (b : Nat) => PV.int b)) := rfl
  refine for_in (fun g σ M' => ∃ (V : List Int) (x4 x5 x6 : Option PV), Kp V (dn g) ∧ (x5 = none ∨ ∃ l, x5 = some (.ptr l) ∧ (M.put a (.lst (V.map .int))) l = none) ∧ M' = M.put a (.lst (V.map .int)) ∧ σ = [some (.int c), some (lI ds), some (.ptr a), some (.int ((dn g).length : Nat)), x4, x5, x6]) ⟨(List.range 16).map fun (i : Nat) => (i : Int), none, none, none, ⟨by decide, List.Perm.refl _, fun i hi _ => ?_⟩, .inl rfl, rfl, rfl⟩ ?_ ?_
  · unfold vAt
    rw [List.getElem?_map, List.getElem?_range hi]
    rfl
  · rintro g x σ M' K hx ⟨V, x4, x5, x6, hV, h5, rfl, rfl⟩ hK
    have hg : g < 3 := by
      have := (List.getElem?_eq_some_iff.mp hx).1
      exact this
    obtain ⟨G, hG, rfl⟩ : ∃ G, grp[g]? = some G ∧ x = PV.lst (G.map fun (b : Nat) => PV.int b) := by
      have hx' : (grp.map fun g => PV.lst (g.map fun (b : Nat) => PV.int b))[g]? = some x := hx
      rw [List.getElem?_map] at hx'
      cases h : grp[g]? with
      | none => rw [h] at hx'; cases hx'
      | some G => rw [h] at hx'; exact ⟨G, rfl, (Option.some.inj hx').symm⟩
    have fin : ∀ g < 3, ∀ G, grp[g]? = some G → G.Nodup ∧ (∀ b ∈ G, b ∉ dn g) ∧ (∀ b ∈ G, b < 16) ∧ (dn g).length + G.length ≤ 14 ∧ dn (g + 1) = dn g ++ G := by
      intro g hg G hG
      match g, hg with
      | 0, _ => cases hG; decide
      | 1, _ => cases hG; decide
      | 2, _ => cases hG; decide
    obtain ⟨f1, f2, f3, f4, f5⟩ := fin g hg G hG
    unfold b_law_keeping_1
    walk_at "hd"
    intro l hl
    have al : a ≠ l := fun e => by rw [← e, put_same] at hl; cases hl
    walk_at "hd"
    rw [show G.map (fun (b : Nat) => PV.int (b : Int)) = (iI G).map PV.int by unfold iI; rw [List.map_map]; rfl]
    refine for_in (fun j σ M' => ∃ (V' L : List Int) (x6 : Option PV), KpI V' (dn g) G j L ∧ M' = (M.put a (.lst (V'.map .int))).put l (.lst (L.map .int)) ∧ σ = [some (.int c), some (lI ds), some (.ptr a), some (.int ((dn g).length + j : Nat)), some (.lst ((iI G).map PV.int)), some (.ptr l), x6]) ⟨V, iI G, x6, ⟨hV.len, hV.pm, List.Perm.refl _, fun i hi h1 _ => hV.rest i hi h1⟩, rfl, rfl⟩ ?_ ?_
    · rintro j y σ M' K hy ⟨V', L, x6, kp, rfl, rfl⟩ hK
      have hj : j < G.length := by
        have := (List.getElem?_eq_some_iff.mp hy).1
        rw [List.length_map] at this
        unfold iI at this
        rw [List.length_map] at this
        exact this
      obtain rfl : y = PV.int (G[j] : Nat) := by
        unfold iI at hy
        rw [List.map_map, List.getElem?_map, List.getElem?_eq_getElem hj] at hy
        exact (Option.some.inj hy).symm
      have hLl : L.length + j = G.length := by
        have := kp.pg.length_eq
        rw [List.length_append, List.length_map, List.length_take] at this
        unfold iI at this
        rw [List.length_map] at this
        omega
      have hb16 := f3 _ (List.getElem_mem hj)
      unfold b_law_keeping_2
      walk_at "hd"
      refine ⟨lst_nn, ?_⟩
      unfold lI
      walk_at "hd"
      refine w_ixL (at_Ik (n := (dn g).length + j) rfl (by omega)) ?_
      walk_at "hd"
      rw [len_ptr put_same, List.length_map]
      refine ⟨by omega, ?_⟩
      dsimp only
      refine w_popI put_same (Int.emod_nonneg _ (by omega)) (Int.emod_lt_of_pos _ (by omega)) (by omega) fun v L' hpv hlv => ?_
      rw [put_put]
      walk_at "hd"
      rw [set_ptr (show _ = some _ by rw [put_ne al]; exact put_same) (by omega) (by rw [List.length_map, kp.len]; omega), put_swap (Ne.symm al), put_put, Int.toNat_natCast]
      walk_at "hd"
      refine hK _ _ ⟨V'.set G[j] v, L', some (PV.int (G[j] : Nat)), kp_step hj f1 f2 f3 kp hpv, ?_, ?_⟩
      · rw [List.map_set]
      · rw [show (((dn g).length + j : Nat) : Int) + 1 = (((dn g).length + (j + 1) : Nat) : Int) by omega]
        rfl
    · rintro σ M' ⟨V', L, x6, kp, rfl, rfl⟩
      have hlG : ((iI G).map PV.int).length = G.length := by unfold iI; rw [List.length_map, List.length_map]
      rw [hlG] at kp ⊢
      have hL0 : L = [] := List.eq_nil_of_length_eq_zero (by
        have := kp.pg.length_eq
        rw [List.length_append, List.length_map, List.length_take] at this
        unfold iI at this
        rw [List.length_map] at this
        omega)
      have kg := kp_group kp hL0
      rw [← f5] at kg
      have hl0 : M l = none := by rw [put_ne (Ne.symm al)] at hl; exact hl
      dsimp only
      refine w_dropAt rfl ?_
      rw [put_drop (show (M.put a _) l = none by rw [put_ne (Ne.symm al)]; exact hl0)]
      rw [← List.length_append, ← f5]
      exact hK _ _ ⟨V', _, _, _, kg, .inr ⟨l, rfl, by rw [put_ne (Ne.symm al)]; exact hl0⟩, rfl, rfl⟩
  · rintro σ M' ⟨V, x4, x5, x6, hV, h5, rfl, rfl⟩
    walk_at "hd"
    refine w_tupD (lstOf_ptr put_same) ?_
    rcases h5 with rfl | ⟨l, rfl, hl5⟩
    · show Q _ ((M.put a _).drop a)
      rw [put_drop ha]
      exact q _ (kp_all hV)
    · show Q _ (((M.put a _).drop a).drop l)
      have hla : l ≠ a := fun e => by rw [e, put_same] at hl5; cases hl5
      rw [put_ne hla] at hl5
      rw [put_drop ha, show M.drop l = M from by funext z; by_cases hz : z = l; · subst hz; rw [drop_same, hl5]
                                                 · rw [drop_ne hz]]
      exact q _ (kp_all hV)
/-! places in order -/
def dP2 (p : Int × Int) : PyData := .tuple [.int p.1, .int p.2]
theorem toDs_gen {α : Type} {f : α → PV} {g : α → PyData} (h : ∀ x, toD (f x) = some (g x)) : ∀ xs : List α, toDs (xs.map f) = some (xs.map g)
  | [] => rfl
  | t :: ts => by
    show (match toD (f t), toDs (ts.map f) with | some d, some ds => some (d :: ds) | _, _ => none) = _
    rw [h t, toDs_gen h ts]
    rfl
theorem dep_gen {α : Type} {g : α → PyData} {n : Nat} (h : ∀ x, (g x).depth ≤ n) : ∀ xs : List α, PyData.depthAll (xs.map g) ≤ n
  | [] => Nat.zero_le _
  | t :: ts => by
    show max (g t).depth (PyData.depthAll (ts.map g)) ≤ n
    exact Nat.max_le.mpr ⟨h t, dep_gen h ts⟩
theorem any_gen {α : Type} {g : α → PyData} (he : ∀ x y, PyData.eqv (g x) (g y) = true ↔ x = y) (x : α) (xs : List α) : ((xs.map g).any fun z => PyData.eqv z (g x)) = true ↔ x ∈ xs := by
  rw [List.any_eq_true]
  constructor
  · rintro ⟨z, hz, e⟩
    obtain ⟨y, hy, rfl⟩ := List.mem_map.mp hz
    rw [(he y x).mp e] at hy
    exact hy
  · exact fun h => ⟨g x, List.mem_map.mpr ⟨x, h, rfl⟩, (he x x).mpr rfl⟩
theorem inL_gen {α : Type} {f : α → PV} {g : α → PyData} (hM : ∀ M x, toM M (f x) = some (g x)) (hD : ∀ x, toD (f x) = some (g x)) (hd : ∀ x, (g x).depth ≤ 10) (he : ∀ x y, PyData.eqv (g x) (g y) = true ↔ x = y) {M : Mem} {p : Addr} {xs : List α} {x : α} {F : Bool → Bool} {Q : PQ} (hp : M p = some (.lst (xs.map f))) (h : ∀ b, (b = true ↔ x ∈ xs) → Q (.bl (F b)) M) : inLP F (f x) (.ptr p) M Q := by
  refine need_by (hM M x) (need_by (a := PyData.list (xs.map g)) ?_ ⟨?_, ?_, xs.map g, rfl, ?_⟩)
  · show (match M p with | some (.lst xs) => (toDs xs).map PyData.list | _ => none) = _
    rw [hp]
    show (toDs (xs.map f)).map PyData.list = _
    rw [toDs_gen hD]
    rfl
  · have := hd x
    omega
  · show PyData.depthAll (xs.map g) + 1 ≤ 64
    have := dep_gen hd xs
    omega
  · exact h _ (any_gen he x xs)
theorem toD_pp (p : Int × Int) : toD (ppP p) = some (dP2 p) := rfl
theorem toDs_pp (l : List (Int × Int)) : toDs (l.map ppP) = some (l.map dP2) := toDs_gen toD_pp l
theorem eqv_pp (u v : Int × Int) : PyData.eqv (dP2 u) (dP2 v) = true ↔ u = v := by
  obtain ⟨a, b⟩ := u
  obtain ⟨c, d⟩ := v
  show ((a == c) && ((b == d) && true)) = true ↔ _
  by_cases h1 : a = c <;> by_cases h2 : b = d <;> simp [h1, h2]
theorem dep_pp (u : Int × Int) : (dP2 u).depth ≤ 10 := by show max 0 (max 0 0) + 1 ≤ 10; decide
theorem w_inPp {M : Mem} {p : Addr} {us : List (Int × Int)} {u : Int × Int} {F : Bool → Bool} {Q : PQ} (hp : M p = some (.lst (us.map ppP))) (h : ∀ c, (c = true ↔ u ∈ us) → Q (.bl (F c)) M) : inLP F (ppP u) (.ptr p) M Q :=
  inL_gen (f := ppP) (g := dP2) (x := u) (fun _ x => toD_pp x) toD_pp dep_pp eqv_pp hp h
theorem sortZ_pp (ps : List (Int × Int)) : sortZ (ps.map ppP) (ps.map dP2) = (ps.mergeSort leP).map ppP := by
  unfold sortZ
  have h := PySem.W.sort_maps (r := leP) (s := PySem.W.dataLe false Prod.snd) (fun p : Int × Int => (ppP p, dP2 p)) (l := ps) (fun a _ b _ => by
    have := congrFun (congrFun (PySem.W.dataLe_ii (β := Int × Int) Prod.fst Prod.snd) a) b
    exact this.symm)
  have e : (ps.map ppP).zip (ps.map dP2) = ps.map fun p : Int × Int => (ppP p, dP2 p) := by
    induction ps with
    | nil => rfl
    | cons a r ih => exact congrArg (_ :: ·) (ih (by
      exact PySem.W.sort_maps (r := leP) (s := PySem.W.dataLe false Prod.snd) (fun p : Int × Int => (ppP p, dP2 p)) (l := r) (fun a _ b _ => (congrFun (congrFun (PySem.W.dataLe_ii (β := Int × Int) Prod.fst Prod.snd) a) b).symm)))
  rw [e, ← h, List.map_map]
  rfl
theorem k_law_places (Γ : Ctx) : Keeps (t_law_places Γ) 3 6 (sp_law_places Γ) := by
  rintro xs M Q E hl ⟨ds, wide, far, rfl, hld, hw, q⟩
  walk_at "st"
  unfold t_law_places lI
  walk_at "hd"
  intro a ha
  walk_at "hd"
  refine for_in (fun i σ M' => ∃ (ps : List (Int × Int)) (x4 x5 : Option PV), ps.length ≤ i ∧ ps.Nodup ∧ (0 < i → ps ≠ []) ∧ M' = M.put a (.lst (ps.map ppP)) ∧ σ = [some (.lst (ds.map .int)), some (.int wide), some (.int far), some (.ptr a), x4, x5]) ⟨[], none, none, Nat.le_refl _, List.nodup_nil, (fun h => absurd h (by decide)), rfl, rfl⟩ ?_ ?_
  · rintro i x σ M' K hx ⟨ps, x4, x5, hlp, hn, hne, rfl, rfl⟩ hK
    have hi : i < ds.length := by
      have := (List.getElem?_eq_some_iff.mp hx).1
      rwa [List.length_map] at this
    obtain ⟨d, rfl⟩ : ∃ d : Int, x = .int d := by
      rw [List.getElem?_map, List.getElem?_eq_getElem hi] at hx
      exact ⟨_, (Option.some.inj hx).symm⟩
    unfold b_law_places_1
    walk_at "hd"
    try (refine ⟨⟨by omega, by omega⟩, ?_⟩; walk_at "hd")
    have eu : (PV.tup [PV.int (d % wide - wide / 2 + far), PV.int (d / wide % wide - wide / 2 - far)]) = ppP (d % wide - wide / 2 + far, d / wide % wide - wide / 2 - far) := rfl
    generalize hu : ((d % wide - wide / 2 + far, d / wide % wide - wide / 2 - far) : Int × Int) = u at eu
    rw [eu]
    refine w_inPp put_same fun b hb => ?_
    cases b with
    | true =>
      walk_at "hd"
      exact hK _ _ ⟨ps, _, _, by omega, hn, (fun _ e => by rw [e] at hb; exact absurd (hb.mp rfl) List.not_mem_nil), rfl, rfl⟩
    | false =>
      walk_at "hd"
      refine ⟨(by rw [lstOf_ptr put_same]; exact (fun z => nomatch z)), ?_⟩
      walk_at "hd"
      refine w_appM put_same (by rw [List.length_map]; omega) ?_
      rw [put_put]
      refine hK _ _ ⟨ps ++ [u], _, _, by rw [List.length_append, List.length_singleton]; omega, ?_, (fun _ e => by simp at e), by rw [List.map_append]; rfl, rfl⟩
      refine List.nodup_append.mpr ⟨hn, by simp, fun x hx y hy e => ?_⟩
      rw [List.mem_singleton.mp hy] at e
      rw [e] at hx
      exact absurd (hb.mpr hx) Bool.false_ne_true
  · rintro σ M' ⟨ps, x4, x5, hlp, hn, hne, rfl, rfl⟩
    rw [List.length_map] at hlp hne
    walk_at "hd"
    refine w_sortD (lstOf_ptr put_same) (toDs_pp ps) ?_ ?_ ?_ ?_
    · intro d hd d' hd'
      obtain ⟨u, _, rfl⟩ := List.mem_map.mp hd
      obtain ⟨v, _, rfl⟩ := List.mem_map.mp hd'
      rfl
    · exact PySem.W.Sortable.tuples fun b => ⟨_, _, rfl⟩
    · intro d hd
      obtain ⟨u, _, rfl⟩ := List.mem_map.mp hd
      have := dep_pp u
      omega
    · rw [sortZ_pp]
      have h := srt_pp hn
      show Q _ ((M.put a _).drop a)
      rw [put_drop ha]
      exact q _ (by rw [h.2.length_eq]; omega) (fun h0 e => hne h0 (List.eq_nil_of_length_eq_zero (by rw [← h.2.length_eq, e]; rfl))) h.1
end My
set_option Elab.async false
set_option linter.all false
set_option maxRecDepth 100000
namespace My
open PySem PL TM PD
local macro_rules | `(tactic| walk_at "hd") => `(tactic| repeat (first | (with_reducible refine w_cons ?_) | ((with_reducible refine' w_var ?_ ?_); rotate_left; exact rfl) | (with_reducible refine w_seq ?_) | (with_reducible refine w_C ?_) | (with_reducible refine w_nil ?_) | (with_reducible refine w_bin ?_) | (with_reducible refine w_tup ?_) | ((with_reducible refine' w_pset ?_ ?_); rotate_left; (intro x; first | with_reducible exact set_h0 | with_reducible exact set_h1 | with_reducible exact set_h2 | with_reducible exact set_h3 | with_reducible exact set_h4 | with_reducible exact set_h5 | with_reducible exact set_h6 | with_reducible exact set_h7 | with_reducible exact set_h8 | with_reducible exact set_h9 | with_reducible exact set_h10 | with_reducible exact set_h11 | with_reducible exact set_h12 | with_reducible exact set_h13 | with_reducible exact set_h14 | with_reducible exact set_h15 | with_reducible exact set_h16 | with_reducible exact set_h17 | with_reducible exact set_h18 | with_reducible exact set_h19 | with_reducible exact set_h20 | with_reducible exact set_h21 | with_reducible exact set_h22 | with_reducible exact set_h23 | with_reducible exact set_h24 | with_reducible exact set_h25)) | (with_reducible refine w_add ?_) | (with_reducible refine w_test ?_) | (with_reducible refine w_kB ?_) | (with_reducible refine w_call ?_) | (with_reducible refine w_ifs ?_) | (with_reducible refine w_next ?_) | ((with_reducible refine' w_gname ?_ ?_); rotate_left; (first | with_reducible exact set_h0 | with_reducible exact set_h1 | with_reducible exact set_h2 | with_reducible exact set_h3 | with_reducible exact set_h4 | with_reducible exact set_h5 | with_reducible exact set_h6 | with_reducible exact set_h7 | with_reducible exact set_h8 | with_reducible exact set_h9 | with_reducible exact set_h10 | with_reducible exact set_h11 | with_reducible exact set_h12 | with_reducible exact set_h13 | with_reducible exact set_h14 | with_reducible exact set_h15 | with_reducible exact set_h16 | with_reducible exact set_h17 | with_reducible exact set_h18 | with_reducible exact set_h19 | with_reducible exact set_h20 | with_reducible exact set_h21 | with_reducible exact set_h22 | with_reducible exact set_h23 | with_reducible exact set_h24 | with_reducible exact set_h25)) | (with_reducible refine w_ret ?_) | (with_reducible refine w_fld ?_) | (with_reducible refine w_ifd ?_) | ((with_reducible refine' w_fldO ?_ ?_); rotate_left; exact rfl) | (with_reducible refine w_gcons ?_) | (with_reducible refine w_callB ?_) | (with_reducible refine w_on1 ?_) | ((with_reducible refine w_mod ?_ ?_); (first | decide | omega)) | (with_reducible refine w_int ?_) | (with_reducible refine w_drop ?_) | (with_reducible refine w_for ?_) | (with_reducible refine w_I0 ?_) | (with_reducible refine w_ifF ?_) | (with_reducible refine w_part ?_) | (with_reducible refine w_partI ?_) | (with_reducible refine w_sl ?_) | (with_reducible refine w_nop ?_) | (with_reducible refine w_ifT ?_) | (with_reducible refine w_R1 ?_) | ((with_reducible refine w_R1I ?_ ?_); (first | decide | omega)) | (with_reducible refine w_gnil ?_) | (with_reducible refine w_ixtup0 ?_) | (with_reducible refine w_ifn ?_) | (with_reducible refine w_asg ?_) | ((with_reducible refine w_gtup ?_ ?_); exact rfl) | (with_reducible refine w_eqInt ?_) | (with_reducible refine w_ixtup1 ?_) | (with_reducible refine w_or ?_) | (with_reducible refine w_not ?_) | (with_reducible refine w_in_non ?_) | (with_reducible refine w_lc ?_) | ((with_reducible refine w_div ?_ ?_); (first | decide | omega)) | (with_reducible refine w_neg ?_) | (with_reducible refine w_negI ?_) | (with_reducible refine w_eqStr ?_) | (with_reducible refine w_slT ?_) | (with_reducible refine w_lentup ?_) | (with_reducible refine w_tupL ?_) | (with_reducible refine w_lstF ?_) | (with_reducible refine w_app ?_) | (with_reducible refine w_tisN ?_) | (with_reducible refine w_meth ?_) | ((with_reducible refine w_objO ?_ ?_); exact rfl) | (with_reducible refine w_lstM ?_) | (with_reducible refine w_ixtup2 ?_) | (with_reducible refine w_retF ?_) | (with_reducible refine w_iL ?_) | (with_reducible refine w_make ?_) | (with_reducible refine w_fldS ?_) | (with_reducible refine w_rg1 ?_) | (with_reducible refine w_dnew ?_) | (with_reducible refine w_piD ?_) | (with_reducible refine w_dctF ?_) | (with_reducible refine w_dc ?_) | (with_reducible refine w_dcF ?_) | (with_reducible refine w_piZ3 ?_) | (with_reducible refine w_piET ?_) | (with_reducible refine w_pIsD ?_) | (with_reducible refine w_dct1 ?_) | (with_reducible refine w_gsubD ?_) | (with_reducible refine w_lst ?_) | (with_reducible refine w_ixtup3 ?_) | (with_reducible refine w_lenlst ?_) | (with_reducible refine w_and ?_) | (with_reducible refine w_in_tup ?_) | ((with_reducible refine' w_aug ?_ ?_ ?_); rotate_left 2; exact rfl; (intro x; first | with_reducible exact set_h0 | with_reducible exact set_h1 | with_reducible exact set_h2 | with_reducible exact set_h3 | with_reducible exact set_h4 | with_reducible exact set_h5 | with_reducible exact set_h6 | with_reducible exact set_h7 | with_reducible exact set_h8 | with_reducible exact set_h9 | with_reducible exact set_h10 | with_reducible exact set_h11 | with_reducible exact set_h12 | with_reducible exact set_h13 | with_reducible exact set_h14 | with_reducible exact set_h15 | with_reducible exact set_h16 | with_reducible exact set_h17 | with_reducible exact set_h18 | with_reducible exact set_h19 | with_reducible exact set_h20 | with_reducible exact set_h21 | with_reducible exact set_h22 | with_reducible exact set_h23 | with_reducible exact set_h24 | with_reducible exact set_h25)) | (with_reducible refine w_lc2 ?_) | (with_reducible refine w_lcT ?_) | (with_reducible refine w_on2 ?_) | (with_reducible refine w_neInt ?_) | (with_reducible refine w_slL ?_) | (with_reducible refine w_tnotN ?_) | (with_reducible refine w_iT ?_) | (with_reducible refine w_tupF ?_) | (with_reducible refine w_par ?_) | ((with_reducible refine' w_kpar ?_ ?_ ?_); rotate_left 2; (first | with_reducible exact set_h0 | with_reducible exact set_h1 | with_reducible exact set_h2 | with_reducible exact set_h3 | with_reducible exact set_h4 | with_reducible exact set_h5 | with_reducible exact set_h6 | with_reducible exact set_h7 | with_reducible exact set_h8 | with_reducible exact set_h9 | with_reducible exact set_h10 | with_reducible exact set_h11 | with_reducible exact set_h12 | with_reducible exact set_h13 | with_reducible exact set_h14 | with_reducible exact set_h15 | with_reducible exact set_h16 | with_reducible exact set_h17 | with_reducible exact set_h18 | with_reducible exact set_h19 | with_reducible exact set_h20 | with_reducible exact set_h21 | with_reducible exact set_h22 | with_reducible exact set_h23 | with_reducible exact set_h24 | with_reducible exact set_h25); (first | with_reducible exact set_h0 | with_reducible exact set_h1 | with_reducible exact set_h2 | with_reducible exact set_h3 | with_reducible exact set_h4 | with_reducible exact set_h5 | with_reducible exact set_h6 | with_reducible exact set_h7 | with_reducible exact set_h8 | with_reducible exact set_h9 | with_reducible exact set_h10 | with_reducible exact set_h11 | with_reducible exact set_h12 | with_reducible exact set_h13 | with_reducible exact set_h14 | with_reducible exact set_h15 | with_reducible exact set_h16 | with_reducible exact set_h17 | with_reducible exact set_h18 | with_reducible exact set_h19 | with_reducible exact set_h20 | with_reducible exact set_h21 | with_reducible exact set_h22 | with_reducible exact set_h23 | with_reducible exact set_h24 | with_reducible exact set_h25)) | (with_reducible refine w_par3 ?_) | ((with_reducible refine' w_kpar3 ?_ ?_ ?_ ?_); rotate_left 3; (first | with_reducible exact set_h0 | with_reducible exact set_h1 | with_reducible exact set_h2 | with_reducible exact set_h3 | with_reducible exact set_h4 | with_reducible exact set_h5 | with_reducible exact set_h6 | with_reducible exact set_h7 | with_reducible exact set_h8 | with_reducible exact set_h9 | with_reducible exact set_h10 | with_reducible exact set_h11 | with_reducible exact set_h12 | with_reducible exact set_h13 | with_reducible exact set_h14 | with_reducible exact set_h15 | with_reducible exact set_h16 | with_reducible exact set_h17 | with_reducible exact set_h18 | with_reducible exact set_h19 | with_reducible exact set_h20 | with_reducible exact set_h21 | with_reducible exact set_h22 | with_reducible exact set_h23 | with_reducible exact set_h24 | with_reducible exact set_h25); (first | with_reducible exact set_h0 | with_reducible exact set_h1 | with_reducible exact set_h2 | with_reducible exact set_h3 | with_reducible exact set_h4 | with_reducible exact set_h5 | with_reducible exact set_h6 | with_reducible exact set_h7 | with_reducible exact set_h8 | with_reducible exact set_h9 | with_reducible exact set_h10 | with_reducible exact set_h11 | with_reducible exact set_h12 | with_reducible exact set_h13 | with_reducible exact set_h14 | with_reducible exact set_h15 | with_reducible exact set_h16 | with_reducible exact set_h17 | with_reducible exact set_h18 | with_reducible exact set_h19 | with_reducible exact set_h20 | with_reducible exact set_h21 | with_reducible exact set_h22 | with_reducible exact set_h23 | with_reducible exact set_h24 | with_reducible exact set_h25); (first | with_reducible exact set_h0 | with_reducible exact set_h1 | with_reducible exact set_h2 | with_reducible exact set_h3 | with_reducible exact set_h4 | with_reducible exact set_h5 | with_reducible exact set_h6 | with_reducible exact set_h7 | with_reducible exact set_h8 | with_reducible exact set_h9 | with_reducible exact set_h10 | with_reducible exact set_h11 | with_reducible exact set_h12 | with_reducible exact set_h13 | with_reducible exact set_h14 | with_reducible exact set_h15 | with_reducible exact set_h16 | with_reducible exact set_h17 | with_reducible exact set_h18 | with_reducible exact set_h19 | with_reducible exact set_h20 | with_reducible exact set_h21 | with_reducible exact set_h22 | with_reducible exact set_h23 | with_reducible exact set_h24 | with_reducible exact set_h25)) | (with_reducible refine w_rg2 ?_) | (with_reducible refine w_asT ?_) | (with_reducible refine w_kTp ?_) | (with_reducible refine w_pdget2 ?_) | (with_reducible refine w_zT ?_) | (with_reducible refine w_dct ?_) | (with_reducible refine w_listL ?_) | (with_reducible refine w_andV ?_) | (with_reducible refine w_isN ?_) | (with_reducible refine w_cnt ?_) | (with_reducible refine w_retD ?_) | ((with_reducible refine' w_isi_i ?_ ?_); rotate_left; (first | with_reducible exact kit_ib | with_reducible exact kit_ii | with_reducible exact kit_it | with_reducible exact kit_il | with_reducible exact kit_is)) | ((with_reducible refine' w_isi_t ?_ ?_); rotate_left; (first | with_reducible exact kit_tb | with_reducible exact kit_ti | with_reducible exact kit_tt | with_reducible exact kit_tl | with_reducible exact kit_ts)) | (with_reducible refine w_lc2M ?_) | (with_reducible refine w_lcM ?_) | (with_reducible refine w_catN ?_) | (with_reducible refine w_tcnt ?_) | (with_reducible refine w_kTCnt ?_) | (with_reducible refine w_catR ?_) | (with_reducible refine w_tidx ?_) | (with_reducible refine w_pdget1 ?_) | (with_reducible refine w_rv ?_) | (with_reducible refine w_z ?_) | (with_reducible refine w_gsub ?_) | (with_reducible refine w_ixlst0 ?_) | (with_reducible refine w_ixlst1 ?_) | (with_reducible refine w_slS ?_) | (with_reducible refine w_abs ?_) | (with_reducible refine w_listML ?_) | (with_reducible refine w_notB ?_) | (with_reducible refine w_brk ?_) | (with_reducible refine w_fzE ?_) | ((with_reducible refine' w_isi_l ?_ ?_); rotate_left; (first | with_reducible exact kit_lb | with_reducible exact kit_li | with_reducible exact kit_lt | with_reducible exact kit_ll | with_reducible exact kit_ls)) | (with_reducible refine w_join ?_) | (with_reducible refine w_kStr ?_) | (with_reducible refine w_zL ?_) | (with_reducible refine w_tupRg ?_) | ((with_reducible refine w_shr ?_ ?_); (first | decide | omega)) | (with_reducible refine w_retN ?_) | (with_reducible refine w_dnx ?_) | (with_reducible refine w_drt ?_) | (with_reducible refine w_dbk ?_) | (with_reducible refine w_eqBl ?_) | (with_reducible refine w_neBl ?_) | (with_reducible refine w_neStr ?_) | (with_reducible refine w_ixlst2 ?_) | (with_reducible refine w_ixlst3 ?_) | (with_reducible refine w_ixtup4 ?_) | (with_reducible refine w_ixlst4 ?_) | (with_reducible refine w_ixtup5 ?_) | (with_reducible refine w_ixlst5 ?_) | (with_reducible refine w_need ?_) | (with_reducible refine w_lenscr ?_) | (with_reducible refine w_listT ?_) | (with_reducible refine w_listS ?_) | (with_reducible refine w_tupT ?_) | (with_reducible refine w_listMT ?_) | (with_reducible refine w_orV ?_) | (with_reducible refine w_notV ?_) | (with_reducible refine w_if ?_) | (with_reducible refine w_notN ?_) | (with_reducible refine w_in_int ?_) | (with_reducible refine w_in_lst ?_) | (with_reducible refine w_in_ptr ?_) | (with_reducible refine w_in_str ?_) | (with_reducible refine w_in_bl ?_) | (with_reducible refine w_isB ?_) | (with_reducible refine w_lstFs ?_) | (with_reducible refine w_R2 ?_) | (with_reducible refine w_forM ?_) | (with_reducible refine w_lcnil ?_) | (with_reducible refine w_lccons ?_) | (with_reducible refine w_retFD ?_) | (with_reducible refine w_raise ?_) | (with_reducible refine w_raiseF ?_) | (with_reducible refine w_tryF ?_) | (with_reducible refine w_isFp ?_) | (with_reducible refine w_isFx ?_) | ((with_reducible refine' w_xf ?_ ?_); rotate_left; exact rfl) | (with_reducible refine w_try ?_) | (with_reducible refine w_lstRg ?_) | (with_reducible refine w_lstRev ?_) | (with_reducible refine w_tupRevL ?_) | (with_reducible refine w_tupN ?_) | (with_reducible refine w_tupDL ?_) | (with_reducible refine w_lenSet ?_) | (with_reducible refine w_lstRg2 ?_) | (with_reducible refine w_sum ?_) | (with_reducible refine w_tupRevLK ?_) | (with_reducible refine w_lstRevK ?_) | (with_reducible refine w_pop ?_) | (with_reducible refine w_rev ?_) | (with_reducible refine w_revL ?_) | (with_reducible refine w_forE ?_) | ((with_reducible refine' w_isi_b ?_ ?_); rotate_left; (first | with_reducible exact kit_bb | with_reducible exact kit_bi | with_reducible exact kit_bt | with_reducible exact kit_bl | with_reducible exact kit_bs)) | ((with_reducible refine' w_isi_s ?_ ?_); rotate_left; (first | with_reducible exact kit_sb | with_reducible exact kit_si | with_reducible exact kit_st | with_reducible exact kit_sl | with_reducible exact kit_ss)) | ((with_reducible refine' w_isi_n ?_ ?_); rotate_left; (first | with_reducible exact kit_nb | with_reducible exact kit_ni | with_reducible exact kit_nt | with_reducible exact kit_nl | with_reducible exact kit_ns))))
local macro_rules | `(tactic| walk_at "st") => `(tactic| simp only [pstart, List.map_cons, List.map_nil, List.cons_append, List.nil_append, List.length_cons, List.length_nil, List.replicate, Nat.reduceSub, Nat.reduceAdd, Nat.zero_add])
theorem at_tI {ns : List Int} {k : Nat} {v : Int} (h : ns[k]? = some v) : L2.atI (ns.map PV.int) (k : Int) = some (.int v) := by
  rw [at_pos _ (by omega), Int.toNat_natCast, List.getElem?_map, h]; rfl
theorem w_setD {p : Addr} {i x : PV} {kvs : List (NestedKey × PV)} {M : Mem} {Q : Mem → Prop} (e : M p = some (.dct p kvs)) (h : kKey i fun k => kvs.length < sizeLine ∧ Q (M.put p (.dct p (putD kvs k x)))) : kSetD (.ptr p) i x M Q := by
  show (match M p with | some (.dct q kvs) => _ | _ => False)
  rw [e]
  exact ⟨rfl, h⟩
theorem fz_dct {p : Addr} {kvs : List (NestedKey × PV)} {M : Mem} {Q : PQ} (e : M p = some (.dct p kvs)) (h : Q (.dct kvs) (M.drop p)) : kFz (.ptr p) M Q := by
  show (match M p with | some (.lst xs) => Q (.lst xs) (M.drop p) | some (.obj C fs) => Q (.obj C fs) (M.drop p) | some (.dct a kvs) => a = p ∧ Q (.dct kvs) (M.drop p) | none => False)
  rw [e]
  exact ⟨rfl, h⟩
theorem kPp_inj {c d : Int × Int} (h : kPp c = kPp d) : c = d := by
  have h : NestedKey.tup [.num c.1, .num c.2] = NestedKey.tup [.num d.1, .num d.2] := h
  injection h with h
  injection h with h1 h2
  injection h2 with h2 h3
  injection h1 with h1
  injection h2 with h2
  exact Prod.ext h1 h2
theorem kPp_depth (c : Int × Int) : (kPp c).depth ≤ 8 := by show max 0 (max 0 0) + 1 ≤ 8; decide
theorem w_kPp {c : Int × Int} {f : NestedKey → Prop} (h : f (kPp c)) : kKey (ppP c) f := need_by (a := kPp c) rfl ⟨kPp_depth c, h⟩
theorem at_blk {S : List (Int × Int)} {d : Int × Int} : ∀ cs : List (Int × Int), atP (blkD S cs) (kPp d) = if d ∈ cs then some (.int (bits S d : Nat)) else none
  | [] => rfl
  | c :: cs => by
    have ih := at_blk (S := S) (d := d) cs
    unfold atP blkD at ih ⊢
    rw [List.map_cons]
    by_cases h : c = d
    · subst h
      rw [List.find?_cons_of_pos (by simp), if_pos List.mem_cons_self]
      rfl
    · rw [List.find?_cons_of_neg (by simpa using fun z => h (kPp_inj z)), ih]
      by_cases hm : d ∈ cs
      · rw [if_pos hm, if_pos (List.mem_cons_of_mem _ hm)]
      · rw [if_neg hm, if_neg (fun z => (List.mem_cons.mp z).elim (fun e => h e.symm) hm)]
/-- one more cell -/
theorem bits_snoc {ph : Int} {S : List (Int × Int)} {p : Int × Int} (hp : p ∉ S) : bits (S ++ [p]) (cor ph p) = bits S (cor ph p) + 2 ^ kOf ph p ∧ ∀ c, cor ph c = c → c ≠ cor ph p → bits (S ++ [p]) c = bits S c := by
  have hk := kOf_lt ph p
  constructor
  · unfold bits
    rw [bits4_eq, bits4_eq]
    have key : ∀ j < 4, decide (cellAt (cor ph p) j ∈ S ++ [p]) = (decide (cellAt (cor ph p) j ∈ S) || decide (j = kOf ph p)) := fun j hj => by
      rw [Bool.eq_iff_iff, Bool.or_eq_true, decide_eq_true_eq, decide_eq_true_eq, decide_eq_true_eq, List.mem_append, List.mem_singleton]
      have : cellAt (cor ph p) j = p ↔ j = kOf ph p := by
        constructor
        · intro e
          refine cellAt_inj hj hk (c := cor ph p) ?_
          rw [e, cell_of]
        · intro e
          rw [e, cell_of]
      rw [this]
    have no : decide (cellAt (cor ph p) (kOf ph p) ∈ S) = false := by rw [cell_of]; exact decide_eq_false hp
    rw [key 0 (by decide), key 1 (by decide), key 2 (by decide), key 3 (by decide)]
    generalize kOf ph p = k at *
    have hk' : k = 0 ∨ k = 1 ∨ k = 2 ∨ k = 3 := by omega
    rcases hk' with rfl | rfl | rfl | rfl
    all_goals
      rw [no]
      simp only [Nat.reduceEqDiff, decide_true, decide_false, Bool.or_false, Bool.or_true, if_true, Bool.false_eq_true, if_false, reduceCtorEq]
      omega
  · intro c hc hne
    refine bits4_congr fun k hk => ?_
    refine decide_eq_decide.mpr ?_
    rw [List.mem_append, List.mem_singleton]
    constructor
    · rintro (h | h)
      · exact h
      · exact absurd (by rw [← (cor_cell hc hk).1, h]) hne
    · exact .inl
theorem put_blk {ph : Int} {S : List (Int × Int)} {p : Int × Int} {cs : List (Int × Int)} (hcs : ∀ c ∈ cs, cor ph c = c) (b2 : ∀ c, cor ph c = c → c ≠ cor ph p → bits (S ++ [p]) c = bits S c) :
    putD (blkD S cs) (kPp (cor ph p)) (.int (bits (S ++ [p]) (cor ph p) : Nat)) = blkD (S ++ [p]) (addC cs (cor ph p)) := by
  unfold putD addC
  rw [at_blk]
  by_cases hm : cor ph p ∈ cs
  · rw [if_pos hm, if_pos hm, if_pos (show (some _).isSome = true from rfl)]
    unfold blkD
    rw [List.map_map]
    refine List.map_congr_left fun c hc => ?_
    show (if kPp c = kPp (cor ph p) then (kPp c, _) else (kPp c, _)) = _
    by_cases e : c = cor ph p
    · rw [if_pos (by rw [e]), e]
    · rw [if_neg (fun z => e (kPp_inj z)), b2 c (hcs c hc) e]
  · rw [if_neg hm, if_neg hm, if_neg (by decide)]
    unfold blkD
    rw [List.map_append, List.map_singleton]
    congr 1
    refine List.map_congr_left fun c hc => ?_
    rw [b2 c (hcs c hc) fun e => hm (e ▸ hc)]
theorem srt_take {S : List (Int × Int)} (h : srtd S) {i : Nat} (hi : i < S.length) : S[i] ∉ S.take i := fun hm => by
  have hn := srtd_nodup h
  rw [← List.take_append_drop i S, List.nodup_append] at hn
  refine hn.2.2 _ hm _ ?_ rfl
  rw [List.drop_eq_getElem_cons hi]
  exact List.mem_cons_self
theorem k_numbered_blocks (Γ : Ctx) : Keeps (t_numbered_blocks Γ) 2 8 (sp_numbered_blocks Γ) := by
  rintro xs M Q E hl ⟨ph, S, rfl, hS, hn, q⟩
  walk_at "st"
  unfold t_numbered_blocks
  walk_at "hd"
  intro a ha
  walk_at "hd"
  refine for_in (fun i σ M' => ∃ x3 x4 x5 x6 x7 : Option PV, M' = M.put a (.dct a (blkD (S.take i) (corners ph (S.take i)))) ∧ σ = [some (.int ph), some (.tup (S.map ppP)), some (.ptr a), x3, x4, x5, x6, x7]) ⟨none, none, none, none, none, rfl, rfl⟩ ?_ ?_
  · rintro i x σ M' K hx ⟨x3, x4, x5, x6, x7, rfl, rfl⟩ hK
    have hi : i < S.length := by
      have := (List.getElem?_eq_some_iff.mp hx).1
      rwa [List.length_map] at this
    obtain rfl : x = ppP S[i] := by
      rw [List.getElem?_map, List.getElem?_eq_getElem hi] at hx
      exact (Option.some.inj hx).symm
    have hp := srt_take hS hi
    have tk : S.take (i + 1) = S.take i ++ [S[i]] := by rw [List.take_succ, List.getElem?_eq_getElem hi]; rfl
    generalize S[i] = p at *
    obtain ⟨x, y⟩ := p
    rw [show ppP (x, y) = PV.tup [.int x, .int y] from rfl]
    unfold b_numbered_blocks_1
    walk_at "hd"
    rw [PyProof.Rows.bitAnd_m1, PyProof.Rows.bitAnd_m1, show (x - ph) % 2 = (x + ph) % 2 by omega, show (y - ph) % 2 = (y + ph) % 2 by omega]
    rw [show (PV.tup [PV.int (x - (x + ph) % 2), PV.int (y - (y + ph) % 2)]) = ppP (cor ph (x, y)) from rfl]
    refine ⟨(by rw [dctOf_ptr put_same]; exact (fun z => nomatch z)), ?_⟩
    walk_at "hd"
    refine need_by (dctOf_ptr put_same) (w_kPp ?_)
    have e1 := Int.emod_nonneg (x + ph) (b := 2) (by decide)
    have e2 := Int.emod_lt_of_pos (x + ph) (b := 2) (by decide)
    have e3 := Int.emod_nonneg (y + ph) (b := 2) (by decide)
    have e4 := Int.emod_lt_of_pos (y + ph) (b := 2) (by decide)
    have hpow : (1 : Int) * 2 ^ ((x + ph) % 2 + 2 * ((y + ph) % 2)).toNat = ((2 ^ kOf ph (x, y) : Nat) : Int) := by
      unfold kOf
      dsimp only
      rw [Int.one_mul, Int.natCast_pow]
      rfl
    walk_at "hd"
    refine ⟨.inl ⟨by decide, by decide⟩, ?_⟩
    walk_at "hd"
    refine ⟨⟨by omega, by omega, by decide⟩, ?_⟩
    dsimp only
    rw [hpow, at_blk]
    obtain ⟨b1, b2⟩ := bits_snoc (ph := ph) hp
    have hcl := corners_len ph (S.take i)
    have htl : (S.take i).length ≤ 10000 := by rw [List.length_take]; omega
    have val : ((if cor ph (x, y) ∈ corners ph (S.take i) then some (PV.int (bits (S.take i) (cor ph (x, y)) : Nat)) else none).getD (PV.int 0)) = PV.int (bits (S.take i) (cor ph (x, y)) : Nat) := by
      by_cases hm : cor ph (x, y) ∈ corners ph (S.take i)
      · rw [if_pos hm]; rfl
      · rw [if_neg hm, bits_none (cor_cor ph (x, y)) hm]; rfl
    rw [val]
    walk_at "hd"
    refine w_setD put_same (w_kPp ⟨line_lt' (by unfold blkD; rw [List.length_map]; omega), ?_⟩)
    rw [put_put]
    refine hK _ _ ⟨_, _, _, _, _, ?_, rfl⟩
    congr 2
    rw [tk, corners_snoc, show ((bits (S.take i) (cor ph (x, y)) : Nat) : Int) + ((2 ^ kOf ph (x, y) : Nat) : Int) = ((bits (S.take i ++ [(x, y)]) (cor ph (x, y)) : Nat) : Int) by rw [b1]; omega]
    exact put_blk (fun c hc => corners_cor hc) b2
  · rintro σ M' ⟨x3, x4, x5, x6, x7, rfl, rfl⟩
    rw [List.length_map, List.take_length]
    walk_at "hd"
    refine fz_dct put_same ?_
    rw [put_drop ha]
    exact q
theorem blk_keys (S cs : List (Int × Int)) : (blkD S cs).map (fun e => pvK e.1) = cs.map ppP := by
  unfold blkD
  rw [List.map_map]
  rfl
theorem found_snoc (ns : List Int) (S cs : List (Int × Int)) (c : Int × Int) : (((cs ++ [c]).map fun c => ((List.range 4).filter (bitB (rn ns (bits S c)))).map (cellAt c)).flatten) = ((cs.map fun c => ((List.range 4).filter (bitB (rn ns (bits S c)))).map (cellAt c)).flatten) ++ ((List.range 4).filter (bitB (rn ns (bits S c)))).map (cellAt c) := by
  rw [List.map_append, List.flatten_append, List.map_singleton, List.flatten_singleton]
theorem k_replaced (Γ : Ctx) : Keeps (t_replaced Γ) 3 11 (sp_replaced Γ) := by
  rintro xs M Q E hl ⟨v, ns, ph, S, rfl, hv, ok, hS, hn, hn2, q⟩
  have st := step_srt ns ph S
  have fl : (foundL ns ph S).length ≤ 10000 := by rw [← st.2.length_eq]; exact hn2
  walk_at "st"
  unfold t_replaced
  walk_at "hd"
  refine ⟨ph, S, rfl, hS, hn, ?_⟩
  walk_at "hd"
  intro a ha
  walk_at "hd"
  rw [blk_keys]
  have hcn := corners_len ph S
  have hcc : ∀ c ∈ corners ph S, cor ph c = c := fun c hc => corners_cor hc
  have q' : Q (.tup (((foundL ns ph S).mergeSort leP).map ppP)) M := q
  unfold foundL at st fl q'
  generalize corners ph S = cs at *
  have part : ∀ i, (((cs.take i).map fun c => ((List.range 4).filter (bitB (rn ns (bits S c)))).map (cellAt c)).flatten).length ≤ 10000 := fun i => by
    refine Nat.le_trans ?_ fl
    conv => rhs; rw [← List.take_append_drop i cs, List.map_append, List.flatten_append, List.length_append]
    omega
  refine for_in (fun i σ M' => ∃ x5 x6 x7 x8 x9 x10 : Option PV, M' = M.put a (.lst ((((cs.take i).map fun c => ((List.range 4).filter (bitB (rn ns (bits S c)))).map (cellAt c)).flatten).map ppP)) ∧ σ = [some v, some (.int ph), some (.tup (S.map ppP)), some (.dct (blkD S cs)), some (.ptr a), x5, x6, x7, x8, x9, x10]) ⟨none, none, none, none, none, none, rfl, rfl⟩ ?_ ?_
  · rintro i x σ M' K hx ⟨x5, x6, x7, x8, x9, x10, rfl, rfl⟩ hK
    have hi : i < cs.length := by
      have := (List.getElem?_eq_some_iff.mp hx).1
      rwa [List.length_map] at this
    obtain rfl : x = ppP cs[i] := by
      rw [List.getElem?_map, List.getElem?_eq_getElem hi] at hx
      exact (Option.some.inj hx).symm
    have hmem : cs[i] ∈ cs := List.getElem_mem hi
    have tk : cs.take (i + 1) = cs.take i ++ [cs[i]] := by rw [List.take_succ, List.getElem?_eq_getElem hi]; rfl
    have pi := part i
    have pi1 := part (i + 1)
    rw [tk, found_snoc, List.length_append] at pi1
    generalize cs[i] = c at *
    obtain ⟨x, y⟩ := c
    rw [show ppP (x, y) = PV.tup [.int x, .int y] from rfl]
    unfold b_replaced_1
    walk_at "hd"
    rw [as_TuI hv]
    walk_at "hd"
    rw [show (PV.tup [PV.int x, PV.int y]) = ppP (x, y) from rfl]
    refine need_by (show dctOf _ (.dct (blkD S cs)) = some (blkD S cs) from rfl) (w_kPp ?_)
    rw [at_blk, if_pos hmem]
    obtain ⟨r, e1, hr, _⟩ := inv_undo ok (bits_lt S (x, y))
    have er : rn ns (bits S (x, y)) = r := by unfold rn; rw [e1]; rfl
    rw [er] at pi1
    refine w_ixT (at_tI e1) ?_
    walk_at "hd"
    refine w_lcG ?_
    walk_at "hd"
    rw [show gv_PLACES = .tup [.tup [.int 0, .int 0], .tup [.int 1, .int 0], .tup [.int 0, .int 1], .tup [.int 1, .int 1]] from rfl]
    walk_at "hd"
    rw [show enumF 0 [PV.tup [.int 0, .int 0], .tup [.int 1, .int 0], .tup [.int 0, .int 1], .tup [.int 1, .int 1]] = (List.range 4).map fun (k : Nat) => PV.tup [.int (k : Int), .tup [.int ((k % 2 : Nat) : Int), .int ((k / 2 : Nat) : Int)]] from rfl]
    refine ⟨line_lt (by rw [List.length_map, List.length_range]; decide), lcGf_map (fun (k : Nat) => PV.tup [.int (k : Int), .tup [.int ((k % 2 : Nat) : Int), .int ((k / 2 : Nat) : Int)]]) (bitB r) (fun k => ppP (cellAt (x, y) k)) _ [] (fun k hk => ⟨_, rfl, fun R hR => ?_, fun _ R hR => ?_⟩) ?_⟩
    · walk_at "hd"
      rw [PyProof.Rows.bitAnd_m1, show decide ((r : Int) / 2 ^ ((k : Int)).toNat % 2 = 1) = bitB r k by
        unfold bitB
        refine decide_eq_decide.mpr ?_
        rw [Int.toNat_natCast, show ((2 : Int) ^ k) = ((2 ^ k : Nat) : Int) by rw [Int.natCast_pow]; rfl]
        omega]
      exact hR
    · walk_at "hd"
      exact hR
    rw [List.nil_append]
    have fl4 : (((List.range 4).filter (bitB r)).map (cellAt (x, y))).length + 0 ≤ 4 := by
      rw [List.length_map]
      exact List.length_filter_le _ _
    refine w_ext put_same rfl (line_lt (by rw [List.length_map, List.length_map]; rw [List.length_map] at fl4; omega)) ?_
    rw [put_put]
    refine hK _ _ ⟨_, _, _, _, _, _, ?_, rfl⟩
    rw [tk, found_snoc, er, List.map_append, List.map_map]
    rfl
  · rintro σ M' ⟨x5, x6, x7, x8, x9, x10, rfl, rfl⟩
    rw [List.length_map, List.take_length]
    walk_at "hd"
    refine w_sortD (lstOf_ptr put_same) (toDs_pp _) ?_ ?_ ?_ ?_
    · intro d hd d' hd'
      obtain ⟨u, _, rfl⟩ := List.mem_map.mp hd
      obtain ⟨v, _, rfl⟩ := List.mem_map.mp hd'
      rfl
    · exact PySem.W.Sortable.tuples fun b => ⟨_, _, rfl⟩
    · intro d hd
      obtain ⟨u, _, rfl⟩ := List.mem_map.mp hd
      have := dep_pp u
      omega
    · rw [sortZ_pp]
      walk_at "hd"
      show Q _ ((M.put a _).drop a)
      rw [put_drop ha]
      exact q'
theorem k_Blocks_step (Γ : Ctx) : Keeps (t_Blocks_step Γ) 2 4 (sp_Blocks_step Γ) := by
  rintro xs M Q E hl ⟨ns, c, rfl, ok, h1, h2, q⟩
  obtain ⟨ph, S⟩ := c
  walk_at "st"
  unfold t_Blocks_step blkP
  rw [show cfgP (ph, S) = .tup [.int ph, .tup (S.map ppP)] from rfl]
  walk_at "hd"
  refine ⟨_, ns, ph, S, rfl, .inr rfl, ok, h1.1, h1.2, h2.2, ?_⟩
  walk_at "hd"
  exact q
theorem k_Blocks_back (Γ : Ctx) : Keeps (t_Blocks_back Γ) 2 3 (sp_Blocks_back Γ) := by
  rintro xs M Q E hl ⟨ns, c, rfl, ok, h1, h2, q⟩
  obtain ⟨ph, S⟩ := c
  walk_at "st"
  unfold t_Blocks_back blkP
  rw [show cfgP (ph, S) = .tup [.int ph, .tup (S.map ppP)] from rfl]
  walk_at "hd"
  refine ⟨_, invR ns, 1 - ph, S, rfl, .inr rfl, inv_ok ok, h1.1, h1.2, h2.2, ?_⟩
  walk_at "hd"
  exact q
theorem itC_succ (f : Cfg → Cfg) : ∀ (n : Nat) (c : Cfg), itC f (n + 1) c = f (itC f n c)
  | 0, c => rfl
  | n + 1, c => itC_succ f n (f c)
theorem k_Blocks_run (Γ : Ctx) : Keeps (t_Blocks_run Γ) 3 4 (sp_Blocks_run Γ) := by
  rintro xs M Q E hl ⟨ns, c, n, rfl, ok, hn, h, q⟩
  walk_at "st"
  unfold t_Blocks_run
  walk_at "hd"
  rw [Int.toNat_natCast]
  refine for_rng (fun i σ M' => ∃ x3, M' = M ∧ σ = [some (blkP Γ ns), some (cfgP (itC (stepCf ns) i c)), some (.int n), x3]) ⟨none, rfl, rfl⟩ ?_ ?_
  · rintro i σ M' K hi ⟨x3, rfl, rfl⟩ hK
    unfold b_Blocks_run_1
    rw [show blkP Γ ns = .obj Γ.Blocks (blkF Γ ns) from rfl]
    walk_at "hd"
    refine ⟨ns, _, rfl, ok, h i (by omega), by rw [← itC_succ (stepCf ns)]; exact h (i + 1) (by omega), ?_⟩
    rw [← itC_succ (stepCf ns)]
    exact hK _ _ ⟨_, rfl, rfl⟩
  · rintro σ M' ⟨x3, rfl, rfl⟩
    walk_at "hd"
    exact q
theorem k_Blocks_run_back (Γ : Ctx) : Keeps (t_Blocks_run_back Γ) 3 4 (sp_Blocks_run_back Γ) := by
  rintro xs M Q E hl ⟨ns, c, n, rfl, ok, hn, h, q⟩
  walk_at "st"
  unfold t_Blocks_run_back
  walk_at "hd"
  rw [Int.toNat_natCast]
  refine for_rng (fun i σ M' => ∃ x3, M' = M ∧ σ = [some (blkP Γ ns), some (cfgP (itC (backCf ns) i c)), some (.int n), x3]) ⟨none, rfl, rfl⟩ ?_ ?_
  · rintro i σ M' K hi ⟨x3, rfl, rfl⟩ hK
    unfold b_Blocks_run_back_1
    rw [show blkP Γ ns = .obj Γ.Blocks (blkF Γ ns) from rfl]
    walk_at "hd"
    refine ⟨ns, _, rfl, ok, h i (by omega), by rw [← itC_succ (backCf ns)]; exact h (i + 1) (by omega), ?_⟩
    rw [← itC_succ (backCf ns)]
    exact hK _ _ ⟨_, rfl, rfl⟩
  · rintro σ M' ⟨x3, rfl, rfl⟩
    walk_at "hd"
    exact q
end My
set_option Elab.async false
set_option linter.all false
set_option maxRecDepth 100000
namespace My
open PySem PL TM PD
local macro_rules | `(tactic| walk_at "hd") => `(tactic| repeat (first | (with_reducible refine w_cons ?_) | ((with_reducible refine' w_var ?_ ?_); rotate_left; exact rfl) | (with_reducible refine w_seq ?_) | (with_reducible refine w_C ?_) | (with_reducible refine w_nil ?_) | (with_reducible refine w_bin ?_) | (with_reducible refine w_tup ?_) | ((with_reducible refine' w_pset ?_ ?_); rotate_left; (intro x; first | with_reducible exact set_h0 | with_reducible exact set_h1 | with_reducible exact set_h2 | with_reducible exact set_h3 | with_reducible exact set_h4 | with_reducible exact set_h5 | with_reducible exact set_h6 | with_reducible exact set_h7 | with_reducible exact set_h8 | with_reducible exact set_h9 | with_reducible exact set_h10 | with_reducible exact set_h11 | with_reducible exact set_h12 | with_reducible exact set_h13 | with_reducible exact set_h14 | with_reducible exact set_h15 | with_reducible exact set_h16 | with_reducible exact set_h17 | with_reducible exact set_h18 | with_reducible exact set_h19 | with_reducible exact set_h20 | with_reducible exact set_h21 | with_reducible exact set_h22 | with_reducible exact set_h23 | with_reducible exact set_h24 | with_reducible exact set_h25)) | (with_reducible refine w_add ?_) | (with_reducible refine w_test ?_) | (with_reducible refine w_kB ?_) | (with_reducible refine w_call ?_) | (with_reducible refine w_ifs ?_) | (with_reducible refine w_next ?_) | ((with_reducible refine' w_gname ?_ ?_); rotate_left; (first | with_reducible exact set_h0 | with_reducible exact set_h1 | with_reducible exact set_h2 | with_reducible exact set_h3 | with_reducible exact set_h4 | with_reducible exact set_h5 | with_reducible exact set_h6 | with_reducible exact set_h7 | with_reducible exact set_h8 | with_reducible exact set_h9 | with_reducible exact set_h10 | with_reducible exact set_h11 | with_reducible exact set_h12 | with_reducible exact set_h13 | with_reducible exact set_h14 | with_reducible exact set_h15 | with_reducible exact set_h16 | with_reducible exact set_h17 | with_reducible exact set_h18 | with_reducible exact set_h19 | with_reducible exact set_h20 | with_reducible exact set_h21 | with_reducible exact set_h22 | with_reducible exact set_h23 | with_reducible exact set_h24 | with_reducible exact set_h25)) | (with_reducible refine w_ret ?_) | (with_reducible refine w_fld ?_) | (with_reducible refine w_ifd ?_) | ((with_reducible refine' w_fldO ?_ ?_); rotate_left; exact rfl) | (with_reducible refine w_gcons ?_) | (with_reducible refine w_callB ?_) | (with_reducible refine w_on1 ?_) | ((with_reducible refine w_mod ?_ ?_); (first | decide | omega)) | (with_reducible refine w_int ?_) | (with_reducible refine w_drop ?_) | (with_reducible refine w_for ?_) | (with_reducible refine w_I0 ?_) | (with_reducible refine w_ifF ?_) | (with_reducible refine w_part ?_) | (with_reducible refine w_partI ?_) | (with_reducible refine w_sl ?_) | (with_reducible refine w_nop ?_) | (with_reducible refine w_ifT ?_) | (with_reducible refine w_R1 ?_) | ((with_reducible refine w_R1I ?_ ?_); (first | decide | omega)) | (with_reducible refine w_gnil ?_) | (with_reducible refine w_ixtup0 ?_) | (with_reducible refine w_ifn ?_) | (with_reducible refine w_asg ?_) | ((with_reducible refine w_gtup ?_ ?_); exact rfl) | (with_reducible refine w_eqInt ?_) | (with_reducible refine w_ixtup1 ?_) | (with_reducible refine w_or ?_) | (with_reducible refine w_not ?_) | (with_reducible refine w_in_non ?_) | (with_reducible refine w_lc ?_) | ((with_reducible refine w_div ?_ ?_); (first | decide | omega)) | (with_reducible refine w_neg ?_) | (with_reducible refine w_negI ?_) | (with_reducible refine w_eqStr ?_) | (with_reducible refine w_slT ?_) | (with_reducible refine w_lentup ?_) | (with_reducible refine w_tupL ?_) | (with_reducible refine w_lstF ?_) | (with_reducible refine w_app ?_) | (with_reducible refine w_tisN ?_) | (with_reducible refine w_meth ?_) | ((with_reducible refine w_objO ?_ ?_); exact rfl) | (with_reducible refine w_lstM ?_) | (with_reducible refine w_ixtup2 ?_) | (with_reducible refine w_retF ?_) | (with_reducible refine w_iL ?_) | (with_reducible refine w_make ?_) | (with_reducible refine w_fldS ?_) | (with_reducible refine w_rg1 ?_) | (with_reducible refine w_dnew ?_) | (with_reducible refine w_piD ?_) | (with_reducible refine w_dctF ?_) | (with_reducible refine w_dc ?_) | (with_reducible refine w_dcF ?_) | (with_reducible refine w_piZ3 ?_) | (with_reducible refine w_piET ?_) | (with_reducible refine w_pIsD ?_) | (with_reducible refine w_dct1 ?_) | (with_reducible refine w_gsubD ?_) | (with_reducible refine w_lst ?_) | (with_reducible refine w_ixtup3 ?_) | (with_reducible refine w_lenlst ?_) | (with_reducible refine w_and ?_) | (with_reducible refine w_in_tup ?_) | ((with_reducible refine' w_aug ?_ ?_ ?_); rotate_left 2; exact rfl; (intro x; first | with_reducible exact set_h0 | with_reducible exact set_h1 | with_reducible exact set_h2 | with_reducible exact set_h3 | with_reducible exact set_h4 | with_reducible exact set_h5 | with_reducible exact set_h6 | with_reducible exact set_h7 | with_reducible exact set_h8 | with_reducible exact set_h9 | with_reducible exact set_h10 | with_reducible exact set_h11 | with_reducible exact set_h12 | with_reducible exact set_h13 | with_reducible exact set_h14 | with_reducible exact set_h15 | with_reducible exact set_h16 | with_reducible exact set_h17 | with_reducible exact set_h18 | with_reducible exact set_h19 | with_reducible exact set_h20 | with_reducible exact set_h21 | with_reducible exact set_h22 | with_reducible exact set_h23 | with_reducible exact set_h24 | with_reducible exact set_h25)) | (with_reducible refine w_lc2 ?_) | (with_reducible refine w_lcT ?_) | (with_reducible refine w_on2 ?_) | (with_reducible refine w_neInt ?_) | (with_reducible refine w_slL ?_) | (with_reducible refine w_tnotN ?_) | (with_reducible refine w_iT ?_) | (with_reducible refine w_tupF ?_) | (with_reducible refine w_par ?_) | ((with_reducible refine' w_kpar ?_ ?_ ?_); rotate_left 2; (first | with_reducible exact set_h0 | with_reducible exact set_h1 | with_reducible exact set_h2 | with_reducible exact set_h3 | with_reducible exact set_h4 | with_reducible exact set_h5 | with_reducible exact set_h6 | with_reducible exact set_h7 | with_reducible exact set_h8 | with_reducible exact set_h9 | with_reducible exact set_h10 | with_reducible exact set_h11 | with_reducible exact set_h12 | with_reducible exact set_h13 | with_reducible exact set_h14 | with_reducible exact set_h15 | with_reducible exact set_h16 | with_reducible exact set_h17 | with_reducible exact set_h18 | with_reducible exact set_h19 | with_reducible exact set_h20 | with_reducible exact set_h21 | with_reducible exact set_h22 | with_reducible exact set_h23 | with_reducible exact set_h24 | with_reducible exact set_h25); (first | with_reducible exact set_h0 | with_reducible exact set_h1 | with_reducible exact set_h2 | with_reducible exact set_h3 | with_reducible exact set_h4 | with_reducible exact set_h5 | with_reducible exact set_h6 | with_reducible exact set_h7 | with_reducible exact set_h8 | with_reducible exact set_h9 | with_reducible exact set_h10 | with_reducible exact set_h11 | with_reducible exact set_h12 | with_reducible exact set_h13 | with_reducible exact set_h14 | with_reducible exact set_h15 | with_reducible exact set_h16 | with_reducible exact set_h17 | with_reducible exact set_h18 | with_reducible exact set_h19 | with_reducible exact set_h20 | with_reducible exact set_h21 | with_reducible exact set_h22 | with_reducible exact set_h23 | with_reducible exact set_h24 | with_reducible exact set_h25)) | (with_reducible refine w_par3 ?_) | ((with_reducible refine' w_kpar3 ?_ ?_ ?_ ?_); rotate_left 3; (first | with_reducible exact set_h0 | with_reducible exact set_h1 | with_reducible exact set_h2 | with_reducible exact set_h3 | with_reducible exact set_h4 | with_reducible exact set_h5 | with_reducible exact set_h6 | with_reducible exact set_h7 | with_reducible exact set_h8 | with_reducible exact set_h9 | with_reducible exact set_h10 | with_reducible exact set_h11 | with_reducible exact set_h12 | with_reducible exact set_h13 | with_reducible exact set_h14 | with_reducible exact set_h15 | with_reducible exact set_h16 | with_reducible exact set_h17 | with_reducible exact set_h18 | with_reducible exact set_h19 | with_reducible exact set_h20 | with_reducible exact set_h21 | with_reducible exact set_h22 | with_reducible exact set_h23 | with_reducible exact set_h24 | with_reducible exact set_h25); (first | with_reducible exact set_h0 | with_reducible exact set_h1 | with_reducible exact set_h2 | with_reducible exact set_h3 | with_reducible exact set_h4 | with_reducible exact set_h5 | with_reducible exact set_h6 | with_reducible exact set_h7 | with_reducible exact set_h8 | with_reducible exact set_h9 | with_reducible exact set_h10 | with_reducible exact set_h11 | with_reducible exact set_h12 | with_reducible exact set_h13 | with_reducible exact set_h14 | with_reducible exact set_h15 | with_reducible exact set_h16 | with_reducible exact set_h17 | with_reducible exact set_h18 | with_reducible exact set_h19 | with_reducible exact set_h20 | with_reducible exact set_h21 | with_reducible exact set_h22 | with_reducible exact set_h23 | with_reducible exact set_h24 | with_reducible exact set_h25); (first | with_reducible exact set_h0 | with_reducible exact set_h1 | with_reducible exact set_h2 | with_reducible exact set_h3 | with_reducible exact set_h4 | with_reducible exact set_h5 | with_reducible exact set_h6 | with_reducible exact set_h7 | with_reducible exact set_h8 | with_reducible exact set_h9 | with_reducible exact set_h10 | with_reducible exact set_h11 | with_reducible exact set_h12 | with_reducible exact set_h13 | with_reducible exact set_h14 | with_reducible exact set_h15 | with_reducible exact set_h16 | with_reducible exact set_h17 | with_reducible exact set_h18 | with_reducible exact set_h19 | with_reducible exact set_h20 | with_reducible exact set_h21 | with_reducible exact set_h22 | with_reducible exact set_h23 | with_reducible exact set_h24 | with_reducible exact set_h25)) | (with_reducible refine w_rg2 ?_) | (with_reducible refine w_asT ?_) | (with_reducible refine w_kTp ?_) | (with_reducible refine w_pdget2 ?_) | (with_reducible refine w_zT ?_) | (with_reducible refine w_dct ?_) | (with_reducible refine w_listL ?_) | (with_reducible refine w_andV ?_) | (with_reducible refine w_isN ?_) | (with_reducible refine w_cnt ?_) | (with_reducible refine w_retD ?_) | ((with_reducible refine' w_isi_i ?_ ?_); rotate_left; (first | with_reducible exact kit_ib | with_reducible exact kit_ii | with_reducible exact kit_it | with_reducible exact kit_il | with_reducible exact kit_is)) | ((with_reducible refine' w_isi_t ?_ ?_); rotate_left; (first | with_reducible exact kit_tb | with_reducible exact kit_ti | with_reducible exact kit_tt | with_reducible exact kit_tl | with_reducible exact kit_ts)) | (with_reducible refine w_lc2M ?_) | (with_reducible refine w_lcM ?_) | (with_reducible refine w_catN ?_) | (with_reducible refine w_tcnt ?_) | (with_reducible refine w_kTCnt ?_) | (with_reducible refine w_catR ?_) | (with_reducible refine w_tidx ?_) | (with_reducible refine w_pdget1 ?_) | (with_reducible refine w_rv ?_) | (with_reducible refine w_z ?_) | (with_reducible refine w_gsub ?_) | (with_reducible refine w_ixlst0 ?_) | (with_reducible refine w_ixlst1 ?_) | (with_reducible refine w_slS ?_) | (with_reducible refine w_abs ?_) | (with_reducible refine w_listML ?_) | (with_reducible refine w_notB ?_) | (with_reducible refine w_brk ?_) | (with_reducible refine w_fzE ?_) | ((with_reducible refine' w_isi_l ?_ ?_); rotate_left; (first | with_reducible exact kit_lb | with_reducible exact kit_li | with_reducible exact kit_lt | with_reducible exact kit_ll | with_reducible exact kit_ls)) | (with_reducible refine w_join ?_) | (with_reducible refine w_kStr ?_) | (with_reducible refine w_zL ?_) | (with_reducible refine w_tupRg ?_) | ((with_reducible refine w_shr ?_ ?_); (first | decide | omega)) | (with_reducible refine w_retN ?_) | (with_reducible refine w_dnx ?_) | (with_reducible refine w_drt ?_) | (with_reducible refine w_dbk ?_) | (with_reducible refine w_eqBl ?_) | (with_reducible refine w_neBl ?_) | (with_reducible refine w_neStr ?_) | (with_reducible refine w_ixlst2 ?_) | (with_reducible refine w_ixlst3 ?_) | (with_reducible refine w_ixtup4 ?_) | (with_reducible refine w_ixlst4 ?_) | (with_reducible refine w_ixtup5 ?_) | (with_reducible refine w_ixlst5 ?_) | (with_reducible refine w_need ?_) | (with_reducible refine w_lenscr ?_) | (with_reducible refine w_listT ?_) | (with_reducible refine w_listS ?_) | (with_reducible refine w_tupT ?_) | (with_reducible refine w_listMT ?_) | (with_reducible refine w_orV ?_) | (with_reducible refine w_notV ?_) | (with_reducible refine w_if ?_) | (with_reducible refine w_notN ?_) | (with_reducible refine w_in_int ?_) | (with_reducible refine w_in_lst ?_) | (with_reducible refine w_in_ptr ?_) | (with_reducible refine w_in_str ?_) | (with_reducible refine w_in_bl ?_) | (with_reducible refine w_isB ?_) | (with_reducible refine w_lstFs ?_) | (with_reducible refine w_R2 ?_) | (with_reducible refine w_forM ?_) | (with_reducible refine w_lcnil ?_) | (with_reducible refine w_lccons ?_) | (with_reducible refine w_retFD ?_) | (with_reducible refine w_raise ?_) | (with_reducible refine w_raiseF ?_) | (with_reducible refine w_tryF ?_) | (with_reducible refine w_isFp ?_) | (with_reducible refine w_isFx ?_) | ((with_reducible refine' w_xf ?_ ?_); rotate_left; exact rfl) | (with_reducible refine w_try ?_) | (with_reducible refine w_lstRg ?_) | (with_reducible refine w_lstRev ?_) | (with_reducible refine w_tupRevL ?_) | (with_reducible refine w_tupN ?_) | (with_reducible refine w_tupDL ?_) | (with_reducible refine w_lenSet ?_) | (with_reducible refine w_lstRg2 ?_) | (with_reducible refine w_sum ?_) | (with_reducible refine w_tupRevLK ?_) | (with_reducible refine w_lstRevK ?_) | (with_reducible refine w_pop ?_) | (with_reducible refine w_rev ?_) | (with_reducible refine w_revL ?_) | (with_reducible refine w_forE ?_) | ((with_reducible refine' w_isi_b ?_ ?_); rotate_left; (first | with_reducible exact kit_bb | with_reducible exact kit_bi | with_reducible exact kit_bt | with_reducible exact kit_bl | with_reducible exact kit_bs)) | ((with_reducible refine' w_isi_s ?_ ?_); rotate_left; (first | with_reducible exact kit_sb | with_reducible exact kit_si | with_reducible exact kit_st | with_reducible exact kit_sl | with_reducible exact kit_ss)) | ((with_reducible refine' w_isi_n ?_ ?_); rotate_left; (first | with_reducible exact kit_nb | with_reducible exact kit_ni | with_reducible exact kit_nt | with_reducible exact kit_nl | with_reducible exact kit_ns))))
local macro_rules | `(tactic| walk_at "st") => `(tactic| simp only [pstart, List.map_cons, List.map_nil, List.cons_append, List.nil_append, List.length_cons, List.length_nil, List.replicate, Nat.reduceSub, Nat.reduceAdd, Nat.zero_add])
theorem at_seq {v : PV} {ns : List Int} {k : Nat} {x : Int} {M : Mem} {Q : PQ} (hv : TuI v ns ∨ v = lI ns) (h : ns[k]? = some x) (q : Q (.int x) M) : oIx (asT v) (.int (k : Int)) M Q := by
  rcases hv with hv | rfl
  · rw [as_TuI hv]
    exact w_ixT (at_tI h) q
  · exact w_ixL (at_tI h) q
theorem w_inTp {u : Int × Int} {S : List (Int × Int)} {M : Mem} {Q : PQ} (h : Q (.bl (decide (u ∈ S))) M) : oIn (ppP u) (.tup (S.map ppP)) M Q := by
  refine w_inT (toD_pp u) (toDs_pp S) (by have := dep_pp u; omega) ?_
  rw [show ((S.map dP2).any fun z => PyData.eqv z (dP2 u)) = decide (u ∈ S) by
    rw [Bool.eq_iff_iff, decide_eq_true_eq]
    exact any_gen eqv_pp u S]
  exact h
theorem at_pow {k : Nat} (hk : k < 4) : L2.atI [PV.int 1, .int 2, .int 4, .int 8] (k : Int) = some (.int ((2 ^ k : Nat) : Int)) := by
  have hk' : k = 0 ∨ k = 1 ∨ k = 2 ∨ k = 3 := by omega
  rcases hk' with rfl | rfl | rfl | rfl <;> rfl
theorem spots_eq (x y : Int) : ([PV.tup [.int x, .int y], .tup [.int (x + 1), .int y], .tup [.int x, .int (y + 1)], .tup [.int (x + 1), .int (y + 1)]] : List PV) = (List.range 4).map fun k => ppP (cellAt (x, y) k) := by
  show _ = [ppP (cellAt (x, y) 0), ppP (cellAt (x, y) 1), ppP (cellAt (x, y) 2), ppP (cellAt (x, y) 3)]
  unfold ppP cellAt
  simp
theorem sum_nat : ∀ l : List Nat, (l.map fun (n : Nat) => (n : Int)).sum = ((l.sum : Nat) : Int)
  | [] => rfl
  | n :: l => by
    rw [List.map_cons, List.sum_cons, List.sum_cons, sum_nat l]
    omega
theorem k_law_step (Γ : Ctx) : Keeps (t_law_step Γ) 2 13 (sp_law_step Γ) := by
  rintro xs M Q E hl ⟨v, ns, c, rfl, hv, ok, h1, h2, q⟩
  obtain ⟨ph, S⟩ := c
  obtain ⟨hS, hn⟩ := h1
  have hn2 : (stepB ns ph S).length ≤ 10000 := h2.2
  dsimp only at hS hn
  have st := step_srt ns ph S
  have fl : (foundL ns ph S).length ≤ 10000 := by rw [← st.2.length_eq]; exact hn2
  walk_at "st"
  unfold t_law_step
  rw [show cfgP (ph, S) = .tup [.int ph, .tup (S.map ppP)] from rfl]
  walk_at "hd"
  intro a ha
  walk_at "hd"
  refine for_in (fun i σ M' => ∃ x5 x6 x7 : Option PV, M' = M.put a (.lst ((corners ph (S.take i)).map ppP)) ∧ σ = [some v, some (.tup [.int ph, .tup (S.map ppP)]), some (.int ph), some (.tup (S.map ppP)), some (.ptr a), x5, x6, x7, none, none, none, none, none]) ⟨none, none, none, rfl, rfl⟩ ?_ ?_
  · rintro i x σ M' K hx ⟨x5, x6, x7, rfl, rfl⟩ hK
    have hi : i < S.length := by
      have := (List.getElem?_eq_some_iff.mp hx).1
      rwa [List.length_map] at this
    obtain rfl : x = ppP S[i] := by
      rw [List.getElem?_map, List.getElem?_eq_getElem hi] at hx
      exact (Option.some.inj hx).symm
    have tk : S.take (i + 1) = S.take i ++ [S[i]] := by rw [List.take_succ, List.getElem?_eq_getElem hi]; rfl
    have hcl := corners_len ph (S.take i)
    have htl : (S.take i).length ≤ 10000 := by rw [List.length_take]; omega
    generalize S[i] = p at *
    obtain ⟨x, y⟩ := p
    rw [show ppP (x, y) = PV.tup [.int x, .int y] from rfl]
    unfold b_law_step_1
    walk_at "hd"
    rw [show (PV.tup [PV.int (x - (x + ph) % 2), PV.int (y - (y + ph) % 2)]) = ppP (cor ph (x, y)) from rfl]
    refine w_inPp put_same fun b hb => ?_
    cases b with
    | true =>
      walk_at "hd"
      refine hK _ _ ⟨_, _, _, ?_, rfl⟩
      rw [tk, corners_snoc]
      unfold addC
      rw [if_pos (hb.mp rfl)]
    | false =>
      walk_at "hd"
      refine ⟨(by rw [lstOf_ptr put_same]; exact (fun z => nomatch z)), ?_⟩
      walk_at "hd"
      refine w_appM put_same (by rw [List.length_map]; omega) ?_
      rw [put_put]
      refine hK _ _ ⟨_, _, _, ?_, rfl⟩
      rw [tk, corners_snoc]
      unfold addC
      rw [if_neg (fun hm => absurd (hb.mpr hm) Bool.false_ne_true), List.map_append]
      rfl
  · rintro σ M' ⟨x5, x6, x7, rfl, rfl⟩
    rw [List.length_map, List.take_length]
    dsimp only
    refine w_pFzL rfl (fun _ => rfl) put_same ?_
    rw [put_drop ha]
    dsimp only [List.set]
    walk_at "hd"
    have hcn := corners_len ph S
    have hcc : ∀ c ∈ corners ph S, cor ph c = c := fun c hc => corners_cor hc
    have q' : Q (.tup [.int (1 - ph), .tup (((foundL ns ph S).mergeSort leP).map ppP)]) M := q
    unfold foundL at st fl q'
    generalize corners ph S = cs at *
    have part : ∀ i, (((cs.take i).map fun c => ((List.range 4).filter (bitB (rn ns (bits S c)))).map (cellAt c)).flatten).length ≤ 10000 := fun i => by
      refine Nat.le_trans ?_ fl
      conv => rhs; rw [← List.take_append_drop i cs, List.map_append, List.flatten_append, List.length_append]
      omega
    refine for_in (fun i σ M2 => ∃ y5 y6 y9 y10 y11 y12 : Option PV, M2 = M ∧ σ = [some v, some (.tup [.int ph, .tup (S.map ppP)]), some (.int ph), some (.tup (S.map ppP)), some (.lst (cs.map ppP)), y5, y6, x7, some (.lst ((((cs.take i).map fun c => ((List.range 4).filter (bitB (rn ns (bits S c)))).map (cellAt c)).flatten).map ppP)), y9, y10, y11, y12]) ⟨x5, x6, none, none, none, none, rfl, rfl⟩ ?_ ?_
    · rintro i x σ M2 K hx ⟨y5, y6, y9, y10, y11, y12, rfl, rfl⟩ hK
      have hi : i < cs.length := by
        have := (List.getElem?_eq_some_iff.mp hx).1
        rwa [List.length_map] at this
      obtain rfl : x = ppP cs[i] := by
        rw [List.getElem?_map, List.getElem?_eq_getElem hi] at hx
        exact (Option.some.inj hx).symm
      have tk : cs.take (i + 1) = cs.take i ++ [cs[i]] := by rw [List.take_succ, List.getElem?_eq_getElem hi]; rfl
      have pi := part i
      have pi1 := part (i + 1)
      rw [tk, found_snoc, List.length_append] at pi1
      generalize cs[i] = c at *
      obtain ⟨x, y⟩ := c
      rw [show ppP (x, y) = PV.tup [.int x, .int y] from rfl]
      obtain ⟨r, e1, hr, _⟩ := inv_undo ok (bits_lt S (x, y))
      have er : rn ns (bits S (x, y)) = r := by unfold rn; rw [e1]; rfl
      rw [er] at pi1
      unfold b_law_step_2
      walk_at "hd"
      rw [spots_eq]
      have spot : ∀ k : Nat, k < 4 → L2.atI ((List.range 4).map fun (k : Nat) => ppP (cellAt (x, y) k)) (k : Int) = some (ppP (cellAt (x, y) k)) := fun k hk => by
        rw [at_pos _ (by omega), Int.toNat_natCast, List.getElem?_map, List.getElem?_range hk]
        rfl
      unfold rngP
      refine ⟨line_lt (by rw [List.length_map, List.length_range]; decide), lcf_map (fun (k : Nat) => PV.int (0 + (k : Int))) (fun k => decide (cellAt (x, y) k ∈ S)) (fun k => PV.int ((2 ^ k : Nat) : Int)) _ [] (fun k hk => ⟨fun R hR => ?_, fun _ R hR => ?_⟩) ?_⟩
      · have hk4 : k < 4 := List.mem_range.mp hk
        walk_at "hd"
        rw [Int.zero_add]
        refine w_ixL (spot k hk4) ?_
        walk_at "hd"
        refine w_inTp ?_
        walk_at "hd"
        exact hR
      · have hk4 : k < 4 := List.mem_range.mp hk
        walk_at "hd"
        rw [Int.zero_add]
        refine w_ixL (at_pow hk4) ?_
        exact hR
      rw [List.nil_append]
      walk_at "hd"
      rw [show ((List.range (4 : Int).toNat).filter fun k => decide (cellAt (x, y) k ∈ S)).map (fun k => PV.int ((2 ^ k : Nat) : Int)) = ((((List.range 4).filter fun k => decide (cellAt (x, y) k ∈ S)).map fun k => 2 ^ k).map fun (n : Nat) => (n : Int)).map PV.int by rw [List.map_map, List.map_map]; rfl]
      refine w_sum ?_
      rw [sum_nat, show ((((List.range 4).filter fun k => decide (cellAt (x, y) k ∈ S)).map fun k => 2 ^ k).sum) = bits S (x, y) from rfl]
      walk_at "hd"
      refine at_seq hv e1 ?_
      walk_at "hd"
      unfold rngP
      refine ⟨line_lt (by rw [List.length_map, List.length_range]; decide), lcf_map (fun (k : Nat) => PV.int (0 + (k : Int))) (bitB r) (fun k => ppP (cellAt (x, y) k)) _ [] (fun k hk => ⟨fun R hR => ?_, fun _ R hR => ?_⟩) ?_⟩
      · have hk4 : k < 4 := List.mem_range.mp hk
        have p1 : 0 < 2 ^ k := Nat.two_pow_pos k
        have p2 : 2 ^ k ≤ 2 ^ 4 := Nat.pow_le_pow_right (by decide) (by omega)
        walk_at "hd"
        rw [Int.zero_add]
        refine w_ixL (at_pow hk4) ?_
        walk_at "hd"
        rw [show decide ((r : Int) / ((2 ^ k : Nat) : Int) % 2 = 1) = bitB r k by
          unfold bitB
          exact decide_eq_decide.mpr (by omega)]
        exact hR
      · have hk4 : k < 4 := List.mem_range.mp hk
        walk_at "hd"
        rw [Int.zero_add]
        refine w_ixL (spot k hk4) ?_
        exact hR
      rw [List.nil_append]
      have fl4 : (((List.range 4).filter (bitB r)).map (cellAt (x, y))).length + 0 ≤ 4 := by
        rw [List.length_map]
        exact List.length_filter_le _ _
      refine ⟨line_lt (by rw [List.length_map, List.length_map]; rw [List.length_map] at fl4; show _ + ((List.range 4).filter (bitB r)).length < _; omega), ?_⟩
      have ef : ((((cs.take i).map fun c => ((List.range 4).filter (bitB (rn ns (bits S c)))).map (cellAt c)).flatten).map ppP ++ ((List.range (4 : Int).toNat).filter (bitB r)).map fun k => ppP (cellAt (x, y) k)) = (((cs.take (i + 1)).map fun c => ((List.range 4).filter (bitB (rn ns (bits S c)))).map (cellAt c)).flatten).map ppP := by
        rw [tk, found_snoc, er, List.map_append, List.map_map]
        rfl
      rw [ef]
      exact hK _ _ ⟨_, _, _, _, _, _, rfl, rfl⟩
    · rintro σ M2 ⟨y5, y6, y9, y10, y11, y12, rfl, rfl⟩
      rw [List.length_map, List.take_length]
      walk_at "hd"
      refine w_sortD (show lstOf _ (.lst _) = some _ from rfl) (toDs_pp _) ?_ ?_ ?_ ?_
      · intro d hd d' hd'
        obtain ⟨u, _, rfl⟩ := List.mem_map.mp hd
        obtain ⟨v, _, rfl⟩ := List.mem_map.mp hd'
        rfl
      · exact PySem.W.Sortable.tuples fun b => ⟨_, _, rfl⟩
      · intro d hd
        obtain ⟨u, _, rfl⟩ := List.mem_map.mp hd
        have := dep_pp u
        omega
      · rw [sortZ_pp]
        walk_at "hd"
        exact q'
theorem it_srt {ns : List Int} {c : Cfg} (h : srtd c.2) : ∀ j, srtd (itC (stepCf ns) j c).2
  | 0 => h
  | j + 1 => by
    rw [itC_succ (stepCf ns)]
    exact (step_srt _ _ _).1
theorem it_near {ns : List Int} (ok : okRule ns = true) {c : Cfg} : ∀ j, ∀ p ∈ (itC (stepCf ns) j c).2, ∃ q ∈ c.2, nearC (j : Nat) p q
  | 0, p, hp => ⟨p, hp, by unfold nearC; omega⟩
  | j + 1, p, hp => by
    rw [itC_succ (stepCf ns)] at hp
    obtain ⟨q, hq, n1⟩ := step_near ok hp
    obtain ⟨r, hr, n2⟩ := it_near ok j q hq
    refine ⟨r, hr, ?_⟩
    unfold nearC at *
    omega
theorem near_ok {c d : Cfg} {j : Nat} (hj : j ≤ 12) (hl : c.2.length ≤ 12) (hd : srtd d.2) (h : ∀ p ∈ d.2, ∃ q ∈ c.2, nearC (j : Nat) p q) : okC d := by
  refine ⟨hd, ?_⟩
  have h1 := near_len hd h
  have h2 : (2 * j + 1) * (2 * j + 1) ≤ 25 * 25 := Nat.mul_le_mul (by omega) (by omega)
  have h3 : c.2.length * ((2 * j + 1) * (2 * j + 1)) ≤ 12 * (25 * 25) := Nat.mul_le_mul hl h2
  omega
theorem it_ok {ns : List Int} (ok : okRule ns = true) {c : Cfg} (h : srtd c.2) (hl : c.2.length ≤ 12) {j : Nat} (hj : j ≤ 12) : okC (itC (stepCf ns) j c) := near_ok hj hl (it_srt h j) (it_near ok j)
theorem bk_ok {ns : List Int} (ok : okRule ns = true) {c : Cfg} (h : srtd c.2) (hl : c.2.length ≤ 12) {j : Nat} (hj : j ≤ 11) : okC (backCf ns (itC (stepCf ns) j c)) := by
  refine near_ok (j := j + 1) (by omega) hl (step_srt _ _ _).1 fun p hp => ?_
  obtain ⟨q, hq, n1⟩ := step_near (inv_ok ok) hp
  obtain ⟨r, hr, n2⟩ := it_near ok j q hq
  refine ⟨r, hr, ?_⟩
  unfold nearC at *
  omega
theorem bk_st {ns : List Int} (ok : okRule ns = true) {c : Cfg} (h : srtd c.2) : backCf ns (stepCf ns c) = c := by
  obtain ⟨ph, S⟩ := c
  show (1 - (1 - ph), stepB (invR ns) (1 - (1 - ph)) (stepB ns ph S)) = (ph, S)
  rw [show (1 : Int) - (1 - ph) = ph by omega, back_step ok h]
theorem st_bk {ns : List Int} (ok : okRule ns = true) {c : Cfg} (h : srtd c.2) : stepCf ns (backCf ns c) = c := by
  obtain ⟨ph, S⟩ := c
  show (1 - (1 - ph), stepB ns (1 - ph) (stepB (invR ns) (1 - ph) S)) = (ph, S)
  rw [show (1 : Int) - (1 - ph) = ph by omega, step_back ok h]
theorem it_back {ns : List Int} (ok : okRule ns = true) {c : Cfg} (h : srtd c.2) : ∀ (j n : Nat), j ≤ n → itC (backCf ns) j (itC (stepCf ns) n c) = itC (stepCf ns) (n - j) c
  | 0, n, _ => rfl
  | j + 1, 0, hj => absurd hj (by omega)
  | j + 1, n + 1, hj => by
    rw [itC_succ (stepCf ns)]
    show itC (backCf ns) j (backCf ns (stepCf ns (itC (stepCf ns) n c))) = _
    rw [bk_st ok (it_srt h n), it_back ok h j n (by omega)]
    congr 1
    omega
theorem it_ph {ns : List Int} {c : Cfg} (h : 0 ≤ c.1 ∧ c.1 ≤ 1) : ∀ j, 0 ≤ (itC (stepCf ns) j c).1 ∧ (itC (stepCf ns) j c).1 ≤ 1
  | 0 => h
  | j + 1 => by
    have ih := it_ph (ns := ns) h j
    rw [itC_succ (stepCf ns)]
    show 0 ≤ 1 - (itC (stepCf ns) j c).1 ∧ 1 - (itC (stepCf ns) j c).1 ≤ 1
    omega
theorem it_len {ns : List Int} (ok : okRule ns = true) (kp : kpB ns = true) {c : Cfg} (h : srtd c.2) : ∀ j, (itC (stepCf ns) j c).2.length = c.2.length
  | 0 => rfl
  | j + 1 => by
    rw [itC_succ (stepCf ns), ← it_len ok kp h j]
    exact step_len ok kp (it_srt h j)
theorem sd_cfg (c : Cfg) : SelfD 5 (cfgP c) := SelfD.tup fun x hx => by
  simp only [List.mem_cons, List.not_mem_nil, or_false] at hx
  rcases hx with rfl | rfl
  · exact SelfD.int
  · exact SelfD.tup fun x hx => by
      obtain ⟨p, _, rfl⟩ := List.mem_map.mp hx
      exact SelfD.tup fun x hx => by
        simp only [List.mem_cons, List.not_mem_nil, or_false] at hx
        rcases hx with rfl | rfl <;> exact SelfD.int
theorem w_neC {c d : Cfg} {M : Mem} {Q : PQ} (e : c = d) (q : Q (.bl false) M) : oNe (cfgP c) (cfgP d) M Q := by
  subst e
  exact w_neSelf ((sd_cfg c).mono (by decide)) q
end My
set_option Elab.async false
set_option linter.all false
set_option maxRecDepth 100000
namespace My
open PySem PL TM PD
local macro_rules | `(tactic| walk_at "hd") => `(tactic| repeat (first | (with_reducible refine w_cons ?_) | ((with_reducible refine' w_var ?_ ?_); rotate_left; exact rfl) | (with_reducible refine w_seq ?_) | (with_reducible refine w_C ?_) | (with_reducible refine w_nil ?_) | (with_reducible refine w_bin ?_) | (with_reducible refine w_tup ?_) | ((with_reducible refine' w_pset ?_ ?_); rotate_left; (intro x; first | with_reducible exact set_h0 | with_reducible exact set_h1 | with_reducible exact set_h2 | with_reducible exact set_h3 | with_reducible exact set_h4 | with_reducible exact set_h5 | with_reducible exact set_h6 | with_reducible exact set_h7 | with_reducible exact set_h8 | with_reducible exact set_h9 | with_reducible exact set_h10 | with_reducible exact set_h11 | with_reducible exact set_h12 | with_reducible exact set_h13 | with_reducible exact set_h14 | with_reducible exact set_h15 | with_reducible exact set_h16 | with_reducible exact set_h17 | with_reducible exact set_h18 | with_reducible exact set_h19 | with_reducible exact set_h20 | with_reducible exact set_h21 | with_reducible exact set_h22 | with_reducible exact set_h23 | with_reducible exact set_h24 | with_reducible exact set_h25)) | (with_reducible refine w_add ?_) | (with_reducible refine w_test ?_) | (with_reducible refine w_kB ?_) | (with_reducible refine w_call ?_) | (with_reducible refine w_ifs ?_) | (with_reducible refine w_next ?_) | ((with_reducible refine' w_gname ?_ ?_); rotate_left; (first | with_reducible exact set_h0 | with_reducible exact set_h1 | with_reducible exact set_h2 | with_reducible exact set_h3 | with_reducible exact set_h4 | with_reducible exact set_h5 | with_reducible exact set_h6 | with_reducible exact set_h7 | with_reducible exact set_h8 | with_reducible exact set_h9 | with_reducible exact set_h10 | with_reducible exact set_h11 | with_reducible exact set_h12 | with_reducible exact set_h13 | with_reducible exact set_h14 | with_reducible exact set_h15 | with_reducible exact set_h16 | with_reducible exact set_h17 | with_reducible exact set_h18 | with_reducible exact set_h19 | with_reducible exact set_h20 | with_reducible exact set_h21 | with_reducible exact set_h22 | with_reducible exact set_h23 | with_reducible exact set_h24 | with_reducible exact set_h25)) | (with_reducible refine w_ret ?_) | (with_reducible refine w_fld ?_) | (with_reducible refine w_ifd ?_) | ((with_reducible refine' w_fldO ?_ ?_); rotate_left; exact rfl) | (with_reducible refine w_gcons ?_) | (with_reducible refine w_callB ?_) | (with_reducible refine w_on1 ?_) | ((with_reducible refine w_mod ?_ ?_); (first | decide | omega)) | (with_reducible refine w_int ?_) | (with_reducible refine w_drop ?_) | (with_reducible refine w_for ?_) | (with_reducible refine w_I0 ?_) | (with_reducible refine w_ifF ?_) | (with_reducible refine w_part ?_) | (with_reducible refine w_partI ?_) | (with_reducible refine w_sl ?_) | (with_reducible refine w_nop ?_) | (with_reducible refine w_ifT ?_) | (with_reducible refine w_R1 ?_) | ((with_reducible refine w_R1I ?_ ?_); (first | decide | omega)) | (with_reducible refine w_gnil ?_) | (with_reducible refine w_ixtup0 ?_) | (with_reducible refine w_ifn ?_) | (with_reducible refine w_asg ?_) | ((with_reducible refine w_gtup ?_ ?_); exact rfl) | (with_reducible refine w_eqInt ?_) | (with_reducible refine w_ixtup1 ?_) | (with_reducible refine w_or ?_) | (with_reducible refine w_not ?_) | (with_reducible refine w_in_non ?_) | (with_reducible refine w_lc ?_) | ((with_reducible refine w_div ?_ ?_); (first | decide | omega)) | (with_reducible refine w_neg ?_) | (with_reducible refine w_negI ?_) | (with_reducible refine w_eqStr ?_) | (with_reducible refine w_slT ?_) | (with_reducible refine w_lentup ?_) | (with_reducible refine w_tupL ?_) | (with_reducible refine w_lstF ?_) | (with_reducible refine w_app ?_) | (with_reducible refine w_tisN ?_) | (with_reducible refine w_meth ?_) | ((with_reducible refine w_objO ?_ ?_); exact rfl) | (with_reducible refine w_lstM ?_) | (with_reducible refine w_ixtup2 ?_) | (with_reducible refine w_retF ?_) | (with_reducible refine w_iL ?_) | (with_reducible refine w_make ?_) | (with_reducible refine w_fldS ?_) | (with_reducible refine w_rg1 ?_) | (with_reducible refine w_dnew ?_) | (with_reducible refine w_piD ?_) | (with_reducible refine w_dctF ?_) | (with_reducible refine w_dc ?_) | (with_reducible refine w_dcF ?_) | (with_reducible refine w_piZ3 ?_) | (with_reducible refine w_piET ?_) | (with_reducible refine w_pIsD ?_) | (with_reducible refine w_dct1 ?_) | (with_reducible refine w_gsubD ?_) | (with_reducible refine w_lst ?_) | (with_reducible refine w_ixtup3 ?_) | (with_reducible refine w_lenlst ?_) | (with_reducible refine w_and ?_) | (with_reducible refine w_in_tup ?_) | ((with_reducible refine' w_aug ?_ ?_ ?_); rotate_left 2; exact rfl; (intro x; first | with_reducible exact set_h0 | with_reducible exact set_h1 | with_reducible exact set_h2 | with_reducible exact set_h3 | with_reducible exact set_h4 | with_reducible exact set_h5 | with_reducible exact set_h6 | with_reducible exact set_h7 | with_reducible exact set_h8 | with_reducible exact set_h9 | with_reducible exact set_h10 | with_reducible exact set_h11 | with_reducible exact set_h12 | with_reducible exact set_h13 | with_reducible exact set_h14 | with_reducible exact set_h15 | with_reducible exact set_h16 | with_reducible exact set_h17 | with_reducible exact set_h18 | with_reducible exact set_h19 | with_reducible exact set_h20 | with_reducible exact set_h21 | with_reducible exact set_h22 | with_reducible exact set_h23 | with_reducible exact set_h24 | with_reducible exact set_h25)) | (with_reducible refine w_lc2 ?_) | (with_reducible refine w_lcT ?_) | (with_reducible refine w_on2 ?_) | (with_reducible refine w_neInt ?_) | (with_reducible refine w_slL ?_) | (with_reducible refine w_tnotN ?_) | (with_reducible refine w_iT ?_) | (with_reducible refine w_tupF ?_) | (with_reducible refine w_par ?_) | ((with_reducible refine' w_kpar ?_ ?_ ?_); rotate_left 2; (first | with_reducible exact set_h0 | with_reducible exact set_h1 | with_reducible exact set_h2 | with_reducible exact set_h3 | with_reducible exact set_h4 | with_reducible exact set_h5 | with_reducible exact set_h6 | with_reducible exact set_h7 | with_reducible exact set_h8 | with_reducible exact set_h9 | with_reducible exact set_h10 | with_reducible exact set_h11 | with_reducible exact set_h12 | with_reducible exact set_h13 | with_reducible exact set_h14 | with_reducible exact set_h15 | with_reducible exact set_h16 | with_reducible exact set_h17 | with_reducible exact set_h18 | with_reducible exact set_h19 | with_reducible exact set_h20 | with_reducible exact set_h21 | with_reducible exact set_h22 | with_reducible exact set_h23 | with_reducible exact set_h24 | with_reducible exact set_h25); (first | with_reducible exact set_h0 | with_reducible exact set_h1 | with_reducible exact set_h2 | with_reducible exact set_h3 | with_reducible exact set_h4 | with_reducible exact set_h5 | with_reducible exact set_h6 | with_reducible exact set_h7 | with_reducible exact set_h8 | with_reducible exact set_h9 | with_reducible exact set_h10 | with_reducible exact set_h11 | with_reducible exact set_h12 | with_reducible exact set_h13 | with_reducible exact set_h14 | with_reducible exact set_h15 | with_reducible exact set_h16 | with_reducible exact set_h17 | with_reducible exact set_h18 | with_reducible exact set_h19 | with_reducible exact set_h20 | with_reducible exact set_h21 | with_reducible exact set_h22 | with_reducible exact set_h23 | with_reducible exact set_h24 | with_reducible exact set_h25)) | (with_reducible refine w_par3 ?_) | ((with_reducible refine' w_kpar3 ?_ ?_ ?_ ?_); rotate_left 3; (first | with_reducible exact set_h0 | with_reducible exact set_h1 | with_reducible exact set_h2 | with_reducible exact set_h3 | with_reducible exact set_h4 | with_reducible exact set_h5 | with_reducible exact set_h6 | with_reducible exact set_h7 | with_reducible exact set_h8 | with_reducible exact set_h9 | with_reducible exact set_h10 | with_reducible exact set_h11 | with_reducible exact set_h12 | with_reducible exact set_h13 | with_reducible exact set_h14 | with_reducible exact set_h15 | with_reducible exact set_h16 | with_reducible exact set_h17 | with_reducible exact set_h18 | with_reducible exact set_h19 | with_reducible exact set_h20 | with_reducible exact set_h21 | with_reducible exact set_h22 | with_reducible exact set_h23 | with_reducible exact set_h24 | with_reducible exact set_h25); (first | with_reducible exact set_h0 | with_reducible exact set_h1 | with_reducible exact set_h2 | with_reducible exact set_h3 | with_reducible exact set_h4 | with_reducible exact set_h5 | with_reducible exact set_h6 | with_reducible exact set_h7 | with_reducible exact set_h8 | with_reducible exact set_h9 | with_reducible exact set_h10 | with_reducible exact set_h11 | with_reducible exact set_h12 | with_reducible exact set_h13 | with_reducible exact set_h14 | with_reducible exact set_h15 | with_reducible exact set_h16 | with_reducible exact set_h17 | with_reducible exact set_h18 | with_reducible exact set_h19 | with_reducible exact set_h20 | with_reducible exact set_h21 | with_reducible exact set_h22 | with_reducible exact set_h23 | with_reducible exact set_h24 | with_reducible exact set_h25); (first | with_reducible exact set_h0 | with_reducible exact set_h1 | with_reducible exact set_h2 | with_reducible exact set_h3 | with_reducible exact set_h4 | with_reducible exact set_h5 | with_reducible exact set_h6 | with_reducible exact set_h7 | with_reducible exact set_h8 | with_reducible exact set_h9 | with_reducible exact set_h10 | with_reducible exact set_h11 | with_reducible exact set_h12 | with_reducible exact set_h13 | with_reducible exact set_h14 | with_reducible exact set_h15 | with_reducible exact set_h16 | with_reducible exact set_h17 | with_reducible exact set_h18 | with_reducible exact set_h19 | with_reducible exact set_h20 | with_reducible exact set_h21 | with_reducible exact set_h22 | with_reducible exact set_h23 | with_reducible exact set_h24 | with_reducible exact set_h25)) | (with_reducible refine w_rg2 ?_) | (with_reducible refine w_asT ?_) | (with_reducible refine w_kTp ?_) | (with_reducible refine w_pdget2 ?_) | (with_reducible refine w_zT ?_) | (with_reducible refine w_dct ?_) | (with_reducible refine w_listL ?_) | (with_reducible refine w_andV ?_) | (with_reducible refine w_isN ?_) | (with_reducible refine w_cnt ?_) | (with_reducible refine w_retD ?_) | ((with_reducible refine' w_isi_i ?_ ?_); rotate_left; (first | with_reducible exact kit_ib | with_reducible exact kit_ii | with_reducible exact kit_it | with_reducible exact kit_il | with_reducible exact kit_is)) | ((with_reducible refine' w_isi_t ?_ ?_); rotate_left; (first | with_reducible exact kit_tb | with_reducible exact kit_ti | with_reducible exact kit_tt | with_reducible exact kit_tl | with_reducible exact kit_ts)) | (with_reducible refine w_lc2M ?_) | (with_reducible refine w_lcM ?_) | (with_reducible refine w_catN ?_) | (with_reducible refine w_tcnt ?_) | (with_reducible refine w_kTCnt ?_) | (with_reducible refine w_catR ?_) | (with_reducible refine w_tidx ?_) | (with_reducible refine w_pdget1 ?_) | (with_reducible refine w_rv ?_) | (with_reducible refine w_z ?_) | (with_reducible refine w_gsub ?_) | (with_reducible refine w_ixlst0 ?_) | (with_reducible refine w_ixlst1 ?_) | (with_reducible refine w_slS ?_) | (with_reducible refine w_abs ?_) | (with_reducible refine w_listML ?_) | (with_reducible refine w_notB ?_) | (with_reducible refine w_brk ?_) | (with_reducible refine w_fzE ?_) | ((with_reducible refine' w_isi_l ?_ ?_); rotate_left; (first | with_reducible exact kit_lb | with_reducible exact kit_li | with_reducible exact kit_lt | with_reducible exact kit_ll | with_reducible exact kit_ls)) | (with_reducible refine w_join ?_) | (with_reducible refine w_kStr ?_) | (with_reducible refine w_zL ?_) | (with_reducible refine w_tupRg ?_) | ((with_reducible refine w_shr ?_ ?_); (first | decide | omega)) | (with_reducible refine w_retN ?_) | (with_reducible refine w_dnx ?_) | (with_reducible refine w_drt ?_) | (with_reducible refine w_dbk ?_) | (with_reducible refine w_eqBl ?_) | (with_reducible refine w_neBl ?_) | (with_reducible refine w_neStr ?_) | (with_reducible refine w_ixlst2 ?_) | (with_reducible refine w_ixlst3 ?_) | (with_reducible refine w_ixtup4 ?_) | (with_reducible refine w_ixlst4 ?_) | (with_reducible refine w_ixtup5 ?_) | (with_reducible refine w_ixlst5 ?_) | (with_reducible refine w_need ?_) | (with_reducible refine w_lenscr ?_) | (with_reducible refine w_listT ?_) | (with_reducible refine w_listS ?_) | (with_reducible refine w_tupT ?_) | (with_reducible refine w_listMT ?_) | (with_reducible refine w_orV ?_) | (with_reducible refine w_notV ?_) | (with_reducible refine w_if ?_) | (with_reducible refine w_notN ?_) | (with_reducible refine w_in_int ?_) | (with_reducible refine w_in_lst ?_) | (with_reducible refine w_in_ptr ?_) | (with_reducible refine w_in_str ?_) | (with_reducible refine w_in_bl ?_) | (with_reducible refine w_isB ?_) | (with_reducible refine w_lstFs ?_) | (with_reducible refine w_R2 ?_) | (with_reducible refine w_forM ?_) | (with_reducible refine w_lcnil ?_) | (with_reducible refine w_lccons ?_) | (with_reducible refine w_retFD ?_) | (with_reducible refine w_raise ?_) | (with_reducible refine w_raiseF ?_) | (with_reducible refine w_tryF ?_) | (with_reducible refine w_isFp ?_) | (with_reducible refine w_isFx ?_) | ((with_reducible refine' w_xf ?_ ?_); rotate_left; exact rfl) | (with_reducible refine w_try ?_) | (with_reducible refine w_lstRg ?_) | (with_reducible refine w_lstRev ?_) | (with_reducible refine w_tupRevL ?_) | (with_reducible refine w_tupN ?_) | (with_reducible refine w_tupDL ?_) | (with_reducible refine w_lenSet ?_) | (with_reducible refine w_lstRg2 ?_) | (with_reducible refine w_sum ?_) | (with_reducible refine w_tupRevLK ?_) | (with_reducible refine w_lstRevK ?_) | (with_reducible refine w_pop ?_) | (with_reducible refine w_rev ?_) | (with_reducible refine w_revL ?_) | (with_reducible refine w_forE ?_) | ((with_reducible refine' w_isi_b ?_ ?_); rotate_left; (first | with_reducible exact kit_bb | with_reducible exact kit_bi | with_reducible exact kit_bt | with_reducible exact kit_bl | with_reducible exact kit_bs)) | ((with_reducible refine' w_isi_s ?_ ?_); rotate_left; (first | with_reducible exact kit_sb | with_reducible exact kit_si | with_reducible exact kit_st | with_reducible exact kit_sl | with_reducible exact kit_ss)) | ((with_reducible refine' w_isi_n ?_ ?_); rotate_left; (first | with_reducible exact kit_nb | with_reducible exact kit_ni | with_reducible exact kit_nt | with_reducible exact kit_nl | with_reducible exact kit_ns))))
local macro_rules | `(tactic| walk_at "st") => `(tactic| simp only [pstart, List.map_cons, List.map_nil, List.cons_append, List.nil_append, List.length_cons, List.length_nil, List.replicate, Nat.reduceSub, Nat.reduceAdd, Nat.zero_add])
theorem eqP_lI {xs ys : List Int} {k : Bool → Prop} (h : k (decide (xs = ys))) : eqP (.lst (xs.map .int)) (.lst (ys.map .int)) k := by
  unfold eqP
  show need (toD _) _
  refine need_by (a := PyData.list (xs.map .int)) (by unfold toD; rw [toDs_ints]; rfl) (need_by (a := PyData.list (ys.map .int)) (by unfold toD; rw [toDs_ints]; rfl) ?_)
  have d : ∀ zs : List Int, PyData.depth (.list (zs.map .int)) ≤ 64 := fun zs => by
    show PyData.depthAll (zs.map .int) + 1 ≤ 64
    rw [depth_ints]
    decide
  refine ⟨d xs, d ys, ?_⟩
  show k (PyData.eqvAll (xs.map .int) (ys.map .int))
  rw [eqvAll_ints]
  exact h
theorem w_eqLI {xs ys : List Int} {M : Mem} {Q : PQ} (h : Q (.bl (decide (xs = ys))) M) : oEq (.lst (xs.map .int)) (.lst (ys.map .int)) M Q := eqP_lI h
set_option maxHeartbeats 2000000 in
theorem law_body {Γ : Ctx} {ns : List Int} (ok : okRule ns = true) {c0 : Cfg} (h0 : srtd c0.2) (hl : c0.2.length ≤ 12) (hph : 0 ≤ c0.1 ∧ c0.1 ≤ 1) {i : Nat} (hi : i < 10) {x0 x1 x5 x9 x10 x11 : Option PV} {M : Mem} {K bk ct : PNx} {rt : PQ} {ex : PXK}
    (hK : ∀ y9 y10 : Option PV, K [x0, x1, some (.tpd (ns.map .int)), some (blkP Γ ns), some (lI (invR ns)), x5, some (cfgP (itC (stepCf ns) (i + 1) c0)), some (cfgP c0), some (.int (0 + (i : Int))), y9, y10, x11] M) :
    b_law_1 Γ (PEnds.mk K rt ex bk ct) [x0, x1, some (.tpd (ns.map .int)), some (blkP Γ ns), some (lI (invR ns)), x5, some (cfgP (itC (stepCf ns) i c0)), some (cfgP c0), some (.int (0 + (i : Int))), x9, x10, x11] M := by
  have o0 := it_ok ok h0 hl (j := i) (by omega)
  have o1 := it_ok ok h0 hl (j := i + 1) (by omega)
  have ob := bk_ok ok h0 hl (j := i) (by omega)
  have e1 : itC (stepCf ns) (i + 1) c0 = stepCf ns (itC (stepCf ns) i c0) := itC_succ _ _ _
  have len : kpB ns = true → (stepCf ns (itC (stepCf ns) i c0)).2.length = c0.2.length := fun kp => by rw [← e1]; exact it_len ok kp h0 (i + 1)
  have oks : ∀ j ≤ i + 1, okC (itC (stepCf ns) j c0) := fun j hj => it_ok ok h0 hl (by omega)
  have okb : ∀ j ≤ i + 1, okC (itC (backCf ns) j (itC (stepCf ns) (i + 1) c0)) := fun j hj => by rw [it_back ok h0 j (i + 1) hj]; exact it_ok ok h0 hl (by omega)
  have eb : itC (backCf ns) (i + 1) (itC (stepCf ns) (i + 1) c0) = c0 := by rw [it_back ok h0 (i + 1) (i + 1) (Nat.le_refl _), Nat.sub_self]; rfl
  have e2 := bk_st ok o0.1
  have e3 := st_bk ok o0.1
  rw [e1] at hK o1 okb eb
  have e4 : itC (stepCf ns) (i + 1) c0 = stepCf ns (itC (stepCf ns) i c0) := e1
  generalize itC (stepCf ns) i c0 = c at *
  obtain ⟨ph, S⟩ := c
  unfold b_law_1
  walk_at "hd"
  refine ⟨_, ns, (ph, S), rfl, .inl (.inl rfl), ok, o0, o1, ?_⟩
  walk_at "hd"
  unfold q_law_1_1
  rw [show cfgP (ph, S) = .tup [.int ph, .tup (S.map ppP)] from rfl]
  walk_at "hd"
  refine ⟨_, invR ns, (1 - ph, S), rfl, .inr rfl, inv_ok ok, o0, ob, ?_⟩
  walk_at "hd"
  unfold q_law_1_2
  rw [show cfgP (stepCf (invR ns) (1 - ph, S)) = .tup [.int (1 - (1 - ph)), .tup ((stepB (invR ns) (1 - ph) S).map ppP)] from rfl]
  walk_at "hd"
  unfold q_law_1_3
  rw [show (PV.tup [.int ph, .tup (S.map ppP)]) = cfgP (ph, S) from rfl, show (PV.tup [.int (1 - ph), .tup ((stepB (invR ns) (1 - ph) S).map ppP)]) = cfgP (backCf ns (ph, S)) from rfl, show blkP Γ ns = .obj Γ.Blocks (blkF Γ ns) from rfl]
  walk_at "hd"
  refine ⟨ns, (ph, S), rfl, ok, o0, o1, ?_⟩
  walk_at "hd"
  refine w_neC rfl ?_
  walk_at "hd"
  refine ⟨ns, (ph, S), rfl, ok, o0, ob, ?_⟩
  walk_at "hd"
  refine w_neC rfl ?_
  walk_at "hd"
  refine ⟨ns, stepCf ns (ph, S), rfl, ok, o1, by rw [e2]; exact o0, ?_⟩
  walk_at "hd"
  refine w_neC e2 ?_
  walk_at "hd"
  refine ⟨ns, backCf ns (ph, S), rfl, ok, ob, by rw [e3]; exact o0, ?_⟩
  walk_at "hd"
  refine w_neC e3 ?_
  walk_at "hd"
  unfold q_law_1_4
  walk_at "hd"
  rw [show asT (PV.tpd (ns.map PV.int)) = .tup (ns.map PV.int) from rfl]
  walk_at "hd"
  refine w_eqLI ?_
  have rest : ∀ M', M' = M → q_law_1_5 Γ (PEnds.mk K rt ex bk ct) [x0, x1, some (.tpd (ns.map .int)), some (.obj Γ.Blocks (blkF Γ ns)), some (lI (invR ns)), x5, some (cfgP (ph, S)), some (cfgP c0), some (.int (0 + (i : Int))), some (cfgP (stepCf ns (ph, S))), some (cfgP (backCf ns (ph, S))), x11] M' := by
    rintro M' rfl
    unfold q_law_1_5
    walk_at "hd"
    refine ⟨ns, rfl, ok, ?_⟩
    have tail : q_law_1_6 Γ (PEnds.mk K rt ex bk ct) [x0, x1, some (.tpd (ns.map .int)), some (.obj Γ.Blocks (blkF Γ ns)), some (lI (invR ns)), x5, some (cfgP (ph, S)), some (cfgP c0), some (.int (0 + (i : Int))), some (cfgP (stepCf ns (ph, S))), some (cfgP (backCf ns (ph, S))), x11] M' := by
      unfold q_law_1_6
      walk_at "hd"
      unfold q_law_1_7
      walk_at "hd"
      refine ⟨ns, c0, i + 1, by rw [show (0 + (i : Int) + 1) = ((i + 1 : Nat) : Int) by omega]; rfl, ok, by omega, oks, ?_⟩
      rw [e4]
      walk_at "hd"
      refine w_neC rfl ?_
      walk_at "hd"
      refine ⟨ns, stepCf ns (ph, S), i + 1, by rw [show (0 + (i : Int) + 1) = ((i + 1 : Nat) : Int) by omega]; rfl, ok, by omega, okb, ?_⟩
      rw [eb]
      walk_at "hd"
      refine w_neC rfl ?_
      walk_at "hd"
      exact hK _ _
    cases kp : kpB ns with
    | false =>
      walk_at "hd"
      exact tail
    | true =>
      have hl2 := len kp
      walk_at "hd"
      rw [show cfgP (stepCf ns (ph, S)) = .tup [.int (1 - ph), .tup ((stepCf ns (ph, S)).2.map ppP)] from rfl, show cfgP c0 = .tup [.int c0.1, .tup (c0.2.map ppP)] from rfl]
      walk_at "hd"
      rw [List.length_map, List.length_map, hl2, if_pos rfl]
      walk_at "hd"
      exact tail
  by_cases he : ns = invR ns
  · rw [decide_eq_true he]
    walk_at "hd"
    refine ⟨ph, .tup (S.map ppP), rfl, ?_⟩
    walk_at "hd"
    have oT : okC (stepCf ns (1 - ph, S)) := by
      have : stepCf ns (1 - ph, S) = stepCf (invR ns) (1 - ph, S) := by rw [← he]
      rw [this]
      exact ob
    refine ⟨ns, (1 - ph, S), rfl, ok, o0, oT, ?_⟩
    walk_at "hd"
    refine ⟨1 - ph, .tup ((stepB (invR ns) (1 - ph) S).map ppP), rfl, ?_⟩
    rw [show (PV.tup [.int (1 - (1 - ph)), .tup ((stepB (invR ns) (1 - ph) S).map ppP)]) = cfgP (1 - (1 - ph), stepB (invR ns) (1 - ph) S) from rfl]
    refine w_neC (by rw [← he]; rfl) ?_
    walk_at "hd"
    exact rest _ rfl
  · rw [decide_eq_false he]
    walk_at "hd"
    exact rest _ rfl
set_option maxHeartbeats 2000000 in
theorem law4 {Γ : Ctx} {zs : List Int} (hz : zs.length ≤ 63) {ns : List Int} (ok : okRule ns = true) {num : Int} (n0 : 0 ≤ num) {dn db dc : PNx} {M : Mem} {Q : PQ} {E : PXK} (q : ∀ M', Q (.bl true) M') :
    r_law_4 Γ (PEnds.mk dn Q E db dc) [some (.scr (zs.map .int)), some (.int num), some (.tpd (ns.map .int)), none, none, none, none, none, none, none, none, none] M := by
  obtain ⟨h1, h2, h3, h4⟩ := okR ok
  unfold r_law_4
  walk_at "hd"
  intro y hy
  refine ⟨y, _, rfl, put_same, .inl ⟨ns, rfl, ok, ?_⟩⟩
  rw [put_put]
  refine ⟨rfl, ?_⟩
  simp only [put_same, true_and]
  rw [put_drop hy]
  walk_at "hd"
  unfold r_law_5
  walk_at "hd"
  unfold rngP
  refine ⟨line_lt (by rw [List.length_map, List.length_range]; decide), lc_mapF (fun (i : Nat) => PV.int (0 + (i : Int))) (fun (k : Nat) => PV.int ((ns.idxOf (k : Int) : Nat) : Int)) _ [] (fun k hk R hR => ?_) ?_⟩
  · have hk3 : k < 16 := List.mem_range.mp hk
    walk_at "hd"
    rw [Int.zero_add]
    refine w_kTidx (ns.idxOf (k : Int)) (at_idx (full16 h4 h2 h1 ⟨by omega, by omega⟩)) idx_first ?_
    exact hR
  rw [List.nil_append]
  rw [show (List.range (16 : Int).toNat).map (fun (k : Nat) => PV.int ((ns.idxOf (k : Int) : Nat) : Int)) = (invR ns).map PV.int by unfold invR; rw [List.map_map]; rfl]
  walk_at "hd"
  unfold r_law_6
  walk_at "hd"
  refine ⟨⟨by decide, by decide, by decide⟩, ?_⟩
  walk_at "hd"
  have m0 := Int.emod_nonneg (num / 2) (b := 8) (by decide)
  have m1 := Int.emod_lt_of_pos (num / 2) (b := 8) (by decide)
  obtain ⟨k, hk, hk8⟩ : ∃ k : Nat, num / 2 % 8 = (k : Int) ∧ k < 8 := ⟨(num / 2 % 8).toNat, by omega, by omega⟩
  rw [hk]
  obtain ⟨far, hfar⟩ : ∃ far : Int, (([0, 0, 0, 0, 0, 0, 10 ^ (40 : Int).toNat, 999998] : List Int)[k]?) = some far := ⟨_, List.getElem?_eq_getElem hk8⟩
  have hat : L2.atI (([0, 0, 0, 0, 0, 0, 10 ^ (40 : Int).toNat, 999998] : List Int).map PV.int) (k : Int) = some (.int far) := at_tI hfar
  refine w_ixL hat ?_
  walk_at "hd"
  unfold r_law_7
  walk_at "hd"
  refine ⟨zs, 2, rfl, hz, fun c2 => ?_⟩
  walk_at "hd"
  have d0 := Int.emod_nonneg (num / 16) (b := 13) (by decide)
  have d1 := Int.emod_lt_of_pos (num / 16) (b := 13) (by decide)
  obtain ⟨n, hn, hn13⟩ : ∃ n : Nat, num / 16 % 13 = (n : Int) ∧ n < 13 := ⟨(num / 16 % 13).toNat, by omega, by omega⟩
  rw [hn]
  refine ⟨c2, n, 121, rfl, by omega, by decide, fun ds hds _ => ?_⟩
  walk_at "hd"
  refine ⟨ds, 11, far, rfl, by omega, by decide, fun ps hps _ hsrt => ?_⟩
  walk_at "hd"
  unfold r_law_8
  walk_at "hd"
  have p0 := Int.emod_nonneg (num / 208) (b := 2) (by decide)
  have p1 := Int.emod_lt_of_pos (num / 208) (b := 2) (by decide)
  generalize num / 208 % 2 = ph at *
  rw [show (PV.tup [.int ph, .tup (ps.map ppP)]) = cfgP (ph, ps) from rfl]
  have hl12 : ps.length ≤ 12 := by omega
  have t0 := Int.emod_nonneg (num / 416) (b := 10) (by decide)
  have t1 := Int.emod_lt_of_pos (num / 416) (b := 10) (by decide)
  unfold r_law_9
  walk_at "hd"
  refine for_rng (fun i σ M' => ∃ x8 x9 x10 : Option PV, M' = M ∧ σ = [some (.scr (zs.map .int)), some (.int num), some (.tpd (ns.map .int)), some (blkP Γ ns), some (lI (invR ns)), some (.int far), some (cfgP (itC (stepCf ns) i (ph, ps))), some (cfgP (ph, ps)), x8, x9, x10, none]) ⟨none, none, none, rfl, rfl⟩ ?_ ?_
  · rintro i σ M' K hi ⟨x8, x9, x10, rfl, rfl⟩ hK
    exact law_body ok hsrt hl12 ⟨p0, by omega⟩ (by omega) fun y9 y10 => hK _ _ ⟨_, y9, y10, rfl, rfl⟩
  · rintro σ M' ⟨x8, x9, x10, rfl, rfl⟩
    have oN := it_ok ok (c := (ph, ps)) hsrt hl12 (j := (1 + num / 416 % 10).toNat) (by omega)
    have oP := it_ph (ns := ns) (c := (ph, ps)) ⟨p0, (by omega : ph ≤ 1)⟩ (1 + num / 416 % 10).toNat
    generalize itC (stepCf ns) (1 + num / 416 % 10).toNat (ph, ps) = c at *
    obtain ⟨pN, sN⟩ := c
    unfold r_law_10
    rw [show blkP Γ ns = .obj Γ.Blocks (blkF Γ ns) from rfl]
    walk_at "hd"
    refine ⟨ns, _, rfl, .inl ⟨pN, sN, rfl, oN.2, oP, ?_⟩⟩
    rw [srtd_adj oN.1]
    walk_at "hd"
    exact q _
set_option maxHeartbeats 2000000 in
theorem k_law (Γ : Ctx) : Keeps (t_law Γ) 1 12 (sp_law Γ) := by
  rintro xs M Q E hl ⟨zs, rfl, hz, q⟩
  walk_at "st"
  unfold t_law
  walk_at "hd"
  refine ⟨zs, 1, rfl, hz, fun c1 => ?_⟩
  walk_at "hd"
  have n0 := Int.emod_nonneg c1 (b := 90000) (by decide)
  have n1 := Int.emod_lt_of_pos c1 (b := 90000) (by decide)
  generalize c1 % 90000 = num at *
  unfold r_law_1
  walk_at "hd"
  refine ⟨zs, 0, rfl, hz, fun c0 => ?_⟩
  walk_at "hd"
  refine ⟨c0, rfl, fun ns0 ok0 => ?_⟩
  walk_at "hd"
  have rest : ∀ ns, okRule ns = true → r_law_3 Γ (PEnds.mk (fun _ _ => Q .non M) Q E (fun _ _ => False) (fun _ _ => False)) [some (.scr (zs.map .int)), some (.int num), some (.tpd (ns.map .int)), none, none, none, none, none, none, none, none, none] M := by
    intro ns ok
    unfold r_law_3
    walk_at "hd"
    by_cases hk : num % 4 = 0
    · rw [if_pos hk]
      walk_at "hd"
      refine ⟨zs, 0, rfl, hz, fun c3 => ?_⟩
      walk_at "hd"
      refine ⟨c3, rfl, fun ns3 ok3 => ?_⟩
      dsimp only
      exact law4 hz ok3 n0 q
    · rw [if_neg hk]
      exact law4 hz ok n0 q
  unfold r_law_2
  walk_at "hd"
  by_cases hk : num % 2 = 1
  · rw [if_pos hk]
    walk_at "hd"
    refine ⟨rfl, ?_⟩
    unfold blkP blkF
    walk_at "hd"
    exact rest _ okr_balls
  · rw [if_neg hk]
    exact rest _ ok0
end My
set_option Elab.async false
set_option linter.all false
set_option maxRecDepth 100000
namespace My
open PySem PySem.Spec PyProof.Rows L2 PL
set_option maxHeartbeats 2000000
open TM
theorem rall_ints {K : PySem.W.Frag} {F : Hp} : ∀ ns : List Int, RAll K F (ns.map PV.int) (ns.map V.int)
  | [] => .nil
  | n :: r => .cons (.int n) (rall_ints r)
theorem top_law {K : PySem.W.Frag} {H : Hp} {a : Addr} {ns : List Int} (hl : ns.length ≤ 63) (hS : SqL K H a (ns.map V.int)) : lift K 1 sp_top [V.ref a] H (fun v _ => v = V.bl true) fun _ _ _ => False := by
  refine lift_of rfl (F := H) (M := fun _ => none) (xs := [.scr (ns.map .int)]) (Qp := fun x _ => x = .bl true) (Ep := fun _ _ _ => False) ⟨fun _ _ e => e, fun _ h => absurd rfl h, fun _ _ h => nomatch h⟩ (.cons (.scr hS (rall_ints ns)) .nil) ⟨ns, rfl, hl, fun _ => rfl⟩ ?_ ?_
  · rintro v H' ⟨F', M', x, _, r, rfl⟩
    cases r
    rfl
  · rintro cls d H' ⟨_, _, _, _, _, _, _, z⟩
    exact z
theorem top_cx {P : Program} {w : World} {H : Hp} {s s' : Shared} {e : Value} (z : L2.CX P w [] H s (fun _ _ _ => False) e s') : False := by
  obtain ⟨_, _, _, _, _, _, _, _, _, _, _, _, z⟩ := z
  exact z
section
variable {P : Program} {w : World} {K : PySem.W.Frag} {mg : Str → Option Value} {base : Heap} {Γ : Ctx}
theorem ok_law_mixed {f : Addr} {fd : FuncData} (F : Fun K (PySem.Str.ofString "_law_mixed") "_law_mixed" s_law_mixed f fd) (T : Txt K mg Γ)  : FnOk P w K mg base (L2.CX P w) 1 f fd ["cell", "k"] (lift K 2 (sp_law_mixed Γ)) :=
  Fn.ok F sc_law_mixed rfl fun cdv A outer s H E hr => ⟨_, d_law_mixed T  hr, k_law_mixed Γ⟩
theorem ok_law_digits {f : Addr} {fd : FuncData} (F : Fun K (PySem.Str.ofString "_law_digits") "_law_digits" s_law_digits f fd) (T : Txt K mg Γ) (G_law_mixed : GFn P w K mg base (PySem.Str.ofString "_law_mixed") 1 ["cell", "k"] (sp_law_mixed Γ)) : FnOk P w K mg base (L2.CX P w) 2 f fd ["cell", "count", "many"] (lift K 3 (sp_law_digits Γ)) :=
  Fn.ok F sc_law_digits rfl fun cdv A outer s H E hr => ⟨_, d_law_digits T G_law_mixed hr, k_law_digits Γ⟩
theorem ok_law_values {f : Addr} {fd : FuncData} (F : Fun K (PySem.Str.ofString "_law_values") "_law_values" s_law_values f fd) (T : Txt K mg Γ) (G_law_digits : GFn P w K mg base (PySem.Str.ofString "_law_digits") 2 ["cell", "count", "many"] (sp_law_digits Γ)) : FnOk P w K mg base (L2.CX P w) 3 f fd ["cell"] (lift K 1 (sp_law_values Γ)) :=
  Fn.ok F sc_law_values rfl fun cdv A outer s H E hr => ⟨_, d_law_values T G_law_digits hr, k_law_values Γ⟩
theorem ok_inverse_rule {f : Addr} {fd : FuncData} (F : Fun K (PySem.Str.ofString "inverse_rule") "inverse_rule" s_inverse_rule f fd) (T : Txt K mg Γ)  : FnOk P w K mg base (L2.CX P w) 1 f fd ["rule"] (lift K 1 (sp_inverse_rule Γ)) :=
  Fn.ok F sc_inverse_rule rfl fun cdv A outer s H E hr => ⟨_, d_inverse_rule T  hr, k_inverse_rule Γ⟩
theorem ok_is_whole {f : Addr} {fd : FuncData} (F : Fun K (PySem.Str.ofString "is_whole") "is_whole" s_is_whole f fd) (T : Txt K mg Γ)  : FnOk P w K mg base (L2.CX P w) 1 f fd ["value"] (lift K 1 (sp_is_whole Γ)) :=
  Fn.ok F sc_is_whole rfl fun cdv A outer s H E hr => ⟨_, d_is_whole T  hr, k_is_whole Γ⟩
theorem ok_is_number {f : Addr} {fd : FuncData} (F : Fun K (PySem.Str.ofString "is_number") "is_number" s_is_number f fd) (T : Txt K mg Γ) (G_is_whole : GFn P w K mg base (PySem.Str.ofString "is_whole") 1 ["value"] (sp_is_whole Γ)) : FnOk P w K mg base (L2.CX P w) 2 f fd ["value", "low", "high"] (lift K 3 (sp_is_number Γ)) :=
  Fn.ok F sc_is_number rfl fun cdv A outer s H E hr => ⟨_, d_is_number T G_is_whole hr, k_is_number Γ⟩
theorem ok_are_numbers {f : Addr} {fd : FuncData} (F : Fun K (PySem.Str.ofString "are_numbers") "are_numbers" s_are_numbers f fd) (T : Txt K mg Γ) (G_is_number : GFn P w K mg base (PySem.Str.ofString "is_number") 2 ["value", "low", "high"] (sp_is_number Γ)) : FnOk P w K mg base (L2.CX P w) 3 f fd ["value", "low", "high"] (lift K 3 (sp_are_numbers Γ)) :=
  Fn.ok F sc_are_numbers rfl fun cdv A outer s H E hr => ⟨_, d_are_numbers T G_is_number hr, k_are_numbers Γ⟩
theorem ok_is_rule {f : Addr} {fd : FuncData} (F : Fun K (PySem.Str.ofString "is_rule") "is_rule" s_is_rule f fd) (T : Txt K mg Γ) (G_are_numbers : GFn P w K mg base (PySem.Str.ofString "are_numbers") 3 ["value", "low", "high"] (sp_are_numbers Γ)) : FnOk P w K mg base (L2.CX P w) 4 f fd ["value"] (lift K 1 (sp_is_rule Γ)) :=
  Fn.ok F sc_is_rule rfl fun cdv A outer s H E hr => ⟨_, d_is_rule T G_are_numbers hr, k_is_rule Γ⟩
theorem ok_Blocks_init {f : Addr} {fd : FuncData} (F : Fun K (PySem.Str.ofString "__init__") "Blocks.__init__" s_Blocks_init f fd) (T : Txt K mg Γ) (G_inverse_rule : GFn P w K mg base (PySem.Str.ofString "inverse_rule") 1 ["rule"] (sp_inverse_rule Γ)) (G_is_rule : GFn P w K mg base (PySem.Str.ofString "is_rule") 4 ["value"] (sp_is_rule Γ)) : FnOk P w K mg base (L2.CX P w) 5 f fd ["self", "values"] (lift K 2 (sp_Blocks_init Γ)) :=
  Fn.ok F sc_Blocks_init rfl fun cdv A outer s H E hr => ⟨_, d_Blocks_init T G_inverse_rule G_is_rule hr, k_Blocks_init Γ⟩
theorem ok_law_cell {f : Addr} {fd : FuncData} (F : Fun K (PySem.Str.ofString "_law_cell") "_law_cell" s_law_cell f fd) (T : Txt K mg Γ)  : FnOk P w K mg base (L2.CX P w) 1 f fd ["script", "k"] (lift K 2 (sp_law_cell Γ)) :=
  Fn.ok F sc_law_cell rfl fun cdv A outer s H E hr => ⟨_, d_law_cell T  hr, k_law_cell Γ⟩
theorem ok_law_keeping {f : Addr} {fd : FuncData} (F : Fun K (PySem.Str.ofString "_law_keeping") "_law_keeping" s_law_keeping f fd) (T : Txt K mg Γ) (G_law_digits : GFn P w K mg base (PySem.Str.ofString "_law_digits") 2 ["cell", "count", "many"] (sp_law_digits Γ)) : FnOk P w K mg base (L2.CX P w) 3 f fd ["cell"] (lift K 1 (sp_law_keeping Γ)) :=
  Fn.ok F sc_law_keeping rfl fun cdv A outer s H E hr => ⟨_, d_law_keeping T G_law_digits hr, k_law_keeping Γ⟩
theorem ok_law_step {f : Addr} {fd : FuncData} (F : Fun K (PySem.Str.ofString "_law_step") "_law_step" s_law_step f fd) (T : Txt K mg Γ)  : FnOk P w K mg base (L2.CX P w) 1 f fd ["values", "configuration"] (lift K 2 (sp_law_step Γ)) :=
  Fn.ok F sc_law_step rfl fun cdv A outer s H E hr => ⟨_, d_law_step T  hr, k_law_step Γ⟩
theorem ok_is_place {f : Addr} {fd : FuncData} (F : Fun K (PySem.Str.ofString "is_place") "is_place" s_is_place f fd) (T : Txt K mg Γ) (G_is_whole : GFn P w K mg base (PySem.Str.ofString "is_whole") 1 ["value"] (sp_is_whole Γ)) : FnOk P w K mg base (L2.CX P w) 2 f fd ["value"] (lift K 1 (sp_is_place Γ)) :=
  Fn.ok F sc_is_place rfl fun cdv A outer s H E hr => ⟨_, d_is_place T G_is_whole hr, k_is_place Γ⟩
theorem ok_Blocks_is_configuration {f : Addr} {fd : FuncData} (F : Fun K (PySem.Str.ofString "is_configuration") "Blocks.is_configuration" s_Blocks_is_configuration f fd) (T : Txt K mg Γ) (G_is_number : GFn P w K mg base (PySem.Str.ofString "is_number") 2 ["value", "low", "high"] (sp_is_number Γ)) (G_is_place : GFn P w K mg base (PySem.Str.ofString "is_place") 2 ["value"] (sp_is_place Γ)) : FnOk P w K mg base (L2.CX P w) 3 f fd ["self", "value"] (lift K 2 (sp_Blocks_is_configuration Γ)) :=
  Fn.ok F sc_Blocks_is_configuration rfl fun cdv A outer s H E hr => ⟨_, d_Blocks_is_configuration T G_is_number G_is_place hr, k_Blocks_is_configuration Γ⟩
theorem ok_balls {f : Addr} {fd : FuncData} (F : Fun K (PySem.Str.ofString "balls") "balls" s_balls f fd) (T : Txt K mg Γ) (G_Blocks_init : GMk P w K mg base (PySem.Str.ofString "Blocks") Γ.Blocks 5 ["self", "values"] (sp_Blocks_init Γ)) : FnOk P w K mg base (L2.CX P w) 7 f fd [] (lift K 0 (sp_balls Γ)) :=
  Fn.ok F sc_balls rfl fun cdv A outer s H E hr => ⟨_, d_balls T G_Blocks_init hr, k_balls Γ⟩
theorem ok_law_places {f : Addr} {fd : FuncData} (F : Fun K (PySem.Str.ofString "_law_places") "_law_places" s_law_places f fd) (T : Txt K mg Γ)  : FnOk P w K mg base (L2.CX P w) 1 f fd ["digits", "wide", "far"] (lift K 3 (sp_law_places Γ)) :=
  Fn.ok F sc_law_places rfl fun cdv A outer s H E hr => ⟨_, d_law_places T  hr, k_law_places Γ⟩
theorem ok_many_balls {f : Addr} {fd : FuncData} (F : Fun K (PySem.Str.ofString "many_balls") "many_balls" s_many_balls f fd) (T : Txt K mg Γ)  : FnOk P w K mg base (L2.CX P w) 1 f fd ["number"] (lift K 1 (sp_many_balls Γ)) :=
  Fn.ok F sc_many_balls rfl fun cdv A outer s H E hr => ⟨_, d_many_balls T  hr, k_many_balls Γ⟩
theorem ok_keeps {f : Addr} {fd : FuncData} (F : Fun K (PySem.Str.ofString "keeps") "keeps" s_keeps f fd) (T : Txt K mg Γ) (G_many_balls : GFn P w K mg base (PySem.Str.ofString "many_balls") 1 ["number"] (sp_many_balls Γ)) : FnOk P w K mg base (L2.CX P w) 2 f fd ["machine"] (lift K 1 (sp_keeps Γ)) :=
  Fn.ok F sc_keeps rfl fun cdv A outer s H E hr => ⟨_, d_keeps T G_many_balls hr, k_keeps Γ⟩
theorem ok_numbered_blocks {f : Addr} {fd : FuncData} (F : Fun K (PySem.Str.ofString "numbered_blocks") "numbered_blocks" s_numbered_blocks f fd) (T : Txt K mg Γ)  : FnOk P w K mg base (L2.CX P w) 1 f fd ["phase", "places"] (lift K 2 (sp_numbered_blocks Γ)) :=
  Fn.ok F sc_numbered_blocks rfl fun cdv A outer s H E hr => ⟨_, d_numbered_blocks T  hr, k_numbered_blocks Γ⟩
theorem ok_replaced {f : Addr} {fd : FuncData} (F : Fun K (PySem.Str.ofString "replaced") "replaced" s_replaced f fd) (T : Txt K mg Γ) (G_numbered_blocks : GFn P w K mg base (PySem.Str.ofString "numbered_blocks") 1 ["phase", "places"] (sp_numbered_blocks Γ)) : FnOk P w K mg base (L2.CX P w) 2 f fd ["rule", "phase", "places"] (lift K 3 (sp_replaced Γ)) :=
  Fn.ok F sc_replaced rfl fun cdv A outer s H E hr => ⟨_, d_replaced T G_numbered_blocks hr, k_replaced Γ⟩
theorem ok_Blocks_step {f : Addr} {fd : FuncData} (F : Fun K (PySem.Str.ofString "step") "Blocks.step" s_Blocks_step f fd) (T : Txt K mg Γ) (G_replaced : GFn P w K mg base (PySem.Str.ofString "replaced") 2 ["rule", "phase", "places"] (sp_replaced Γ)) : FnOk P w K mg base (L2.CX P w) 3 f fd ["self", "configuration"] (lift K 2 (sp_Blocks_step Γ)) :=
  Fn.ok F sc_Blocks_step rfl fun cdv A outer s H E hr => ⟨_, d_Blocks_step T G_replaced hr, k_Blocks_step Γ⟩
theorem ok_Blocks_back {f : Addr} {fd : FuncData} (F : Fun K (PySem.Str.ofString "back") "Blocks.back" s_Blocks_back f fd) (T : Txt K mg Γ) (G_replaced : GFn P w K mg base (PySem.Str.ofString "replaced") 2 ["rule", "phase", "places"] (sp_replaced Γ)) : FnOk P w K mg base (L2.CX P w) 3 f fd ["self", "configuration"] (lift K 2 (sp_Blocks_back Γ)) :=
  Fn.ok F sc_Blocks_back rfl fun cdv A outer s H E hr => ⟨_, d_Blocks_back T G_replaced hr, k_Blocks_back Γ⟩
theorem ok_turned_about {f : Addr} {fd : FuncData} (F : Fun K (PySem.Str.ofString "turned_about") "turned_about" s_turned_about f fd) (T : Txt K mg Γ)  : FnOk P w K mg base (L2.CX P w) 1 f fd ["configuration"] (lift K 1 (sp_turned_about Γ)) :=
  Fn.ok F sc_turned_about rfl fun cdv A outer s H E hr => ⟨_, d_turned_about T  hr, k_turned_about Γ⟩
theorem ok_Blocks_run {f : Addr} {fd : FuncData} (F : Fun K (PySem.Str.ofString "run") "Blocks.run" s_Blocks_run f fd) (T : Txt K mg Γ) (G_Blocks_step : GMt P w K mg base Γ.Blocks (PySem.Str.ofString "step") 3 ["self", "configuration"] (sp_Blocks_step Γ)) : FnOk P w K mg base (L2.CX P w) 4 f fd ["self", "configuration", "steps"] (lift K 3 (sp_Blocks_run Γ)) :=
  Fn.ok F sc_Blocks_run rfl fun cdv A outer s H E hr => ⟨_, d_Blocks_run T G_Blocks_step hr, k_Blocks_run Γ⟩
theorem ok_Blocks_run_back {f : Addr} {fd : FuncData} (F : Fun K (PySem.Str.ofString "run_back") "Blocks.run_back" s_Blocks_run_back f fd) (T : Txt K mg Γ) (G_Blocks_back : GMt P w K mg base Γ.Blocks (PySem.Str.ofString "back") 3 ["self", "configuration"] (sp_Blocks_back Γ)) : FnOk P w K mg base (L2.CX P w) 4 f fd ["self", "configuration", "steps"] (lift K 3 (sp_Blocks_run_back Γ)) :=
  Fn.ok F sc_Blocks_run_back rfl fun cdv A outer s H E hr => ⟨_, d_Blocks_run_back T G_Blocks_back hr, k_Blocks_run_back Γ⟩
theorem ok_law {f : Addr} {fd : FuncData} (F : Fun K (PySem.Str.ofString "law") "law" s_law f fd) (T : Txt K mg Γ) (G_law_values : GFn P w K mg base (PySem.Str.ofString "_law_values") 3 ["cell"] (sp_law_values Γ)) (G_Blocks_init : GMk P w K mg base (PySem.Str.ofString "Blocks") Γ.Blocks 5 ["self", "values"] (sp_Blocks_init Γ)) (G_law_cell : GFn P w K mg base (PySem.Str.ofString "_law_cell") 1 ["script", "k"] (sp_law_cell Γ)) (G_law_keeping : GFn P w K mg base (PySem.Str.ofString "_law_keeping") 3 ["cell"] (sp_law_keeping Γ)) (G_law_step : GFn P w K mg base (PySem.Str.ofString "_law_step") 1 ["values", "configuration"] (sp_law_step Γ)) (G_Blocks_is_configuration : GMt P w K mg base Γ.Blocks (PySem.Str.ofString "is_configuration") 3 ["self", "value"] (sp_Blocks_is_configuration Γ)) (G_balls : GFn P w K mg base (PySem.Str.ofString "balls") 7 [] (sp_balls Γ)) (G_law_places : GFn P w K mg base (PySem.Str.ofString "_law_places") 1 ["digits", "wide", "far"] (sp_law_places Γ)) (G_keeps : GFn P w K mg base (PySem.Str.ofString "keeps") 2 ["machine"] (sp_keeps Γ)) (G_law_digits : GFn P w K mg base (PySem.Str.ofString "_law_digits") 2 ["cell", "count", "many"] (sp_law_digits Γ)) (G_Blocks_step : GMt P w K mg base Γ.Blocks (PySem.Str.ofString "step") 3 ["self", "configuration"] (sp_Blocks_step Γ)) (G_Blocks_back : GMt P w K mg base Γ.Blocks (PySem.Str.ofString "back") 3 ["self", "configuration"] (sp_Blocks_back Γ)) (G_turned_about : GFn P w K mg base (PySem.Str.ofString "turned_about") 1 ["configuration"] (sp_turned_about Γ)) (G_Blocks_run : GMt P w K mg base Γ.Blocks (PySem.Str.ofString "run") 4 ["self", "configuration", "steps"] (sp_Blocks_run Γ)) (G_Blocks_run_back : GMt P w K mg base Γ.Blocks (PySem.Str.ofString "run_back") 4 ["self", "configuration", "steps"] (sp_Blocks_run_back Γ)) : FnOk P w K mg base (L2.CX P w) 8 f fd ["script"] (lift K 1 (sp_law Γ)) :=
  Fn.ok F sc_law rfl fun cdv A outer s H E hr => ⟨_, d_law T G_law_values G_Blocks_init G_law_cell G_law_keeping G_law_step G_Blocks_is_configuration G_balls G_law_places G_keeps G_law_digits G_Blocks_step G_Blocks_back G_turned_about G_Blocks_run G_Blocks_run_back hr, k_law Γ⟩
end
theorem all_mk {l : PySem.W.OpenLaw} {w : World} {K : PySem.W.Frag} {h : Heap} {mg : Str → Option Value} {fa f_law_mixed f_law_digits f_law_values f_inverse_rule f_is_whole f_is_number f_are_numbers f_is_rule f_Blocks_init f_law_cell f_law_keeping f_law_step f_is_place f_Blocks_is_configuration f_balls f_law_places f_many_balls f_keeps f_numbered_blocks f_replaced f_Blocks_step f_Blocks_back f_turned_about f_Blocks_run f_Blocks_run_back f_law C_Blocks C_BackError C_BadBlocks : Addr} (X : K.In h) (G : h.Ns mainGlobals mg) (hfa : mg "law" = some (.ref fa))
    {od_law_mixed an_law_mixed : Option Addr}
    {sl_law_mixed : Array (Option Value)}
    {oc_law_mixed kV_law_mixed dc_law_mixed pm_law_mixed cd_law_mixed ct_law_mixed : Value}
    {od_law_digits an_law_digits : Option Addr}
    {sl_law_digits : Array (Option Value)}
    {oc_law_digits kV_law_digits dc_law_digits pm_law_digits cd_law_digits ct_law_digits : Value}
    {od_law_values an_law_values : Option Addr}
    {sl_law_values : Array (Option Value)}
    {oc_law_values kV_law_values dc_law_values pm_law_values cd_law_values ct_law_values : Value}
    {od_inverse_rule an_inverse_rule : Option Addr}
    {sl_inverse_rule : Array (Option Value)}
    {oc_inverse_rule kV_inverse_rule dc_inverse_rule pm_inverse_rule cd_inverse_rule ct_inverse_rule : Value}
    {od_is_whole an_is_whole : Option Addr}
    {sl_is_whole : Array (Option Value)}
    {oc_is_whole kV_is_whole dc_is_whole pm_is_whole cd_is_whole ct_is_whole : Value}
    {od_is_number an_is_number : Option Addr}
    {sl_is_number : Array (Option Value)}
    {oc_is_number kV_is_number dc_is_number pm_is_number cd_is_number ct_is_number : Value}
    {od_are_numbers an_are_numbers : Option Addr}
    {sl_are_numbers : Array (Option Value)}
    {oc_are_numbers kV_are_numbers dc_are_numbers pm_are_numbers cd_are_numbers ct_are_numbers : Value}
    {od_is_rule an_is_rule : Option Addr}
    {sl_is_rule : Array (Option Value)}
    {oc_is_rule kV_is_rule dc_is_rule pm_is_rule cd_is_rule ct_is_rule : Value}
    {od_Blocks_init an_Blocks_init : Option Addr}
    {sl_Blocks_init : Array (Option Value)}
    {oc_Blocks_init kV_Blocks_init dc_Blocks_init pm_Blocks_init cd_Blocks_init ct_Blocks_init : Value}
    {od_law_cell an_law_cell : Option Addr}
    {sl_law_cell : Array (Option Value)}
    {oc_law_cell kV_law_cell dc_law_cell pm_law_cell cd_law_cell ct_law_cell : Value}
    {od_law_keeping an_law_keeping : Option Addr}
    {sl_law_keeping : Array (Option Value)}
    {oc_law_keeping kV_law_keeping dc_law_keeping pm_law_keeping cd_law_keeping ct_law_keeping : Value}
    {od_law_step an_law_step : Option Addr}
    {sl_law_step : Array (Option Value)}
    {oc_law_step kV_law_step dc_law_step pm_law_step cd_law_step ct_law_step : Value}
    {od_is_place an_is_place : Option Addr}
    {sl_is_place : Array (Option Value)}
    {oc_is_place kV_is_place dc_is_place pm_is_place cd_is_place ct_is_place : Value}
    {od_Blocks_is_configuration an_Blocks_is_configuration : Option Addr}
    {sl_Blocks_is_configuration : Array (Option Value)}
    {oc_Blocks_is_configuration kV_Blocks_is_configuration dc_Blocks_is_configuration pm_Blocks_is_configuration cd_Blocks_is_configuration ct_Blocks_is_configuration : Value}
    {od_balls an_balls : Option Addr}
    {sl_balls : Array (Option Value)}
    {oc_balls kV_balls dc_balls pm_balls cd_balls ct_balls : Value}
    {od_law_places an_law_places : Option Addr}
    {sl_law_places : Array (Option Value)}
    {oc_law_places kV_law_places dc_law_places pm_law_places cd_law_places ct_law_places : Value}
    {od_many_balls an_many_balls : Option Addr}
    {sl_many_balls : Array (Option Value)}
    {oc_many_balls kV_many_balls dc_many_balls pm_many_balls cd_many_balls ct_many_balls : Value}
    {od_keeps an_keeps : Option Addr}
    {sl_keeps : Array (Option Value)}
    {oc_keeps kV_keeps dc_keeps pm_keeps cd_keeps ct_keeps : Value}
    {od_numbered_blocks an_numbered_blocks : Option Addr}
    {sl_numbered_blocks : Array (Option Value)}
    {oc_numbered_blocks kV_numbered_blocks dc_numbered_blocks pm_numbered_blocks cd_numbered_blocks ct_numbered_blocks : Value}
    {od_replaced an_replaced : Option Addr}
    {sl_replaced : Array (Option Value)}
    {oc_replaced kV_replaced dc_replaced pm_replaced cd_replaced ct_replaced : Value}
    {od_Blocks_step an_Blocks_step : Option Addr}
    {sl_Blocks_step : Array (Option Value)}
    {oc_Blocks_step kV_Blocks_step dc_Blocks_step pm_Blocks_step cd_Blocks_step ct_Blocks_step : Value}
    {od_Blocks_back an_Blocks_back : Option Addr}
    {sl_Blocks_back : Array (Option Value)}
    {oc_Blocks_back kV_Blocks_back dc_Blocks_back pm_Blocks_back cd_Blocks_back ct_Blocks_back : Value}
    {od_turned_about an_turned_about : Option Addr}
    {sl_turned_about : Array (Option Value)}
    {oc_turned_about kV_turned_about dc_turned_about pm_turned_about cd_turned_about ct_turned_about : Value}
    {od_Blocks_run an_Blocks_run : Option Addr}
    {sl_Blocks_run : Array (Option Value)}
    {oc_Blocks_run kV_Blocks_run dc_Blocks_run pm_Blocks_run cd_Blocks_run ct_Blocks_run : Value}
    {od_Blocks_run_back an_Blocks_run_back : Option Addr}
    {sl_Blocks_run_back : Array (Option Value)}
    {oc_Blocks_run_back kV_Blocks_run_back dc_Blocks_run_back pm_Blocks_run_back cd_Blocks_run_back ct_Blocks_run_back : Value}
    {od_law an_law : Option Addr}
    {sl_law : Array (Option Value)}
    {oc_law kV_law dc_law pm_law cd_law ct_law : Value}
    {ta_PLACES : Addr}
    {td_PLACES : Option Addr}
    {tn_PLACES : Nat}
    {ts_PLACES : Array (Option Value)}
    {ta_PLACES_0 : Addr}
    {td_PLACES_0 : Option Addr}
    {tn_PLACES_0 : Nat}
    {ts_PLACES_0 : Array (Option Value)}
    {tk_PLACES_0_0 : Tok}
    {tk_PLACES_0_1 : Tok}
    {ta_PLACES_1 : Addr}
    {td_PLACES_1 : Option Addr}
    {tn_PLACES_1 : Nat}
    {ts_PLACES_1 : Array (Option Value)}
    {tk_PLACES_1_0 : Tok}
    {tk_PLACES_1_1 : Tok}
    {ta_PLACES_2 : Addr}
    {td_PLACES_2 : Option Addr}
    {tn_PLACES_2 : Nat}
    {ts_PLACES_2 : Array (Option Value)}
    {tk_PLACES_2_0 : Tok}
    {tk_PLACES_2_1 : Tok}
    {ta_PLACES_3 : Addr}
    {td_PLACES_3 : Option Addr}
    {tn_PLACES_3 : Nat}
    {ts_PLACES_3 : Array (Option Value)}
    {tk_PLACES_3_0 : Tok}
    {tk_PLACES_3_1 : Tok}
    (A_BackError : PySem.W.nsIn K mainGlobals (PySem.Str.ofString "BackError") = some (some (.ref C_BackError)))
    (A_BadBlocks : PySem.W.nsIn K mainGlobals (PySem.Str.ofString "BadBlocks") = some (some (.ref C_BadBlocks)))
    (A_Blocks : PySem.W.nsIn K mainGlobals (PySem.Str.ofString "Blocks") = some (some (.ref C_Blocks)))
    (a_law_mixed : PySem.W.nsIn K mainGlobals (PySem.Str.ofString "_law_mixed") = some (some (.ref f_law_mixed)))
    (l_law_mixed : K.lookup f_law_mixed = some ⟨oc_law_mixed, od_law_mixed, .func (PySem.W.fnOf (PySem.Str.ofString "_law_mixed") "_law_mixed" (defArgs s_law_mixed) (defBody s_law_mixed) (defScope s_law_mixed) .none kV_law_mixed dc_law_mixed pm_law_mixed an_law_mixed cd_law_mixed ct_law_mixed), sl_law_mixed⟩)
    (c_law_mixed : PySem.W.codeIn K cd_law_mixed "_law_mixed" = true)
    (k_law_mixed : PySem.W.keepIn K (.ref f_law_mixed) = true)
    (a_law_digits : PySem.W.nsIn K mainGlobals (PySem.Str.ofString "_law_digits") = some (some (.ref f_law_digits)))
    (l_law_digits : K.lookup f_law_digits = some ⟨oc_law_digits, od_law_digits, .func (PySem.W.fnOf (PySem.Str.ofString "_law_digits") "_law_digits" (defArgs s_law_digits) (defBody s_law_digits) (defScope s_law_digits) .none kV_law_digits dc_law_digits pm_law_digits an_law_digits cd_law_digits ct_law_digits), sl_law_digits⟩)
    (c_law_digits : PySem.W.codeIn K cd_law_digits "_law_digits" = true)
    (k_law_digits : PySem.W.keepIn K (.ref f_law_digits) = true)
    (a_law_values : PySem.W.nsIn K mainGlobals (PySem.Str.ofString "_law_values") = some (some (.ref f_law_values)))
    (l_law_values : K.lookup f_law_values = some ⟨oc_law_values, od_law_values, .func (PySem.W.fnOf (PySem.Str.ofString "_law_values") "_law_values" (defArgs s_law_values) (defBody s_law_values) (defScope s_law_values) .none kV_law_values dc_law_values pm_law_values an_law_values cd_law_values ct_law_values), sl_law_values⟩)
    (c_law_values : PySem.W.codeIn K cd_law_values "_law_values" = true)
    (k_law_values : PySem.W.keepIn K (.ref f_law_values) = true)
    (a_inverse_rule : PySem.W.nsIn K mainGlobals (PySem.Str.ofString "inverse_rule") = some (some (.ref f_inverse_rule)))
    (l_inverse_rule : K.lookup f_inverse_rule = some ⟨oc_inverse_rule, od_inverse_rule, .func (PySem.W.fnOf (PySem.Str.ofString "inverse_rule") "inverse_rule" (defArgs s_inverse_rule) (defBody s_inverse_rule) (defScope s_inverse_rule) .none kV_inverse_rule dc_inverse_rule pm_inverse_rule an_inverse_rule cd_inverse_rule ct_inverse_rule), sl_inverse_rule⟩)
    (c_inverse_rule : PySem.W.codeIn K cd_inverse_rule "inverse_rule" = true)
    (k_inverse_rule : PySem.W.keepIn K (.ref f_inverse_rule) = true)
    (a_is_whole : PySem.W.nsIn K mainGlobals (PySem.Str.ofString "is_whole") = some (some (.ref f_is_whole)))
    (l_is_whole : K.lookup f_is_whole = some ⟨oc_is_whole, od_is_whole, .func (PySem.W.fnOf (PySem.Str.ofString "is_whole") "is_whole" (defArgs s_is_whole) (defBody s_is_whole) (defScope s_is_whole) .none kV_is_whole dc_is_whole pm_is_whole an_is_whole cd_is_whole ct_is_whole), sl_is_whole⟩)
    (c_is_whole : PySem.W.codeIn K cd_is_whole "is_whole" = true)
    (k_is_whole : PySem.W.keepIn K (.ref f_is_whole) = true)
    (a_is_number : PySem.W.nsIn K mainGlobals (PySem.Str.ofString "is_number") = some (some (.ref f_is_number)))
    (l_is_number : K.lookup f_is_number = some ⟨oc_is_number, od_is_number, .func (PySem.W.fnOf (PySem.Str.ofString "is_number") "is_number" (defArgs s_is_number) (defBody s_is_number) (defScope s_is_number) .none kV_is_number dc_is_number pm_is_number an_is_number cd_is_number ct_is_number), sl_is_number⟩)
    (c_is_number : PySem.W.codeIn K cd_is_number "is_number" = true)
    (k_is_number : PySem.W.keepIn K (.ref f_is_number) = true)
    (a_are_numbers : PySem.W.nsIn K mainGlobals (PySem.Str.ofString "are_numbers") = some (some (.ref f_are_numbers)))
    (l_are_numbers : K.lookup f_are_numbers = some ⟨oc_are_numbers, od_are_numbers, .func (PySem.W.fnOf (PySem.Str.ofString "are_numbers") "are_numbers" (defArgs s_are_numbers) (defBody s_are_numbers) (defScope s_are_numbers) .none kV_are_numbers dc_are_numbers pm_are_numbers an_are_numbers cd_are_numbers ct_are_numbers), sl_are_numbers⟩)
    (c_are_numbers : PySem.W.codeIn K cd_are_numbers "are_numbers" = true)
    (k_are_numbers : PySem.W.keepIn K (.ref f_are_numbers) = true)
    (a_is_rule : PySem.W.nsIn K mainGlobals (PySem.Str.ofString "is_rule") = some (some (.ref f_is_rule)))
    (l_is_rule : K.lookup f_is_rule = some ⟨oc_is_rule, od_is_rule, .func (PySem.W.fnOf (PySem.Str.ofString "is_rule") "is_rule" (defArgs s_is_rule) (defBody s_is_rule) (defScope s_is_rule) .none kV_is_rule dc_is_rule pm_is_rule an_is_rule cd_is_rule ct_is_rule), sl_is_rule⟩)
    (c_is_rule : PySem.W.codeIn K cd_is_rule "is_rule" = true)
    (k_is_rule : PySem.W.keepIn K (.ref f_is_rule) = true)
    (a_Blocks_init : PySem.W.findIn K (.ref C_Blocks) (PySem.Str.ofString "__init__") = some (some (.ref f_Blocks_init)))
    (i_Blocks_init : PySem.W.isFn K (.ref f_Blocks_init) = true)
    (l_Blocks_init : K.lookup f_Blocks_init = some ⟨oc_Blocks_init, od_Blocks_init, .func (PySem.W.fnOf (PySem.Str.ofString "__init__") "Blocks.__init__" (defArgs s_Blocks_init) (defBody s_Blocks_init) (defScope s_Blocks_init) .none kV_Blocks_init dc_Blocks_init pm_Blocks_init an_Blocks_init cd_Blocks_init ct_Blocks_init), sl_Blocks_init⟩)
    (c_Blocks_init : PySem.W.codeIn K cd_Blocks_init "Blocks.__init__" = true)
    (k_Blocks_init : PySem.W.keepIn K (.ref f_Blocks_init) = true)
    (a_law_cell : PySem.W.nsIn K mainGlobals (PySem.Str.ofString "_law_cell") = some (some (.ref f_law_cell)))
    (l_law_cell : K.lookup f_law_cell = some ⟨oc_law_cell, od_law_cell, .func (PySem.W.fnOf (PySem.Str.ofString "_law_cell") "_law_cell" (defArgs s_law_cell) (defBody s_law_cell) (defScope s_law_cell) .none kV_law_cell dc_law_cell pm_law_cell an_law_cell cd_law_cell ct_law_cell), sl_law_cell⟩)
    (c_law_cell : PySem.W.codeIn K cd_law_cell "_law_cell" = true)
    (k_law_cell : PySem.W.keepIn K (.ref f_law_cell) = true)
    (a_law_keeping : PySem.W.nsIn K mainGlobals (PySem.Str.ofString "_law_keeping") = some (some (.ref f_law_keeping)))
    (l_law_keeping : K.lookup f_law_keeping = some ⟨oc_law_keeping, od_law_keeping, .func (PySem.W.fnOf (PySem.Str.ofString "_law_keeping") "_law_keeping" (defArgs s_law_keeping) (defBody s_law_keeping) (defScope s_law_keeping) .none kV_law_keeping dc_law_keeping pm_law_keeping an_law_keeping cd_law_keeping ct_law_keeping), sl_law_keeping⟩)
    (c_law_keeping : PySem.W.codeIn K cd_law_keeping "_law_keeping" = true)
    (k_law_keeping : PySem.W.keepIn K (.ref f_law_keeping) = true)
    (a_law_step : PySem.W.nsIn K mainGlobals (PySem.Str.ofString "_law_step") = some (some (.ref f_law_step)))
    (l_law_step : K.lookup f_law_step = some ⟨oc_law_step, od_law_step, .func (PySem.W.fnOf (PySem.Str.ofString "_law_step") "_law_step" (defArgs s_law_step) (defBody s_law_step) (defScope s_law_step) .none kV_law_step dc_law_step pm_law_step an_law_step cd_law_step ct_law_step), sl_law_step⟩)
    (c_law_step : PySem.W.codeIn K cd_law_step "_law_step" = true)
    (k_law_step : PySem.W.keepIn K (.ref f_law_step) = true)
    (a_is_place : PySem.W.nsIn K mainGlobals (PySem.Str.ofString "is_place") = some (some (.ref f_is_place)))
    (l_is_place : K.lookup f_is_place = some ⟨oc_is_place, od_is_place, .func (PySem.W.fnOf (PySem.Str.ofString "is_place") "is_place" (defArgs s_is_place) (defBody s_is_place) (defScope s_is_place) .none kV_is_place dc_is_place pm_is_place an_is_place cd_is_place ct_is_place), sl_is_place⟩)
    (c_is_place : PySem.W.codeIn K cd_is_place "is_place" = true)
    (k_is_place : PySem.W.keepIn K (.ref f_is_place) = true)
    (a_Blocks_is_configuration : PySem.W.findIn K (.ref C_Blocks) (PySem.Str.ofString "is_configuration") = some (some (.ref f_Blocks_is_configuration)))
    (i_Blocks_is_configuration : PySem.W.isFn K (.ref f_Blocks_is_configuration) = true)
    (l_Blocks_is_configuration : K.lookup f_Blocks_is_configuration = some ⟨oc_Blocks_is_configuration, od_Blocks_is_configuration, .func (PySem.W.fnOf (PySem.Str.ofString "is_configuration") "Blocks.is_configuration" (defArgs s_Blocks_is_configuration) (defBody s_Blocks_is_configuration) (defScope s_Blocks_is_configuration) .none kV_Blocks_is_configuration dc_Blocks_is_configuration pm_Blocks_is_configuration an_Blocks_is_configuration cd_Blocks_is_configuration ct_Blocks_is_configuration), sl_Blocks_is_configuration⟩)
    (c_Blocks_is_configuration : PySem.W.codeIn K cd_Blocks_is_configuration "Blocks.is_configuration" = true)
    (k_Blocks_is_configuration : PySem.W.keepIn K (.ref f_Blocks_is_configuration) = true)
    (a_balls : PySem.W.nsIn K mainGlobals (PySem.Str.ofString "balls") = some (some (.ref f_balls)))
    (l_balls : K.lookup f_balls = some ⟨oc_balls, od_balls, .func (PySem.W.fnOf (PySem.Str.ofString "balls") "balls" (defArgs s_balls) (defBody s_balls) (defScope s_balls) .none kV_balls dc_balls pm_balls an_balls cd_balls ct_balls), sl_balls⟩)
    (c_balls : PySem.W.codeIn K cd_balls "balls" = true)
    (k_balls : PySem.W.keepIn K (.ref f_balls) = true)
    (a_law_places : PySem.W.nsIn K mainGlobals (PySem.Str.ofString "_law_places") = some (some (.ref f_law_places)))
    (l_law_places : K.lookup f_law_places = some ⟨oc_law_places, od_law_places, .func (PySem.W.fnOf (PySem.Str.ofString "_law_places") "_law_places" (defArgs s_law_places) (defBody s_law_places) (defScope s_law_places) .none kV_law_places dc_law_places pm_law_places an_law_places cd_law_places ct_law_places), sl_law_places⟩)
    (c_law_places : PySem.W.codeIn K cd_law_places "_law_places" = true)
    (k_law_places : PySem.W.keepIn K (.ref f_law_places) = true)
    (a_many_balls : PySem.W.nsIn K mainGlobals (PySem.Str.ofString "many_balls") = some (some (.ref f_many_balls)))
    (l_many_balls : K.lookup f_many_balls = some ⟨oc_many_balls, od_many_balls, .func (PySem.W.fnOf (PySem.Str.ofString "many_balls") "many_balls" (defArgs s_many_balls) (defBody s_many_balls) (defScope s_many_balls) .none kV_many_balls dc_many_balls pm_many_balls an_many_balls cd_many_balls ct_many_balls), sl_many_balls⟩)
    (c_many_balls : PySem.W.codeIn K cd_many_balls "many_balls" = true)
    (k_many_balls : PySem.W.keepIn K (.ref f_many_balls) = true)
    (a_keeps : PySem.W.nsIn K mainGlobals (PySem.Str.ofString "keeps") = some (some (.ref f_keeps)))
    (l_keeps : K.lookup f_keeps = some ⟨oc_keeps, od_keeps, .func (PySem.W.fnOf (PySem.Str.ofString "keeps") "keeps" (defArgs s_keeps) (defBody s_keeps) (defScope s_keeps) .none kV_keeps dc_keeps pm_keeps an_keeps cd_keeps ct_keeps), sl_keeps⟩)
    (c_keeps : PySem.W.codeIn K cd_keeps "keeps" = true)
    (k_keeps : PySem.W.keepIn K (.ref f_keeps) = true)
    (a_numbered_blocks : PySem.W.nsIn K mainGlobals (PySem.Str.ofString "numbered_blocks") = some (some (.ref f_numbered_blocks)))
    (l_numbered_blocks : K.lookup f_numbered_blocks = some ⟨oc_numbered_blocks, od_numbered_blocks, .func (PySem.W.fnOf (PySem.Str.ofString "numbered_blocks") "numbered_blocks" (defArgs s_numbered_blocks) (defBody s_numbered_blocks) (defScope s_numbered_blocks) .none kV_numbered_blocks dc_numbered_blocks pm_numbered_blocks an_numbered_blocks cd_numbered_blocks ct_numbered_blocks), sl_numbered_blocks⟩)
    (c_numbered_blocks : PySem.W.codeIn K cd_numbered_blocks "numbered_blocks" = true)
    (k_numbered_blocks : PySem.W.keepIn K (.ref f_numbered_blocks) = true)
    (a_replaced : PySem.W.nsIn K mainGlobals (PySem.Str.ofString "replaced") = some (some (.ref f_replaced)))
    (l_replaced : K.lookup f_replaced = some ⟨oc_replaced, od_replaced, .func (PySem.W.fnOf (PySem.Str.ofString "replaced") "replaced" (defArgs s_replaced) (defBody s_replaced) (defScope s_replaced) .none kV_replaced dc_replaced pm_replaced an_replaced cd_replaced ct_replaced), sl_replaced⟩)
    (c_replaced : PySem.W.codeIn K cd_replaced "replaced" = true)
    (k_replaced : PySem.W.keepIn K (.ref f_replaced) = true)
    (a_Blocks_step : PySem.W.findIn K (.ref C_Blocks) (PySem.Str.ofString "step") = some (some (.ref f_Blocks_step)))
    (i_Blocks_step : PySem.W.isFn K (.ref f_Blocks_step) = true)
    (l_Blocks_step : K.lookup f_Blocks_step = some ⟨oc_Blocks_step, od_Blocks_step, .func (PySem.W.fnOf (PySem.Str.ofString "step") "Blocks.step" (defArgs s_Blocks_step) (defBody s_Blocks_step) (defScope s_Blocks_step) .none kV_Blocks_step dc_Blocks_step pm_Blocks_step an_Blocks_step cd_Blocks_step ct_Blocks_step), sl_Blocks_step⟩)
    (c_Blocks_step : PySem.W.codeIn K cd_Blocks_step "Blocks.step" = true)
    (k_Blocks_step : PySem.W.keepIn K (.ref f_Blocks_step) = true)
    (a_Blocks_back : PySem.W.findIn K (.ref C_Blocks) (PySem.Str.ofString "back") = some (some (.ref f_Blocks_back)))
    (i_Blocks_back : PySem.W.isFn K (.ref f_Blocks_back) = true)
    (l_Blocks_back : K.lookup f_Blocks_back = some ⟨oc_Blocks_back, od_Blocks_back, .func (PySem.W.fnOf (PySem.Str.ofString "back") "Blocks.back" (defArgs s_Blocks_back) (defBody s_Blocks_back) (defScope s_Blocks_back) .none kV_Blocks_back dc_Blocks_back pm_Blocks_back an_Blocks_back cd_Blocks_back ct_Blocks_back), sl_Blocks_back⟩)
    (c_Blocks_back : PySem.W.codeIn K cd_Blocks_back "Blocks.back" = true)
    (k_Blocks_back : PySem.W.keepIn K (.ref f_Blocks_back) = true)
    (a_turned_about : PySem.W.nsIn K mainGlobals (PySem.Str.ofString "turned_about") = some (some (.ref f_turned_about)))
    (l_turned_about : K.lookup f_turned_about = some ⟨oc_turned_about, od_turned_about, .func (PySem.W.fnOf (PySem.Str.ofString "turned_about") "turned_about" (defArgs s_turned_about) (defBody s_turned_about) (defScope s_turned_about) .none kV_turned_about dc_turned_about pm_turned_about an_turned_about cd_turned_about ct_turned_about), sl_turned_about⟩)
    (c_turned_about : PySem.W.codeIn K cd_turned_about "turned_about" = true)
    (k_turned_about : PySem.W.keepIn K (.ref f_turned_about) = true)
    (a_Blocks_run : PySem.W.findIn K (.ref C_Blocks) (PySem.Str.ofString "run") = some (some (.ref f_Blocks_run)))
    (i_Blocks_run : PySem.W.isFn K (.ref f_Blocks_run) = true)
    (l_Blocks_run : K.lookup f_Blocks_run = some ⟨oc_Blocks_run, od_Blocks_run, .func (PySem.W.fnOf (PySem.Str.ofString "run") "Blocks.run" (defArgs s_Blocks_run) (defBody s_Blocks_run) (defScope s_Blocks_run) .none kV_Blocks_run dc_Blocks_run pm_Blocks_run an_Blocks_run cd_Blocks_run ct_Blocks_run), sl_Blocks_run⟩)
    (c_Blocks_run : PySem.W.codeIn K cd_Blocks_run "Blocks.run" = true)
    (k_Blocks_run : PySem.W.keepIn K (.ref f_Blocks_run) = true)
    (a_Blocks_run_back : PySem.W.findIn K (.ref C_Blocks) (PySem.Str.ofString "run_back") = some (some (.ref f_Blocks_run_back)))
    (i_Blocks_run_back : PySem.W.isFn K (.ref f_Blocks_run_back) = true)
    (l_Blocks_run_back : K.lookup f_Blocks_run_back = some ⟨oc_Blocks_run_back, od_Blocks_run_back, .func (PySem.W.fnOf (PySem.Str.ofString "run_back") "Blocks.run_back" (defArgs s_Blocks_run_back) (defBody s_Blocks_run_back) (defScope s_Blocks_run_back) .none kV_Blocks_run_back dc_Blocks_run_back pm_Blocks_run_back an_Blocks_run_back cd_Blocks_run_back ct_Blocks_run_back), sl_Blocks_run_back⟩)
    (c_Blocks_run_back : PySem.W.codeIn K cd_Blocks_run_back "Blocks.run_back" = true)
    (k_Blocks_run_back : PySem.W.keepIn K (.ref f_Blocks_run_back) = true)
    (a_law : PySem.W.nsIn K mainGlobals (PySem.Str.ofString "law") = some (some (.ref f_law)))
    (l_law : K.lookup f_law = some ⟨oc_law, od_law, .func (PySem.W.fnOf (PySem.Str.ofString "law") "law" (defArgs s_law) (defBody s_law) (defScope s_law) .none kV_law dc_law pm_law an_law cd_law ct_law), sl_law⟩)
    (c_law : PySem.W.codeIn K cd_law "law" = true)
    (k_law : PySem.W.keepIn K (.ref f_law) = true)
    (pg_Blocks : PySem.W.plainGet K C_Blocks Str.empty = true)
    (hd_Blocks : PySem.W.hasDictIn K C_Blocks = true)
    (po_Blocks : PySem.W.plainOver K C_Blocks = true)
    (sa_Blocks : PySem.W.findIn K (.ref C_Blocks) (PySem.Str.ofString "__setattr__") = some (some (.builtin "object.__setattr__")))
    (mk_Blocks : PySem.W.makesIn K C_Blocks = true)
    (kc_Blocks : PySem.W.keepIn K (.ref C_Blocks) = true)
    (n_Blocks_inverse : PySem.W.findIn K (.ref C_Blocks) (PySem.Str.ofString "_inverse") = some none)
    (n_Blocks_index : PySem.W.findIn K (.ref C_Blocks) (PySem.Str.ofString "index") = some none)
    (n_Blocks_rule : PySem.W.findIn K (.ref C_Blocks) (PySem.Str.ofString "rule") = some none)
    (x_BadBlocks : PySem.W.excIn K C_BadBlocks [.type "ValueError", .type "Exception", .type "BaseException", .type "object"] "ValueError.__new__" = true)
    (xk_BadBlocks : PySem.W.keepIn K (.ref C_BadBlocks) = true)
    (xb_BadBlocks : PySem.W.subIn K (.ref C_BadBlocks) (.type "BaseException") = some true)
    (xt_BadBlocks : PySem.W.typeIn K (.ref C_BadBlocks) = some (.type "type"))
    (xg_BadBlocks : PySem.W.findIn K (.ref C_BadBlocks) "__getattribute__" = some (some (.builtin "BaseException.__getattribute__")))
    (xa_BadBlocks : PySem.W.findIn K (.ref C_BadBlocks) "__getattr__" = some none)
    (xd_BadBlocks : PySem.W.hasDictIn K C_BadBlocks = true)
    (xc_BadBlocks : PySem.W.findIn K (.ref C_BadBlocks) "__class__" = some (some (.builtin "object.__class__")))
    (xm_BadBlocks : PySem.W.mroIn K C_BadBlocks (.type "object") = some true)
    (xn_0 : PySem.W.specialIn K (.builtin "object.__class__") "__get__" = some (some (.builtin "getset_descriptor.__get__")))
    (xs_0 : PySem.W.takesIn K (.builtin "object.__class__") = some true)
    (m_PLACES : PySem.W.nsIn K mainGlobals (PySem.Str.ofString "PLACES") = some (some (.ref ta_PLACES)))
    (tl_PLACES : K.lookup ta_PLACES = some ⟨.type "tuple", td_PLACES, .seq #[(.ref ta_PLACES_0), (.ref ta_PLACES_1), (.ref ta_PLACES_2), (.ref ta_PLACES_3)] tn_PLACES, ts_PLACES⟩)
    (tl_PLACES_0 : K.lookup ta_PLACES_0 = some ⟨.type "tuple", td_PLACES_0, .seq #[(.int 0 tk_PLACES_0_0), (.int 0 tk_PLACES_0_1)] tn_PLACES_0, ts_PLACES_0⟩)
    (tl_PLACES_1 : K.lookup ta_PLACES_1 = some ⟨.type "tuple", td_PLACES_1, .seq #[(.int 1 tk_PLACES_1_0), (.int 0 tk_PLACES_1_1)] tn_PLACES_1, ts_PLACES_1⟩)
    (tl_PLACES_2 : K.lookup ta_PLACES_2 = some ⟨.type "tuple", td_PLACES_2, .seq #[(.int 0 tk_PLACES_2_0), (.int 1 tk_PLACES_2_1)] tn_PLACES_2, ts_PLACES_2⟩)
    (tl_PLACES_3 : K.lookup ta_PLACES_3 = some ⟨.type "tuple", td_PLACES_3, .seq #[(.int 1 tk_PLACES_3_0), (.int 1 tk_PLACES_3_1)] tn_PLACES_3, ts_PLACES_3⟩)
    (z_all : PySem.W.nsIn K mainGlobals (PySem.Str.ofString "all") = some none)
    (z_bool : PySem.W.nsIn K mainGlobals (PySem.Str.ofString "bool") = some none)
    (z_enumerate : PySem.W.nsIn K mainGlobals (PySem.Str.ofString "enumerate") = some none)
    (z_int : PySem.W.nsIn K mainGlobals (PySem.Str.ofString "int") = some none)
    (z_isinstance : PySem.W.nsIn K mainGlobals (PySem.Str.ofString "isinstance") = some none)
    (z_len : PySem.W.nsIn K mainGlobals (PySem.Str.ofString "len") = some none)
    (z_list : PySem.W.nsIn K mainGlobals (PySem.Str.ofString "list") = some none)
    (z_range : PySem.W.nsIn K mainGlobals (PySem.Str.ofString "range") = some none)
    (z_set : PySem.W.nsIn K mainGlobals (PySem.Str.ofString "set") = some none)
    (z_sorted : PySem.W.nsIn K mainGlobals (PySem.Str.ofString "sorted") = some none)
    (z_sum : PySem.W.nsIn K mainGlobals (PySem.Str.ofString "sum") = some none)
    (z_tuple : PySem.W.nsIn K mainGlobals (PySem.Str.ofString "tuple") = some none)
    (z_zip : PySem.W.nsIn K mainGlobals (PySem.Str.ofString "zip") = some none)
    : ∃ fd : FuncData, (∀ (s : Shared) (v : Value), BindsTo s fd ⟨[v], []⟩ [("script", v)]) ∧ ∀ base : Heap, K.In base → base.Ns mainGlobals mg → FnOk l.prog w K mg base (L2.CX l.prog w) 8 fa fd ["script"] (lift K 1 sp_top) := by
  have e := hfa.symm.trans (PySem.W.mg_of X G a_law)
  cases e
  let Γ : Ctx := ⟨C_Blocks, C_BackError, C_BadBlocks, (fun C X => if C ∈ [C_BadBlocks] then PySem.W.exmOne K (.ref C) (.ref X) else none), (fun C v => PySem.W.kitOne K (.ref C) v)⟩
  have g_BackError : mg (PySem.Str.ofString "BackError") = some (.ref C_BackError) := PySem.W.mg_of X G A_BackError
  have g_BadBlocks : mg (PySem.Str.ofString "BadBlocks") = some (.ref C_BadBlocks) := PySem.W.mg_of X G A_BadBlocks
  have ro_BadBlocks : OwnErr K C_BadBlocks := ⟨x_BadBlocks, xk_BadBlocks, xb_BadBlocks, xt_BadBlocks⟩
  have xe_BadBlocks : ExcC K C_BadBlocks := ⟨xg_BadBlocks, xa_BadBlocks, xb_BadBlocks, xd_BadBlocks, xc_BadBlocks, xn_0, xs_0, xm_BadBlocks⟩
  have exm_ok : ∀ C X b, Γ.exm C X = some b → PySem.W.exmOne K (.ref C) (.ref X) = some b := fun C X b h => by
    have h' : (if C ∈ [C_BadBlocks] then PySem.W.exmOne K (.ref C) (.ref X) else none) = some b := h
    by_cases hc : C ∈ [C_BadBlocks]
    · rw [if_pos hc] at h'
      exact h'
    · rw [if_neg hc] at h'
      cases h'
  have exm_cls : ∀ C X b, Γ.exm C X = some b → ExcC K C := fun C X b h => by
    have h' : (if C ∈ [C_BadBlocks] then PySem.W.exmOne K (.ref C) (.ref X) else none) = some b := h
    by_cases hc : C ∈ [C_BadBlocks]
    · simp only [List.mem_cons, List.not_mem_nil, or_false] at hc
      subst hc
      · exact xe_BadBlocks
    · rw [if_neg hc] at h'
      cases h'
  have b_all : mg (PySem.Str.ofString "all") = none := PySem.W.mg_none_of X G z_all
  have b_bool : mg (PySem.Str.ofString "bool") = none := PySem.W.mg_none_of X G z_bool
  have b_enumerate : mg (PySem.Str.ofString "enumerate") = none := PySem.W.mg_none_of X G z_enumerate
  have b_int : mg (PySem.Str.ofString "int") = none := PySem.W.mg_none_of X G z_int
  have b_isinstance : mg (PySem.Str.ofString "isinstance") = none := PySem.W.mg_none_of X G z_isinstance
  have b_len : mg (PySem.Str.ofString "len") = none := PySem.W.mg_none_of X G z_len
  have b_list : mg (PySem.Str.ofString "list") = none := PySem.W.mg_none_of X G z_list
  have b_range : mg (PySem.Str.ofString "range") = none := PySem.W.mg_none_of X G z_range
  have b_set : mg (PySem.Str.ofString "set") = none := PySem.W.mg_none_of X G z_set
  have b_sorted : mg (PySem.Str.ofString "sorted") = none := PySem.W.mg_none_of X G z_sorted
  have b_sum : mg (PySem.Str.ofString "sum") = none := PySem.W.mg_none_of X G z_sum
  have b_tuple : mg (PySem.Str.ofString "tuple") = none := PySem.W.mg_none_of X G z_tuple
  have b_zip : mg (PySem.Str.ofString "zip") = none := PySem.W.mg_none_of X G z_zip
  have cl_Blocks : ClBlocks K Γ.Blocks := ⟨⟨pg_Blocks, hd_Blocks, po_Blocks, sa_Blocks⟩, n_Blocks_inverse, n_Blocks_index, n_Blocks_rule⟩
  have T : Txt K mg Γ := ⟨b_all, b_bool, b_enumerate, b_int, b_isinstance, b_len, b_list, b_range, b_set, b_sorted, b_sum, b_tuple, b_zip, ⟨_, PySem.W.mg_of X G m_PLACES, (KIs.tup (its := [(.ref ta_PLACES_0), (.ref ta_PLACES_1), (.ref ta_PLACES_2), (.ref ta_PLACES_3)]) tl_PLACES rfl rfl (Nat.le_of_lt (small1000 (by show 4 ≤ 1000; decide))) ⟨(KIs.tup (its := [(.int 0 tk_PLACES_0_0), (.int 0 tk_PLACES_0_1)]) tl_PLACES_0 rfl rfl (Nat.le_of_lt (small1000 (by show 2 ≤ 1000; decide))) ⟨KIs.int, ⟨KIs.int, trivial⟩⟩), ⟨(KIs.tup (its := [(.int 1 tk_PLACES_1_0), (.int 0 tk_PLACES_1_1)]) tl_PLACES_1 rfl rfl (Nat.le_of_lt (small1000 (by show 2 ≤ 1000; decide))) ⟨KIs.int, ⟨KIs.int, trivial⟩⟩), ⟨(KIs.tup (its := [(.int 0 tk_PLACES_2_0), (.int 1 tk_PLACES_2_1)]) tl_PLACES_2 rfl rfl (Nat.le_of_lt (small1000 (by show 2 ≤ 1000; decide))) ⟨KIs.int, ⟨KIs.int, trivial⟩⟩), ⟨(KIs.tup (its := [(.int 1 tk_PLACES_3_0), (.int 1 tk_PLACES_3_1)]) tl_PLACES_3 rfl rfl (Nat.le_of_lt (small1000 (by show 2 ≤ 1000; decide))) ⟨KIs.int, ⟨KIs.int, trivial⟩⟩), trivial⟩⟩⟩⟩)⟩, cl_Blocks, g_BackError, g_BadBlocks, ro_BadBlocks, exm_ok, exm_cls, fun C v b h => h⟩
  have F_law_mixed := fun_mk (st := s_law_mixed) l_law_mixed c_law_mixed k_law_mixed
  have B_law_mixed := F_law_mixed.binds (ps := ["cell", "k"]) fun _ _ _ _ _ _ us hl => match us, hl with | [_, _], _ => rfl
  have F_law_digits := fun_mk (st := s_law_digits) l_law_digits c_law_digits k_law_digits
  have B_law_digits := F_law_digits.binds (ps := ["cell", "count", "many"]) fun _ _ _ _ _ _ us hl => match us, hl with | [_, _, _], _ => rfl
  have F_law_values := fun_mk (st := s_law_values) l_law_values c_law_values k_law_values
  have B_law_values := F_law_values.binds (ps := ["cell"]) fun _ _ _ _ _ _ us hl => match us, hl with | [_], _ => rfl
  have F_inverse_rule := fun_mk (st := s_inverse_rule) l_inverse_rule c_inverse_rule k_inverse_rule
  have B_inverse_rule := F_inverse_rule.binds (ps := ["rule"]) fun _ _ _ _ _ _ us hl => match us, hl with | [_], _ => rfl
  have F_is_whole := fun_mk (st := s_is_whole) l_is_whole c_is_whole k_is_whole
  have B_is_whole := F_is_whole.binds (ps := ["value"]) fun _ _ _ _ _ _ us hl => match us, hl with | [_], _ => rfl
  have F_is_number := fun_mk (st := s_is_number) l_is_number c_is_number k_is_number
  have B_is_number := F_is_number.binds (ps := ["value", "low", "high"]) fun _ _ _ _ _ _ us hl => match us, hl with | [_, _, _], _ => rfl
  have F_are_numbers := fun_mk (st := s_are_numbers) l_are_numbers c_are_numbers k_are_numbers
  have B_are_numbers := F_are_numbers.binds (ps := ["value", "low", "high"]) fun _ _ _ _ _ _ us hl => match us, hl with | [_, _, _], _ => rfl
  have F_is_rule := fun_mk (st := s_is_rule) l_is_rule c_is_rule k_is_rule
  have B_is_rule := F_is_rule.binds (ps := ["value"]) fun _ _ _ _ _ _ us hl => match us, hl with | [_], _ => rfl
  have F_Blocks_init := fun_mk (st := s_Blocks_init) l_Blocks_init c_Blocks_init k_Blocks_init
  have B_Blocks_init := F_Blocks_init.binds (ps := ["self", "values"]) fun _ _ _ _ _ _ us hl => match us, hl with | [_, _], _ => rfl
  have F_law_cell := fun_mk (st := s_law_cell) l_law_cell c_law_cell k_law_cell
  have B_law_cell := F_law_cell.binds (ps := ["script", "k"]) fun _ _ _ _ _ _ us hl => match us, hl with | [_, _], _ => rfl
  have F_law_keeping := fun_mk (st := s_law_keeping) l_law_keeping c_law_keeping k_law_keeping
  have B_law_keeping := F_law_keeping.binds (ps := ["cell"]) fun _ _ _ _ _ _ us hl => match us, hl with | [_], _ => rfl
  have F_law_step := fun_mk (st := s_law_step) l_law_step c_law_step k_law_step
  have B_law_step := F_law_step.binds (ps := ["values", "configuration"]) fun _ _ _ _ _ _ us hl => match us, hl with | [_, _], _ => rfl
  have F_is_place := fun_mk (st := s_is_place) l_is_place c_is_place k_is_place
  have B_is_place := F_is_place.binds (ps := ["value"]) fun _ _ _ _ _ _ us hl => match us, hl with | [_], _ => rfl
  have F_Blocks_is_configuration := fun_mk (st := s_Blocks_is_configuration) l_Blocks_is_configuration c_Blocks_is_configuration k_Blocks_is_configuration
  have B_Blocks_is_configuration := F_Blocks_is_configuration.binds (ps := ["self", "value"]) fun _ _ _ _ _ _ us hl => match us, hl with | [_, _], _ => rfl
  have F_balls := fun_mk (st := s_balls) l_balls c_balls k_balls
  have B_balls := F_balls.binds (ps := []) fun _ _ _ _ _ _ us hl => match us, hl with | [], _ => rfl
  have F_law_places := fun_mk (st := s_law_places) l_law_places c_law_places k_law_places
  have B_law_places := F_law_places.binds (ps := ["digits", "wide", "far"]) fun _ _ _ _ _ _ us hl => match us, hl with | [_, _, _], _ => rfl
  have F_many_balls := fun_mk (st := s_many_balls) l_many_balls c_many_balls k_many_balls
  have B_many_balls := F_many_balls.binds (ps := ["number"]) fun _ _ _ _ _ _ us hl => match us, hl with | [_], _ => rfl
  have F_keeps := fun_mk (st := s_keeps) l_keeps c_keeps k_keeps
  have B_keeps := F_keeps.binds (ps := ["machine"]) fun _ _ _ _ _ _ us hl => match us, hl with | [_], _ => rfl
  have F_numbered_blocks := fun_mk (st := s_numbered_blocks) l_numbered_blocks c_numbered_blocks k_numbered_blocks
  have B_numbered_blocks := F_numbered_blocks.binds (ps := ["phase", "places"]) fun _ _ _ _ _ _ us hl => match us, hl with | [_, _], _ => rfl
  have F_replaced := fun_mk (st := s_replaced) l_replaced c_replaced k_replaced
  have B_replaced := F_replaced.binds (ps := ["rule", "phase", "places"]) fun _ _ _ _ _ _ us hl => match us, hl with | [_, _, _], _ => rfl
  have F_Blocks_step := fun_mk (st := s_Blocks_step) l_Blocks_step c_Blocks_step k_Blocks_step
  have B_Blocks_step := F_Blocks_step.binds (ps := ["self", "configuration"]) fun _ _ _ _ _ _ us hl => match us, hl with | [_, _], _ => rfl
  have F_Blocks_back := fun_mk (st := s_Blocks_back) l_Blocks_back c_Blocks_back k_Blocks_back
  have B_Blocks_back := F_Blocks_back.binds (ps := ["self", "configuration"]) fun _ _ _ _ _ _ us hl => match us, hl with | [_, _], _ => rfl
  have F_turned_about := fun_mk (st := s_turned_about) l_turned_about c_turned_about k_turned_about
  have B_turned_about := F_turned_about.binds (ps := ["configuration"]) fun _ _ _ _ _ _ us hl => match us, hl with | [_], _ => rfl
  have F_Blocks_run := fun_mk (st := s_Blocks_run) l_Blocks_run c_Blocks_run k_Blocks_run
  have B_Blocks_run := F_Blocks_run.binds (ps := ["self", "configuration", "steps"]) fun _ _ _ _ _ _ us hl => match us, hl with | [_, _, _], _ => rfl
  have F_Blocks_run_back := fun_mk (st := s_Blocks_run_back) l_Blocks_run_back c_Blocks_run_back k_Blocks_run_back
  have B_Blocks_run_back := F_Blocks_run_back.binds (ps := ["self", "configuration", "steps"]) fun _ _ _ _ _ _ us hl => match us, hl with | [_, _, _], _ => rfl
  have F_law := fun_mk (st := s_law) l_law c_law k_law
  have B_law := F_law.binds (ps := ["script"]) fun _ _ _ _ _ _ us hl => match us, hl with | [_], _ => rfl
  refine ⟨PySem.W.fnOf "law" "law" (defArgs s_law) (defBody s_law) (defScope s_law) .none kV_law dc_law pm_law an_law cd_law ct_law, fun s v => .of_eq rfl, fun base _ _ => ?_⟩
  have G_law_mixed : GFn l.prog w K mg base (PySem.Str.ofString "_law_mixed") 1 ["cell", "k"] (sp_law_mixed Γ) := ⟨⟨f_law_mixed, _, ok_law_mixed F_law_mixed T , PySem.W.mg_of X G a_law_mixed, k_law_mixed, B_law_mixed⟩⟩
  have G_law_digits : GFn l.prog w K mg base (PySem.Str.ofString "_law_digits") 2 ["cell", "count", "many"] (sp_law_digits Γ) := ⟨⟨f_law_digits, _, ok_law_digits F_law_digits T G_law_mixed, PySem.W.mg_of X G a_law_digits, k_law_digits, B_law_digits⟩⟩
  have G_law_values : GFn l.prog w K mg base (PySem.Str.ofString "_law_values") 3 ["cell"] (sp_law_values Γ) := ⟨⟨f_law_values, _, ok_law_values F_law_values T G_law_digits, PySem.W.mg_of X G a_law_values, k_law_values, B_law_values⟩⟩
  have G_inverse_rule : GFn l.prog w K mg base (PySem.Str.ofString "inverse_rule") 1 ["rule"] (sp_inverse_rule Γ) := ⟨⟨f_inverse_rule, _, ok_inverse_rule F_inverse_rule T , PySem.W.mg_of X G a_inverse_rule, k_inverse_rule, B_inverse_rule⟩⟩
  have G_is_whole : GFn l.prog w K mg base (PySem.Str.ofString "is_whole") 1 ["value"] (sp_is_whole Γ) := ⟨⟨f_is_whole, _, ok_is_whole F_is_whole T , PySem.W.mg_of X G a_is_whole, k_is_whole, B_is_whole⟩⟩
  have G_is_number : GFn l.prog w K mg base (PySem.Str.ofString "is_number") 2 ["value", "low", "high"] (sp_is_number Γ) := ⟨⟨f_is_number, _, ok_is_number F_is_number T G_is_whole, PySem.W.mg_of X G a_is_number, k_is_number, B_is_number⟩⟩
  have G_are_numbers : GFn l.prog w K mg base (PySem.Str.ofString "are_numbers") 3 ["value", "low", "high"] (sp_are_numbers Γ) := ⟨⟨f_are_numbers, _, ok_are_numbers F_are_numbers T G_is_number, PySem.W.mg_of X G a_are_numbers, k_are_numbers, B_are_numbers⟩⟩
  have G_is_rule : GFn l.prog w K mg base (PySem.Str.ofString "is_rule") 4 ["value"] (sp_is_rule Γ) := ⟨⟨f_is_rule, _, ok_is_rule F_is_rule T G_are_numbers, PySem.W.mg_of X G a_is_rule, k_is_rule, B_is_rule⟩⟩
  have G_Blocks_init : GMk l.prog w K mg base (PySem.Str.ofString "Blocks") Γ.Blocks 5 ["self", "values"] (sp_Blocks_init Γ) := ⟨⟨f_Blocks_init, _, ok_Blocks_init F_Blocks_init T G_inverse_rule G_is_rule, PySem.W.mg_of X G A_Blocks, ⟨mk_Blocks, a_Blocks_init, i_Blocks_init, kc_Blocks⟩, B_Blocks_init⟩⟩
  have G_law_cell : GFn l.prog w K mg base (PySem.Str.ofString "_law_cell") 1 ["script", "k"] (sp_law_cell Γ) := ⟨⟨f_law_cell, _, ok_law_cell F_law_cell T , PySem.W.mg_of X G a_law_cell, k_law_cell, B_law_cell⟩⟩
  have G_law_keeping : GFn l.prog w K mg base (PySem.Str.ofString "_law_keeping") 3 ["cell"] (sp_law_keeping Γ) := ⟨⟨f_law_keeping, _, ok_law_keeping F_law_keeping T G_law_digits, PySem.W.mg_of X G a_law_keeping, k_law_keeping, B_law_keeping⟩⟩
  have G_law_step : GFn l.prog w K mg base (PySem.Str.ofString "_law_step") 1 ["values", "configuration"] (sp_law_step Γ) := ⟨⟨f_law_step, _, ok_law_step F_law_step T , PySem.W.mg_of X G a_law_step, k_law_step, B_law_step⟩⟩
  have G_is_place : GFn l.prog w K mg base (PySem.Str.ofString "is_place") 2 ["value"] (sp_is_place Γ) := ⟨⟨f_is_place, _, ok_is_place F_is_place T G_is_whole, PySem.W.mg_of X G a_is_place, k_is_place, B_is_place⟩⟩
  have G_Blocks_is_configuration : GMt l.prog w K mg base Γ.Blocks (PySem.Str.ofString "is_configuration") 3 ["self", "value"] (sp_Blocks_is_configuration Γ) := ⟨⟨f_Blocks_is_configuration, _, ok_Blocks_is_configuration F_Blocks_is_configuration T G_is_number G_is_place, ⟨a_Blocks_is_configuration, i_Blocks_is_configuration, k_Blocks_is_configuration⟩, B_Blocks_is_configuration⟩⟩
  have G_balls : GFn l.prog w K mg base (PySem.Str.ofString "balls") 7 [] (sp_balls Γ) := ⟨⟨f_balls, _, ok_balls F_balls T G_Blocks_init, PySem.W.mg_of X G a_balls, k_balls, B_balls⟩⟩
  have G_law_places : GFn l.prog w K mg base (PySem.Str.ofString "_law_places") 1 ["digits", "wide", "far"] (sp_law_places Γ) := ⟨⟨f_law_places, _, ok_law_places F_law_places T , PySem.W.mg_of X G a_law_places, k_law_places, B_law_places⟩⟩
  have G_many_balls : GFn l.prog w K mg base (PySem.Str.ofString "many_balls") 1 ["number"] (sp_many_balls Γ) := ⟨⟨f_many_balls, _, ok_many_balls F_many_balls T , PySem.W.mg_of X G a_many_balls, k_many_balls, B_many_balls⟩⟩
  have G_keeps : GFn l.prog w K mg base (PySem.Str.ofString "keeps") 2 ["machine"] (sp_keeps Γ) := ⟨⟨f_keeps, _, ok_keeps F_keeps T G_many_balls, PySem.W.mg_of X G a_keeps, k_keeps, B_keeps⟩⟩
  have G_numbered_blocks : GFn l.prog w K mg base (PySem.Str.ofString "numbered_blocks") 1 ["phase", "places"] (sp_numbered_blocks Γ) := ⟨⟨f_numbered_blocks, _, ok_numbered_blocks F_numbered_blocks T , PySem.W.mg_of X G a_numbered_blocks, k_numbered_blocks, B_numbered_blocks⟩⟩
  have G_replaced : GFn l.prog w K mg base (PySem.Str.ofString "replaced") 2 ["rule", "phase", "places"] (sp_replaced Γ) := ⟨⟨f_replaced, _, ok_replaced F_replaced T G_numbered_blocks, PySem.W.mg_of X G a_replaced, k_replaced, B_replaced⟩⟩
  have G_Blocks_step : GMt l.prog w K mg base Γ.Blocks (PySem.Str.ofString "step") 3 ["self", "configuration"] (sp_Blocks_step Γ) := ⟨⟨f_Blocks_step, _, ok_Blocks_step F_Blocks_step T G_replaced, ⟨a_Blocks_step, i_Blocks_step, k_Blocks_step⟩, B_Blocks_step⟩⟩
  have G_Blocks_back : GMt l.prog w K mg base Γ.Blocks (PySem.Str.ofString "back") 3 ["self", "configuration"] (sp_Blocks_back Γ) := ⟨⟨f_Blocks_back, _, ok_Blocks_back F_Blocks_back T G_replaced, ⟨a_Blocks_back, i_Blocks_back, k_Blocks_back⟩, B_Blocks_back⟩⟩
  have G_turned_about : GFn l.prog w K mg base (PySem.Str.ofString "turned_about") 1 ["configuration"] (sp_turned_about Γ) := ⟨⟨f_turned_about, _, ok_turned_about F_turned_about T , PySem.W.mg_of X G a_turned_about, k_turned_about, B_turned_about⟩⟩
  have G_Blocks_run : GMt l.prog w K mg base Γ.Blocks (PySem.Str.ofString "run") 4 ["self", "configuration", "steps"] (sp_Blocks_run Γ) := ⟨⟨f_Blocks_run, _, ok_Blocks_run F_Blocks_run T G_Blocks_step, ⟨a_Blocks_run, i_Blocks_run, k_Blocks_run⟩, B_Blocks_run⟩⟩
  have G_Blocks_run_back : GMt l.prog w K mg base Γ.Blocks (PySem.Str.ofString "run_back") 4 ["self", "configuration", "steps"] (sp_Blocks_run_back Γ) := ⟨⟨f_Blocks_run_back, _, ok_Blocks_run_back F_Blocks_run_back T G_Blocks_back, ⟨a_Blocks_run_back, i_Blocks_run_back, k_Blocks_run_back⟩, B_Blocks_run_back⟩⟩
  have r := ok_law (P := l.prog) (w := w) (base := base) F_law T G_law_values G_Blocks_init G_law_cell G_law_keeping G_law_step G_Blocks_is_configuration G_balls G_law_places G_keeps G_law_digits G_Blocks_step G_Blocks_back G_turned_about G_Blocks_run G_Blocks_run_back
  exact r
theorem walk {l : PySem.W.OpenLaw} {q : Program} {loose : List Str} {XP : (Str → Option Value) → Heap → Prop} {YP : World → Heap → Prop} {d : DefRec} {K : Params → PySem.W.Frag} (hn : l.most = some 63) (hdf : d.params.defaults = [])
    (hY : ∀ (w : World) (h : Heap), YP w h → (K w.params).In h)
    (F : ∀ (w : World) (mg : Str → Option Value) (fa : Addr) (h : Heap), (K w.params).In h → h.Ns mainGlobals mg → mg d.name = some (.ref fa) →
      ∃ fd : FuncData, (∀ (s : Shared) (u : Value), BindsTo s fd ⟨[u], []⟩ [("script", u)]) ∧ ∀ base : Heap, (K w.params).In base → base.Ns mainGlobals mg → FnOk l.prog w (K w.params) mg base (L2.CX l.prog w) 8 fa fd ["script"] (lift (K w.params) 1 sp_top)) :
    PySem.W.WalkO q loose XP YP l.row.toRowW d [] (fun f vs => PySem.call f vs) :=
  L2.walk_of (n := 63) (k := 8) (x := "script") (CX := fun w => L2.CX l.prog w) (sp := fun w => lift (K w.params) 1 sp_top) hn (by decide) hdf ⟨rfl, by decide, by decide⟩ hY F (fun w H a ns hl _ hS => top_law hl hS) fun _ _ _ _ _ z => top_cx z
end My
set_option Elab.async false
set_option linter.all false
open PySem PySem.W PyProof.Rows
set_option maxRecDepth 100000 in
set_option maxHeartbeats 0 in
theorem PySem.Challenge.cw_backstair_k68_balls_in_blocks_holds : PySem.Challenge.rw_backstair_k68_balls_in_blocks.Holds := by
  w_on; refine My.early fun said => ?_
  k_head; (case hw => w_witness2)
  k_fill
  refine My.walk (l := PySem.Challenge.rw_backstair_k68_balls_in_blocks) rfl rfl (fun w h Y => PySem.W.kIn_of Y) ?F
  case F =>
    intro w mg fa h KX G hmg
    refine' My.all_mk KX G hmg ?A_BackError ?A_BadBlocks ?A_Blocks ?a_law_mixed ?l_law_mixed ?c_law_mixed ?k_law_mixed ?a_law_digits ?l_law_digits ?c_law_digits ?k_law_digits ?a_law_values ?l_law_values ?c_law_values ?k_law_values ?a_inverse_rule ?l_inverse_rule ?c_inverse_rule ?k_inverse_rule ?a_is_whole ?l_is_whole ?c_is_whole ?k_is_whole ?a_is_number ?l_is_number ?c_is_number ?k_is_number ?a_are_numbers ?l_are_numbers ?c_are_numbers ?k_are_numbers ?a_is_rule ?l_is_rule ?c_is_rule ?k_is_rule ?a_Blocks_init ?i_Blocks_init ?l_Blocks_init ?c_Blocks_init ?k_Blocks_init ?a_law_cell ?l_law_cell ?c_law_cell ?k_law_cell ?a_law_keeping ?l_law_keeping ?c_law_keeping ?k_law_keeping ?a_law_step ?l_law_step ?c_law_step ?k_law_step ?a_is_place ?l_is_place ?c_is_place ?k_is_place ?a_Blocks_is_configuration ?i_Blocks_is_configuration ?l_Blocks_is_configuration ?c_Blocks_is_configuration ?k_Blocks_is_configuration ?a_balls ?l_balls ?c_balls ?k_balls ?a_law_places ?l_law_places ?c_law_places ?k_law_places ?a_many_balls ?l_many_balls ?c_many_balls ?k_many_balls ?a_keeps ?l_keeps ?c_keeps ?k_keeps ?a_numbered_blocks ?l_numbered_blocks ?c_numbered_blocks ?k_numbered_blocks ?a_replaced ?l_replaced ?c_replaced ?k_replaced ?a_Blocks_step ?i_Blocks_step ?l_Blocks_step ?c_Blocks_step ?k_Blocks_step ?a_Blocks_back ?i_Blocks_back ?l_Blocks_back ?c_Blocks_back ?k_Blocks_back ?a_turned_about ?l_turned_about ?c_turned_about ?k_turned_about ?a_Blocks_run ?i_Blocks_run ?l_Blocks_run ?c_Blocks_run ?k_Blocks_run ?a_Blocks_run_back ?i_Blocks_run_back ?l_Blocks_run_back ?c_Blocks_run_back ?k_Blocks_run_back ?a_law ?l_law ?c_law ?k_law ?pg_Blocks ?hd_Blocks ?po_Blocks ?sa_Blocks ?mk_Blocks ?kc_Blocks ?n_Blocks_inverse ?n_Blocks_index ?n_Blocks_rule ?x_BadBlocks ?xk_BadBlocks ?xb_BadBlocks ?xt_BadBlocks ?xg_BadBlocks ?xa_BadBlocks ?xd_BadBlocks ?xc_BadBlocks ?xm_BadBlocks ?xn_0 ?xs_0 ?m_PLACES ?tl_PLACES ?tl_PLACES_0 ?tl_PLACES_1 ?tl_PLACES_2 ?tl_PLACES_3 ?z_all ?z_bool ?z_enumerate ?z_int ?z_isinstance ?z_len ?z_list ?z_range ?z_set ?z_sorted ?z_sum ?z_tuple ?z_zip
    (case A_BackError => k_is)
    (case A_BadBlocks => k_is)
    (case A_Blocks => k_is)
    (case a_law_mixed => k_is)
    (case l_law_mixed => k_is)
    (case c_law_mixed => k_is)
    (case k_law_mixed => k_is)
    (case a_law_digits => k_is)
    (case l_law_digits => k_is)
    (case c_law_digits => k_is)
    (case k_law_digits => k_is)
    (case a_law_values => k_is)
    (case l_law_values => k_is)
    (case c_law_values => k_is)
    (case k_law_values => k_is)
    (case a_inverse_rule => k_is)
    (case l_inverse_rule => k_is)
    (case c_inverse_rule => k_is)
    (case k_inverse_rule => k_is)
    (case a_is_whole => k_is)
    (case l_is_whole => k_is)
    (case c_is_whole => k_is)
    (case k_is_whole => k_is)
    (case a_is_number => k_is)
    (case l_is_number => k_is)
    (case c_is_number => k_is)
    (case k_is_number => k_is)
    (case a_are_numbers => k_is)
    (case l_are_numbers => k_is)
    (case c_are_numbers => k_is)
    (case k_are_numbers => k_is)
    (case a_is_rule => k_is)
    (case l_is_rule => k_is)
    (case c_is_rule => k_is)
    (case k_is_rule => k_is)
    (case a_Blocks_init => k_is)
    (case i_Blocks_init => k_is)
    (case l_Blocks_init => k_is)
    (case c_Blocks_init => k_is)
    (case k_Blocks_init => k_is)
    (case a_law_cell => k_is)
    (case l_law_cell => k_is)
    (case c_law_cell => k_is)
    (case k_law_cell => k_is)
    (case a_law_keeping => k_is)
    (case l_law_keeping => k_is)
    (case c_law_keeping => k_is)
    (case k_law_keeping => k_is)
    (case a_law_step => k_is)
    (case l_law_step => k_is)
    (case c_law_step => k_is)
    (case k_law_step => k_is)
    (case a_is_place => k_is)
    (case l_is_place => k_is)
    (case c_is_place => k_is)
    (case k_is_place => k_is)
    (case a_Blocks_is_configuration => k_is)
    (case i_Blocks_is_configuration => k_is)
    (case l_Blocks_is_configuration => k_is)
    (case c_Blocks_is_configuration => k_is)
    (case k_Blocks_is_configuration => k_is)
    (case a_balls => k_is)
    (case l_balls => k_is)
    (case c_balls => k_is)
    (case k_balls => k_is)
    (case a_law_places => k_is)
    (case l_law_places => k_is)
    (case c_law_places => k_is)
    (case k_law_places => k_is)
    (case a_many_balls => k_is)
    (case l_many_balls => k_is)
    (case c_many_balls => k_is)
    (case k_many_balls => k_is)
    (case a_keeps => k_is)
    (case l_keeps => k_is)
    (case c_keeps => k_is)
    (case k_keeps => k_is)
    (case a_numbered_blocks => k_is)
    (case l_numbered_blocks => k_is)
    (case c_numbered_blocks => k_is)
    (case k_numbered_blocks => k_is)
    (case a_replaced => k_is)
    (case l_replaced => k_is)
    (case c_replaced => k_is)
    (case k_replaced => k_is)
    (case a_Blocks_step => k_is)
    (case i_Blocks_step => k_is)
    (case l_Blocks_step => k_is)
    (case c_Blocks_step => k_is)
    (case k_Blocks_step => k_is)
    (case a_Blocks_back => k_is)
    (case i_Blocks_back => k_is)
    (case l_Blocks_back => k_is)
    (case c_Blocks_back => k_is)
    (case k_Blocks_back => k_is)
    (case a_turned_about => k_is)
    (case l_turned_about => k_is)
    (case c_turned_about => k_is)
    (case k_turned_about => k_is)
    (case a_Blocks_run => k_is)
    (case i_Blocks_run => k_is)
    (case l_Blocks_run => k_is)
    (case c_Blocks_run => k_is)
    (case k_Blocks_run => k_is)
    (case a_Blocks_run_back => k_is)
    (case i_Blocks_run_back => k_is)
    (case l_Blocks_run_back => k_is)
    (case c_Blocks_run_back => k_is)
    (case k_Blocks_run_back => k_is)
    (case a_law => k_is)
    (case l_law => k_is)
    (case c_law => k_is)
    (case k_law => k_is)
    (case pg_Blocks => k_is)
    (case hd_Blocks => k_is)
    (case po_Blocks => k_is)
    (case sa_Blocks => k_is)
    (case mk_Blocks => k_is)
    (case kc_Blocks => k_is)
    (case n_Blocks_inverse => k_is)
    (case n_Blocks_index => k_is)
    (case n_Blocks_rule => k_is)
    (case x_BadBlocks => k_exc)
    (case xk_BadBlocks => k_is)
    (case xb_BadBlocks => k_is)
    (case xt_BadBlocks => k_is)
    (case xg_BadBlocks => k_is)
    (case xa_BadBlocks => k_is)
    (case xd_BadBlocks => k_is)
    (case xc_BadBlocks => k_is)
    (case xm_BadBlocks => k_is)
    (case xn_0 => k_is)
    (case xs_0 => k_is)
    (case m_PLACES => k_is)
    (case tl_PLACES => k_is)
    (case tl_PLACES_0 => k_is)
    (case tl_PLACES_1 => k_is)
    (case tl_PLACES_2 => k_is)
    (case tl_PLACES_3 => k_is)
    (case z_all => k_is)
    (case z_bool => k_is)
    (case z_enumerate => k_is)
    (case z_int => k_is)
    (case z_isinstance => k_is)
    (case z_len => k_is)
    (case z_list => k_is)
    (case z_range => k_is)
    (case z_set => k_is)
    (case z_sorted => k_is)
    (case z_sum => k_is)
    (case z_tuple => k_is)
    (case z_zip => k_is)
