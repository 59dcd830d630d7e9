import PyProof.Rows.All
import Wide.All
import OpenK.AllK
import Wide.FinOn
import HandS.ForMost
import HandS.Walk
import HandS.IsInst
import HandS.TupAny
import HandS.TupLe
import HandS.Style
import HandS.Flow
import HandS.Wide
import HandS.Conv
import HandS.TupMul
import HandS.SortInts
import HandS.Zip
import HandS.NoneIn
import KE.GoesMore
import KE.KRevSl
import HandS.RaiseMore
import HandS.SetFor
import HandS.Strs
import PyProof.FactsAll.subtypes_4
import KE.DataMinMax
import KE.OsArith
import HandS.WideBits
import HandS.Rev
import HandS.Sort
import HandS.SortKw
import HandS.List
import HandS.Deep
import HandS.ReCall
import HandS.TupSets
import HandS.SortRule
import KE.GoesEnum
import KE.KDictPairs
import KE.KDictKeyed
import KE.KDictSum
import PySem.Challenge.RW_tieskept_k13_whole_what_is_sure
set_option Elab.async false
set_option linter.all false
set_option maxRecDepth 100000
set_option maxHeartbeats 1000000
/-! DL: a logic over data for the hand layer: values are read as data (PyData), a state is a list of slots and of own objects; no heap is seen in it. -/
namespace DL
open PySem PySem.Spec PyProof.Rows L2

/-! ### data that stands in a heap and is not changed any more -/
mutual
inductive Rp (K : PySem.W.Frag) (H : Hp) : V → PyData → Prop
  | non : Rp K H .non .none
  | bl (b : Bool) : Rp K H (.bl b) (.bool b)
  | int (i : Int) : Rp K H (.int i) (.int i)
  | str (x : Str) : Rp K H (.str x) (.str x)
  | lst {a : Addr} {xs : List V} {ds : List PyData} (h : H a = some (.lst xs)) (r : RpA K H xs ds) : Rp K H (.ref a) (.list ds)
  | tup {a : Addr} {xs : List V} {ds : List PyData} (h : SqT K H a xs) (r : RpA K H xs ds) : Rp K H (.ref a) (.tuple ds)
  | emp {a : Addr} (h : H a = some (.dK [])) : Rp K H (.ref a) (.dict [])
inductive RpA (K : PySem.W.Frag) (H : Hp) : List V → List PyData → Prop
  | nil : RpA K H [] []
  | cons {v : V} {vs : List V} {d : PyData} {ds : List PyData} (h : Rp K H v d) (t : RpA K H vs ds) : RpA K H (v :: vs) (d :: ds)
end
section
variable {K : PySem.W.Frag} {H H' : Hp}
theorem sameT {a : Addr} {xs : List V} (e : Same H H') (h : SqT K H a xs) : SqT K H' a xs := by
  rcases h with (h | ⟨o, h⟩) | h
  · exact .inl (.inl (e _ _ h))
  · exact .inl (.inr ⟨o, e _ _ h⟩)
  · exact .inr h
mutual
theorem Rp.mono (e : Same H H') : ∀ {v : V} {d : PyData}, Rp K H v d → Rp K H' v d
  | _, _, .non => .non
  | _, _, .bl b => .bl b
  | _, _, .int i => .int i
  | _, _, .str x => .str x
  | _, _, .lst h r => .lst (e _ _ h) (RpA.mono e r)
  | _, _, .tup h r => .tup (sameT e h) (RpA.mono e r)
  | _, _, .emp h => .emp (e _ _ h)
theorem RpA.mono (e : Same H H') : ∀ {vs : List V} {ds : List PyData}, RpA K H vs ds → RpA K H' vs ds
  | _, _, .nil => .nil
  | _, _, .cons h t => .cons (Rp.mono e h) (RpA.mono e t)
end
theorem RpA.len : ∀ {vs : List V} {ds : List PyData}, RpA K H vs ds → vs.length = ds.length
  | _, _, .nil => rfl
  | _, _, .cons _ t => by rw [List.length_cons, List.length_cons, RpA.len t]
theorem RpA.get : ∀ {vs : List V} {ds : List PyData} {i : Nat} {d : PyData}, RpA K H vs ds → ds[i]? = some d → ∃ v, vs[i]? = some v ∧ Rp K H v d
  | _, _, _, _, .nil, e => by simp at e
  | _, _, 0, _, .cons h _, e => by
    simp at e
    exact ⟨_, rfl, e ▸ h⟩
  | _, _, i + 1, _, .cons _ t, e => by
    obtain ⟨v, h1, h2⟩ := RpA.get (i := i) t (by simpa using e)
    exact ⟨v, by simpa using h1, h2⟩
theorem RpA.got : ∀ {vs : List V} {ds : List PyData} {i : Nat} {v : V}, RpA K H vs ds → vs[i]? = some v → ∃ d, ds[i]? = some d ∧ Rp K H v d
  | _, _, _, _, .nil, e => by simp at e
  | _, _, 0, _, .cons h _, e => by
    simp at e
    exact ⟨_, rfl, e ▸ h⟩
  | _, _, i + 1, _, .cons _ t, e => by
    obtain ⟨v, h1, h2⟩ := RpA.got (i := i) t (by simpa using e)
    exact ⟨v, by simpa using h1, h2⟩
theorem RpA.append : ∀ {vs us : List V} {ds es : List PyData}, RpA K H vs ds → RpA K H us es → RpA K H (vs ++ us) (ds ++ es)
  | _, _, _, _, .nil, s => s
  | _, _, _, _, .cons h t, s => .cons h (RpA.append t s)
theorem RpA.take : ∀ {vs : List V} {ds : List PyData} (n : Nat), RpA K H vs ds → RpA K H (vs.take n) (ds.take n)
  | _, _, 0, _ => .nil
  | _, _, _ + 1, .nil => .nil
  | _, _, n + 1, .cons h t => .cons h (RpA.take n t)
theorem RpA.drop : ∀ {vs : List V} {ds : List PyData} (n : Nat), RpA K H vs ds → RpA K H (vs.drop n) (ds.drop n)
  | _, _, 0, r => r
  | _, _, _ + 1, .nil => .nil
  | _, _, n + 1, .cons _ t => RpA.drop n t
theorem RpA.set {v : V} {d : PyData} (h : Rp K H v d) : ∀ {vs : List V} {ds : List PyData} (i : Nat), RpA K H vs ds → RpA K H (vs.set i v) (ds.set i d)
  | _, _, _, .nil => .nil
  | _, _, 0, .cons _ t => .cons h t
  | _, _, i + 1, .cons g t => .cons g (RpA.set h i t)
theorem RpA.reverse : ∀ {vs : List V} {ds : List PyData}, RpA K H vs ds → RpA K H vs.reverse ds.reverse
  | _, _, .nil => .nil
  | _, _, .cons h t => by
    rw [List.reverse_cons, List.reverse_cons]
    exact (RpA.reverse t).append (.cons h .nil)
theorem RpA.ints : ∀ ns : List Int, RpA K H (ns.map V.int) (ns.map PyData.int)
  | [] => .nil
  | n :: r => .cons (.int n) (RpA.ints r)
theorem RpA.ints_inv : ∀ {ns : List Int} {vs : List V}, RpA K H vs (ns.map PyData.int) → vs = ns.map V.int
  | [], _, .nil => rfl
  | n :: r, _, .cons h t => by
    cases h
    rw [RpA.ints_inv t]
    rfl
end

/-! ### own objects: lists that may still grow, the law's well -/
inductive OO where
  | gone
  | lst (ds : List PyData)
  | lstP (ds : List PyData)
  | well (deep : List Int) (stirred turns : Int)
  | dic (f : Int → Option Int) (n : Nat)
  | raw (a : Addr) (o : HO)
  | dtt (kv : List (List Int × PyData))
  | dpp (e : Addr → List (Addr × Int × Int) → Heap → Prop) (ks : List (Int × Int))
abbrev kD : Key := Sum.inr "deep"
abbrev kS : Key := Sum.inr "state"
def wellK (l : Addr) (s t : Int) : List (Key × V) := [(kD, V.ref l), (kS, V.int s)]
/-- a dict whose keys are tuples of numbers: its rows and what they are read as -/
abbrev KvR (K : PySem.W.Frag) (Hf : Hp) : List (List Key × V) → List (List Int × PyData) → Prop := Paired fun p q => p.1 = q.1.map Sum.inl ∧ Rp K Hf p.2 q.2
def OOk (K : PySem.W.Frag) (Hf H : Hp) (fp : List Addr) : OO → Prop
  | .gone => True
  | .lst ds => ∃ a xs, fp = [a] ∧ H a = some (.lst xs) ∧ RpA K Hf xs ds
  | .lstP ds => ∃ a xs, fp = [a] ∧ H a = some (.lst xs) ∧ RpA K Hf xs ds
  | .well d s t => ∃ a l, fp = [a, l] ∧ H a = some (.dK (wellK l s t)) ∧ H l = some (.lst (d.map V.int))
  | .dic f n => ∃ a kvs, fp = [a] ∧ H a = some (.dK kvs) ∧ kvs.length ≤ n ∧ ∀ k : Int, valV kvs (Sum.inl k) = (f k).map V.int
  | .raw a o => fp = [a] ∧ H a = some o
  | .dtt kv => ∃ a kvs, fp = [a] ∧ H a = some (.dT kvs) ∧ KvR K Hf kvs kv
  | .dpp e ks => ∃ a ps, fp = [a] ∧ H a = some (.ext (e a ps)) ∧ (∀ z, z ∈ ps.map (·.2) ↔ z ∈ ks) ∧ ps.length ≤ ks.length ∧ ∀ p ∈ ps, SqT K Hf p.1 [.int p.2.1, .int p.2.2]
theorem OOk.mono {K : PySem.W.Frag} {Hf Hf' H H' : Hp} {fp : List Addr} {o : OO} (h : OOk K Hf H fp o) (e : Same Hf Hf') (k : ∀ a ∈ fp, H' a = H a) : OOk K Hf' H' fp o := by
  cases o with
  | gone => trivial
  | lst ds =>
    obtain ⟨a, xs, rfl, h1, h2⟩ := h
    exact ⟨a, xs, rfl, by rw [k a (by simp)]; exact h1, h2.mono e⟩
  | lstP ds =>
    obtain ⟨a, xs, rfl, h1, h2⟩ := h
    exact ⟨a, xs, rfl, by rw [k a (by simp)]; exact h1, h2.mono e⟩
  | well d s t =>
    obtain ⟨a, l, rfl, h1, h2⟩ := h
    exact ⟨a, l, rfl, by rw [k a (by simp)]; exact h1, by rw [k l (by simp)]; exact h2⟩
  | dic f n =>
    obtain ⟨a, kvs, rfl, h1, h2, h3⟩ := h
    exact ⟨a, kvs, rfl, by rw [k a (by simp)]; exact h1, h2, h3⟩
  | raw a o =>
    obtain ⟨rfl, h1⟩ := h
    exact ⟨rfl, by rw [k a (by simp)]; exact h1⟩
  | dtt kv =>
    obtain ⟨a, kvs, rfl, h1, h2⟩ := h
    exact ⟨a, kvs, rfl, by rw [k a (by simp)]; exact h1, Paired.mapP h2 fun _ _ z => ⟨z.1, z.2.mono e⟩⟩
  | dpp g ks =>
    obtain ⟨a, ps, rfl, h1, h2, h4, h3⟩ := h
    exact ⟨a, ps, rfl, by rw [k a (by simp)]; exact h1, h2, h4, fun p hp => sameT e (h3 p hp)⟩

/-- what a slot, a value is known to be: nothing, data, the k-th own object -/
inductive SD where
  | un
  | dat (d : PyData)
  | own (k : Nat)
  | scr (ns : List Int)
  | rng (lo hi : Int)
  | lown (ks : List Nat)
  | tx (ns : List Int)
  | tq (d1 : PyData) (ns : List Int) (d3 : PyData)
  | no
def SRl (K : PySem.W.Frag) (Hf : Hp) (fp : List (List Addr)) : Option V → SD → Prop
  | _, .un => True
  | some v, .dat d => Rp K Hf v d
  | some v, .own k => ∃ a r, fp[k]? = some (a :: r) ∧ v = .ref a
  | some v, .scr ns => ∃ a, v = .ref a ∧ SqL K Hf a (ns.map V.int)
  | some v, .rng lo hi => ∃ a, v = .ref a ∧ Hf a = some (.rng lo hi)
  | some v, .lown ks => ∃ a xs, v = .ref a ∧ Hf a = some (.lst xs) ∧ xs.length = ks.length ∧ ∀ (i k : Nat) (x : V), ks[i]? = some k → xs[i]? = some x → ∃ b r, fp[k]? = some (b :: r) ∧ x = V.ref b
  | some v, .tx ns => ∃ a o, v = .ref a ∧ Hf a = some (.frz o (.tup (ns.map V.int))) ∧ o.cls = .type "tuple" ∧ o.dict = none
  | some v, .tq d1 ns d3 => ∃ a v1 b o v3, v = .ref a ∧ Hf a = some (.tup [v1, .ref b, v3]) ∧ Rp K Hf v1 d1 ∧ Hf b = some (.frz o (.tup (ns.map V.int))) ∧ o.cls = .type "tuple" ∧ o.dict = none ∧ Rp K Hf v3 d3
  | some _, .no => False
  | none, _ => False
theorem pre_get {α : Type} {l l' : List α} {k : Nat} {x : α} (p : l <+: l') (h : l[k]? = some x) : l'[k]? = some x := by
  obtain ⟨t, rfl⟩ := p
  rw [List.getElem?_append_left (List.getElem?_eq_some_iff.mp h).1]
  exact h
theorem SRl.mono {K : PySem.W.Frag} {Hf Hf' : Hp} {fp fp' : List (List Addr)} {x : Option V} {d : SD} (h : SRl K Hf fp x d) (e : Same Hf Hf') (p : fp <+: fp') : SRl K Hf' fp' x d := by
  cases d with
  | un => cases x <;> trivial
  | dat d => cases x with
    | none => exact h
    | some v => exact Rp.mono e h
  | own k => cases x with
    | none => exact h
    | some v =>
      obtain ⟨a, r, h1, h2⟩ := h
      exact ⟨a, r, pre_get p h1, h2⟩
  | scr ns => cases x with
    | none => exact h
    | some v =>
      obtain ⟨a, h1, h2⟩ := h
      exact ⟨a, h1, e.seq h2⟩
  | rng lo hi => cases x with
    | none => exact h
    | some v =>
      obtain ⟨a, h1, h2⟩ := h
      exact ⟨a, h1, e _ _ h2⟩
  | lown ks => cases x with
    | none => exact h
    | some v =>
      obtain ⟨a, xs, h1, h2, h3, h4⟩ := h
      exact ⟨a, xs, h1, e _ _ h2, h3, fun i k y e1 e2 => by
        obtain ⟨b, r, q1, q2⟩ := h4 i k y e1 e2
        exact ⟨b, r, pre_get p q1, q2⟩⟩
  | tx ns => cases x with
    | none => exact h
    | some v =>
      obtain ⟨a, o, h1, h2, h3⟩ := h
      exact ⟨a, o, h1, e _ _ h2, h3⟩
  | tq d1 ns d3 => cases x with
    | none => exact h
    | some v =>
      obtain ⟨a, v1, b, o, v3, h1, h2, h3, h4, h5, h6, h7⟩ := h
      exact ⟨a, v1, b, o, v3, h1, e _ _ h2, Rp.mono e h3, e _ _ h4, h5, h6, Rp.mono e h7⟩
  | no => cases x with
    | none => exact h
    | some v => exact h

/-- what a step leaves: what does not change stays so, all that is not one's own stays as it was, new objects are new -/
structure Gr (Hf H : Hp) (fp : List (List Addr)) (Hf' H' : Hp) (fp' : List (List Addr)) : Prop where
  sm : Same Hf Hf'
  pr : fp <+: fp'
  fr : ∀ a o, H a = some o → a ∉ fp.flatten → H' a = some o
  nw : ∀ a ∈ fp'.flatten, a ∈ fp.flatten ∨ H a = none
  th : ∀ a o, H a = some o → ∃ o', H' a = some o'
theorem Gr.refl {Hf H : Hp} {fp : List (List Addr)} : Gr Hf H fp Hf H fp := ⟨Same.refl _, List.prefix_rfl, fun _ _ e _ => e, fun _ h => .inl h, fun _ o e => ⟨o, e⟩⟩
theorem Gr.trans {Hf H Hf1 H1 Hf2 H2 : Hp} {fp fp1 fp2 : List (List Addr)} (g : Gr Hf H fp Hf1 H1 fp1) (k : Gr Hf1 H1 fp1 Hf2 H2 fp2) : Gr Hf H fp Hf2 H2 fp2 where
  sm := g.sm.trans k.sm
  pr := g.pr.trans k.pr
  fr := fun a o e n => k.fr a o (g.fr a o e n) fun m => (g.nw a m).elim n fun z => by
    rw [e] at z
    cases z
  nw := fun a m => (k.nw a m).elim (g.nw a) fun z => .inr (by
    cases q : H a with
    | none => rfl
    | some o =>
      obtain ⟨o', e⟩ := g.th a o q
      rw [z] at e
      cases e)
  th := fun a o e => let ⟨o', e'⟩ := g.th a o e; k.th a o' e'
/-- the objects as they stand; c: what must not be taken for unchanging -/
structure Hd (K : PySem.W.Frag) (c : Addr → Prop) (Hf H : Hp) (fp : List (List Addr)) (ob : List OO) : Prop where
  ex : Same Hf H
  fl : fp.length = ob.length
  oo : ∀ (k : Nat) (a : List Addr) (o : OO), fp[k]? = some a → ob[k]? = some o → OOk K Hf H a o
  nd : fp.flatten.Nodup
  al : ∀ a ∈ fp.flatten, ∃ o, H a = some o
  nf : ∀ (k : Nat) (p : List Addr) (o : OO), fp[k]? = some p → ob[k]? = some o → o ≠ .gone → ∀ a ∈ p, Hf a = none
  pt : ∀ a, c a → Hf a = none ∧ ∃ o, H a = some o
  np : ∀ (k : Nat) (p : List Addr) (ds : List PyData), fp[k]? = some p → ob[k]? = some (.lst ds) → ∀ a ∈ p, ¬ c a

section
variable {K : PySem.W.Frag} {c c' : Addr → Prop} {Hf H : Hp} {fp : List (List Addr)} {ob : List OO}
theorem mem_fl {fp : List (List Addr)} {k : Nat} {p : List Addr} {a : Addr} (h : fp[k]? = some p) (ha : a ∈ p) : a ∈ fp.flatten :=
  List.mem_flatten.mpr ⟨p, List.mem_of_getElem? h, ha⟩
theorem Hd.weak (h : Hd K c Hf H fp ob) (w : ∀ a, c' a → c a) : Hd K c' Hf H fp ob :=
  ⟨h.ex, h.fl, h.oo, h.nd, h.al, h.nf, fun a z => h.pt a (w a z), fun k p ds h1 h2 a m z => h.np k p ds h1 h2 a m (w a z)⟩
theorem Gr.new {p : Addr} {o : HO} (hf : Hf p = none) (hp : H p = none) : Gr Hf H fp (upd Hf p o) (upd H p o) fp := ⟨fun b x e => by
    rw [upd_ne (ne_of_none e hf)]
    exact e, List.prefix_rfl, fun a x e _ => by
    rw [upd_ne (ne_of_none e hp)]
    exact e, fun _ h => .inl h, fun a x e => ⟨x, by
    rw [upd_ne (ne_of_none e hp)]
    exact e⟩⟩
/-- a new object that will not change -/
theorem Hd.laid (h : Hd K c Hf H fp ob) {p : Addr} (o : HO) (hp : H p = none) : Hd K c (upd Hf p o) (upd H p o) fp ob := by
  have hfp : Hf p = none := h.ex.free hp
  have hs : Same Hf (upd Hf p o) := fun b x e => by
    rw [upd_ne (ne_of_none e hfp)]
    exact e
  have npf : ∀ a ∈ fp.flatten, a ≠ p := fun a ha => by
    obtain ⟨x, e⟩ := h.al a ha
    exact ne_of_none e hp
  refine ⟨fun b x e => ?_, h.fl, fun k a x h1 h2 => (h.oo k a x h1 h2).mono hs fun b hb => upd_ne (npf b (mem_fl h1 hb)), h.nd, fun a ha => ?_, fun k q x h1 h2 hx a ha => ?_, fun a z => ?_, h.np⟩
  · by_cases hb : b = p
    · subst hb
      rw [upd_same] at e ⊢
      exact e
    · rw [upd_ne hb] at e ⊢
      exact h.ex b x e
  · obtain ⟨x, e⟩ := h.al a ha
    exact ⟨x, by rw [upd_ne (npf a ha)]; exact e⟩
  · rw [upd_ne (npf a (mem_fl h1 ha))]
    exact h.nf k q x h1 h2 hx a ha
  · obtain ⟨z1, x, z2⟩ := h.pt a z
    rw [upd_ne (ne_of_none z2 hp), upd_ne (ne_of_none z2 hp)]
    exact ⟨z1, x, z2⟩
/-- a list that stands by itself, as one's own -/
theorem Hd.own (h : Hd K c Hf H fp ob) {p : Addr} {xs : List V} {ds : List PyData} (hp : H p = some (.lst xs)) (hf : Hf p = none) (hm : p ∉ fp.flatten) (hc : ¬ c p) (r : RpA K Hf xs ds) : Hd K c Hf H (fp ++ [[p]]) (ob ++ [.lst ds]) := by
  have hsz : ∀ {α : Type} (l : List α) (x y : α) (k : Nat), (l ++ [x])[k]? = some y → (k < l.length ∧ l[k]? = some y) ∨ (k = l.length ∧ y = x) := fun l x y k e => by
    by_cases hk : k < l.length
    · rw [List.getElem?_append_left hk] at e
      exact .inl ⟨hk, e⟩
    · have e2 := (List.getElem?_eq_some_iff.mp e).1
      rw [List.length_append, List.length_singleton] at e2
      have e3 : k = l.length := by omega
      subst e3
      rw [List.getElem?_concat_length] at e
      exact .inr ⟨rfl, (Option.some.inj e).symm⟩
  refine ⟨h.ex, by rw [List.length_append, List.length_append, h.fl]; rfl, fun k a x h1 h2 => ?_, ?_, fun a ha => ?_, fun k q x h1 h2 hx a ha => ?_, h.pt, fun k q ds' h1 h2 a ha => ?_⟩
  · rcases hsz _ _ _ _ h1 with ⟨hk, h1'⟩ | ⟨hk, rfl⟩
    · rcases hsz _ _ _ _ h2 with ⟨hk2, h2'⟩ | ⟨hk2, rfl⟩
      · exact h.oo k a x h1' h2'
      · have := h.fl
        omega
    · rcases hsz _ _ _ _ h2 with ⟨hk2, h2'⟩ | ⟨hk2, rfl⟩
      · have := h.fl
        omega
      · exact ⟨p, xs, rfl, hp, r⟩
  · rw [List.flatten_append, List.nodup_append]
    refine ⟨h.nd, by simp, fun a ha b hb => ?_⟩
    have e : b = p := by simpa using hb
    rw [e]
    exact fun z => hm (z ▸ ha)
  · rw [List.flatten_append, List.mem_append] at ha
    rcases ha with ha | ha
    · exact h.al a ha
    · have e : a = p := by simpa using ha
      rw [e]
      exact ⟨_, hp⟩
  · rcases hsz _ _ _ _ h1 with ⟨hk, h1'⟩ | ⟨hk, rfl⟩
    · rcases hsz _ _ _ _ h2 with ⟨hk2, h2'⟩ | ⟨hk2, rfl⟩
      · exact h.nf k q x h1' h2' hx a ha
      · have := h.fl
        omega
    · have e : a = p := by simpa using ha
      rw [e]
      exact hf
  · rcases hsz _ _ _ _ h1 with ⟨hk, h1'⟩ | ⟨hk, rfl⟩
    · rcases hsz _ _ _ _ h2 with ⟨hk2, h2'⟩ | ⟨hk2, e2⟩
      · exact h.np k q ds' h1' h2' a ha
      · have := h.fl
        omega
    · have e : a = p := by simpa using ha
      rw [e]
      exact hc
theorem nodup_fl {fp : List (List Addr)} {a : Addr} {p q : List Addr} {i j : Nat} (nd : fp.flatten.Nodup) (hi : fp[i]? = some p) (hj : fp[j]? = some q) (ha : a ∈ p) (hb : a ∈ q) : i = j := by
  obtain ⟨_, pw⟩ := List.pairwise_flatten.mp nd
  obtain ⟨li, ei⟩ := List.getElem?_eq_some_iff.mp hi
  obtain ⟨lj, ej⟩ := List.getElem?_eq_some_iff.mp hj
  rcases Nat.lt_trichotomy i j with h | h | h
  · have := List.pairwise_iff_getElem.mp pw i j li lj h
    rw [ei, ej] at this
    exact (this a ha a hb rfl).elim
  · exact h
  · have := List.pairwise_iff_getElem.mp pw j i lj li h
    rw [ei, ej] at this
    exact (this a hb a ha rfl).elim
/-- an own object changes at its places -/
theorem Hd.put (h : Hd K c Hf H fp ob) {k : Nat} {p : List Addr} {o o' : OO} {H' : Hp} (hk : fp[k]? = some p) (ho : ob[k]? = some o) (hg : o ≠ .gone) (ht : ∀ a, a ∉ p → H' a = H a) (hn : OOk K Hf H' p o') (hal : ∀ a ∈ p, ∃ x, H' a = some x) (hl : ∀ ds, o' = .lst ds → ∃ ds0, o = .lst ds0) :
    Hd K c Hf H' fp (ob.set k o') ∧ Gr Hf H fp Hf H' fp := by
  have hth : ∀ a o, H a = some o → ∃ o', H' a = some o' := fun a o e => by
    by_cases hb : a ∈ p
    · exact hal a hb
    · exact ⟨o, by rw [ht a hb]; exact e⟩
  refine ⟨⟨fun b x e => ?_, by rw [List.length_set]; exact h.fl, fun j q x h1 h2 => ?_, h.nd, fun a ha => ?_, fun j q x h1 h2 hx a ha => ?_, fun a z => ?_, fun j q ds' h1 h2 a ha => ?_⟩, Same.refl _, List.prefix_rfl, fun a o e n => ?_, fun _ m => .inl m, hth⟩
  · by_cases hb : b ∈ p
    · rw [h.nf k p o hk ho hg b hb] at e
      cases e
    · rw [ht b hb]
      exact h.ex b x e
  · by_cases hj : j = k
    · subst hj
      rw [hk] at h1
      obtain rfl := Option.some.inj h1
      rw [List.getElem?_set_self (List.getElem?_eq_some_iff.mp ho).1] at h2
      obtain rfl := Option.some.inj h2
      exact hn
    · rw [List.getElem?_set_ne (Ne.symm hj)] at h2
      exact (h.oo j q x h1 h2).mono (Same.refl _) fun b hb => ht b fun hb' => hj (nodup_fl h.nd h1 hk hb hb')
  · obtain ⟨x, e⟩ := h.al a ha
    exact hth a x e
  · by_cases hj : j = k
    · subst hj
      rw [hk] at h1
      obtain rfl := Option.some.inj h1
      exact h.nf j p o hk ho hg a ha
    · rw [List.getElem?_set_ne (Ne.symm hj)] at h2
      exact h.nf j q x h1 h2 hx a ha
  · obtain ⟨z1, x, z2⟩ := h.pt a z
    exact ⟨z1, hth a x z2⟩
  · by_cases hj : j = k
    · subst hj
      rw [List.getElem?_set_self (List.getElem?_eq_some_iff.mp ho).1] at h2
      obtain ⟨ds0, e0⟩ := hl ds' (Option.some.inj h2)
      rw [e0] at ho
      exact h.np j q ds0 h1 ho a ha
    · rw [List.getElem?_set_ne (Ne.symm hj)] at h2
      exact h.np j q ds' h1 h2 a ha
  · rw [ht a fun hb => n (mem_fl hk hb)]
    exact e
/-- a list that stands by itself, or an own one, will not change any more -/
theorem Hd.stop (h : Hd K c Hf H fp ob) {a : Addr} {o : HO} (hm : a ∉ fp.flatten) (hc : ¬ c a) (hf : Hf a = none) (hx : H a = some o) : Hd K c (upd Hf a o) H fp ob ∧ Gr Hf H fp (upd Hf a o) H fp := by
  have hs : Same Hf (upd Hf a o) := fun b x e => by
    rw [upd_ne (ne_of_none e hf)]
    exact e
  have npf : ∀ b ∈ fp.flatten, b ≠ a := fun b hb z => hm (z ▸ hb)
  refine ⟨⟨fun b x e => ?_, h.fl, fun j q x h1 h2 => (h.oo j q x h1 h2).mono hs fun b hb => rfl, h.nd, h.al, fun j q x h1 h2 hx b hb => ?_, fun b z => ?_, h.np⟩, hs, List.prefix_rfl, fun _ _ e _ => e, fun _ m => .inl m, fun _ o e => ⟨o, e⟩⟩
  · by_cases hb : b = a
    · subst hb
      rw [upd_same] at e
      rw [hx, ← Option.some.inj e]
    · rw [upd_ne hb] at e
      exact h.ex b x e
  · rw [upd_ne (npf b (mem_fl h1 hb))]
    exact h.nf j q x h1 h2 hx b hb
  · obtain ⟨z1, z2⟩ := h.pt b z
    rw [upd_ne (show b ≠ a from fun q => hc (by rw [← q]; exact z))]
    exact ⟨z1, z2⟩
theorem Hd.freeze (h : Hd K c Hf H fp ob) {k : Nat} {a : Addr} {xs : List V} {ds : List PyData} (hk : fp[k]? = some [a]) (ho : ob[k]? = some (.lst ds)) (hx : H a = some (.lst xs)) :
    Hd K c (upd Hf a (.lst xs)) H fp (ob.set k .gone) ∧ Gr Hf H fp (upd Hf a (.lst xs)) H fp := by
  have hfa : Hf a = none := h.nf k [a] _ hk ho (by intro z; cases z) a (by simp)
  have hs : Same Hf (upd Hf a (.lst xs)) := fun b x e => by
    rw [upd_ne (ne_of_none e hfa)]
    exact e
  have hca : ¬ c a := h.np k [a] ds hk ho a (by simp)
  refine ⟨⟨fun b x e => ?_, by rw [List.length_set]; exact h.fl, fun j q x h1 h2 => ?_, h.nd, h.al, fun j q x h1 h2 hx b hb => ?_, fun b z => ?_, fun j q ds' h1 h2 b hb => ?_⟩, hs, List.prefix_rfl, fun _ _ e _ => e, fun _ m => .inl m, fun _ o e => ⟨o, e⟩⟩
  · by_cases hb : b = a
    · subst hb
      rw [upd_same] at e
      rw [hx, ← Option.some.inj e]
    · rw [upd_ne hb] at e
      exact h.ex b x e
  · by_cases hj : j = k
    · subst hj
      rw [List.getElem?_set_self (List.getElem?_eq_some_iff.mp ho).1] at h2
      obtain rfl := Option.some.inj h2
      trivial
    · rw [List.getElem?_set_ne (Ne.symm hj)] at h2
      exact (h.oo j q x h1 h2).mono hs fun b hb => rfl
  · by_cases hj : j = k
    · subst hj
      rw [List.getElem?_set_self (List.getElem?_eq_some_iff.mp ho).1] at h2
      exact absurd (Option.some.inj h2).symm hx
    · rw [List.getElem?_set_ne (Ne.symm hj)] at h2
      have hba : b ≠ a := fun z => hj (nodup_fl h.nd h1 hk hb (by simp [z]))
      rw [upd_ne hba]
      exact h.nf j q x h1 h2 hx b hb
  · obtain ⟨z1, z2⟩ := h.pt b z
    rw [upd_ne (show b ≠ a from fun q => hca (by rw [← q]; exact z))]
    exact ⟨z1, z2⟩
  · by_cases hj : j = k
    · subst hj
      rw [List.getElem?_set_self (List.getElem?_eq_some_iff.mp ho).1] at h2
      cases Option.some.inj h2
    · rw [List.getElem?_set_ne (Ne.symm hj)] at h2
      exact h.np j q ds' h1 h2 b hb
end
end DL

set_option maxRecDepth 100000
set_option maxHeartbeats 1000000
namespace DL
open PySem PySem.Spec PyProof.Rows L2

/-! ### a state over data -/
structure SS where
  sl : List SD
  ob : List OO
structure Okk (K : PySem.W.Frag) (c : Addr → Prop) (Hf H : Hp) (σ : L2.St) (fp : List (List Addr)) (S : SS) : Prop where
  hd : Hd K c Hf H fp S.ob
  ln : σ.length = S.sl.length
  sr : ∀ (i : Nat) (d : SD), S.sl[i]? = some d → ∃ x, σ[i]? = some x ∧ SRl K Hf fp x d
/-- values that are known to be so -/
abbrev SRA (K : PySem.W.Frag) (Hf : Hp) (fp : List (List Addr)) : List V → List SD → Prop := Paired fun v d => SRl K Hf fp (some v) d
theorem SRA.mono {K : PySem.W.Frag} {Hf Hf' : Hp} {fp fp' : List (List Addr)} {vs : List V} {ds : List SD} (h : SRA K Hf fp vs ds) (e : Same Hf Hf') (p : fp <+: fp') : SRA K Hf' fp' vs ds :=
  Paired.mapP h fun _ _ q => q.mono e p
theorem SRA.rp {K : PySem.W.Frag} {Hf : Hp} {fp : List (List Addr)} : ∀ {vs : List V} {ds : List PyData}, SRA K Hf fp vs (ds.map SD.dat) → RpA K Hf vs ds
  | _, [], .nil => .nil
  | _, _ :: _, .cons h t => .cons h (SRA.rp t)

def Ee (K : PySem.W.Frag) (te : TE) (S : SS) (r : SD) (S' : SS) : Prop := ∀ c Hf H σ fp, Okk K c Hf H σ fp S → ∀ Q : VK,
  (∀ v Hf' H' fp', Okk K c Hf' H' σ fp' S' → Gr Hf H fp Hf' H' fp' → SRl K Hf' fp' (some v) r → Q v H') → te σ H Q
def Et (K : PySem.W.Frag) (tt : TT) (S : SS) (b : Bool) (S' : SS) : Prop := ∀ c Hf H σ fp, Okk K c Hf H σ fp S → ∀ Q : Bool → Hp → Prop,
  (∀ Hf' H' fp', Okk K c Hf' H' σ fp' S' → Gr Hf H fp Hf' H' fp' → Q b H') → tt σ H Q
def Ea (K : PySem.W.Frag) (ta : TA) (S : SS) (rs : List SD) (S' : SS) : Prop := ∀ c Hf H σ fp, Okk K c Hf H σ fp S → ∀ Q : List V → Hp → Prop,
  (∀ vs Hf' H' fp', Okk K c Hf' H' σ fp' S' → Gr Hf H fp Hf' H' fp' → SRA K Hf' fp' vs rs → Q vs H') → ta σ H Q
/-- a two-place operation on values; a one-place one; a call on values -/
def Ro (K : PySem.W.Frag) (r : R2) (x y : SD) (S : SS) (z : SD) (S' : SS) : Prop := ∀ c Hf H σ fp, Okk K c Hf H σ fp S → ∀ v u, SRl K Hf fp (some v) x → SRl K Hf fp (some u) y → ∀ Q : VK,
  (∀ w Hf' H' fp', Okk K c Hf' H' σ fp' S' → Gr Hf H fp Hf' H' fp' → SRl K Hf' fp' (some w) z → Q w H') → r v u H Q
def Ru (K : PySem.W.Frag) (r : V → Hp → VK → Prop) (x : SD) (S : SS) (z : SD) (S' : SS) : Prop := ∀ c Hf H σ fp, Okk K c Hf H σ fp S → ∀ v, SRl K Hf fp (some v) x → ∀ Q : VK,
  (∀ w Hf' H' fp', Okk K c Hf' H' σ fp' S' → Gr Hf H fp Hf' H' fp' → SRl K Hf' fp' (some w) z → Q w H') → r v H Q
def Rc (K : PySem.W.Frag) (r : List V → Hp → VK → Prop) (xs : List SD) (S : SS) (z : SD) (S' : SS) : Prop := ∀ c Hf H σ fp, Okk K c Hf H σ fp S → ∀ vs, SRA K Hf fp vs xs → ∀ Q : VK,
  (∀ w Hf' H' fp', Okk K c Hf' H' σ fp' S' → Gr Hf H fp Hf' H' fp' → SRl K Hf' fp' (some w) z → Q w H') → r vs H Q
/-- a new list that stands by itself -/
structure Alone (K : PySem.W.Frag) (c : Addr → Prop) (Hf H : Hp) (fp : List (List Addr)) (p : Addr) (ds : List PyData) : Prop where
  at_ : ∃ xs, H p = some (.lst xs) ∧ RpA K Hf xs ds
  hf : Hf p = none
  nm : p ∉ fp.flatten
  nc : ¬ c p
def El (K : PySem.W.Frag) (te : TE) (S : SS) (ds : List PyData) (S' : SS) : Prop := ∀ c Hf H σ fp, Okk K c Hf H σ fp S → ∀ Q : VK,
  (∀ p Hf' H' fp', Okk K c Hf' H' σ fp' S' → Gr Hf H fp Hf' H' fp' → H p = none → Alone K c Hf' H' fp' p ds → Q (.ref p) H') → te σ H Q
def RcL (K : PySem.W.Frag) (r : List V → Hp → VK → Prop) (xs : List SD) (S : SS) (ds : List PyData) (S' : SS) : Prop := ∀ c Hf H σ fp, Okk K c Hf H σ fp S → ∀ vs, SRA K Hf fp vs xs → ∀ Q : VK,
  (∀ p Hf' H' fp', Okk K c Hf' H' σ fp' S' → Gr Hf H fp Hf' H' fp' → H p = none → Alone K c Hf' H' fp' p ds → Q (.ref p) H') → r vs H Q
def RoL (K : PySem.W.Frag) (r : R2) (x y : SD) (S : SS) (ds : List PyData) (S' : SS) : Prop := ∀ c Hf H σ fp, Okk K c Hf H σ fp S → ∀ v u, SRl K Hf fp (some v) x → SRl K Hf fp (some u) y → ∀ Q : VK,
  (∀ p Hf' H' fp', Okk K c Hf' H' σ fp' S' → Gr Hf H fp Hf' H' fp' → H p = none → Alone K c Hf' H' fp' p ds → Q (.ref p) H') → r v u H Q

structure DE where
  nx : SS → Prop
  rt : SD → SS → Prop
  bk : SS → Prop := fun _ => False
  ct : SS → Prop := fun _ => False
def Ts (K : PySem.W.Frag) (ts : TS) (S : SS) (E : DE) : Prop := ∀ c Hf H σ fp, Okk K c Hf H σ fp S → ∀ D : Ends,
  (∀ S' Hf' H' σ' fp', Okk K c Hf' H' σ' fp' S' → Gr Hf H fp Hf' H' fp' → E.nx S' → D.nx σ' H') →
  (∀ r S' v Hf' H' σ' fp', Okk K c Hf' H' σ' fp' S' → Gr Hf H fp Hf' H' fp' → SRl K Hf' fp' (some v) r → E.rt r S' → D.rt v H') →
  (∀ S' Hf' H' σ' fp', Okk K c Hf' H' σ' fp' S' → Gr Hf H fp Hf' H' fp' → E.bk S' → D.bk σ' H') →
  (∀ S' Hf' H' σ' fp', Okk K c Hf' H' σ' fp' S' → Gr Hf H fp Hf' H' fp' → E.ct S' → D.ct σ' H') → ts D σ H

section
variable {K : PySem.W.Frag} {S S1 S2 S3 S4 : SS} {ta tb te tc : TE} {t u : TT} {x y z : SD} {d e : PyData} {a b : Bool} {r : R2} {i : Nat}
variable {c c' : Addr → Prop} {Hf H : Hp} {σ : L2.St} {fp : List (List Addr)}
theorem Okk.weak (h : Okk K c Hf H σ fp S) (w : ∀ a, c' a → c a) : Okk K c' Hf H σ fp S := ⟨h.hd.weak w, h.ln, h.sr⟩
/-- a new object that will not change -/
theorem Okk.laid (h : Okk K c Hf H σ fp S) {p : Addr} (o : HO) (hp : H p = none) : Okk K c (upd Hf p o) (upd H p o) σ fp S ∧ Gr Hf H fp (upd Hf p o) (upd H p o) fp := by
  have g : Gr Hf H fp (upd Hf p o) (upd H p o) fp := Gr.new (h.hd.ex.free hp) hp
  refine ⟨⟨h.hd.laid o hp, h.ln, fun i d e => ?_⟩, g⟩
  obtain ⟨x, h1, h2⟩ := h.sr i d e
  exact ⟨x, h1, h2.mono g.sm g.pr⟩
theorem Okk.rd (h : Okk K c Hf H σ fp S) {a : Addr} {o : HO} (e : Hf a = some o) : H a = some o := h.hd.ex a o e
theorem Okk.obL (h : Okk K c Hf H σ fp S) {k : Nat} {ds : List PyData} {v : V} (e : S.ob[k]? = some (.lst ds)) (hv : SRl K Hf fp (some v) (.own k)) : ∃ a xs, v = .ref a ∧ fp[k]? = some [a] ∧ H a = some (.lst xs) ∧ RpA K Hf xs ds := by
  obtain ⟨a, r, h1, h2⟩ := hv
  obtain ⟨a', xs, q, h3, h4⟩ := h.hd.oo k _ _ h1 e
  have q1 : a = a' ∧ r = [] := by simpa using q
  obtain ⟨rfl, rfl⟩ := q1
  exact ⟨a, xs, h2, h1, h3, h4⟩
/-- a list alone: as data; as one's own -/
theorem Alone.dat {p : Addr} {ds : List PyData} (ok : Okk K c Hf H σ fp S) (h : Alone K c Hf H fp p ds) : ∃ Hf', Okk K c Hf' H σ fp S ∧ Gr Hf H fp Hf' H fp ∧ Rp K Hf' (.ref p) (.list ds) := by
  obtain ⟨⟨xs, h1, h2⟩, hf, nm, nc⟩ := h
  obtain ⟨hd, g⟩ := ok.hd.stop nm nc hf h1
  refine ⟨_, ⟨hd, ok.ln, fun i d e => ?_⟩, g, .lst upd_same (h2.mono g.sm)⟩
  obtain ⟨x, q1, q2⟩ := ok.sr i d e
  exact ⟨x, q1, q2.mono g.sm g.pr⟩
theorem Alone.own {p : Addr} {ds : List PyData} (ok : Okk K c Hf H σ fp S) (h : Alone K c Hf H fp p ds) :
    Okk K c Hf H σ (fp ++ [[p]]) { S with ob := S.ob ++ [.lst ds] } ∧ SRl K Hf (fp ++ [[p]]) (some (.ref p)) (.own S.ob.length) := by
  obtain ⟨⟨xs, h1, h2⟩, hf, nm, nc⟩ := h
  refine ⟨⟨ok.hd.own h1 hf nm nc h2, ok.ln, fun i d e => ?_⟩, ⟨p, [], ?_, rfl⟩⟩
  · obtain ⟨x, q1, q2⟩ := ok.sr i d e
    exact ⟨x, q1, q2.mono (Same.refl _) (List.prefix_append _ _)⟩
  · rw [← ok.hd.fl, List.getElem?_concat_length]
theorem Gr.own {p : Addr} {Hf' H' : Hp} {fp' : List (List Addr)} (g : Gr Hf H fp Hf' H' fp') (hp : H p = none) : Gr Hf H fp Hf' H' (fp' ++ [[p]]) :=
  ⟨g.sm, g.pr.trans (List.prefix_append _ _), g.fr, fun a m => by
    rw [List.flatten_append, List.mem_append] at m
    rcases m with m | m
    · exact g.nw a m
    · have e : a = p := by simpa using m
      rw [e]
      exact .inr hp, g.th⟩
theorem Okk.alone (ok : Okk K c Hf H σ fp S) {p : Addr} {xs : List V} {ds : List PyData} (hp : H p = none) (r : RpA K Hf xs ds) :
    Okk K c Hf (upd H p (.lst xs)) σ fp S ∧ Gr Hf H fp Hf (upd H p (.lst xs)) fp ∧ Alone K c Hf (upd H p (.lst xs)) fp p ds := by
  have npf : ∀ a ∈ fp.flatten, a ≠ p := fun a ha => by
    obtain ⟨x, e⟩ := ok.hd.al a ha
    exact ne_of_none e hp
  have keep : ∀ a o, H a = some o → (upd H p (.lst xs)) a = some o := fun a o e => by
    rw [upd_ne (ne_of_none e hp)]
    exact e
  refine ⟨⟨⟨fun b o e => keep b o (ok.hd.ex b o e), ok.hd.fl, fun k q o h1 h2 => (ok.hd.oo k q o h1 h2).mono (Same.refl _) fun b hb => upd_ne (npf b (mem_fl h1 hb)), ok.hd.nd, fun a ha => ?_, ok.hd.nf, fun a z => ?_, ok.hd.np⟩, ok.ln, ok.sr⟩,
    ⟨Same.refl _, List.prefix_rfl, fun a o e _ => keep a o e, fun _ m => .inl m, fun a o e => ⟨o, keep a o e⟩⟩, ⟨xs, upd_same, r⟩, ok.hd.ex.free hp, fun m => npf p m rfl, fun z => ?_⟩
  · obtain ⟨x, e⟩ := ok.hd.al a ha
    exact ⟨x, keep a x e⟩
  · obtain ⟨z1, o, z2⟩ := ok.hd.pt a z
    exact ⟨z1, o, keep a o z2⟩
  · obtain ⟨_, o, z2⟩ := ok.hd.pt p z
    rw [hp] at z2
    cases z2

theorem ee_var (h : S.sl[i]? = some x) (hx : x ≠ .un := by intro z; cases z) : Ee K (tVar i) S x S := fun c Hf H σ fp ok Q q => by
  obtain ⟨y, h1, h2⟩ := ok.sr i x h
  cases y with
  | none => cases x with
    | un => exact (hx rfl).elim
    | dat d => exact h2.elim
    | own k => exact h2.elim
    | scr ns => exact h2.elim
    | rng _ _ => exact h2.elim
    | lown _ => exact h2.elim
    | tx _ => exact h2.elim
    | tq _ _ _ => exact h2.elim
    | no => exact h2.elim
  | some v => exact ⟨v, h1, q v Hf H fp ok Gr.refl h2⟩
theorem ee_int {j : Int} : Ee K (tC (.int j)) S (.dat (.int j)) S := fun _ Hf H _ fp ok _ q => q _ Hf H fp ok Gr.refl (Rp.int j)
theorem ee_bl : Ee K (tC (.bl b)) S (.dat (.bool b)) S := fun _ Hf H _ fp ok _ q => q _ Hf H fp ok Gr.refl (Rp.bl b)
theorem ee_non : Ee K (tC .non) S (.dat .none) S := fun _ Hf H _ fp ok _ q => q _ Hf H fp ok Gr.refl Rp.non
theorem ee_str {w : Str} : Ee K (tC (.str w)) S (.dat (.str w)) S := fun _ Hf H _ fp ok _ q => q _ Hf H fp ok Gr.refl (Rp.str w)
theorem ee_op (ha : Ee K ta S x S1) (hb : Ee K tb S1 y S2) (hr : Ro K r x y S2 z S3) : Ee K (tOp r ta tb) S z S3 := fun c Hf H σ fp ok Q q =>
  ha c Hf H σ fp ok _ fun v Hf1 H1 fp1 ok1 g1 r1 => hb c Hf1 H1 σ fp1 ok1 _ fun u Hf2 H2 fp2 ok2 g2 r2 =>
    hr c Hf2 H2 σ fp2 ok2 v u (r1.mono g2.sm g2.pr) r2 Q fun w Hf3 H3 fp3 ok3 g3 r3 => q w Hf3 H3 fp3 ok3 ((g1.trans g2).trans g3) r3
theorem el_op {ds : List PyData} (ha : Ee K ta S x S1) (hb : Ee K tb S1 y S2) (hr : RoL K r x y S2 ds S3) : El K (tOp r ta tb) S ds S3 := fun c Hf H σ fp ok Q q =>
  ha c Hf H σ fp ok _ fun v Hf1 H1 fp1 ok1 g1 r1 => hb c Hf1 H1 σ fp1 ok1 _ fun u Hf2 H2 fp2 ok2 g2 r2 =>
    hr c Hf2 H2 σ fp2 ok2 v u (r1.mono g2.sm g2.pr) r2 Q fun w Hf3 H3 fp3 ok3 g3 hn r3 => q w Hf3 H3 fp3 ok3 ((g1.trans g2).trans g3) (by
      cases e : H w with
      | none => rfl
      | some o =>
        obtain ⟨o', e'⟩ := (g1.trans g2).th w o e
        rw [hn] at e'
        cases e') r3
theorem ee_un {ru : V → Hp → VK → Prop} (ha : Ee K ta S x S1) (hr : Ru K ru x S1 z S2) : Ee K (tUn ru ta) S z S2 := fun c Hf H σ fp ok Q q =>
  ha c Hf H σ fp ok _ fun v Hf1 H1 fp1 ok1 g1 r1 => hr c Hf1 H1 σ fp1 ok1 v r1 Q fun w Hf3 H3 fp3 ok3 g3 r3 => q w Hf3 H3 fp3 ok3 (g1.trans g3) r3
theorem ee_eq (h : Ee K te S x S1) (e : x = y) : Ee K te S y S1 := e ▸ h
theorem ee_cb {rc : List V → Hp → VK → Prop} {tas : TA} {rs : List SD} (ha : Ea K tas S rs S1) (hr : Rc K rc rs S1 z S2) : Ee K (tCB rc tas) S z S2 := fun c Hf H σ fp ok Q q =>
  ha c Hf H σ fp ok _ fun v Hf1 H1 fp1 ok1 g1 r1 => hr c Hf1 H1 σ fp1 ok1 v r1 Q fun w Hf3 H3 fp3 ok3 g3 r3 => q w Hf3 H3 fp3 ok3 (g1.trans g3) r3
theorem none_back {H H1 : Hp} {p : Addr} (th : ∀ a o, H a = some o → ∃ o', H1 a = some o') (hn : H1 p = none) : H p = none := by
  cases e : H p with
  | none => rfl
  | some o =>
    obtain ⟨o', e'⟩ := th p o e
    rw [hn] at e'
    cases e'
theorem el_cb {rc : List V → Hp → VK → Prop} {tas : TA} {rs : List SD} {ds : List PyData} (ha : Ea K tas S rs S1) (hr : RcL K rc rs S1 ds S2) : El K (tCB rc tas) S ds S2 := fun c Hf H σ fp ok Q q =>
  ha c Hf H σ fp ok _ fun v Hf1 H1 fp1 ok1 g1 r1 => hr c Hf1 H1 σ fp1 ok1 v r1 Q fun w Hf3 H3 fp3 ok3 g3 hn r3 => q w Hf3 H3 fp3 ok3 (g1.trans g3) (none_back g1.th hn) r3
theorem ea_nil : Ea K tNil S [] S := fun _ Hf H _ fp ok _ q => q [] Hf H fp ok Gr.refl .nil
theorem ea_cons {tas : TA} {rs : List SD} (ha : Ee K ta S x S1) (hr : Ea K tas S1 rs S2) : Ea K (tCons ta tas) S (x :: rs) S2 := fun c Hf H σ fp ok Q q =>
  ha c Hf H σ fp ok _ fun v Hf1 H1 fp1 ok1 g1 r1 => hr c Hf1 H1 σ fp1 ok1 _ fun vs Hf2 H2 fp2 ok2 g2 r2 => q (v :: vs) Hf2 H2 fp2 ok2 (g1.trans g2) (.cons (r1.mono g2.sm g2.pr) r2)
/-- items that are data -/
def Ed (K : PySem.W.Frag) (ta : TA) (S : SS) (ds : List PyData) (S' : SS) : Prop := Ea K ta S (ds.map SD.dat) S'
theorem ed_nil : Ed K tNil S [] S := ea_nil
theorem ed_cons {tas : TA} {ds : List PyData} (ha : Ee K ta S (.dat d) S1) (hr : Ed K tas S1 ds S2) : Ed K (tCons ta tas) S (d :: ds) S2 := ea_cons ha hr
theorem ee_tup {tas : TA} {ds : List PyData} (ha : Ed K tas S ds S1) (hz : ds.length ≤ 1000000 := by first | decide | (simp; done) | (simp; omega)) : Ee K (tTup tas) S (.dat (.tuple ds)) S1 := fun c Hf H σ fp ok Q q =>
  ha c Hf H σ fp ok _ fun vs Hf1 H1 fp1 ok1 g1 r1 => ⟨by
      rw [(SRA.rp r1).len]
      exact Nat.le_trans hz (by decide), fun p hp => by
      obtain ⟨ok2, g2⟩ := ok1.laid (.tup vs) hp
      exact q _ _ _ _ ok2 (g1.trans g2) (Rp.tup (.inl (.inl upd_same)) ((SRA.rp r1).mono g2.sm))⟩
theorem el_lst {tas : TA} {ds : List PyData} (ha : Ed K tas S ds S1) (hz : ds.length ≤ 1000000 := by first | decide | (simp; done) | (simp; omega)) : El K (tLst tas) S ds S1 := fun c Hf H σ fp ok Q q =>
  ha c Hf H σ fp ok _ fun vs Hf1 H1 fp1 ok1 g1 r1 => ⟨by
      rw [(SRA.rp r1).len]
      exact Nat.le_trans hz (by decide), fun p hp => by
      obtain ⟨ok2, g2, al⟩ := ok1.alone hp (SRA.rp r1)
      exact q p _ _ _ ok2 (g1.trans g2) (none_back g1.th hp) al⟩
/-- a new list as data -/
theorem ee_of_el {ds : List PyData} (h : El K te S ds S1) : Ee K te S (.dat (.list ds)) S1 := fun c Hf H σ fp ok Q q =>
  h c Hf H σ fp ok _ fun p Hf1 H1 fp1 ok1 g1 hp al => by
    obtain ⟨Hf2, ok2, g2, rp⟩ := al.dat ok1
    exact q _ _ _ _ ok2 (g1.trans g2) rp
/-- a new list as one's own -/
theorem eo_of_el {ds : List PyData} (h : El K te S ds S1) : Ee K te S (.own S1.ob.length) { S1 with ob := S1.ob ++ [.lst ds] } := fun c Hf H σ fp ok Q q =>
  h c Hf H σ fp ok _ fun p Hf1 H1 fp1 ok1 g1 hp al => by
    obtain ⟨ok2, sr⟩ := al.own ok1
    exact q _ _ _ _ ok2 (g1.own hp) sr
/-- a list of one's own turns to data: it is not changed any more -/
theorem ee_frz {k : Nat} {ds : List PyData} (h : Ee K te S (.own k) S1) (ho : S1.ob[k]? = some (.lst ds)) : Ee K te S (.dat (.list ds)) { S1 with ob := S1.ob.set k .gone } := fun c Hf H σ fp ok Q q =>
  h c Hf H σ fp ok _ fun v Hf1 H1 fp1 ok1 g1 sr => by
    obtain ⟨a, xs, rfl, h1, h2, h3⟩ := ok1.obL ho sr
    obtain ⟨hd, g2⟩ := ok1.hd.freeze h1 ho h2
    refine q _ _ _ _ ⟨hd, ok1.ln, fun i d e => ?_⟩ (g1.trans g2) (Rp.lst upd_same (h3.mono g2.sm))
    obtain ⟨x, q1, q2⟩ := ok1.sr i d e
    exact ⟨x, q1, q2.mono g2.sm g2.pr⟩

/-! ### tests -/
theorem et_test (h : Ee K te S (.dat (.bool b)) S1) : Et K (tTest te) S b S1 := fun c Hf H σ fp ok Q q => h c Hf H σ fp ok _ fun v Hf1 H1 fp1 ok1 g1 r1 => by
  cases r1
  exact ⟨b, rfl, q Hf1 H1 fp1 ok1 g1⟩
theorem et_B (h : Ee K te S (.dat (.bool b)) S1) : Et K (tB te) S b S1 := fun c Hf H σ fp ok Q q => h c Hf H σ fp ok _ fun v Hf1 H1 fp1 ok1 g1 r1 => by
  cases r1
  exact ⟨b, rfl, q Hf1 H1 fp1 ok1 g1⟩
theorem et_yes : Et K tYes S true S := fun _ Hf H _ fp ok _ q => q Hf H fp ok Gr.refl
theorem et_not (h : Et K t S b S1) : Et K (tNot t) S (!b) S1 := fun c Hf H σ fp ok Q q => h c Hf H σ fp ok _ fun Hf1 H1 fp1 ok1 g1 => q Hf1 H1 fp1 ok1 g1
theorem et_and (h1 : Et K t S a S1) (h2 : a = true → Et K u S1 b S1) : Et K (tAnd t u) S (a && b) S1 := fun c Hf H σ fp ok Q q => h1 c Hf H σ fp ok _ fun Hf1 H1 fp1 ok1 g1 => by
  cases a with
  | true =>
    show u σ H1 Q
    exact h2 rfl c Hf1 H1 σ fp1 ok1 Q fun Hf2 H2 fp2 ok2 g2 => q Hf2 H2 fp2 ok2 (g1.trans g2)
  | false =>
    show Q false H1
    exact q Hf1 H1 fp1 ok1 g1
theorem et_or (h1 : Et K t S a S1) (h2 : a = false → Et K u S1 b S1) : Et K (tOr t u) S (a || b) S1 := fun c Hf H σ fp ok Q q => h1 c Hf H σ fp ok _ fun Hf1 H1 fp1 ok1 g1 => by
  cases a with
  | true =>
    show Q true H1
    exact q Hf1 H1 fp1 ok1 g1
  | false =>
    show u σ H1 Q
    exact h2 rfl c Hf1 H1 σ fp1 ok1 Q fun Hf2 H2 fp2 ok2 g2 => q Hf2 H2 fp2 ok2 (g1.trans g2)
theorem et_eq (h : Et K t S a S1) (e : a = b) : Et K t S b S1 := e ▸ h
theorem ee_andV (h1 : Ee K ta S (.dat (.bool a)) S1) (h2 : a = true → Ee K tb S1 (.dat (.bool b)) S1) : Ee K (tAndV ta tb) S (.dat (.bool (a && b))) S1 := fun c Hf H σ fp ok Q q => h1 c Hf H σ fp ok _ fun v Hf1 H1 fp1 ok1 g1 r1 => by
  cases r1
  refine ⟨a, rfl, ?_⟩
  cases a with
  | true =>
    show tb σ H1 Q
    exact h2 rfl c Hf1 H1 σ fp1 ok1 Q fun v Hf2 H2 fp2 ok2 g2 r2 => q v Hf2 H2 fp2 ok2 (g1.trans g2) r2
  | false =>
    show Q (.bl false) H1
    exact q _ Hf1 H1 fp1 ok1 g1 (Rp.bl _)
theorem ee_orV (h1 : Ee K ta S (.dat (.bool a)) S1) (h2 : a = false → Ee K tb S1 (.dat (.bool b)) S1) : Ee K (tOrV ta tb) S (.dat (.bool (a || b))) S1 := fun c Hf H σ fp ok Q q => h1 c Hf H σ fp ok _ fun v Hf1 H1 fp1 ok1 g1 r1 => by
  cases r1
  refine ⟨a, rfl, ?_⟩
  cases a with
  | true =>
    show Q (.bl true) H1
    exact q _ Hf1 H1 fp1 ok1 g1 (Rp.bl _)
  | false =>
    show tb σ H1 Q
    exact h2 rfl c Hf1 H1 σ fp1 ok1 Q fun v Hf2 H2 fp2 ok2 g2 r2 => q v Hf2 H2 fp2 ok2 (g1.trans g2) r2
theorem ee_notV (h1 : Ee K ta S (.dat (.bool a)) S1) : Ee K (tNotV ta) S (.dat (.bool (!a))) S1 := fun c Hf H σ fp ok Q q => h1 c Hf H σ fp ok _ fun v Hf1 H1 fp1 ok1 g1 r1 => by
  cases r1
  exact ⟨a, rfl, q _ Hf1 H1 fp1 ok1 g1 (Rp.bl _)⟩
/-- a if t else b -/
theorem ee_if (h : Et K t S b S1) (h1 : b = true → Ee K ta S1 x S2) (h2 : b = false → Ee K tb S1 x S2) : Ee K (tIf t ta tb) S x S2 := fun c Hf H σ fp ok Q q => h c Hf H σ fp ok _ fun Hf1 H1 fp1 ok1 g1 => by
  cases b with
  | true =>
    show ta σ H1 Q
    exact h1 rfl c Hf1 H1 σ fp1 ok1 Q fun v Hf2 H2 fp2 ok2 g2 r2 => q v Hf2 H2 fp2 ok2 (g1.trans g2) r2
  | false =>
    show tb σ H1 Q
    exact h2 rfl c Hf1 H1 σ fp1 ok1 Q fun v Hf2 H2 fp2 ok2 g2 r2 => q v Hf2 H2 fp2 ok2 (g1.trans g2) r2

/-! ### statements -/
variable {E : DE} {tu tw : TS}
theorem ts_seq (h : Ts K tu S { E with nx := fun S' => Ts K tw S' E }) : Ts K (tSeq tu tw) S E := fun c Hf H σ fp ok D n r bk ct =>
  h c Hf H σ fp ok { D with nx := tw D } (fun S' Hf1 H1 σ1 fp1 ok1 g1 w => w c Hf1 H1 σ1 fp1 ok1 D (fun S' Hf2 H2 σ2 fp2 ok2 g2 => n S' Hf2 H2 σ2 fp2 ok2 (g1.trans g2)) (fun x S' v Hf2 H2 σ2 fp2 ok2 g2 => r x S' v Hf2 H2 σ2 fp2 ok2 (g1.trans g2))
    (fun S' Hf2 H2 σ2 fp2 ok2 g2 => bk S' Hf2 H2 σ2 fp2 ok2 (g1.trans g2)) (fun S' Hf2 H2 σ2 fp2 ok2 g2 => ct S' Hf2 H2 σ2 fp2 ok2 (g1.trans g2))) r bk ct
theorem ts_next (h : E.nx S) : Ts K tNext S E := fun c Hf H σ fp ok D n r bk ct => n S Hf H σ fp ok Gr.refl h
theorem ts_brk (h : E.bk S) : Ts K tBreak S E := fun c Hf H σ fp ok D n r bk ct => bk S Hf H σ fp ok Gr.refl h
theorem ts_cont (h : E.ct S) : Ts K tCont S E := fun c Hf H σ fp ok D n r bk ct => ct S Hf H σ fp ok Gr.refl h
theorem ts_ret (h : Ee K te S x S1) (k : E.rt x S1) : Ts K (tRet te) S E := fun c Hf H σ fp ok D n r bk ct =>
  h c Hf H σ fp ok _ fun v Hf1 H1 fp1 ok1 g1 r1 => r x S1 v Hf1 H1 σ fp1 ok1 g1 r1 k
theorem ts_retN (k : E.rt (.dat .none) S) : Ts K tRetN S E := fun c Hf H σ fp ok D n r bk ct => r (.dat .none) S _ Hf H σ fp ok Gr.refl (show Rp K Hf .non .none from Rp.non) k
theorem ts_drop (h : Ee K te S x S1) (k : E.nx S1) : Ts K (tDrop te) S E := fun c Hf H σ fp ok D n r bk ct =>
  h c Hf H σ fp ok _ fun v Hf1 H1 fp1 ok1 g1 r1 => n S1 Hf1 H1 σ fp1 ok1 g1 k
theorem ts_if (h : Et K t S b S1) (h1 : b = true → Ts K tu S1 E) (h2 : b = false → Ts K tw S1 E) : Ts K (tIfS t tu tw) S E := fun c Hf H σ fp ok D n r bk ct =>
  h c Hf H σ fp ok _ fun Hf1 H1 fp1 ok1 g1 => by
    cases b with
    | true =>
      show tu D σ H1
      exact h1 rfl c Hf1 H1 σ fp1 ok1 D (fun S' Hf2 H2 σ2 fp2 ok2 g2 => n S' Hf2 H2 σ2 fp2 ok2 (g1.trans g2)) (fun x S' v Hf2 H2 σ2 fp2 ok2 g2 => r x S' v Hf2 H2 σ2 fp2 ok2 (g1.trans g2))
        (fun S' Hf2 H2 σ2 fp2 ok2 g2 => bk S' Hf2 H2 σ2 fp2 ok2 (g1.trans g2)) (fun S' Hf2 H2 σ2 fp2 ok2 g2 => ct S' Hf2 H2 σ2 fp2 ok2 (g1.trans g2))
    | false =>
      show tw D σ H1
      exact h2 rfl c Hf1 H1 σ fp1 ok1 D (fun S' Hf2 H2 σ2 fp2 ok2 g2 => n S' Hf2 H2 σ2 fp2 ok2 (g1.trans g2)) (fun x S' v Hf2 H2 σ2 fp2 ok2 g2 => r x S' v Hf2 H2 σ2 fp2 ok2 (g1.trans g2))
        (fun S' Hf2 H2 σ2 fp2 ok2 g2 => bk S' Hf2 H2 σ2 fp2 ok2 (g1.trans g2)) (fun S' Hf2 H2 σ2 fp2 ok2 g2 => ct S' Hf2 H2 σ2 fp2 ok2 (g1.trans g2))
/-- a slot is stored -/
theorem Okk.put (ok : Okk K c Hf H σ fp S) {i : Nat} {v : V} {x : SD} (r : SRl K Hf fp (some v) x) : Okk K c Hf H (σ.set i (some v)) fp { S with sl := S.sl.set i x } := by
  refine ⟨ok.hd, by rw [List.length_set, List.length_set]; exact ok.ln, fun j d e => ?_⟩
  by_cases hj : i = j
  · subst hj
    have hl : i < S.sl.length := by
      have := (List.getElem?_eq_some_iff.mp e).1
      simpa using this
    rw [List.getElem?_set_self hl] at e
    obtain rfl := Option.some.inj e
    exact ⟨some v, List.getElem?_set_self (by rw [ok.ln]; exact hl), r⟩
  · rw [List.getElem?_set_ne hj] at e
    obtain ⟨y, h1, h2⟩ := ok.sr j d e
    exact ⟨y, by rw [List.getElem?_set_ne hj]; exact h1, h2⟩
theorem ts_asg (h : Ee K te S x S1) (k : E.nx { S1 with sl := S1.sl.set i x }) : Ts K (tAsg te (gName i)) S E := fun c Hf H σ fp ok D n r bk ct =>
  h c Hf H σ fp ok _ fun v Hf1 H1 fp1 ok1 g1 r1 => n _ Hf1 H1 _ fp1 (ok1.put r1) g1 k
theorem ts_par {j : Nat} {tas : TA} (h : Ea K tas S [x, y] S1) (k : E.nx { S1 with sl := (S1.sl.set i x).set j y }) : Ts K (tPar i j tas) S E := fun c Hf H σ fp ok D n r bk ct =>
  h c Hf H σ fp ok _ fun vs Hf1 H1 fp1 ok1 g1 r1 => by
    cases r1 with
    | cons r1 rr => cases rr with
      | cons r2 rr => cases rr with
        | nil => exact ⟨_, _, rfl, n _ Hf1 H1 _ fp1 ((ok1.put r1).put r2) g1 k⟩
theorem ts_aug {f : Int → Int → Int} {j l : Int} (hx : S.sl[i]? = some (.dat (.int j))) (h : Ee K te S (.dat (.int l)) S1) (k : E.nx { S1 with sl := S1.sl.set i (.dat (.int (f j l))) }) : Ts K (tAug i te (ipI f)) S E := fun c Hf H σ fp ok D n r bk ct => by
  obtain ⟨y, q1, q2⟩ := ok.sr i _ hx
  cases y with
  | none => exact q2.elim
  | some v =>
    cases q2
    refine ⟨_, q1, h c Hf H σ fp ok _ fun v Hf1 H1 fp1 ok1 g1 r1 => ?_⟩
    cases r1
    exact ⟨j, l, rfl, rfl, n _ Hf1 H1 _ fp1 (ok1.put (x := .dat (.int (f j l))) (show Rp K Hf1 _ _ from Rp.int _)) g1 k⟩
theorem ts_mono {E' : DE} (h : Ts K tu S E) (hn : ∀ S, E.nx S → E'.nx S) (hr : ∀ x S, E.rt x S → E'.rt x S) (hb : ∀ S, E.bk S → E'.bk S) (hc : ∀ S, E.ct S → E'.ct S) : Ts K tu S E' := fun c Hf H σ fp ok D n r bk ct =>
  h c Hf H σ fp ok D (fun S' Hf' H' σ' fp' o g e => n S' Hf' H' σ' fp' o g (hn S' e)) (fun x S' v Hf' H' σ' fp' o g q e => r x S' v Hf' H' σ' fp' o g q (hr x S' e)) (fun S' Hf' H' σ' fp' o g e => bk S' Hf' H' σ' fp' o g (hb S' e)) (fun S' Hf' H' σ' fp' o g e => ct S' Hf' H' σ' fp' o g (hc S' e))
end
end DL

set_option maxRecDepth 100000
set_option maxHeartbeats 1000000
namespace DL
open PySem PySem.Spec PyProof.Rows L2

/-! ### what is walked -/
structure Wk (K : PySem.W.Frag) (J : It) (Hf : Hp) (ds : List PyData) : Prop where
  go : ∀ (i : Nat) Hf1 H1, Same Hf Hf1 → Same Hf1 H1 → i < ds.length → J.go i H1
  st : ∀ Hf1 H1, Same Hf Hf1 → Same Hf1 H1 → J.stop ds.length H1
  yl : ∀ (i : Nat) d Hf1 H1 x H2, Same Hf Hf1 → Same Hf1 H1 → ds[i]? = some d → J.yld i H1 x H2 → (H2 = H1 ∧ Rp K Hf1 x d) ∨ ∃ p o, H1 p = none ∧ H2 = upd H1 p o ∧ Rp K (upd Hf1 p o) x d
def Ei (K : PySem.W.Frag) (wi : TI) (S : SS) (ds : List PyData) (S' : SS) : Prop := ∀ c Hf H σ fp, Okk K c Hf H σ fp S → ∀ R : It → Hp → Prop,
  (∀ J Hf' H' fp', Okk K c Hf' H' σ fp' S' → Gr Hf H fp Hf' H' fp' → Wk K J Hf' ds → R J H') → wi σ H R
/-- a target; vs: the slots that a comprehension forgets -/
def Eg (K : PySem.W.Frag) (g : TG) (d : PyData) (S S' : SS) : Prop := ∀ c Hf H σ fp, Okk K c Hf H σ fp S → ∀ x, Rp K Hf x d → ∀ Q : L2.St → Hp → Prop, (∀ σ', Okk K c Hf H σ' fp S' → Q σ' H) → g x σ H Q
def Egs (K : PySem.W.Frag) (g : TGs) (ds : List PyData) (S S' : SS) : Prop := ∀ c Hf H σ fp, Okk K c Hf H σ fp S → ∀ xs, RpA K Hf xs ds → ∀ Q : L2.St → Hp → Prop, (∀ σ', Okk K c Hf H σ' fp S' → Q σ' H) → g xs σ H Q
def wipeS (l : List SD) : List Nat → List SD
  | [] => l
  | v :: vs => (wipeS l vs).set v .un
/-- within a comprehension -/
def Egc (K : PySem.W.Frag) (vs : List Nat) (g : TG) (d : PyData) (S S' : SS) : Prop := ∀ c Hf H σ fp, Okk K c Hf H σ fp S → ∀ x, Rp K Hf x d → ∀ Q : L2.St → Hp → Prop, (∀ σ', wipe σ' vs = wipe σ vs → Okk K c Hf H σ' fp S' → Q σ' H) → g x σ H Q
def Egcs (K : PySem.W.Frag) (vs : List Nat) (g : TGs) (ds : List PyData) (S S' : SS) : Prop := ∀ c Hf H σ fp, Okk K c Hf H σ fp S → ∀ xs, RpA K Hf xs ds → ∀ Q : L2.St → Hp → Prop, (∀ σ', wipe σ' vs = wipe σ vs → Okk K c Hf H σ' fp S' → Q σ' H) → g xs σ H Q
theorem wipe_set {σ : L2.St} {x : Option V} {j : Nat} : ∀ {vs : List Nat}, j ∈ vs → wipe (σ.set j x) vs = wipe σ vs
  | [], h => by cases h
  | v :: vs, h => by
    show (wipe (σ.set j x) vs).set v none = (wipe σ vs).set v none
    by_cases hv : j ∈ vs
    · rw [wipe_set hv]
    · have e : j = v := by
        rcases List.mem_cons.mp h with e | e
        · exact e
        · exact absurd e hv
      subst e
      have key : ∀ ws : List Nat, j ∉ ws → wipe (σ.set j x) ws = (wipe σ ws).set j x := fun ws => by
        induction ws with
        | nil => intro _; rfl
        | cons w ws ih =>
          intro hn
          rw [List.mem_cons, not_or] at hn
          show (wipe (σ.set j x) ws).set w none = ((wipe σ ws).set w none).set j x
          rw [ih hn.2, List.set_comm _ _ (Ne.symm hn.1)]
      rw [key vs hv, List.set_set]
theorem wipe_wipe (σ : L2.St) : ∀ vs : List Nat, ∀ ws : List Nat, (∀ v ∈ ws, v ∈ vs) → wipe (wipe σ ws) vs = wipe σ vs
  | vs, [], _ => rfl
  | vs, w :: ws, h => by
    show wipe ((wipe σ ws).set w none) vs = wipe σ vs
    rw [wipe_set (h w (by simp)), wipe_wipe σ vs ws fun v hv => h v (List.mem_cons_of_mem _ hv)]

section
variable {K : PySem.W.Frag} {S S0 S1 S2 S3 S4 : SS} {ta tb te tc : TE} {t u : TT} {x y z : SD} {d e : PyData} {a b : Bool} {r : R2} {i : Nat} {wi : TI} {g : TG} {tbd : TS} {E : DE} {ds : List PyData} {vs : List Nat}
variable {c c' : Addr → Prop} {Hf H : Hp} {σ : L2.St} {fp : List (List Addr)}
theorem Okk.wiped (ok : Okk K c Hf H σ fp S) : ∀ vs : List Nat, Okk K c Hf H (wipe σ vs) fp { S with sl := wipeS S.sl vs }
  | [] => ok
  | v :: vs => by
    have h := Okk.wiped ok vs
    refine ⟨h.hd, ?_, fun j d e => ?_⟩
    · show ((wipe σ vs).set v none).length = ((wipeS S.sl vs).set v .un).length
      rw [List.length_set, List.length_set]
      exact h.ln
    · show ∃ x, ((wipe σ vs).set v none)[j]? = some x ∧ _
      have e' : ((wipeS S.sl vs).set v .un)[j]? = some d := e
      by_cases hj : v = j
      · subst hj
        have hl : v < (wipeS S.sl vs).length := by
          have := (List.getElem?_eq_some_iff.mp e').1
          simpa using this
        rw [List.getElem?_set_self hl] at e'
        obtain rfl := Option.some.inj e'
        exact ⟨none, List.getElem?_set_self (by rw [show (wipe σ vs).length = (wipeS S.sl vs).length from h.ln]; exact hl), trivial⟩
      · rw [List.getElem?_set_ne hj] at e'
        obtain ⟨y, h1, h2⟩ := h.sr j d e'
        exact ⟨y, by rw [List.getElem?_set_ne hj]; exact h1, h2⟩
theorem Okk.heap (ok : Okk K c Hf H σ fp S) {Hf' H' : Hp} {fp' : List (List Addr)} {σ' : L2.St} {S' : SS} (ok' : Okk K c Hf' H' σ' fp' S') (g : Gr Hf H fp Hf' H' fp') : Okk K c Hf' H' σ fp' { S with ob := S'.ob } :=
  ⟨ok'.hd, ok.ln, fun i d e => by
    obtain ⟨x, h1, h2⟩ := ok.sr i d e
    exact ⟨x, h1, h2.mono g.sm g.pr⟩⟩

theorem eg_name : Eg K (gName i) d S { S with sl := S.sl.set i (.dat d) } := fun c Hf H σ fp ok x r Q q => q _ (ok.put (x := .dat d) r)
theorem egs_nil : Egs K gNil [] S S := fun c Hf H σ fp ok xs r Q q => by
  cases r
  exact ⟨rfl, q σ ok⟩
theorem egs_cons {gs : TGs} (h : Eg K g d S S1) (hs : Egs K gs ds S1 S2) : Egs K (gCons g gs) (d :: ds) S S2 := fun c Hf H σ fp ok xs r Q q => by
  cases r with
  | cons r rr => exact ⟨_, _, rfl, h c Hf H σ fp ok _ r _ fun σ' ok' => hs c Hf H σ' fp ok' _ rr Q q⟩
theorem eg_tup {gs : TGs} {n : Nat} (h : Egs K gs ds S S1) (hn : ds.length = n := by rfl) : Eg K (gTup K n gs) (.tuple ds) S S1 := fun c Hf H σ fp ok x r Q q => by
  cases r with
  | tup h1 h2 => exact ⟨_, _, rfl, sameT ok.hd.ex h1, h2.len.trans hn, h c Hf H σ fp ok _ h2 Q q⟩
theorem egc_name (hv : i ∈ vs := by decide) : Egc K vs (gName i) d S { S with sl := S.sl.set i (.dat d) } := fun c Hf H σ fp ok x r Q q => q _ (wipe_set hv) (ok.put (x := .dat d) r)
theorem egcs_nil : Egcs K vs gNil [] S S := fun c Hf H σ fp ok xs r Q q => by
  cases r
  exact ⟨rfl, q σ rfl ok⟩
theorem egcs_cons {gs : TGs} (h : Egc K vs g d S S1) (hs : Egcs K vs gs ds S1 S2) : Egcs K vs (gCons g gs) (d :: ds) S S2 := fun c Hf H σ fp ok xs r Q q => by
  cases r with
  | cons r rr => exact ⟨_, _, rfl, h c Hf H σ fp ok _ r _ fun σ' w ok' => hs c Hf H σ' fp ok' _ rr Q fun σ2 w2 ok2 => q σ2 (w2.trans w) ok2⟩
theorem egc_tup {gs : TGs} {n : Nat} (h : Egcs K vs gs ds S S1) (hn : ds.length = n := by rfl) : Egc K vs (gTup K n gs) (.tuple ds) S S1 := fun c Hf H σ fp ok x r Q q => by
  cases r with
  | tup h1 h2 => exact ⟨_, _, rfl, sameT ok.hd.ex h1, h2.len.trans hn, h c Hf H σ fp ok _ h2 Q q⟩

theorem wk_of {J : It} {n : Nat} {G : Hp → Prop} {Y : Nat → Hp → V → Hp → Prop} (w : Walk J n G Y) (hn : ds.length = n) (hG : ∀ Hf1 H1, Same Hf Hf1 → Same Hf1 H1 → G H1)
    (hY : ∀ (i : Nat) d Hf1 H1 x H2, Same Hf Hf1 → Same Hf1 H1 → ds[i]? = some d → Y i H1 x H2 → (H2 = H1 ∧ Rp K Hf1 x d) ∨ ∃ p o, H1 p = none ∧ H2 = upd H1 p o ∧ Rp K (upd Hf1 p o) x d) : Wk K J Hf ds := by
  subst hn
  exact ⟨fun i Hf1 H1 e1 e2 hi => w.goes i H1 hi (hG Hf1 H1 e1 e2), fun Hf1 H1 e1 e2 => w.stops H1 (hG Hf1 H1 e1 e2), fun i d Hf1 H1 x H2 e1 e2 hd y => hY i d Hf1 H1 x H2 e1 e2 hd (w.yields i H1 x H2 (List.getElem?_eq_some_iff.mp hd).1 (hG Hf1 H1 e1 e2) y)⟩
theorem ei_list (h : Ee K te S (.dat (.list ds)) S1) : Ei K (iList K te) S ds S1 := fun c Hf H σ fp ok R q => h c Hf H σ fp ok _ fun v Hf1 H1 fp1 ok1 g1 r1 => by
  cases r1 with
  | lst h1 h2 =>
    refine ⟨_, rfl, ⟨_, .inl (.inl (ok1.hd.ex _ _ h1))⟩, q _ Hf1 H1 fp1 ok1 g1 (wk_of (walk_list (K := K)) h2.len.symm (fun Hf2 H2 e1 e2 => .inl (.inl (e2 _ _ (e1 _ _ h1)))) fun i d Hf2 H2 x H3 e1 e2 hd y => .inl ?_)⟩
    obtain ⟨rfl, y⟩ := y
    obtain ⟨w, k1, k2⟩ := h2.get hd
    rw [y] at k1
    obtain rfl := Option.some.inj k1
    exact ⟨rfl, k2.mono e1⟩
theorem ei_tup (h : Ee K te S (.dat (.tuple ds)) S1) : Ei K (iTup K te) S ds S1 := fun c Hf H σ fp ok R q => h c Hf H σ fp ok _ fun v Hf1 H1 fp1 ok1 g1 r1 => by
  cases r1 with
  | tup h1 h2 =>
    refine ⟨_, rfl, ⟨_, sameT ok1.hd.ex h1⟩, q _ Hf1 H1 fp1 ok1 g1 (wk_of (walk_tup (K := K)) h2.len.symm (fun Hf2 H2 e1 e2 => sameT e2 (sameT e1 h1)) fun i d Hf2 H2 x H3 e1 e2 hd y => .inl ?_)⟩
    obtain ⟨rfl, y⟩ := y
    obtain ⟨w, k1, k2⟩ := h2.get hd
    rw [y] at k1
    obtain rfl := Option.some.inj k1
    exact ⟨rfl, k2.mono e1⟩
/-- lo, lo + 1, .. -/
def rngD (lo : Int) (n : Nat) : List PyData := (List.range n).map fun (i : Nat) => .int (lo + (i : Int))
theorem rngD_len {lo : Int} {n : Nat} : (rngD lo n).length = n := by
  unfold rngD
  rw [List.length_map, List.length_range]
theorem rngD_get {lo : Int} {n : Nat} {d : PyData} (h : (rngD lo n)[i]? = some d) : i < n ∧ d = .int (lo + (i : Int)) := by
  unfold rngD at h
  rw [List.getElem?_map] at h
  by_cases hi : i < n
  · rw [List.getElem?_range hi] at h
    exact ⟨hi, (Option.some.inj h).symm⟩
  · rw [List.getElem?_eq_none (by rw [List.length_range]; omega)] at h
    cases h
theorem wk_range {lo : Int} {n : Nat} : Wk K (Itr lo n) Hf (rngD lo n) := wk_of walk_range rngD_len (fun _ _ _ _ => trivial) fun i d Hf1 H1 x H2 e1 e2 hd y => .inl (by
  obtain ⟨rfl, rfl⟩ := y
  obtain ⟨_, rfl⟩ := rngD_get hd
  exact ⟨rfl, .int _⟩)
theorem ei_rng1 {tas : TA} {n : Int} (h : Ed K tas S [.int n] S1) (hn : -1000000 ≤ n ∧ n ≤ 1000000) : Ei K (iRng1 tas) S (rngD 0 n.toNat) S1 := fun c Hf H σ fp ok R q => h c Hf H σ fp ok _ fun v Hf1 H1 fp1 ok1 g1 r1 => by
  cases r1 with
  | cons r1 rr =>
    cases rr
    cases r1
    exact ⟨n, rfl, by omega, by omega, q _ Hf1 H1 fp1 ok1 g1 wk_range⟩
theorem ei_rng2 {tas : TA} {lo n : Int} (h : Ed K tas S [.int lo, .int n] S1) (hn : -1000000 ≤ lo ∧ lo ≤ 1000000 ∧ -1000000 ≤ n ∧ n ≤ 1000000) : Ei K (iRng2 tas) S (rngD lo (n - lo).toNat) S1 := fun c Hf H σ fp ok R q => h c Hf H σ fp ok _ fun v Hf1 H1 fp1 ok1 g1 r1 => by
  cases r1 with
  | cons r1 rr => cases rr with
    | cons r2 rr =>
      cases rr
      cases r1
      cases r2
      exact ⟨lo, n, rfl, ⟨by omega, by omega, by omega, by omega⟩, q _ Hf1 H1 fp1 ok1 g1 wk_range⟩
/-- pairs of a number and an item -/
def enumD (ds : List PyData) : List PyData := (List.range ds.length).map fun (i : Nat) => .tuple [.int (i : Int), ds.getD i .none]
theorem enumD_len : (enumD ds).length = ds.length := by
  unfold enumD
  rw [List.length_map, List.length_range]
theorem enumD_get {d : PyData} (h : (enumD ds)[i]? = some d) : ∃ e, ds[i]? = some e ∧ d = .tuple [.int (i : Int), e] := by
  unfold enumD at h
  rw [List.getElem?_map] at h
  by_cases hi : i < ds.length
  · rw [List.getElem?_range hi] at h
    refine ⟨ds[i], List.getElem?_eq_getElem hi, ?_⟩
    rw [← Option.some.inj h]
    show PyData.tuple [PyData.int (i : Int), ds.getD i PyData.none] = _
    rw [List.getD_eq_getElem?_getD, List.getElem?_eq_getElem hi]
    rfl
  · rw [List.getElem?_eq_none (by rw [List.length_range]; omega)] at h
    cases h
theorem ei_enum {tas : TA} (h : Ed K tas S [.list ds] S1) : Ei K (iEnum K tas) S (enumD ds) S1 := fun c Hf H σ fp ok R q => h c Hf H σ fp ok _ fun v Hf1 H1 fp1 ok1 g1 r1 => by
  cases r1 with
  | cons r1 rr =>
    cases rr
    cases r1 with
    | lst h1 h2 =>
      refine ⟨_, _, rfl, .inl (.inl (ok1.hd.ex _ _ h1)), q _ Hf1 H1 fp1 ok1 g1 (wk_of (walk_enum (K := K)) (enumD_len.trans h2.len.symm) (fun Hf2 H2 e1 e2 => .inl (.inl (e2 _ _ (e1 _ _ h1)))) fun i d Hf2 H2 x H3 e1 e2 hd y => .inr ?_)⟩
      obtain ⟨T, v1, v2, rfl, hT, rfl, y1, y2⟩ := y
      obtain ⟨e, k1, rfl⟩ := enumD_get hd
      obtain ⟨w, k2, k3⟩ := h2.get k1
      have y3 : some v2 = some w := y2.symm.trans k2
      obtain rfl := Option.some.inj y3
      obtain rfl := Option.some.inj y1
      refine ⟨T, _, hT, rfl, .tup (.inl (.inl upd_same)) (.cons (.int _) (.cons (k3.mono (e1.trans ?_)) .nil))⟩
      intro b o eb
      rw [upd_ne (ne_of_none eb (e2.free hT))]
      exact eb

/-! ### loops -/
theorem ts_for (h : Ei K wi S ds S0) (Pv : Nat → SS → Prop) (h0 : Pv 0 S0) (hs : ∀ i d S', ds[i]? = some d → Pv i S' → ∃ S'', Eg K g d S' S'' ∧ Ts K tbd S'' { nx := Pv (i + 1), rt := E.rt, bk := E.nx, ct := Pv (i + 1) }) (hd : ∀ S', Pv ds.length S' → E.nx S') : Ts K (tFor wi g tbd) S E := fun c Hf H σ fp ok D n r bk ct =>
  h c Hf H σ fp ok _ fun J Hf1 H1 fp1 ok1 g1 w => by
    refine ⟨fun i m σ' H' => m = ds.length - i ∧ i ≤ ds.length ∧ ∃ S' Hf' fp', Okk K c Hf' H' σ' fp' S' ∧ Gr Hf H fp Hf' H' fp' ∧ Same Hf1 Hf' ∧ Pv i S', ⟨ds.length, by simp, Nat.zero_le _, S0, Hf1, fp1, ok1, g1, Same.refl _, h0⟩, ?_⟩
    rintro i m σ' H' ⟨rfl, hi, S', Hf', fp', ok', g', s', p⟩
    by_cases hlt : i < ds.length
    · refine .inr ⟨w.go i Hf' H' s' ok'.hd.ex hlt, fun σ2 H2 => ∃ S' Hf' fp', Okk K c Hf' H2 σ2 fp' S' ∧ Gr Hf H fp Hf' H2 fp' ∧ Same Hf1 Hf' ∧ Pv (i + 1) S', fun σ2 H2 ⟨S2, Hf2, fp2, a1, a2, a3, a4⟩ => ⟨ds.length - (i + 1), by omega, rfl, hlt, S2, Hf2, fp2, a1, a2, a3, a4⟩, fun x H2 y => ?_⟩
      obtain ⟨S2, hg, hb⟩ := hs i ds[i] S' (List.getElem?_eq_getElem hlt) p
      have fin : ∀ Hf2, Okk K c Hf2 H2 σ' fp' S' → Gr Hf' H' fp' Hf2 H2 fp' → Rp K Hf2 x ds[i] → g x σ' H2 fun σ2 H2 => tbd { D with nx := fun σ2 H2 => ∃ S' Hf' fp', Okk K c Hf' H2 σ2 fp' S' ∧ Gr Hf H fp Hf' H2 fp' ∧ Same Hf1 Hf' ∧ Pv (i + 1) S', ct := fun σ2 H2 => ∃ S' Hf' fp', Okk K c Hf' H2 σ2 fp' S' ∧ Gr Hf H fp Hf' H2 fp' ∧ Same Hf1 Hf' ∧ Pv (i + 1) S', bk := D.nx } σ2 H2 := fun Hf2 ok2 g2 rp =>
        hg c Hf2 H2 σ' fp' ok2 x rp _ fun σ3 ok3 => hb c Hf2 H2 σ3 fp' ok3 _ (fun S4 Hf4 H4 σ4 fp4 ok4 g4 p4 => ⟨S4, Hf4, fp4, ok4, (g'.trans g2).trans g4, (s'.trans g2.sm).trans g4.sm, p4⟩)
          (fun x S4 v Hf4 H4 σ4 fp4 ok4 g4 sr p4 => r x S4 v Hf4 H4 σ4 fp4 ok4 ((g'.trans g2).trans g4) sr p4) (fun S4 Hf4 H4 σ4 fp4 ok4 g4 p4 => n S4 Hf4 H4 σ4 fp4 ok4 ((g'.trans g2).trans g4) p4)
          (fun S4 Hf4 H4 σ4 fp4 ok4 g4 p4 => ⟨S4, Hf4, fp4, ok4, (g'.trans g2).trans g4, (s'.trans g2.sm).trans g4.sm, p4⟩)
      rcases w.yl i ds[i] Hf' H' x H2 s' ok'.hd.ex (List.getElem?_eq_getElem hlt) y with ⟨rfl, rp⟩ | ⟨p, o, hp, rfl, rp⟩
      · exact fin Hf' ok' Gr.refl rp
      · obtain ⟨ok2, g2⟩ := ok'.laid o hp
        exact fin _ ok2 g2 rp
    · have e : i = ds.length := by omega
      subst e
      exact .inl ⟨w.st Hf' H' s' ok'.hd.ex, n S' Hf' H' σ' fp' ok' g' (hd S' p)⟩

/-! ### comprehensions -/
theorem el_lc {out : List PyData} {obo : List OO} (h : Ei K wi S ds S0) (Pv : Nat → List PyData → List OO → Prop) (h0 : Pv 0 [] S0.ob)
    (hs : ∀ i d acc ob, ds[i]? = some d → Pv i acc ob → ∃ Sg b S2, Egc K vs g d { S0 with ob := ob, sl := wipeS S0.sl vs } Sg ∧ Et K t Sg b S2 ∧ (b = false → Pv (i + 1) acc S2.ob) ∧ (b = true → ∃ y S3, Ee K te S2 (.dat y) S3 ∧ Pv (i + 1) (acc ++ [y]) S3.ob))
    (hl : ds.length ≤ 1000000) (hd : ∀ acc ob, Pv ds.length acc ob → acc = out ∧ ob = obo) : El K (tLc wi g t te vs) S out { S0 with ob := obo } := fun c Hf H σ fp ok Q q =>
  h c Hf H σ fp ok _ fun J Hf1 H1 fp1 ok1 g1 w Dl hD => by
    -- the new list at Dl stands apart
    refine ⟨fun i m H' => m = ds.length - i ∧ i ≤ ds.length ∧ ∃ acc ob Hf' fp' xs, Okk K (fun a => c a ∨ a = Dl) Hf' H' σ fp' { S0 with ob := ob } ∧ Gr Hf H fp Hf' H' fp' ∧ Same Hf1 Hf' ∧ H' Dl = some (.lst xs) ∧ RpA K Hf' xs acc ∧ Dl ∉ fp'.flatten ∧ acc.length ≤ i ∧ Pv i acc ob, ⟨ds.length, by simp, Nat.zero_le _, [], S0.ob, Hf1, fp1, [], ?_⟩, ?_⟩
    · obtain ⟨ok2, g2, al⟩ := ok1.alone (xs := []) (ds := []) hD .nil
      refine ⟨⟨⟨ok2.hd.ex, ok2.hd.fl, ok2.hd.oo, ok2.hd.nd, ok2.hd.al, ok2.hd.nf, fun a z => ?_, fun k p ds' e1 e2 a ha z => ?_⟩, ok2.ln, ok2.sr⟩, g1.trans g2, Same.refl _, upd_same, .nil, al.nm, Nat.le_refl _, h0⟩
      · rcases z with z | rfl
        · exact ok2.hd.pt a z
        · exact ⟨al.hf, _, upd_same⟩
      · rcases z with z | rfl
        · exact ok2.hd.np k p ds' e1 e2 a ha z
        · exact al.nm (mem_fl e1 ha)
    · rintro i m H' ⟨rfl, hi, acc, ob, Hf', fp', xs, ok', g', s', hx, hr, nm, hacc, p⟩
      by_cases hlt : i < ds.length
      · refine .inr ⟨w.go i Hf' H' s' ok'.hd.ex hlt, fun H2 => i + 1 ≤ ds.length ∧ ∃ acc ob Hf' fp' xs, Okk K (fun a => c a ∨ a = Dl) Hf' H2 σ fp' { S0 with ob := ob } ∧ Gr Hf H fp Hf' H2 fp' ∧ Same Hf1 Hf' ∧ H2 Dl = some (.lst xs) ∧ RpA K Hf' xs acc ∧ Dl ∉ fp'.flatten ∧ acc.length ≤ i + 1 ∧ Pv (i + 1) acc ob, fun H2 ⟨a1, a2⟩ => ⟨ds.length - (i + 1), by omega, rfl, a1, a2⟩, fun x H2 y => ?_⟩
        obtain ⟨Sg, b, S2, hg, ht, hf, hy⟩ := hs i ds[i] acc ob (List.getElem?_eq_getElem hlt) p
        have fin : ∀ Hf2, Okk K (fun a => c a ∨ a = Dl) Hf2 H2 σ fp' { S0 with ob := ob } → Gr Hf' H' fp' Hf2 H2 fp' → Rp K Hf2 x ds[i] → g x (wipe σ vs) H2 fun σ2 H2 => wipe σ2 vs = wipe σ vs ∧ t σ2 H2 fun b H3 =>
            if b = true then te σ2 H3 fun y H4 => ∃ acc, H4 Dl = some (.lst acc) ∧ acc.length < sizeLine ∧ (i + 1 ≤ ds.length ∧ ∃ acc' ob Hf' fp' xs, Okk K (fun a => c a ∨ a = Dl) Hf' (upd H4 Dl (.lst (acc ++ [y]))) σ fp' { S0 with ob := ob } ∧ Gr Hf H fp Hf' (upd H4 Dl (.lst (acc ++ [y]))) fp' ∧ Same Hf1 Hf' ∧ (upd H4 Dl (.lst (acc ++ [y]))) Dl = some (.lst xs) ∧ RpA K Hf' xs acc' ∧ Dl ∉ fp'.flatten ∧ acc'.length ≤ i + 1 ∧ Pv (i + 1) acc' ob)
            else (i + 1 ≤ ds.length ∧ ∃ acc ob Hf' fp' xs, Okk K (fun a => c a ∨ a = Dl) Hf' H3 σ fp' { S0 with ob := ob } ∧ Gr Hf H fp Hf' H3 fp' ∧ Same Hf1 Hf' ∧ H3 Dl = some (.lst xs) ∧ RpA K Hf' xs acc ∧ Dl ∉ fp'.flatten ∧ acc.length ≤ i + 1 ∧ Pv (i + 1) acc ob) := fun Hf2 ok2 g2 rp => by
          refine hg _ Hf2 H2 _ fp' (ok2.wiped vs) x rp _ fun σ3 w3 ok3 => ⟨?_, ?_⟩
          · rw [w3, wipe_wipe σ vs vs fun _ h => h]
          refine ht _ Hf2 H2 σ3 fp' ok3 _ fun Hf4 H4 fp4 ok4 g4 => ?_
          have hx2 : H2 Dl = some (.lst xs) := g2.fr _ _ hx nm
          have hx4 : H4 Dl = some (.lst xs) := g4.fr _ _ hx2 nm
          have nm4 : Dl ∉ fp4.flatten := fun m => (g4.nw Dl m).elim nm fun z => by
            rw [hx2] at z
            cases z
          cases b with
          | false =>
            refine iteF ⟨hlt, acc, S2.ob, Hf4, fp4, xs, ok2.heap ok4 g4, (g'.trans g2).trans g4, (s'.trans g2.sm).trans g4.sm, hx4, hr.mono (g2.sm.trans g4.sm), nm4, by omega, hf rfl⟩
          | true =>
            refine iteT ?_
            obtain ⟨yd, S3, he, p3⟩ := hy rfl
            refine he _ Hf4 H4 σ3 fp4 ok4 _ fun v Hf5 H5 fp5 ok5 g5 r5 => ?_
            have hx5 : H5 Dl = some (.lst xs) := g5.fr _ _ hx4 nm4
            have nm5 : Dl ∉ fp5.flatten := fun m => (g5.nw Dl m).elim nm4 fun z => by
              rw [hx4] at z
              cases z
            have hxl : xs.length = acc.length := hr.len
            refine ⟨xs, hx5, Nat.lt_of_le_of_lt (show xs.length ≤ 1000000 by omega) (by decide), hlt, acc ++ [yd], S3.ob, Hf5, fp5, xs ++ [v], ?_, ?_, ((s'.trans g2.sm).trans g4.sm).trans g5.sm, upd_same, (hr.mono ((g2.sm.trans g4.sm).trans g5.sm)).append (.cons r5 .nil), nm5, by rw [List.length_append, List.length_singleton]; omega, p3⟩
            · have okA := ok2.heap ok5 (g4.trans g5)
              have hfD : Hf5 Dl = none := (ok5.hd.pt Dl (.inr rfl)).1
              refine ⟨⟨fun b o e => ?_, okA.hd.fl, fun k q o e1 e2 => (okA.hd.oo k q o e1 e2).mono (Same.refl _) fun b hb => upd_ne fun z => nm5 (mem_fl e1 (by rw [← z]; exact hb)), okA.hd.nd, fun a ha => ?_, okA.hd.nf, fun a z => ?_, okA.hd.np⟩, okA.ln, okA.sr⟩
              · rw [upd_ne (ne_of_none e hfD)]
                exact okA.hd.ex b o e
              · obtain ⟨o, e⟩ := okA.hd.al a ha
                exact ⟨o, by rw [upd_ne (show a ≠ Dl from fun z => nm5 (by rw [← z]; exact ha))]; exact e⟩
              · obtain ⟨z1, o, z2⟩ := okA.hd.pt a z
                refine ⟨z1, ?_⟩
                by_cases hb : a = Dl
                · rw [hb]
                  exact ⟨_, upd_same⟩
                · exact ⟨o, by rw [upd_ne hb]; exact z2⟩
            · have G := ((g'.trans g2).trans g4).trans g5
              have hHD : H Dl = none := none_back g1.th hD
              refine ⟨G.sm, G.pr, fun a o e n => ?_, G.nw, fun a o e => ?_⟩
              · rw [upd_ne (ne_of_none e hHD)]
                exact G.fr a o e n
              · rw [upd_ne (ne_of_none e hHD)]
                exact G.th a o e
        rcases w.yl i ds[i] Hf' H' x H2 s' ok'.hd.ex (List.getElem?_eq_getElem hlt) y with ⟨rfl, rp⟩ | ⟨pp, o, hp, rfl, rp⟩
        · exact fin Hf' ok' Gr.refl rp
        · obtain ⟨ok2, g2⟩ := ok'.laid o hp
          exact fin _ ok2 g2 rp
      · have e : i = ds.length := by omega
        subst e
        obtain ⟨rfl, rfl⟩ := hd acc ob p
        refine .inl ⟨w.st Hf' H' s' ok'.hd.ex, ?_⟩
        have hfD := (ok'.hd.pt Dl (.inr rfl)).1
        refine q Dl Hf' H' fp' (ok'.weak fun a z => .inl z) g' (none_back g1.th hD) ⟨⟨xs, hx, hr⟩, hfD, nm, fun z => ?_⟩
        obtain ⟨_, o, z2⟩ := ok.hd.pt Dl z
        rw [none_back g1.th hD] at z2
        cases z2
end
end DL

set_option maxRecDepth 100000
set_option maxHeartbeats 1000000
/-! DLlow: rules that the hand layer has for lists, here for tuples: t > u, enumerate(t), t[::-1] -/
namespace DL
open PySem PySem.Spec PyProof.Rows L2

/-! ### t > u, whole numbers -/
def rGtT (K : PySem.W.Frag) : R2 := fun x y H Q => ∃ (a b : Addr) (ns ms : List Int), x = .ref a ∧ y = .ref b ∧ SqT K H a (ns.map V.int) ∧ SqT K H b (ms.map V.int) ∧
  Q (.bl (Ob.lexAt (fun j => decide (ns.getD j 0 = ms.getD j 0)) (fun j => decide (ms.getD j 0 < ns.getD j 0)) (decide (ns.length > ms.length)) 0 (min ns.length ms.length))) H
theorem op_gtT {X : Cx} (hu : X.A.units < cLine) : OpR X (compareOp .Gt) (rGtT X.K) := by
  intro pins s σ H x y v u Q I rx ry h
  obtain ⟨a, b, ns, ms, rfl, rfl, ha, hb, q⟩ := h
  cases rx
  cases ry
  obtain ⟨us, k1, w1, _⟩ := I.tuple ha
  obtain ⟨ws, k2, w2, _⟩ := I.tuple hb
  have q1 : IntsAre us ns := Vals.ints k1
  have q2 : IntsAre ws ms := Vals.ints k2
  have z1 : us.toArray.size = ns.length := by rw [List.size_toArray]; exact q1.length
  have z2 : ws.toArray.size = ms.length := by rw [List.size_toArray]; exact q2.length
  have f1 : ∀ j (hj : j < us.toArray.size), ∃ t, us.toArray[j] = .int (ns.getD j 0) t := fun j hj => PyProof.Rows.IntsAre.int_at q1 _ _ (by simp at hj; simp [hj])
  have f2 : ∀ j (hj : j < ws.toArray.size), ∃ t, ws.toArray[j] = .int (ms.getD j 0) t := fun j hj => PyProof.Rows.IntsAre.int_at q2 _ _ (by simp at hj; simp [hj])
  have G := Ob.RcOp.tuples_gt (A := X.A) (s := s) (e := fun j => decide (ns.getD j 0 = ms.getD j 0)) (r := fun j => decide (ms.getD j 0 < ns.getD j 0)) w1 w2 hu (fun j h1 h2 => by
    obtain ⟨t, g1⟩ := f1 j h1
    obtain ⟨t', g2⟩ := f2 j h2
    have z : decide (ns.getD j 0 = ms.getD j 0) = (ns.getD j 0 == ms.getD j 0) := by
      by_cases q : ns.getD j 0 = ms.getD j 0
      · rw [decide_eq_true q, beq_iff_eq.mpr q]
      · rw [decide_eq_false q, beq_eq_false_iff_ne.mpr q]
    rw [g1, g2, z]
    exact SeqAt.EqAt.int_int _ _ _ _) (fun j h1 h2 _ => by
    obtain ⟨t, g1⟩ := f1 j h1
    obtain ⟨t', g2⟩ := f2 j h2
    rw [g1, g2]
    exact Ob.RcOp.gt_int _ _ _ _)
  rw [z1, z2] at G
  exact G X.prog X.w X.xe (EP X pins σ Q) ⟨.bl _, H, I, rfl, q⟩

/-! ### enumerate(t) -/
theorem enum_newT (l : Addr) (items : Array Value) (n : Nat) (dct : Option Addr) (sl : Array (Option Value)) :
    Meets (Builtin.«enumerate.__new__» ⟨[.type "enumerate", .ref l], []⟩) (fun _ R s => s.heap.get? l = some { cls := .type "tuple", dict := dct, data := .seq items n, slots := sl } ∧
      R (.ok (.ret (.ref (s.heap.push { cls := .type "tuple_iterator", data := .fields #[.ref l, .int 0 0] }).objs.size)))
        { s with heap := (s.heap.push { cls := .type "tuple_iterator", data := .fields #[.ref l, .int 0 0] }).push { cls := .type "enumerate", data := .fields #[.none, .bool false, .ref s.heap.objs.size, rawInt 0, .none, .none] } }) :=
  .of_wp fun prog w A R s h => by
    obtain ⟨hp, g, d, tk, os⟩ := s
    obtain ⟨hl, h⟩ := h
    have hs := sub_enumerate
    have hT : Heap.IsTuple (Shared.heap ⟨hp, g, d, tk, os⟩) l items := ⟨_, hl, rfl, n, rfl⟩
    wp_walk using AutoSeq1.wpAny_loadPart' hT
    refine wpAny_stack_any fun st => wpAny_pure ?_
    split
    · rename_i c _ _ _ _ _
      cases (c == Value.type "enumerate")
      · wp_walk using AutoSeq1.wpAny_loadPart' hT, wpAny_pyIter_tuple hT
        exact ⟨_, rfl, h⟩
      · wp_walk using AutoSeq1.wpAny_loadPart' hT, wpAny_pyIter_tuple hT
        exact ⟨_, rfl, h⟩
    · wp_walk using AutoSeq1.wpAny_loadPart' hT, wpAny_pyIter_tuple hT
      exact ⟨_, rfl, h⟩
section
variable {prog : Program} {w : World} {A : Around} {E : Value → Shared → Prop} {s : Shared}
theorem call_enumT {l : Addr} {items : Array Value} {Q : Value → Shared → Prop} (hT : s.heap.IsTuple l items)
    (h : ∀ h', IsEnum h' (s.heap.objs.size + 1) s.heap.objs.size 0 .none → h'.IsTupleIter s.heap.objs.size l 0 → (∀ b o, s.heap.get? b = some o → h'.get? b = some o) → Q (.ref (s.heap.objs.size + 1)) { s with heap := h' }) :
    wpAny (model prog w) A (call (.type "enumerate") [.ref l]) Q E s := by
  obtain ⟨⟨c, dct, dt, sl⟩, hl, hc, n, hd⟩ := hT
  replace hc : c = .type "tuple" := hc
  replace hd : dt = .seq items n := hd
  subst hc hd
  refine callType_new F.called_enumerate (by decide) (F.typeCall_enumerate_1 _) (F.newCall_enumerate_1 _) (fun obj => F.args_object_init_2 obj _) F.entry_enumerate_new (enum_newT l items n dct sl) ⟨hl, ?_⟩
  generalize hg : (Heap.push s.heap { cls := .type "tuple_iterator", data := .fields #[.ref l, .int 0 0] }) = g1
  have hz : g1.objs.size = s.heap.objs.size + 1 := by
    rw [← hg]
    exact Heap.size_push ..
  have k1 : g1.get? s.heap.objs.size = some { cls := .type "tuple_iterator", data := .fields #[.ref l, .int 0 0] } := by
    rw [← hg]
    exact Heap.get?_push_size _ rfl
  have k0 : ∀ b o, s.heap.get? b = some o → g1.get? b = some o := fun b o q => by
    rw [← hg]
    exact Heap.get?_push_of_some _ q
  have k2 := Heap.get?_push_size g1 (o := { cls := .type "enumerate", data := .fields #[.none, .bool false, .ref s.heap.objs.size, rawInt 0, .none, .none] }) rfl
  rw [hz] at k2
  show _ ∧ _
  rw [hz]
  exact ⟨⟨_, k2, rfl⟩, h _ k2 ⟨_, Heap.get?_push_of_some _ k1, rfl, rfl⟩ fun b o q => Heap.get?_push_of_some _ (k0 b o q)⟩
end
/-- the tuple at a, each item in a new pair -/
def IteT (K : PySem.W.Frag) (a : Addr) : It :=
  ⟨fun i H => ∃ (xs : List V) (x : V), SqT K H a xs ∧ xs[i]? = some x, fun i H v H' => ∃ T x, v = .ref T ∧ H T = none ∧ H' = upd H T (.tup [.int (i : Nat), x]) ∧ ∀ xs, SqT K H a xs → xs[i]? = some x, fun i H => ∃ xs : List V, SqT K H a xs ∧ xs.length = i⟩
theorem turn_enumT {P : Program} {w : World} {K : PySem.W.Frag} {elts : List Expr} {kk : Nat} {tpos : Pos} (a e it : Addr) :
    Turn P w K (.Tuple elts kk tpos) (IteT K a) [e, it] e (fun i h => (∃ old, IsEnum h e it ((i : Nat) : Int) old) ∧ h.IsTupleIter it a i ∧ e ≠ it) where
  mem := List.mem_cons_self
  obj := fun i h st b hb => by
    obtain ⟨⟨old, he⟩, ⟨o, ho, hc, hd⟩, _⟩ := st
    rcases List.mem_cons.mp hb with z | z
    · rw [z]
      exact ⟨_, he, fun v q => nomatch q⟩
    · rw [List.mem_singleton.mp z]
      exact ⟨o, ho, fun v q => by
        rw [hd] at q
        cases q⟩
  keep := fun i h h' st k => by
    obtain ⟨⟨old, he⟩, hi, hne⟩ := st
    exact ⟨⟨old, k e List.mem_cons_self _ he⟩, hi.at fun o q => k it (List.mem_cons_of_mem _ List.mem_cons_self) o q, hne⟩
  item := by
    intro X hP hw hK hc i pins s σ H E I hf st hg
    subst hP hw hK
    obtain ⟨⟨old, he⟩, hit, hne⟩ := st
    obtain ⟨xs, x, hq, hx⟩ := hg
    obtain ⟨us, rv, p, hz⟩ := I.tuple hq
    have hT : s.heap.IsTuple a us.toArray := p
    obtain ⟨u, hu, ru⟩ := rv.get hx
    have hel : e < s.heap.objs.size := Heap.lt_size he
    have hil : it < s.heap.objs.size := by
      obtain ⟨_, q, _⟩ := hit
      exact Heap.lt_size q
    have hai : a ≠ it := fun z => by
      obtain ⟨o, h1, h2, _⟩ := hit
      obtain ⟨o', h1', h2', _⟩ := hT
      rw [z, h1] at h1'
      rw [← Option.some.inj h1', h2] at h2'
      simp at h2'
    have hea : e ≠ a := fun z => by
      obtain ⟨o', h1', h2', _⟩ := hT
      rw [← z, he] at h1'
      rw [← Option.some.inj h1'] at h2'
      simp at h2'
    have hh : X.A.in1.handled = none := I.ok.hd hc
    refine wpAny_pyNext_enum_itemD (Draws.tuple (prog := X.prog) (w := X.w) hh it a hai us.toArray) he ⟨hit, hT⟩ (by have := (List.getElem?_eq_some_iff.mp hu).1; simpa using this) hne (by simp [hne, hea]) fun y h' tk hy hout st' ht hsz hk => ?_
    have ey : y = u := by
      have : us.toArray[i]? = some u := by simpa using hu
      rw [this] at hy
      exact (Option.some.inj hy).symm
    subst ey
    refine ⟨_, rfl, wpAny_letOwnedTupleGo_enum (s := { s with heap := h', toks := tk + 1 }) hout fun g he' sb => ?_⟩
    have ht2 : g.get? s.heap.objs.size = some { cls := .type "tuple", data := .seq #[.int i tk, y] } := (sb.2 _ (Nat.ne_of_gt hel)).trans ht
    have new : ObjOk X.prog X.w (upd H s.heap.objs.size (.tup [.int (i : Nat), x])) g s.heap.objs.size (.tup [.int (i : Nat), x]) :=
      ⟨(by decide : 2 ≤ sizeLine), [.int i tk, y], .cons ⟨_, rfl⟩ (.cons ru .nil), ⟨_, ht2, rfl, _, rfl⟩⟩
    have J : Inv X pins σ (upd H s.heap.objs.size (.tup [.int (i : Nat), x])) { s with heap := g, toks := tk + 1 } :=
      I.turnedNew (ch := [e, it]) (fun b ob hb q => (sb.2 b (fun z => hb (by simp [z]))).trans (hk b ob (fun z => hb (by simp [z])) (fun z => hb (by simp [z])) q)) hf (Nat.le_refl _) new
    refine ⟨.ref s.heap.objs.size, _, J, rfl, ⟨_, x, rfl, I.hok.fresh (Nat.le_refl _), rfl, fun ys hy => ?_⟩, ⟨⟨y, ?_⟩, st'.1.at fun o q => (sb.2 it (Ne.symm hne)).trans q, hne⟩, fun b hb => ?_⟩
    · rw [I.tuple_inj hy hq]
      exact hx
    · rw [show ((i + 1 : Nat) : Int) = (i : Int) + 1 from by omega]
      exact he'
    · have hb' : b < s.heap.objs.size := by
        rcases List.mem_cons.mp hb with z | z
        · rw [z]
          exact hel
        · rw [List.mem_singleton.mp z]
          exact hil
      rw [upd_ne (Nat.ne_of_lt hb')]
      exact (hf b hb).1
  done := by
    intro X hP hw hK hc i pins s σ H E I hf st hg
    subst hP hw hK
    obtain ⟨⟨old, he⟩, hit, hne⟩ := st
    obtain ⟨xs, hq, hx⟩ := hg
    obtain ⟨us, rv, p, hz⟩ := I.tuple hq
    have hT : s.heap.IsTuple a us.toArray := p
    have hl := rv.length
    have hai : a ≠ it := fun z => by
      obtain ⟨o, h1, h2, _⟩ := hit
      obtain ⟨o', h1', h2', _⟩ := hT
      rw [z, h1] at h1'
      rw [← Option.some.inj h1', h2] at h2'
      simp at h2'
    have hh : X.A.in1.handled = none := I.ok.hd hc
    have hsz : us.toArray.size = i := by
      rw [List.size_toArray, ← hl]
      exact hx
    refine wpAny_pyNext_enum_endD (Draws.tuple (prog := X.prog) (w := X.w) hh it a hai us.toArray) he (by rw [hsz]; exact ⟨hit, hT⟩) fun h' eb => ⟨rfl, ?_⟩
    obtain ⟨f0, f1, f2, f3, f4, f5⟩ := hf it (List.mem_cons_of_mem _ List.mem_cons_self)
    exact I.turned (t' := s.toks) (fun b o hb q => eb b o hb q) f0 f1 f3 f4 f5
  self := fun A i s Q E st h => by
    obtain ⟨⟨_, he⟩, _⟩ := st
    exact wpAny_pyIter_enum he h
def iEnumT (K : PySem.W.Frag) (ta : TA) : TI := fun σ H R => ta σ H fun vs H1 => ∃ a xs, vs = [.ref a] ∧ SqT K H1 a xs ∧ R (IteT K a) H1
theorem pi_enumT {X : Cx} {e : Expr} {ta : TA} {p pos tpos : Pos} {elts : List Expr} {kk : Nat} (hg : Gl X "enumerate") (hm : X.mg "enumerate" = none) (ha : PA X [e] ta) (hs : starEach [e] X.env = [(false, eval e X.env)] := by rfl) :
    PI X (.Tuple elts kk tpos) (.Call (.Name "enumerate" p) [e] [] pos) (iEnumT X.K ta) := by
  constructor
  intro pins s σ H R I h
  refine Call_ (ld_blt I hg hm boot_enumerate (PyProof.Rows.callWith_type1 (thn (ha.run pos pins s σ H _ I h) fun us s1 ⟨vs, H1, J, r1, q1⟩ => ?_) hs rfl))
  obtain ⟨a, xs, ex, hq, q⟩ := q1
  subst ex
  cases r1 with
  | cons r rr =>
    cases rr
    cases r
    obtain ⟨us, rv, p', hz⟩ := J.tuple hq
    refine call_enumT (show s1.heap.IsTuple a us.toArray from p') fun h' he hit hk => wpAny_pyIter_enum he ?_
    have J2 : Inv X pins σ H1 { s1 with heap := h' } := J.kept (t' := s1.toks) hk
    refine ⟨s1.heap.objs.size + 1, [s1.heap.objs.size + 1, s1.heap.objs.size], _, _, H1, rfl, J2, turn_enumT a (s1.heap.objs.size + 1) s1.heap.objs.size, ⟨⟨.none, he⟩, hit, Nat.succ_ne_self _⟩, fun b hb => ?_, q⟩
    have hle : s1.heap.objs.size ≤ b := by
      rcases List.mem_cons.mp hb with z | z
      · rw [z]
        exact Nat.le_add_right _ _
      · rw [List.mem_singleton.mp z]
        exact Nat.le_refl _
    exact J.fpOk hle (J.hok.fresh hle)
theorem walk_enumT {K : PySem.W.Frag} {a : Addr} {xs : List V} : Walk (IteT K a) xs.length (fun H => SqT K H a xs) (YPair (fun i => some (.int (i : Nat))) (fun i => xs[i]?)) := by
  refine ⟨fun i _ hi q => ⟨xs, xs[i], q, by simp [hi]⟩, fun _ q => ⟨xs, q, rfl⟩, fun i H v H' _ q y => ?_⟩
  obtain ⟨T, x, h1, h2, h3, h4⟩ := y
  exact ⟨T, .int (i : Nat), x, h1, h2, h3, rfl, h4 xs q⟩

/-! ### t[::-1] -/
def tRevT (K : PySem.W.Frag) (te : TE) : TE := fun σ H Q => te σ H fun x H1 => ∃ a xs, x = .ref a ∧ SqT K H1 a xs ∧ ∀ p, H1 p = none → Q (.ref p) (upd H1 p (.tup xs.reverse))
section
variable {prog : Program} {w : World} {A : Around} {E : Value → Shared → Prop} {s : Shared}
theorem applied_back {sl : Addr} {n : Nat} {u : Tok} {Q : Int × Int × Nat → Shared → Prop} (hs : s.heap.IsSliceOf sl .none .none (.int (-1) u)) (h : Q ((n : Int) - 1, -1, n) s) : wpAny (model prog w) A (Builtin.Slice.sliceApplied (.ref sl) (pure (n : Int))) Q E s := by
  obtain ⟨os, ho, hc, hd⟩ := id hs
  unfold Builtin.Slice.sliceApplied Builtin.Slice.sliceFields
  refine wpAny_bind (wpAny_bind (wpAny_field ho hd (x := .none) rfl (wpAny_bind (wpAny_field ho hd (x := .none) rfl (wpAny_bind (wpAny_field ho hd (x := .int (-1) u) rfl (wpAny_pure ?_)))))))
  refine wpAny_bind (HT.slicePart_ (.int (-1) u) ?_)
  show wpAny _ _ (if ((-1 : Int) == 0) = true then _ else _) _ _ s
  rw [if_neg (by decide)]
  refine wpAny_bind (HT.slicePart_ .none (wpAny_bind (HT.slicePart_ .none (wpAny_bind (wpAny_pure ?_)))))
  have e1 : Builtin.Slice.sliceAdjust none none (-1) (n : Int) = ((n : Int) - 1, -1) := rfl
  have e2 : Builtin.Slice.slicePlaces ((n : Int) - 1) (-1) (-1) = n := by
    unfold Builtin.Slice.slicePlaces
    have h1 : ¬ ((-1 : Int) > 0) := by decide
    simp only [h1, if_false]
    split
    · rw [show (-(-1) : Int) = 1 from by decide, Int.ediv_one]
      omega
    · omega
  show wpAny _ _ (match Builtin.Slice.sliceAdjust none none (-1) (n : Int) with | (lo, hi) => pure (lo, (-1 : Int), Builtin.Slice.slicePlaces lo hi (-1))) _ _ s
  rw [e1]
  show wpAny _ _ (pure ((n : Int) - 1, (-1 : Int), Builtin.Slice.slicePlaces ((n : Int) - 1) (-1) (-1))) _ _ s
  rw [e2]
  exact wpAny_pure h
theorem fm_congr {α β : Type} {f g : α → Option β} : ∀ {l : List α}, (∀ x ∈ l, f x = g x) → l.filterMap f = l.filterMap g
  | [], _ => rfl
  | x :: l, h => by
    rw [List.filterMap_cons, List.filterMap_cons, h x List.mem_cons_self, fm_congr fun y hy => h y (List.mem_cons_of_mem _ hy)]
theorem pick_back (xs : Array Value) : ((List.range xs.size).filterMap fun (m : Nat) => xs[(((xs.size : Int) - 1) + (m : Int) * (-1)).toNat]?).toArray = xs.toList.reverse.toArray := by
  rw [← PySem.W.krv_pick]
  unfold slicePick
  rw [PySem.W.krv_bounds]
  show _ = ((sliceRange ((xs.size : Int) - 1) (-1) (-1)).filterMap (xs[·]?)).toArray
  rw [PySem.W.krv_sliceRange, List.filterMap_map]
  refine congrArg List.toArray (fm_congr fun m hm => ?_)
  have := List.mem_range.mp hm
  show xs[(((xs.size : Int) - 1) + (m : Int) * (-1)).toNat]? = xs[xs.size - 1 - m]?
  rw [show (((xs.size : Int) - 1) + (m : Int) * (-1)).toNat = xs.size - 1 - m from by omega]
theorem getItem_back {t sl : Addr} {items : Array Value} {u : Tok} {Q : Value → Shared → Prop} (ht : IsTup s.heap t items) (hs : s.heap.IsSliceOf sl .none .none (.int (-1) u))
    (h : Q (.ref s.heap.objs.size) { s with heap := s.heap.push { cls := .type "tuple", data := .seq items.toList.reverse.toArray } }) (hz : items.size ≤ sizeLine) : wpAny (model prog w) A (getItem (.ref t) (.ref sl)) Q E s := by
  have hok : sizeOk (.seq items.toList.reverse.toArray) := by
    show items.toList.reverse.toArray.size ≤ sizeLine
    rw [List.size_toArray, List.length_reverse, Array.length_toList]
    exact hz
  obtain ⟨os, ho, hc, hd⟩ := id hs
  have hT : s.TypeIs (.ref sl) "slice" := ⟨os, ho, hc⟩
  unfold getItem
  try with_reducible refine wpAny_holding ?_
  try refine wpAny_bind (wpAny_pure ?_)
  refine wpAny_bind (wpAny_sequenceKey ht.typeIs (by decide) ?_)
  refine wpAny_bind (wpAny_callSpecial?_slot (name := Str.ofString "__getitem__") ht.typeIs PyProof.Rows.slot_tuple_getitem (wpAny_call_entry PyProof.Rows.slot_tuple_getitem ht.typeIs entry_tuple_getitem ?_ (args_tuple_getitem _ _)))
  show wpAny _ _ (Builtin.Tuple.tupleItemsOf (.ref t) >>= _) _ _ s
  refine wpAny_bind (tupleItemsOf_ ht (wpAny_bind (wpAny_typeOf hT ?_)))
  rw [if_pos (by decide)]
  refine wpAny_bind (applied_back (n := items.size) hs ?_)
  have hno : ¬ ((((items.size : Int) - 1) == 0 && (-1 : Int) == 1 && items.size == items.size) = true) := by simp
  show wpAny _ _ (if (((items.size : Int) - 1) == 0 && (-1 : Int) == 1 && items.size == items.size) = true then _ else _) _ _ s
  rw [if_neg hno, pick_back]
  first
    | exact wpAny_bind (m := Builtin.Tuple.tupleExact _) (wpAny_newObj_type (wpAny_pure ⟨_, rfl, wpAny_pure h⟩) hok)
    | exact wpAny_bind (wpAny_bind (m := Builtin.Tuple.tupleExact _) (wpAny_newObj_type (wpAny_pure (wpAny_pure ⟨_, rfl, wpAny_pure h⟩)) hok))
end
theorem pe_revT {X : Cx} {e : Expr} {te : TE} {k : Nat} {p1 p2 p3 pos : Pos} (he : PE X e te) : PE X (.Subscript e (.Slice none none (some (.UnaryOp .USub (.Constant (.int 1) k p1) p2)) p3) pos) (tRevT X.K te) := by
  constructor
  intro pins s σ H Q I h
  refine Subscript_ (thn (he.run pins s σ H _ I h) fun v s1 ⟨x, H1, J1, r1, q1⟩ => ?_)
  obtain ⟨a, xs, ex, hx, q⟩ := q1
  subst ex
  cases r1
  have st : PO X (some (.UnaryOp .USub (.Constant (.int 1) k p1) p2)) (tPart (tUn (rU fun i => .int (-i)) (tC (.int 1)))) := po_some (pe_un un_neg pe_int)
  refine wpAny_Slice (thn (po_none.run pins s1 σ H1 (fun o H2 => o = none ∧ H2 = H1) J1 ⟨rfl, rfl⟩) fun vl s2 ⟨l, H2, J2, pl, el, e2⟩ => ?_)
  subst el e2
  refine thn (po_none.run pins s2 σ H2 (fun o H3 => o = none ∧ H3 = H2) J2 ⟨rfl, rfl⟩) fun vu s3 ⟨u, H3, J3, pu, eu, e3⟩ => ?_
  subst eu e3
  refine thn (st.run pins s3 σ H3 (fun o H4 => o = some (-1) ∧ H4 = H3) J3 ⟨1, rfl, -1, rfl, rfl, rfl⟩) fun vs s4 ⟨o, H4, J4, ps, eo, e4⟩ => ?_
  subst eo e4
  cases pl
  cases pu
  cases ps with
  | int i tk =>
    have J5 : Inv X pins σ H4 { s4 with heap := s4.heap.push { cls := .type "slice", data := .fields #[.none, .none, .int (-1) tk] } } := J4.kept (t' := s4.toks) fun b ob q => Heap.get?_push_of_some _ q
    obtain ⟨us, r, ht, hz⟩ := J5.tuple hx
    have hlen := r.length
    show wpAny (model X.prog X.w) X.A (subscriptTail e (.Slice none none (some (.UnaryOp .USub (.Constant (.int 1) k p1) p2)) p3) (.ref a) (.ref s4.heap.objs.size)) (EP X pins σ Q) X.xe { s4 with heap := s4.heap.push { cls := .type "slice", data := .fields #[.none, .none, .int (-1) tk] } }
    refine tail_any (ops := [.ref a, .ref s4.heap.objs.size]) ht.typeIs (PyProof.Rows.slot_tuple_getitem.lookup) ?_ (by with_unfolding_all rfl)
    refine getItem_back ht (Heap.IsSliceOf.new _ _ _ _) ?_ (by rw [List.size_toArray]; omega)
    refine ⟨.ref _, _, J5.laid (t' := s4.toks) (o := .tup xs.reverse) (fun b ob q => Heap.get?_push_of_some _ q) (Nat.le_refl _) ?_, rfl, q _ (J5.hok.fresh (Nat.le_refl _))⟩
    exact ⟨by rw [List.length_reverse]; exact hz, _, r.reverse, ⟨_, Heap.get?_push_size _ rfl, rfl, _, rfl⟩⟩

/-! ### t * k, a tuple of some items, two times and more -/
def rRepU (K : PySem.W.Frag) : R2 := fun x y H Q => ∃ t k xs, x = .ref t ∧ y = .int k ∧ SqT K H t xs ∧ xs ≠ [] ∧ 2 ≤ k ∧ xs.length * k.toNat ≤ 1000000 ∧ ∀ p, H p = none → Q (.ref p) (upd H p (.tup (List.replicate k.toNat xs).flatten))
theorem op_repU {X : Cx} : OpR X (binaryOp .Mult) (rRepU X.K) := fun pins s σ H x y v u Q I rx ry h => by
  obtain ⟨t, k, xs, rfl, rfl, hT, ne, k2, small, q⟩ := h
  obtain ⟨tok, rfl⟩ := ry
  cases rx
  obtain ⟨vs, rel, ⟨ob, at_, cl, n, dat⟩, fits⟩ := I.tuple hT
  obtain ⟨c0, dd, data, sl⟩ := ob
  obtain rfl : c0 = _ := cl
  obtain rfl : data = _ := dat
  have same : vs.length = xs.length := rel.length.symm
  have pos : 0 < xs.length := List.length_pos_iff.mpr ne
  have prod : ((vs.toArray.size : Nat) : Int) * k = ((xs.length * k.toNat : Nat) : Int) := by rw [List.size_toArray, same, Int.natCast_mul, Int.toNat_of_nonneg (by omega)]
  have flat : (List.replicate k.toNat vs).flatten.length = xs.length * k.toNat := by rw [PyProof.Rows.lm_len_rep_flat, same, Nat.mul_comm]
  have kk : k.toNat ≤ 1000000 := Nat.le_trans (by have := Nat.mul_le_mul_right k.toNat pos; omega) small
  have full : vs.toArray.isEmpty = false := by
    cases vs with
    | nil => simp at same; omega
    | cons _ _ => rfl
  have ty : s.TypeIs (.ref t) "tuple" := ⟨_, at_, rfl⟩
  have line : (1000000 : Nat) ≤ sizeLine := by decide
  have few : Builtin.Tuple.tupleTooMany (((vs.toArray.size : Nat) : Int) * k) = false := by
    rw [prod]
    exact decide_eq_false (by rw [sizeLine_eq]; omega)
  have mul := tuple_mulW t vs.toArray n dd sl k tok (by rw [decide_eq_false (by omega), decide_eq_false (by omega)]; rfl) (by rw [full]; exact beq_eq_false_iff_ne.mpr (by omega)) (by rw [full, decide_eq_false (by omega)]; rfl) (by rw [prod]; omega) few (by rw [size_rep, List.size_toArray, flat]; exact Nat.le_trans small line)
  refine wpAny_binaryOp_repeat_ref (T := "tuple") (U := "int") (by decide) ty (typeIs_int · k tok) noFill_tuple_mul F.fills_int_mul F.slot_int_rmul repeat_tuple F.slot_int_index.lookup ?_
  refine call_meets F.slot_int_rmul (typeIs_int s k tok) F.entry_int_rmul (F.args_int_rmul_2 _ _) (int_rmul_tuple k tok t vs.toArray n dd sl) ⟨at_, rfl, ty, ?_⟩
  refine call_meets F.slot_tuple_mul ty F.entry_tuple_mul (F.args_tuple_mul_2 _ _) mul ⟨at_, ?_⟩
  rw [size_rep]
  exact ⟨.ref _, _, I.laid (t' := s.toks) (o := .tup (List.replicate k.toNat xs).flatten) (fun _ _ e => Heap.get?_push_of_some _ e) (Nat.le_refl _) ⟨by rw [PyProof.Rows.lm_len_rep_flat, Nat.mul_comm]; exact Nat.le_trans small line, _, rel.rep k.toNat, IsTup.new _ _⟩, rfl, q _ (I.hok.fresh (Nat.le_refl _))⟩

/-! ### sorted(t), a tuple of whole numbers -/
theorem gather_tup {prog : Program} {w : World} {A : Around} {E : Value → Shared → Prop} {s : Shared} {t : Addr} {vs : List Value} {Q : List Value → Shared → Prop} (ht : s.heap.IsTuple t vs.toArray) (hz : vs.length ≤ sizeLine)
    (h : Q vs { s with heap := (s.heap.push (seqObj "list" #[] 0)).update s.heap.objs.size (Obj.mapSeq (· ++ vs.toArray)) }) : wpAny (model prog w) A (collect (.ref t)) Q E s := by
  obtain ⟨ob, at_, cl, n, dat⟩ := id ht
  have at2 : (s.heap.push (seqObj "list" #[] 0)).get? t = some ob := Heap.get?_push_of_some _ at_
  have new : (s.heap.push (seqObj "list" #[] 0)).get? s.heap.objs.size = some (seqObj "list" #[] 0) := Heap.get?_push_size _ rfl
  unfold collect
  refine wpAny_bind (wpAny_runValue (codeAny_builtin entry_proto_collect' (show wpAny _ _ (do again (.builtin "list.__iadd__" ⟨[← newList [], .ref t], []⟩)) _ _ s from wpAny_bind (wpAny_newList (wpAny_pure ⟨Code.quiet_builtin _ (by decide +kernel), codeAny_builtin entry_list_iadd' ?_⟩)))))
  show wpAny _ _ (Builtin.List.listExtendWith (.ref s.heap.objs.size) (.ref t) (.ref s.heap.objs.size)) _ _ { s with heap := s.heap.push (seqObj "list" #[] 0) }
  unfold Builtin.List.listExtendWith
  refine wpAny_bind (wpAny_typeOf (T := "tuple") ⟨ob, at2, cl⟩ ?_)
  have yes : (Value.type "tuple" == Value.type "tuple") = true := by rfl
  rw [if_pos (by rw [yes]; simp)]
  refine wpAny_bind (listItems_at at2 dat (wpAny_bind (listItems_at (xs := #[]) (n := 0) new rfl ?_)))
  rw [if_neg (by simp)]
  refine wpAny_bind (listUpdate_at (xs := #[]) (n := 0) new rfl (wpAny_pure ?_) (Nat.zero_le _) (by show (#[] ++ vs.toArray).size ≤ sizeLine + 1; rw [Array.size_append, List.size_toArray]; exact Nat.le_trans (by simpa using hz) (Nat.le_succ _)))
  show wpAny (model prog w) A (do
      let got ← load s.heap.objs.size
      match got.data with
      | .seq ys _ => pure ys.toList
      | _ => unsupported "internal:collect") Q E _
  refine wpAny_bind (wpAny_load (get?_update_seq new _) (show wpAny _ _ (pure ((#[] : Array Value) ++ vs.toArray).toList) Q E _ from ?_))
  have e : ((#[] : Array Value) ++ vs.toArray).toList = vs := by simp
  rw [e]
  exact wpAny_pure h
theorem sorted_tup {prog : Program} {w : World} {A : Around} {E : Value → Shared → Prop} {s : Shared} {t : Addr} {vs : List Value} {ltv : Value → Value → Bool} {Q : Value → Shared → Prop} (O : SrtO.Swo ltv) (ht : s.heap.IsTuple t vs.toArray) (hz : vs.length ≤ sizeLine)
    (hS : 2 ≤ vs.length → ∀ (h1 : Heap) (a : Addr), SrtO.SortableO prog w A.in1.in1 { s with heap := h1 } a vs ltv) (h : ∀ out : List Value, SrtO.Srtd ltv out → SrtO.Stb ltv out vs → Q (.ref (s.heap.objs.size + 1)) { s with heap := sortedAll s.heap vs out.toArray }) :
    wpAny (model prog w) A (call (.builtin "sorted") [.ref t]) Q E s := by
  refine Calls.call_function_entry kind_sorted plain_sorted entry_sorted (args_sorted1 _) ?_
  unfold Builtin.«sorted»
  refine wpAny_bind (m := checkCount "sorted" 1 1 _) (wpAny_pure (wpAny_bind (gather_tup ht hz (wpAny_bind (wpAny_newList ?_ hz)))))
  have size : ((s.heap.push (seqObj "list" #[] 0)).update s.heap.objs.size (Obj.mapSeq (· ++ vs.toArray))).objs.size = s.heap.objs.size + 1 := (Heap.size_update ..).trans (size_push' ..)
  have new : (((s.heap.push (seqObj "list" #[] 0)).update s.heap.objs.size (Obj.mapSeq (· ++ vs.toArray))).push (seqObj "list" vs.toArray 0)).get? (s.heap.objs.size + 1) = some (seqObj "list" vs.toArray 0) := size ▸ Heap.get?_push_size _ rfl
  show wpAny _ _ _ _ _ { s with heap := ((s.heap.push (seqObj "list" #[] 0)).update s.heap.objs.size (Obj.mapSeq (· ++ vs.toArray))).push (seqObj "list" vs.toArray 0) }
  rw [size]
  exact wpAny_bind (wpAny_holding (wpAny_call_entry slot_list_sort ⟨_, new, rfl⟩ entry_list_sort (SrtO.list_sort_ord O new hz (hS · _ _) fun out a b => ⟨_, rfl, wpAny_pure ⟨_, rfl, h out a b⟩⟩) (args_list_sort _)))
def rSortedTI (K : PySem.W.Frag) : List V → Hp → VK → Prop := fun vs H Q => ∃ (t : Addr) (ns : List Int), vs = [V.ref t] ∧ SqT K H t (ns.map V.int) ∧ ∀ (ms : List Int) (p : Addr), ms.Perm ns → ms.Pairwise (· ≤ ·) → H p = none → Q (.ref p) (upd H p (.lst (ms.map V.int)))
theorem cr_sortedTI {X : Cx} : CallR X (.builtin "sorted") (rSortedTI X.K) := fun pins s σ H vs us Q I r h => by
  obtain ⟨t, ns, rfl, hs, q⟩ := h
  obtain ⟨its, rv, p, fits⟩ := I.tuple hs
  rw [Vals.ref1 r]
  have num := rv.ints
  have len : its.length ≤ sizeLine := by rw [← rv.length]; exact fits
  refine sorted_tup SrtO.swo_int (show s.heap.IsTuple t its.toArray from p) len (fun h2 _ a => SrtO.ints_sortable num h2) fun out a b => ?_
  obtain ⟨e1, e2, e3⟩ := SrtO.ints_out num a b
  obtain ⟨ep, there⟩ := PyProof.Rows.sortedAll_at s.heap its out.toArray
  refine ⟨.ref _, upd H (s.heap.objs.size + 1) (.lst ((out.map SrtO.iv).map V.int)), I.laid (t' := s.toks) (fun _ _ => PyProof.Rows.sortedAll_old) (Nat.le_succ _) ⟨?_, out, ep, vals_of_ints e1, there⟩, rfl, q _ _ e2 e3 (I.hok.fresh (Nat.le_succ _))⟩
  rw [List.length_map, e2.length_eq, ← List.length_map (f := V.int)]
  exact fits
def rSortU (K : PySem.W.Frag) : List V → Hp → VK → Prop := fun vs H Q => rSortedI K vs H Q ∨ rSortedTI K vs H Q
theorem cr_sortU {X : Cx} : CallR X (.builtin "sorted") (rSortU X.K) := fun pins s σ H xs us Q I r q => q.elim (cr_sortedI pins s σ H xs us Q I r) (cr_sortedTI pins s σ H xs us Q I r)

/-! ### zip of two tuples -/
theorem walk_zipT {K : PySem.W.Frag} {a b : Addr} {xs ys : List V} : Walk (RZ.ItzT K a b) (min xs.length ys.length) (fun H => SqT K H a xs ∧ SqT K H b ys) (YPair (fun i => xs[i]?) (fun i => ys[i]?)) :=
  ⟨fun i _ hi q => ⟨xs, ys, xs[i]'(by omega), ys[i]'(by omega), q.1, q.2, List.getElem?_eq_getElem _, List.getElem?_eq_getElem _⟩, fun _ q => ⟨xs, ys, q.1, q.2, by omega⟩, fun i H v H' _ q y => by
    obtain ⟨T, x, z, e1, e2, e3, e4, e5⟩ := y
    exact ⟨T, x, z, e1, e2, e3, e4 xs q.1, e5 ys q.2⟩⟩
end DL

set_option maxRecDepth 100000
set_option maxHeartbeats 1000000
/-! DLg: a def's promise where nothing is being shown around it (repr asks that): calls, bodies, the law's end. -/
namespace DL
open PySem PySem.Spec PyProof.Rows L2

structure FnG (P : Program) (w : World) (K : PySem.W.Frag) (mg : Str → Option Value) (base : Heap) (CX : CXT) (k : Nat) (f : Addr) (fd : FuncData) (ps : List Str) (sp : Sp) : Prop where
  len : ∀ vs H Q E, sp vs H Q E → vs.length = ps.length
  run : ∀ (A : Around) (outer : List Env) (s : Shared) (H : Hp) (args : Args) (us : List Value) (vs : List V) (Q : VK) (E : XK), Room k A → A.guards = some [] → Env0 P w K mg base A outer s H → BindsTo s fd args (ps.zip us) → Vals vs us → sp vs H Q E →
    codeAny (model P w) A (.call (.ref f) args) (CR CX outer P w H s Q E) s
section
variable {P : Program} {w : World} {K : PySem.W.Frag} {mg : Str → Option Value} {base : Heap}
theorem FnG.mono {CX : CXT} {j k : Nat} {f : Addr} {fd : FuncData} {ps : List Str} {sp : Sp} (F : FnG P w K mg base CX j f fd ps sp) (h : j ≤ k) : FnG P w K mg base CX k f fd ps sp :=
  ⟨F.len, fun A outer s H args us vs Q E hr => F.run A outer s H args us vs Q E (hr.mono h)⟩
theorem FnG.imp {CX : CXT} {k : Nat} {f : Addr} {fd : FuncData} {ps : List Str} {sp sp' : Sp} (F : FnG P w K mg base CX k f fd ps sp) (h : ∀ vs H Q E, sp' vs H Q E → sp vs H Q E) : FnG P w K mg base CX k f fd ps sp' :=
  ⟨fun vs H Q E q => F.len vs H Q E (h _ _ _ _ q), fun A outer s H args us vs Q E hr hg he hb hv hs => F.run A outer s H args us vs Q E hr hg he hb hv (h _ _ _ _ hs)⟩
/-- a def by its body -/
theorem fng_of {CX : CXT} {k : Nat} {f : Addr} {name qual : Str} {params : Arguments} {body : List Stmt} {scope : Scope} {dV kV doc pm cdv ct oc : Value} {an od : Option Addr}
    {osl : Array (Option Value)} {N ps : List Str} {sp : Sp} (lk : K.lookup f = some ⟨oc, od, .func (PySem.W.fnOf name qual params body scope dV kV doc pm an cdv ct), osl⟩) (hcd : PySem.W.codeIn K cdv qual = true) (S : FnScope N ps scope)
    (len : ∀ vs H Q E, sp vs H Q E → vs.length = ps.length)
    (hbody : ∀ (A : Around) (outer : List Env) (s : Shared) (H : Hp) (vs : List V) (Q : VK) (E : XK), Room k (A.deeper (envOfC qual scope s.heap.objs.size f cdv)) → (A.deeper (envOfC qual scope s.heap.objs.size f cdv)).guards = some [] → sp vs H Q E →
      ∃ t, PSs (cxOf CX P w K mg base N qual scope f cdv A outer s H E) body t ∧ t { nx := fun _ H' => Q .non H', rt := Q } (start N vs) H) :
    FnG P w K mg base CX (k + 1) f (PySem.W.fnOf name qual params body scope dV kV doc pm an cdv ct) ps sp := by
  constructor
  · exact len
  intro A outer s H args us vs Q E hr hgd e0 hb r hsp
  have hl := len _ _ _ _ hsp
  have kx : K.In s.heap := e0.mod.kin.keeps fun b o e => (e0.bs b o e).1
  have nl : s.heap.NoLimit := e0.mod.nolimit.keeps fun b o e => (e0.bs b o e).1
  have kd : ∀ y ∈ ps.zip us, scope.names.lookup y.1 = some .local ∨ (scope.names.lookup y.1 = some .cell ∧ ((cellsFrom (s.heap.objs.size + 1) scope.names []).lookup y.1).isSome = true) := by
    rintro ⟨n, v⟩ hy
    exact (S.par n (List.of_mem_zip hy).1).elim .inl fun q => .inr ⟨q, PySem.W.cellsFrom_some _ _ _ (.inl q)⟩
  refine codeAny_call_function hr.depth (kx _ _ lk) rfl S.co S.gen rfl (PySem.W.codeRec_of kx hcd) (hb _ _ _ _ (wpAny_newFunctionEnv_cells S.kind kd fun env he s1 x => ?_))
  subst he
  refine ⟨nl.keeps x.toInCall.keep, codeAny_func ?_⟩
  obtain ⟨t, ht, hq⟩ := hbody A outer s H vs Q E (hr.deeper _) hgd hsp
  have J : Inv (cxOf CX P w K mg base N qual scope f cdv A outer s H E) [] (start N vs) H s1 := inv_start S hr.hd e0 hl r x
  refine wpAny_mono (ht.run [] s1 (start N vs) H _ J hq) (fun fl s' hs => ?_) fun e s' hs => hs
  cases fl with
  | ret u =>
    obtain ⟨v, σ', H', J', rv, q⟩ := hs
    exact ⟨v, H', J'.os, J'.bare, J'.base, J'.hok, rv, q⟩
  | next =>
    obtain ⟨σ', H', J', q⟩ := hs
    exact ⟨V.non, H', J'.os, J'.bare, J'.base, J'.hok, (rfl : RelV V.non Value.none), q⟩
  | brk => exact hs.elim fun _ z => z.elim fun _ z => z.2.elim
  | cont => exact hs.elim fun _ z => z.elim fun _ z => z.2.elim
theorem okG {x qual : Str} {st : Stmt} {f : Addr} {fd : FuncData} {N ps : List Str} {k : Nat} {sp : Sp} (F : Fun K x qual st f fd) (S : FnScope N ps (defScope st)) (len : ∀ vs H Q E, sp vs H Q E → vs.length = ps.length)
    (hbody : ∀ (cdv : Value) (A : Around) (outer : List Env) (s : Shared) (H : Hp) (vs : List V) (Q : VK) (E : XK), Room k (A.deeper (envOfC qual (defScope st) s.heap.objs.size f cdv)) → (A.deeper (envOfC qual (defScope st) s.heap.objs.size f cdv)).guards = some [] → sp vs H Q E →
      ∃ t, PSs (cxOf CX0 P w K mg base N qual (defScope st) f cdv A outer s H E).nox (defBody st) t ∧ t { nx := fun _ H' => Q .non H', rt := Q } (start N vs) H) : FnG P w K mg base CX0 (k + 1) f fd ps sp := by
  obtain ⟨oc, od, kV, doc, pm, an, cdv, ct, osl, rfl, lk, hcd⟩ := F.ex
  exact fng_of lk hcd S len fun A outer s H vs Q E hr hg hsp => (hbody cdv A outer s H vs Q E hr hg hsp).elim fun t z => ⟨t, z.1.nox, z.2⟩
end

section
variable {X : Cx} {CX : CXT} {k : Nat} {f : Addr} {fd : FuncData} {ps ks : List Str} {sp : Sp} {dvs : List V} {ds : List Value} {E : XK} {x : Str} {p pos : Pos} {e : Expr} {es : List Expr} {kws : List Keyword} {t tk : TA}
theorem end_of {pins : List (Addr × Obj)} {σ : L2.St} {H : Hp} {s : Shared} {Q : VK} {r : Result} {s' : Shared} (hx : Passes CX X E) (I : Inv X pins σ H s) (hq : CR CX X.stack X.prog X.w H s Q E r s') :
    (match r with | .ok (.ret u) => EP X pins σ Q u s' | .ok _ => False | .error e => X.xe e s') := by
  cases r with
  | error e => exact hx pins σ H s e s' I hq
  | ok fl =>
    cases fl with
    | ret u => exact I.after hq
    | next => exact hq
    | brk => exact hq
    | cont => exact hq
theorem run_fng {pins : List (Addr × Obj)} {σ : L2.St} {H : Hp} {s : Shared} {Q : VK} {us : List Value} {vs : List V} (F : FnG X.prog X.w X.K X.mg X.base CX k f fd ps sp) (hr : Room k X.A) (gd : X.A.guards = some []) (hb : Binds X.K fd ps ds) (hd : Vals dvs ds) (hx : Passes CX X E)
    (I : Inv X pins σ H s) (r : Vals vs us) (h : sp (vs ++ dvs) H Q E) : wpAny (model X.prog X.w) X.A (call (.ref f) us) (EP X pins σ Q) X.xe s := by
  have rr : Vals (vs ++ dvs) (us ++ ds) := r.append hd
  have hl : (us ++ ds).length = ps.length := rr.length.symm.trans (F.len _ _ _ _ h)
  refine wpAny_call (codeAny_mono (F.run X.A X.stack s H ⟨us, []⟩ (us ++ ds) (vs ++ dvs) Q E hr gd I.env0 (hb s us I.kIn hl) rr h) fun res s' hq => ?_)
  have := end_of hx I hq
  rcases res with e | fl
  · exact this
  · rcases fl with _ | _ | _ | u
    all_goals exact this
theorem pe_callG (F : FnG X.prog X.w X.K X.mg X.base CX k f fd ps sp) (hr : Room k X.A) (gd : X.A.guards = some []) (hg : Gl X x) (hm : X.mg x = some (.ref f)) (hk : PySem.W.keepIn X.K (.ref f) = true) (hb : Binds X.K fd ps ds) (hd : Vals dvs ds) (hx : Passes CX X E)
    (ha : PA X (e :: es) t) (hdb : (x == ("__debug__" : Str)) = false := by decide) (he : starEach (e :: es) X.env = (false, eval e X.env) :: starEach es X.env := by rfl) (hpl : (backTo pos (starEach es X.env)).any (·.1) = false := by rfl) :
    PE X (.Call (.Name x p) (e :: es) [] pos) (tCall sp dvs E t) := by
  constructor
  intro pins s σ H Q I h
  exact wpAny_Call_Name_kw (ld_glob I hg hm (PySem.W.callWith_K (h₀ := X.base) I.ok.mod.kin hk (thn (ha.run pos pins s σ H _ I h) fun us s1 ⟨vs, H1, I1, r, q⟩ => ⟨I1.kIn, run_fng F hr gd hb hd hx I1 r q⟩) he hpl) hdb)
theorem pe_call0G (F : FnG X.prog X.w X.K X.mg X.base CX k f fd ps sp) (hr : Room k X.A) (gd : X.A.guards = some []) (hg : Gl X x) (hm : X.mg x = some (.ref f)) (hk : PySem.W.keepIn X.K (.ref f) = true) (hb : Binds X.K fd ps ds) (hd : Vals dvs ds) (hx : Passes CX X E)
    (hdb : (x == ("__debug__" : Str)) = false := by decide) : PE X (.Call (.Name x p) [] [] pos) (tCall sp dvs E tNil) := by
  constructor
  intro pins s σ H Q I h
  exact wpAny_Call_Name_kw (ld_glob I hg hm (PySem.W.callWith_K0 I.kIn hk (run_fng (us := []) F hr gd hb hd hx I .nil h)) hdb)
variable {g : List Value → List Value → List Value} {gV : List V → List V → List V}
/-- f(k = v, ..): keywords alone -/
theorem pe_callK0 (F : FnG X.prog X.w X.K X.mg X.base CX k f fd ps sp) (hr : Room k X.A) (gd : X.A.guards = some []) (hg : Gl X x) (hm : X.mg x = some (.ref f)) (hk : PySem.W.keepIn X.K (.ref f) = true) (hb : KBinds X.K fd ps ks g gV) (hx : Passes CX X E)
    (hkw : PK X kws tk) (hall : (backToKw pos (keywordEach kws X.env)).all (·.1.isSome) = true := by rfl) (hks : (backToKw pos (keywordEach kws X.env)).filterMap (·.1) = ks := by rfl)
    (hdb : (x == ("__debug__" : Str)) = false := by decide)
    (hpl : ((backTo pos (starEach [] X.env)).any (·.1) || (backToKw pos (keywordEach kws X.env)).any (·.1.isNone)) = false := by rfl) :
    PE X (.Call (.Name x p) [] kws pos) (tCallK sp gV E tNil tk) := by
  constructor
  intro pins s σ H Q I h
  refine wpAny_Call_Name_kw (ld_glob I hg hm ?_ hdb)
  refine PySem.W.callWith_KW0 (h₀ := X.base) (first := []) I.ok.mod.kin hk hall ?_ hpl
  refine thn (hkw.run pos pins s σ H _ I h) fun ws s2 ⟨zs, H2, I2, rz, q2⟩ => ⟨I2.kIn, ?_⟩
  rw [hks]
  have rr := hb.rel (vs := []) (us := []) .nil rz
  have hl : (g [] ws).length = ps.length := rr.length.symm.trans (F.len _ _ _ _ q2)
  refine wpAny_call (codeAny_mono (F.run X.A X.stack s2 H2 ⟨[], ks.zip ws⟩ (g [] ws) (gV [] zs) Q E hr gd I2.env0 (hb.to s2 [] ws I2.kIn hl) rr q2) fun res s' hq => ?_)
  have := end_of hx I2 hq
  rcases res with e | fl
  · exact this
  · rcases fl with _ | _ | _ | u
    all_goals exact this
end

/-! ### the end of a law -/
theorem law_callG {P : Program} {w : World} {K : PySem.W.Frag} {mg mb : Str → Option Value} {CX : CXT} {k : Nat} {fa a : Addr} {fd : FuncData} {x : Str} {sp : Sp} {s₁ : Shared} {vs : List Value} {ns : List Int}
    (KX : K.In s₁.heap) (hns : s₁.heap.Ns mainGlobals mg) (hb : s₁.heap.Ns builtinsNs mb) (hbb : ∀ x : Str, x ≠ "__name__" → mb x = bootBuiltins x) (hlim : s₁.heap.NoLimit) (hg : s₁.gens = #[])
    (ha : s₁.heap.get? a = some { cls := .type "list", data := .seq vs.toArray }) (hi : IntsAre vs ns) (hl : ns.length ≤ sizeLine) (hr : Room k callerA)
    (F : ∀ base : Heap, K.In base → base.Ns mainGlobals mg → FnG P w K mg base CX k fa fd [x] sp) (hbind : ∀ (s : Shared) (u : Value), BindsTo s fd ⟨[u], []⟩ [(x, u)])
    (hsp : ∀ H : Hp, Only H → SqL K H a (ns.map V.int) → sp [.ref a] H (fun v _ => v = .bl true) fun _ _ _ => False)
    (hCX : ∀ H e s', CX [] H s₁ (fun _ _ _ => False) e s' → False) :
    codeAny (model P w) callerA (.call (.ref fa) ⟨[.ref a], []⟩) (fun r s' => r = .ok (.ret (.bool true)) ∧ OldK s₁.heap s'.heap ∧ s'.os = s₁.os ∧ AllBare s'.gens) s₁ := by
  have main : ∀ H : Hp, Only H → SqL K H a (ns.map V.int) → HOk P w H s₁.heap → (∀ b, H b ≠ none → b = a) → (H a ≠ none → K.lookup a = none) →
      codeAny (model P w) callerA (.call (.ref fa) ⟨[.ref a], []⟩) (fun r s' => r = .ok (.ret (.bool true)) ∧ OldK s₁.heap s'.heap ∧ s'.os = s₁.os ∧ AllBare s'.gens) s₁ := by
    intro H hO hS hok hA hK
    have isA : ∀ {b : Addr} {u : HO}, H b = some u → b = a := fun {b u} q => hA b (by rw [q]; exact fun z => nomatch z)
    have low : ∀ {b : Addr} {o : Obj}, s₁.heap.get? b = some o → H b = none → (hidT s₁.heap H).get? b = some o := fun e n => hidT_get e n
    have dictN : ∀ {b : Addr} {o : Obj} {es : Array DictEntry} {ep : Nat}, s₁.heap.get? b = some o → o.data = .dict es ep → H b = none := fun {b o es ep} e d => by
      cases q : H b with
      | none => rfl
      | some u =>
        rw [isA q, ha] at e
        obtain rfl := Option.some.inj e
        cases (show Data.seq vs.toArray _ = Data.dict es ep from d)
    have nsB : ∀ {b : Addr} {m : Str → Option Value}, s₁.heap.Ns b m → (hidT s₁.heap H).Ns b m := fun {b m} ⟨o, es, ep, e, d, r⟩ => ⟨o, es, ep, low e (dictN e d), d, r⟩
    have kB : K.In (hidT s₁.heap H) := fun b o e => low (KX b o e) (by
      cases q : H b with
      | none => rfl
      | some u =>
        have eb := isA q
        subst eb
        rw [hK (by rw [q]; exact fun z => nomatch z)] at e
        cases e)
    have M : Mod K mg (hidT s₁.heap H) := ⟨kB, nsB hns, ⟨mb, nsB hb, hbb⟩, let ⟨mc, h1, h2⟩ := hlim; ⟨mc, nsB h1, h2⟩⟩
    have e0 : Env0 P w K mg (hidT s₁.heap H) callerA [] s₁ H := ⟨rfl, M, fun b o e => of_hidT e, Nat.le_of_eq (hidT_size _ _), trivial, fun b hb => absurd (show b ∈ ([] : List Addr) from hb) List.not_mem_nil, hok, .of_eq hg⟩
    refine codeAny_mono ((F _ kB (nsB hns)).run callerA [] s₁ H ⟨[.ref a], []⟩ [.ref a] [.ref a] _ _ hr rfl e0 (hbind s₁ (.ref a)) (.cons rfl .nil) (hsp H hO hS)) fun r s' h => ?_
    rcases r with e | fl
    · exact (hCX H e s' h).elim
    rcases fl with _ | _ | _ | u
    · exact h.elim
    · exact h.elim
    · exact h.elim
    obtain ⟨v, H', os, bare, un, hok', r', q⟩ := h
    obtain rfl : v = .bl true := q
    obtain rfl : u = Value.bool true := r'
    refine ⟨rfl, OldK.of_keep fun b o e => ?_, os, bare⟩
    cases q : H b with
    | none => exact un.keep b o e q (fun z => nomatch z) (by simp)
    | some u =>
      rcases hO b with z | ⟨ob, xs, z⟩
      · rw [q] at z
        cases z
      · have f1 := (hok b _ z).1
        have f2 := (hok' b _ (un.frzs b ob _ z)).1
        rw [e] at f1
        obtain rfl := Option.some.inj f1
        exact f2
  have rv := vals_ints hi
  cases hk : K.lookup a with
  | some o =>
    have e := KX a o hk
    rw [ha] at e
    obtain rfl := Option.some.inj e
    exact main (fun _ => none) (fun _ => .inl rfl) (.inr ⟨_, vs.toArray, _, hk, rfl, rfl, rfl, by rw [List.size_toArray, hi.length]; exact hl, by simpa using rv⟩) (fun b u z => nomatch z) (fun b z => absurd rfl z) fun z => absurd rfl z
  | none =>
    refine main (fun b => if b = a then some (.frz { cls := .type "list", data := .seq vs.toArray } (.lst (ns.map V.int))) else none) (fun b => ?_) (.inl (.inr ⟨{ cls := .type "list", data := .seq vs.toArray }, if_pos rfl⟩)) (fun b u z => ?_) (fun b z => ?_) fun _ => hk
    · by_cases eb : b = a
      · exact .inr ⟨_, _, if_pos eb⟩
      · exact .inl (if_neg eb)
    · by_cases eb : b = a
      · subst eb
        cases (if_pos rfl).symm.trans z
        exact ⟨ha, by rw [List.length_map]; exact hl, vs, _, rv, ha⟩
      · cases (if_neg eb).symm.trans z
    · exact Decidable.byContradiction fun eb => z (if_neg eb)
theorem walk_ofG {l : PySem.W.OpenLaw} {n k : Nat} {q : Program} {loose : List Str} {XP : (Str → Option Value) → Heap → Prop} {YP : World → Heap → Prop} {d : DefRec} {K : Params → PySem.W.Frag} {CX : World → CXT} {sp : World → Sp} {x : Str}
    (hn : l.most = some n) (hn2 : n ≤ sizeLine) (hdf : d.params.defaults = []) (hr : Room k callerA)
    (hY : ∀ (w : World) (h : Heap), YP w h → (K w.params).In h)
    (F : ∀ (w : World) (mg : Str → Option Value) (fa : Addr) (h : Heap), (K w.params).In h → h.Ns mainGlobals mg → mg d.name = some (.ref fa) →
      ∃ fd : FuncData, (∀ (s : Shared) (u : Value), BindsTo s fd ⟨[u], []⟩ [(x, u)]) ∧
        ∀ base : Heap, (K w.params).In base → base.Ns mainGlobals mg → FnG l.prog w (K w.params) mg base (CX w) k fa fd [x] (sp w))
    (hsp : ∀ (w : World) (H : Hp) (a : Addr) (ns : List Int), ns.length ≤ n → Only H → SqL (K w.params) H a (ns.map V.int) → sp w [.ref a] H (fun v _ => v = .bl true) fun _ _ _ => False)
    (hCX : ∀ (w : World) (H : Hp) (s : Shared) (e : Value) (s' : Shared), CX w [] H s (fun _ _ _ => False) e s' → False) :
    PySem.W.WalkO q loose XP YP l.row.toRowW d [] (fun f vs => PySem.call f vs) := by
  refine Att.attach_call hn hdf fun w s₀ s₁ mg mb fa o pm cd doc a vs ns G Y ho hd hcd hmg hobj hints hlen hg => ?_
  obtain ⟨fd, hb, hF⟩ := F w mg fa _ (hY w _ Y) G.T.g hmg
  exact law_callG (hY w _ Y) G.T.g G.T.b G.T.builtins G.T.nolimit hg hobj hints (Nat.le_trans hlen hn2) hr hF hb (fun H hO hS => hsp w H a ns hlen hO hS) fun H e s' => hCX w H s₁ e s'
end DL

set_option maxRecDepth 100000
set_option maxHeartbeats 1000000
namespace DL
open PySem PySem.Spec PyProof.Rows L2

/-! ### operators of several kinds in one -/
theorem opr_or {X : Cx} {f : Value → Value → Sem Value} {r r' : R2} (h : OpR X f r) (h' : OpR X f r') : OpR X f (fun x y H Q => r x y H Q ∨ r' x y H Q) := fun pins s σ H x y v u Q I rx ry q =>
  q.elim (h pins s σ H x y v u Q I rx ry) (h' pins s σ H x y v u Q I rx ry)
def rAddStr : R2 := fun x y H Q => ∃ i j, x = .str i ∧ y = .str j ∧ i.length + j.length ≤ sizeLine ∧ Q (.str (i ++ j)) H
def rPlus (K : PySem.W.Frag) : R2 := fun x y H Q => rI0 (fun i j => .int (i + j)) x y H Q ∨ (rCat x y H Q ∨ (rCatA K x y H Q ∨ rAddStr x y H Q))
/-- a list == an empty one -/
def rEqE : R2 := fun x y H Q => ∃ a b xs, x = .ref a ∧ y = .ref b ∧ H a = some (.lst xs) ∧ H b = some (.lst []) ∧ Q (.bl xs.isEmpty) H
theorem op_eqE {X : Cx} (hu : X.A.units + 64 < cLine) : OpR X (compareOp .Eq) rEqE := by
  intro pins s σ H x y v u Q I rx ry h
  obtain ⟨a, b, xs, rfl, rfl, h1, h2, q⟩ := h
  cases (show v = Value.ref a from rx)
  cases (show u = Value.ref b from ry)
  obtain ⟨_, its, m, rv, e⟩ := (show ObjOk X.prog X.w H s.heap a (.lst xs) from I.hok a _ h1)
  obtain ⟨_, its2, m2, rv2, e2⟩ := (show ObjOk X.prog X.w H s.heap b (.lst []) from I.hok b _ h2)
  cases rv2
  have n1 : its.length = xs.length := (Paired.length rv).symm
  cases xs with
  | nil =>
    cases rv
    exact SeqAt.RcAt.lists (e := fun _ => true) ⟨_, e, rfl, _, rfl⟩ ⟨_, e2, rfl, _, rfl⟩ rfl (by omega) (fun j j1 => absurd j1 (by simp)) _ _ _ _ ⟨.bl true, H, I, rfl, q⟩
  | cons z zs =>
    refine SeqAt.RcAt.lists_lengths (s := s) ⟨_, e, rfl, _, rfl⟩ ⟨_, e2, rfl, _, rfl⟩ ?_ (by omega) _ _ _ _ ⟨.bl false, H, I, rfl, q⟩
    cases rv
    simp
def rEqU (K : PySem.W.Frag) : R2 := fun x y H Q => rEq x y H Q ∨ (rEqD K x y H Q ∨ rEqE x y H Q)
def rNeU (K : PySem.W.Frag) : R2 := fun x y H Q => rNe x y H Q ∨ rNeD K x y H Q
def rLeU (K : PySem.W.Frag) : R2 := fun x y H Q => rI0 (fun i j => .bl (decide (i ≤ j))) x y H Q ∨ rLeT K x y H Q
def rLtU (K : PySem.W.Frag) : R2 := fun x y H Q => rI0 (fun i j => .bl (decide (i < j))) x y H Q ∨ rLtT K x y H Q
def rGtU (K : PySem.W.Frag) : R2 := fun x y H Q => rI0 (fun i j => .bl (decide (j < i))) x y H Q ∨ rGtT K x y H Q
abbrev rGe' : R2 := rI0 fun i j => .bl (decide (j ≤ i))
abbrev rSub' : R2 := rI0 fun i j => .int (i - j)
abbrev rMul' : R2 := rI CMul fun i j => .int (i * j)
abbrev rMulW' : R2 := rI CMulW fun i j => .int (i * j)
def rMulU (K : PySem.W.Frag) : R2 := fun x y H Q => rMul' x y H Q ∨ (rMulW' x y H Q ∨ (rRep x y H Q ∨ rRepU K x y H Q))
def rSlU (K : PySem.W.Frag) : V → Option Int → Option Int → Hp → VK → Prop := fun x lo hi H Q => rSlL K x lo hi H Q ∨ rSlA K x lo hi H Q
abbrev rMod' : R2 := rI (fun _ j => 0 < j) fun i j => .int (i % j)
abbrev rDiv' : R2 := rI CDivW fun i j => .int (i / j)
abbrev rPow' : R2 := rI CPow fun i j => .int (i ^ j.toNat)
def rIsNo : R2 := fun x y H Q => y = .non ∧ Q (.bl (decide (x = .non))) H
def rNotNo : R2 := fun x y H Q => y = .non ∧ Q (.bl (!decide (x = .non))) H
section
variable {X : Cx}
theorem op_plus : OpR X (binaryOp .Add) (rPlus X.K) := opr_or op_add (opr_or op_cat (opr_or op_catA op_add_str))
theorem op_eqU (hu : X.A.units + 100 < cLine) : OpR X (compareOp .Eq) (rEqU X.K) := opr_or op_eq (opr_or (op_eqD (by omega)) (op_eqE (by omega)))
theorem op_neU (hu : X.A.units + 100 < cLine) : OpR X (compareOp .NotEq) (rNeU X.K) := opr_or op_ne (op_neD (by omega))
theorem op_leU (hu : X.A.units + 100 < cLine) : OpR X (compareOp .LtE) (rLeU X.K) := opr_or op_le (op_leT (by omega))
theorem op_ltU (hu : X.A.units + 100 < cLine) : OpR X (compareOp .Lt) (rLtU X.K) := opr_or op_lt (op_ltT (by omega))
theorem op_gtU (hu : X.A.units + 100 < cLine) : OpR X (compareOp .Gt) (rGtU X.K) := opr_or op_gt (op_gtT (by omega))
theorem op_geU : OpR X (compareOp .GtE) rGe' := op_ge
theorem op_subU : OpR X (binaryOp .Sub) rSub' := op_sub
theorem op_mulU : OpR X (binaryOp .Mult) (rMulU X.K) := opr_or op_mul (opr_or op_mulW (opr_or op_rep op_repU))
theorem sl_any : SlR X (rSlU X.K) := SlR.or sl_list sl_tupA
theorem op_modU : OpR X (binaryOp .Mod) rMod' := op_mod
theorem op_divU : OpR X (binaryOp .FloorDiv) rDiv' := op_fdivW
theorem op_powU : OpR X (binaryOp .Pow) rPow' := op_pow
theorem op_isU : OpR X (compareOp .Is) rIsNo := op_isN
theorem op_notU : OpR X (compareOp .IsNot) rNotNo := op_notN
end

/-! ### the same over data -/
section
variable {K : PySem.W.Frag} {S S0 S1 S2 S3 : SS} {ta tb te : TE} {x y z : SD} {d e : PyData} {i j : Int} {ds es : List PyData}
variable {c : Addr → Prop} {Hf H : Hp} {σ : L2.St} {fp : List (List Addr)}
theorem ro_I0 {g : Int → Int → V} {gd : PyData} (h : ∀ H, Rp K H (g i j) gd) : Ro K (rI0 g) (.dat (.int i)) (.dat (.int j)) S (.dat gd) S := fun c Hf H σ fp ok v u rv ru Q q => by
  cases rv
  cases ru
  exact ⟨i, j, rfl, rfl, q _ _ _ _ ok Gr.refl (h Hf)⟩
theorem ro_I {C : Int → Int → Prop} {g : Int → Int → V} {gd : PyData} (h : ∀ H, Rp K H (g i j) gd) (hc : C i j) : Ro K (rI C g) (.dat (.int i)) (.dat (.int j)) S (.dat gd) S := fun c Hf H σ fp ok v u rv ru Q q => by
  cases rv
  cases ru
  exact ⟨i, j, rfl, rfl, hc, q _ _ _ _ ok Gr.refl (h Hf)⟩
theorem ro_l {r r' : R2} (h : Ro K r x y S z S1) : Ro K (fun x y H Q => r x y H Q ∨ r' x y H Q) x y S z S1 := fun c Hf H σ fp ok v u rv ru Q q => .inl (h c Hf H σ fp ok v u rv ru Q q)
theorem ro_r {r r' : R2} (h : Ro K r' x y S z S1) : Ro K (fun x y H Q => r x y H Q ∨ r' x y H Q) x y S z S1 := fun c Hf H σ fp ok v u rv ru Q q => .inr (h c Hf H σ fp ok v u rv ru Q q)
theorem rol_l {r r' : R2} (h : RoL K r x y S ds S1) : RoL K (fun x y H Q => r x y H Q ∨ r' x y H Q) x y S ds S1 := fun c Hf H σ fp ok v u rv ru Q q => .inl (h c Hf H σ fp ok v u rv ru Q q)
theorem rol_r {r r' : R2} (h : RoL K r' x y S ds S1) : RoL K (fun x y H Q => r x y H Q ∨ r' x y H Q) x y S ds S1 := fun c Hf H σ fp ok v u rv ru Q q => .inr (h c Hf H σ fp ok v u rv ru Q q)
theorem ro_add : Ro K (rPlus K) (.dat (.int i)) (.dat (.int j)) S (.dat (.int (i + j))) S := ro_l (ro_I0 fun _ => .int _)
theorem ro_sub : Ro K rSub' (.dat (.int i)) (.dat (.int j)) S (.dat (.int (i - j))) S := ro_I0 fun _ => .int _
theorem ro_mulL (h : -(2 ^ 64) < i ∧ i < 2 ^ 64 := by decide) : Ro K (rMulU K) (.dat (.int i)) (.dat (.int j)) S (.dat (.int (i * j))) S := ro_l (ro_I (fun _ => .int _) (.inl h))
theorem ro_mulR (h : -(2 ^ 64) < j ∧ j < 2 ^ 64 := by decide) : Ro K (rMulU K) (.dat (.int i)) (.dat (.int j)) S (.dat (.int (i * j))) S := ro_l (ro_I (fun _ => .int _) (.inr h))
theorem ro_mulW (h : CMulW i j) : Ro K (rMulU K) (.dat (.int i)) (.dat (.int j)) S (.dat (.int (i * j))) S := ro_r (ro_l (ro_I (fun _ => .int _) h))
theorem ro_mod (h : 0 < j := by decide) : Ro K rMod' (.dat (.int i)) (.dat (.int j)) S (.dat (.int (i % j))) S := ro_I (fun _ => .int _) h
theorem ro_div (h : CDivW i j) : Ro K rDiv' (.dat (.int i)) (.dat (.int j)) S (.dat (.int (i / j))) S := ro_I (fun _ => .int _) h
theorem ro_pow (h : CPow i j := by unfold CPow; decide) : Ro K rPow' (.dat (.int i)) (.dat (.int j)) S (.dat (.int (i ^ j.toNat))) S := ro_I (fun _ => .int _) h
theorem ro_le : Ro K (rLeU K) (.dat (.int i)) (.dat (.int j)) S (.dat (.bool (decide (i ≤ j)))) S := ro_l (ro_I0 fun _ => .bl _)
theorem ro_lt : Ro K (rLtU K) (.dat (.int i)) (.dat (.int j)) S (.dat (.bool (decide (i < j)))) S := ro_l (ro_I0 fun _ => .bl _)
theorem ro_gt : Ro K (rGtU K) (.dat (.int i)) (.dat (.int j)) S (.dat (.bool (decide (j < i)))) S := ro_l (ro_I0 fun _ => .bl _)
theorem ro_ge : Ro K rGe' (.dat (.int i)) (.dat (.int j)) S (.dat (.bool (decide (j ≤ i)))) S := ro_I0 fun _ => .bl _
/-- x is None, where x is data -/
def isNoD : PyData → Bool
  | .none => true
  | _ => false
theorem rp_non {v : V} (h : Rp K H v d) : decide (v = .non) = isNoD d := by cases h <;> rfl
theorem ro_is : Ro K rIsNo (.dat d) (.dat .none) S (.dat (.bool (isNoD d))) S := fun c Hf H σ fp ok v u rv ru Q q => by
  have e := rp_non (show Rp K Hf v d from rv)
  cases ru
  exact ⟨rfl, by rw [e]; exact q _ _ _ _ ok Gr.refl (Rp.bl _)⟩
theorem ro_isnot : Ro K rNotNo (.dat d) (.dat .none) S (.dat (.bool (!isNoD d))) S := fun c Hf H σ fp ok v u rv ru Q q => by
  have e := rp_non (show Rp K Hf v d from rv)
  cases ru
  exact ⟨rfl, by rw [e]; exact q _ _ _ _ ok Gr.refl (Rp.bl _)⟩
/-- data that is read as the library's own relation tells it -/
theorem dp_ofs : (∀ (v : V) (d : PyData) (_ : Rp K H v d), d.hasDict = false → Dp K H v d) ∧ (∀ (vs : List V) (ds : List PyData) (_ : RpA K H vs ds), PyData.hasDictAll ds = false → DpAll K H vs ds) := by
  have key : ∀ n : Nat, (∀ (v : V) (d : PyData), sizeOf d ≤ n → Rp K H v d → d.hasDict = false → Dp K H v d) ∧ (∀ (vs : List V) (ds : List PyData), sizeOf ds ≤ n → RpA K H vs ds → PyData.hasDictAll ds = false → DpAll K H vs ds) := by
    intro n
    induction n with
    | zero =>
      refine ⟨fun v d hn => ?_, fun vs ds hn => ?_⟩
      · cases d <;> simp at hn
      · cases ds <;> simp at hn
    | succ n ih =>
      refine ⟨fun v d hn h e => ?_, fun vs ds hn h e => ?_⟩
      · cases h with
        | non => exact .non
        | bl b => exact .bl b
        | int i => exact .int i
        | str x => exact .str x
        | lst h r => exact .lst (.inl (.inl h)) (ih.2 _ _ (by simp at hn; omega) r (by simpa [PyData.hasDict] using e))
        | tup h r => exact .tup h (ih.2 _ _ (by simp at hn; omega) r (by simpa [PyData.hasDict] using e))
        | emp h => simp [PyData.hasDict] at e
      · cases h with
        | nil => exact .nil
        | cons h t =>
          rw [PyData.hasDictAll, Bool.or_eq_false_iff] at e
          simp at hn
          exact .cons (ih.1 _ _ (by omega) h e.1) (ih.2 _ _ (by omega) t e.2)
  exact ⟨fun v d h e => (key _).1 v d (Nat.le_refl _) h e, fun vs ds h e => (key _).2 vs ds (Nat.le_refl _) h e⟩
/-- what is known of a value, read as data; as a list -/
inductive AsD (S : SS) : SD → PyData → Prop
  | dat (d : PyData) : AsD S (.dat d) d
  | own {k : Nat} {ds : List PyData} (h : S.ob[k]? = some (.lst ds)) : AsD S (.own k) (.list ds)
  | ownP {k : Nat} {ds : List PyData} (h : S.ob[k]? = some (.lstP ds)) : AsD S (.own k) (.list ds)
theorem Okk.obP (h : Okk K c Hf H σ fp S) {k : Nat} {ds : List PyData} {v : V} (e : S.ob[k]? = some (.lstP ds)) (hv : SRl K Hf fp (some v) (.own k)) : ∃ a xs, v = .ref a ∧ fp[k]? = some [a] ∧ H a = some (.lst xs) ∧ RpA K Hf xs ds := by
  obtain ⟨a, r, h1, h2⟩ := hv
  obtain ⟨a', xs, q, h3, h4⟩ := h.hd.oo k _ _ h1 e
  have q1 : a = a' ∧ r = [] := by simpa using q
  obtain ⟨rfl, rfl⟩ := q1
  exact ⟨a, xs, h2, h1, h3, h4⟩
theorem Okk.asL (ok : Okk K c Hf H σ fp S) {v : V} (r : SRl K Hf fp (some v) x) (h : AsD S x (.list ds)) : ∃ a xs, v = .ref a ∧ H a = some (.lst xs) ∧ RpA K Hf xs ds := by
  cases h with
  | dat _ =>
    cases r with
    | lst h1 h2 => exact ⟨_, _, rfl, ok.hd.ex _ _ h1, h2⟩
  | own ho =>
    obtain ⟨a, xs, h1, _, h3, h4⟩ := ok.obL ho r
    exact ⟨a, xs, h1, h3, h4⟩
  | ownP ho =>
    obtain ⟨a, xs, h1, _, h3, h4⟩ := ok.obP ho r
    exact ⟨a, xs, h1, h3, h4⟩
theorem Okk.asDp (ok : Okk K c Hf H σ fp S) {v : V} (r : SRl K Hf fp (some v) x) (h : AsD S x d) (e : d.hasDict = false) : Dp K H v d := by
  cases h with
  | dat _ => exact dp_ofs.1 _ _ (Rp.mono ok.hd.ex r) e
  | own ho =>
    obtain ⟨a, xs, rfl, _, h3, h4⟩ := ok.obL ho r
    exact .lst (.inl (.inl h3)) (dp_ofs.2 _ _ (h4.mono ok.hd.ex) (by simpa [PyData.hasDict] using e))
  | ownP ho =>
    obtain ⟨a, xs, rfl, _, h3, h4⟩ := ok.obP ho r
    exact .lst (.inl (.inl h3)) (dp_ofs.2 _ _ (h4.mono ok.hd.ex) (by simpa [PyData.hasDict] using e))
theorem shaped_noDict (h : SeqAt.shaped d = true) : d.hasDict = false := by
  unfold SeqAt.shaped at h
  rw [Bool.and_eq_true] at h
  exact PyData.hasDict_of_canLay d h.1
theorem ro_eqD (hx : AsD S x d) (hy : AsD S y e) (h1 : SeqAt.shaped d = true) (h2 : SeqAt.shaped e = true) : Ro K (rEqU K) x y S (.dat (.bool (PyData.eqv d e))) S := fun c Hf H σ fp ok v u rv ru Q q =>
  .inr (.inl ⟨d, e, ok.asDp rv hx (shaped_noDict h1), ok.asDp ru hy (shaped_noDict h2), h1, h2, q _ _ _ _ ok Gr.refl (Rp.bl _)⟩)
theorem ro_eqE (hx : AsD S x (.list ds)) (hy : AsD S y (.list [])) : Ro K (rEqU K) x y S (.dat (.bool ds.isEmpty)) S := fun c Hf H σ fp ok v u rv ru Q q => by
  obtain ⟨a, xs, rfl, h1, h2⟩ := ok.asL rv hx
  obtain ⟨b, zs, rfl, h3, h4⟩ := ok.asL ru hy
  cases h4
  refine .inr (.inr ⟨a, b, xs, rfl, rfl, h1, h3, ?_⟩)
  have e : xs.isEmpty = ds.isEmpty := by
    cases h2 <;> rfl
  rw [e]
  exact q _ _ _ _ ok Gr.refl (Rp.bl _)
theorem ro_neD (hx : AsD S x d) (hy : AsD S y e) (h1 : SeqAt.shaped d = true) (h2 : SeqAt.shaped e = true) : Ro K (rNeU K) x y S (.dat (.bool (!PyData.eqv d e))) S := fun c Hf H σ fp ok v u rv ru Q q =>
  .inr ⟨d, e, ok.asDp rv hx (shaped_noDict h1), ok.asDp ru hy (shaped_noDict h2), h1, h2, q _ _ _ _ ok Gr.refl (Rp.bl _)⟩
theorem int_dec : decide (V.int i = V.int j) = decide (i = j) := by
  by_cases h : i = j
  · subst h
    simp
  · rw [decide_eq_false h, decide_eq_false fun z => h (V.int.inj z)]
theorem str_dec {a b : Str} : decide (V.str a = V.str b) = decide (a = b) := by
  by_cases h : a = b
  · subst h
    simp
  · rw [decide_eq_false h, decide_eq_false fun z => h (V.str.inj z)]
theorem ro_eqI : Ro K (rEqU K) (.dat (.int i)) (.dat (.int j)) S (.dat (.bool (decide (i = j)))) S := fun c Hf H σ fp ok v u rv ru Q q => by
  cases rv
  cases ru
  exact .inl ⟨rfl, by rw [int_dec]; exact q _ _ _ _ ok Gr.refl (Rp.bl _)⟩
theorem ro_neI : Ro K (rNeU K) (.dat (.int i)) (.dat (.int j)) S (.dat (.bool (!decide (i = j)))) S := fun c Hf H σ fp ok v u rv ru Q q => by
  cases rv
  cases ru
  exact .inl ⟨rfl, by rw [int_dec]; exact q _ _ _ _ ok Gr.refl (Rp.bl _)⟩
theorem ro_eqS {a b : Str} : Ro K (rEqU K) (.dat (.str a)) (.dat (.str b)) S (.dat (.bool (decide (a = b)))) S := fun c Hf H σ fp ok v u rv ru Q q => by
  cases rv
  cases ru
  exact .inl ⟨rfl, by rw [str_dec]; exact q _ _ _ _ ok Gr.refl (Rp.bl _)⟩
theorem ro_neS {a b : Str} : Ro K (rNeU K) (.dat (.str a)) (.dat (.str b)) S (.dat (.bool (!decide (a = b)))) S := fun c Hf H σ fp ok v u rv ru Q q => by
  cases rv
  cases ru
  exact .inl ⟨rfl, by rw [str_dec]; exact q _ _ _ _ ok Gr.refl (Rp.bl _)⟩
/-- two lists in one new list; two tuples in one -/
theorem rol_cat (hx : AsD S x (.list ds)) (hy : AsD S y (.list es)) (hl : ds.length + es.length ≤ 1000000) : RoL K (rPlus K) x y S (ds ++ es) S := fun c Hf H σ fp ok v u rv ru Q q => by
  obtain ⟨a, xs, rfl, h1, h2⟩ := ok.asL rv hx
  obtain ⟨b, zs, rfl, h3, h4⟩ := ok.asL ru hy
  refine .inr (.inl ⟨a, b, xs, zs, rfl, rfl, h1, h3, ?_, fun p hp => ?_⟩)
  · rw [h2.len, h4.len]
    exact Nat.le_trans hl (by decide)
  · obtain ⟨ok2, g2, al⟩ := ok.alone hp (h2.append h4)
    exact q p _ _ _ ok2 g2 hp al
theorem ro_catT (hl : ds.length + es.length ≤ 1000000) : Ro K (rPlus K) (.dat (.tuple ds)) (.dat (.tuple es)) S (.dat (.tuple (ds ++ es))) S := fun c Hf H σ fp ok v u rv ru Q q => by
  cases rv with
  | tup h1 h2 => cases ru with
    | tup h3 h4 =>
      refine .inr (.inr (.inl ⟨_, _, _, _, rfl, rfl, sameT ok.hd.ex h1, sameT ok.hd.ex h3, ?_, fun e => ?_, fun _ e => ?_, fun _ _ p hp => ?_⟩))
      · rw [h2.len, h4.len]
        exact Nat.le_trans hl (by decide)
      · subst e
        cases h2
        exact q _ _ _ _ ok Gr.refl (Rp.tup h3 h4)
      · subst e
        cases h4
        refine q _ _ _ _ ok Gr.refl ?_
        rw [List.append_nil]
        exact Rp.tup h1 h2
      · obtain ⟨ok2, g2⟩ := ok.laid (.tup _) hp
        exact q _ _ _ _ ok2 g2 (Rp.tup (.inl (.inl upd_same)) ((h2.append h4).mono g2.sm))
/-! ### items -/
def ixD (ds : List PyData) (i : Int) : Option PyData := atI ds i
theorem ix_len {α β : Type} {xs : List α} {ds : List β} (h : xs.length = ds.length) (i : Int) : ixN xs.length i = ixN ds.length i := by rw [h]
theorem atI_rp {xs : List V} (h : RpA K Hf xs ds) (e : atI ds i = some d) : ∃ v, atI xs i = some v ∧ Rp K Hf v d := by
  unfold atI at e ⊢
  rw [h.len]
  cases q : ixN ds.length i with
  | none =>
    rw [q] at e
    cases e
  | some j =>
    rw [q] at e
    exact h.get (show ds[j]? = some d from e)
theorem ro_ixL (hx : AsD S x (.list ds)) (e : atI ds i = some d) : Ro K (rIx K) x (.dat (.int i)) S (.dat d) S := fun c Hf H σ fp ok v u rv ru Q q => by
  obtain ⟨a, xs, rfl, h1, h2⟩ := ok.asL rv hx
  obtain ⟨w, h3, h4⟩ := atI_rp h2 e
  cases ru
  exact .inl ⟨a, xs, i, w, rfl, rfl, .inl (.inl h1), h3, q _ _ _ _ ok Gr.refl h4⟩
theorem ro_ixT (e : atI ds i = some d) : Ro K (rIx K) (.dat (.tuple ds)) (.dat (.int i)) S (.dat d) S := fun c Hf H σ fp ok v u rv ru Q q => by
  cases rv with
  | tup h1 h2 =>
    obtain ⟨w, h3, h4⟩ := atI_rp h2 e
    cases ru
    exact .inr (.inl ⟨_, _, i, w, rfl, rfl, sameT ok.hd.ex h1, h3, q _ _ _ _ ok Gr.refl h4⟩)
/-! ### slices -/
def Eo (K : PySem.W.Frag) (to : TO) (S : SS) (o : Option Int) (S' : SS) : Prop := ∀ c Hf H σ fp, Okk K c Hf H σ fp S → ∀ Q : Option Int → Hp → Prop, (∀ Hf' H' fp', Okk K c Hf' H' σ fp' S' → Gr Hf H fp Hf' H' fp' → Q o H') → to σ H Q
theorem eo_none : Eo K tNoPart S none S := fun c Hf H σ fp ok Q q => q _ _ _ ok Gr.refl
theorem eo_some (h : Ee K te S (.dat (.int i)) S1) : Eo K (tPart te) S (some i) S1 := fun c Hf H σ fp ok Q q => h c Hf H σ fp ok _ fun v Hf1 H1 fp1 ok1 g1 r1 => by
  cases r1
  exact ⟨i, rfl, q _ _ _ ok1 g1⟩
def cutD (ds : List PyData) (lo hi : Option Int) : List PyData := (ds.drop (HT.sIx ds.length 0 lo)).take (HT.sIx ds.length ds.length hi - HT.sIx ds.length 0 lo)
theorem cutD_rp {xs : List V} (h : RpA K Hf xs ds) {lo hi : Option Int} : RpA K Hf (cutV xs lo hi) (cutD ds lo hi) := by
  unfold cutV cutD
  rw [h.len]
  exact (h.drop _).take _
theorem ee_revT (h : Ee K te S (.dat (.tuple ds)) S1) : Ee K (tRevT K te) S (.dat (.tuple ds.reverse)) S1 := fun c Hf H σ fp ok Q q =>
  h c Hf H σ fp ok _ fun v Hf1 H1 fp1 ok1 g1 r1 => by
    cases r1 with
    | tup h1 h2 =>
      refine ⟨_, _, rfl, sameT ok1.hd.ex h1, fun p hp => ?_⟩
      obtain ⟨ok2, g2⟩ := ok1.laid (.tup _) hp
      exact q _ _ _ _ ok2 (g1.trans g2) (Rp.tup (.inl (.inl upd_same)) (h2.reverse.mono g2.sm))
/-! ### built-ins by their names -/
theorem SRA.one {vs : List V} (r : SRA K Hf fp vs [x]) : ∃ v, vs = [v] ∧ SRl K Hf fp (some v) x := by
  cases r with
  | cons h t =>
    cases t
    exact ⟨_, rfl, h⟩
theorem SRA.two {vs : List V} (r : SRA K Hf fp vs [x, y]) : ∃ v u, vs = [v, u] ∧ SRl K Hf fp (some v) x ∧ SRl K Hf fp (some u) y := by
  cases r with
  | cons h t =>
    obtain ⟨u, rfl, h2⟩ := SRA.one t
    exact ⟨_, u, rfl, h, h2⟩
def rLen (K : PySem.W.Frag) : List V → Hp → VK → Prop := fun xs H Q => ∃ x n, xs = [x] ∧ LenV K x H n ∧ Q (.int n) H
def rAbs : List V → Hp → VK → Prop := fun xs H Q => ∃ i, xs = [.int i] ∧ Q (.int (if i < 0 then -i else i)) H
def rInt1 : List V → Hp → VK → Prop := fun xs H Q => (∃ i, xs = [.int i] ∧ Q (.int i) H) ∨ ∃ k, xs = [.bl k] ∧ Q (.int (if k then 1 else 0)) H
def rListOf (K : PySem.W.Frag) : List V → Hp → VK → Prop := fun xs H Q => ∃ p ys, xs = [.ref p] ∧ (SqL K H p ys ∨ SqT K H p ys) ∧ ∀ l, H l = none → Q (.ref l) (upd H l (.lst ys))
def rTupleOf (K : PySem.W.Frag) : List V → Hp → VK → Prop := fun xs H Q => ∃ p ys, xs = [.ref p] ∧ ((SqL K H p ys ∧ ∀ l, H l = none → Q (.ref l) (upd H l (.tup ys))) ∨ (SqT K H p ys ∧ Q (.ref p) H))
theorem rc_lenL (h : AsD S x (.list ds)) : Rc K (rLen K) [x] S (.dat (.int ds.length)) S := fun c Hf H σ fp ok vs r Q q => by
  obtain ⟨v, rfl, rv⟩ := r.one
  obtain ⟨a, xs, rfl, h1, h2⟩ := ok.asL rv h
  refine ⟨_, ds.length, rfl, .inl ⟨xs, .inl (.inl h1), h2.len.symm⟩, q _ _ _ _ ok Gr.refl (Rp.int _)⟩
theorem rc_lenT : Rc K (rLen K) [.dat (.tuple ds)] S (.dat (.int ds.length)) S := fun c Hf H σ fp ok vs r Q q => by
  obtain ⟨v, rfl, rv⟩ := r.one
  cases rv with
  | tup h1 h2 => exact ⟨_, ds.length, rfl, .inr ⟨_, sameT ok.hd.ex h1, h2.len.symm⟩, q _ _ _ _ ok Gr.refl (Rp.int _)⟩
theorem rc_lenScr {ns : List Int} : Rc K (rLen K) [.scr ns] S (.dat (.int ns.length)) S := fun c Hf H σ fp ok vs r Q q => by
  obtain ⟨v, rfl, a, rfl, h⟩ := r.one
  exact ⟨_, ns.length, rfl, .inl ⟨_, ok.hd.ex.seq h, by rw [List.length_map]⟩, q _ _ _ _ ok Gr.refl (Rp.int _)⟩
theorem rc_abs : Rc K rAbs [.dat (.int i)] S (.dat (.int (if i < 0 then -i else i))) S := fun c Hf H σ fp ok vs r Q q => by
  obtain ⟨v, rfl, rv⟩ := r.one
  cases rv
  exact ⟨i, rfl, q _ _ _ _ ok Gr.refl (Rp.int _)⟩
theorem rc_intI : Rc K rInt1 [.dat (.int i)] S (.dat (.int i)) S := fun c Hf H σ fp ok vs r Q q => by
  obtain ⟨v, rfl, rv⟩ := r.one
  cases rv
  exact .inl ⟨i, rfl, q _ _ _ _ ok Gr.refl (Rp.int _)⟩
theorem rc_intB {b : Bool} : Rc K rInt1 [.dat (.bool b)] S (.dat (.int (if b then 1 else 0))) S := fun c Hf H σ fp ok vs r Q q => by
  obtain ⟨v, rfl, rv⟩ := r.one
  cases rv
  exact .inr ⟨b, rfl, q _ _ _ _ ok Gr.refl (Rp.int _)⟩
theorem rcl_listL (h : AsD S x (.list ds)) : RcL K (rListOf K) [x] S ds S := fun c Hf H σ fp ok vs r Q q => by
  obtain ⟨v, rfl, rv⟩ := r.one
  obtain ⟨a, xs, rfl, h1, h2⟩ := ok.asL rv h
  refine ⟨a, xs, rfl, .inl (.inl (.inl h1)), fun p hp => ?_⟩
  obtain ⟨ok2, g2, al⟩ := ok.alone hp h2
  exact q p _ _ _ ok2 g2 hp al
theorem rcl_listT : RcL K (rListOf K) [.dat (.tuple ds)] S ds S := fun c Hf H σ fp ok vs r Q q => by
  obtain ⟨v, rfl, rv⟩ := r.one
  cases rv with
  | tup h1 h2 =>
    refine ⟨_, _, rfl, .inr (sameT ok.hd.ex h1), fun p hp => ?_⟩
    obtain ⟨ok2, g2, al⟩ := ok.alone hp h2
    exact q p _ _ _ ok2 g2 hp al
theorem rc_tupL (h : AsD S x (.list ds)) : Rc K (rTupleOf K) [x] S (.dat (.tuple ds)) S := fun c Hf H σ fp ok vs r Q q => by
  obtain ⟨v, rfl, rv⟩ := r.one
  obtain ⟨a, xs, rfl, h1, h2⟩ := ok.asL rv h
  refine ⟨a, xs, rfl, .inl ⟨.inl (.inl h1), fun p hp => ?_⟩⟩
  obtain ⟨ok2, g2⟩ := ok.laid (.tup _) hp
  exact q _ _ _ _ ok2 g2 (Rp.tup (.inl (.inl upd_same)) (h2.mono g2.sm))
theorem rc_tupT : Rc K (rTupleOf K) [.dat (.tuple ds)] S (.dat (.tuple ds)) S := fun c Hf H σ fp ok vs r Q q => by
  obtain ⟨v, rfl, rv⟩ := r.one
  cases rv with
  | tup h1 h2 => exact ⟨_, _, rfl, .inr ⟨sameT ok.hd.ex h1, q _ _ _ _ ok Gr.refl (Rp.tup h1 h2)⟩⟩
/-! ### isinstance -/
def tyD : PyData → String
  | .none => "NoneType"
  | .bool _ => "bool"
  | .int _ => "int"
  | .str _ => "str"
  | .list _ => "list"
  | .tuple _ => "tuple"
  | .dict _ => "dict"
theorem ee_ty {n : String} : ∀ c Hf H σ fp, Okk K c Hf H σ fp S → ∀ Q : VK, Q (.ty n) H → tC (.ty n) σ H Q := fun _ _ _ _ _ _ _ q => q
theorem ee_isi {n : String} {b : Bool} (h : Ee K te S (.dat d) S1) (hk : PySem.W.kitOne K (.type (tyD d)) (.type n) = some b) : Ee K (tCB (rIsi K) (tCons te (tCons (tC (.ty n)) tNil))) S (.dat (.bool b)) S1 := fun c Hf H σ fp ok Q q =>
  h c Hf H σ fp ok _ fun v Hf1 H1 fp1 ok1 g1 r1 => by
    have fin : ∀ {t : Value}, TyX K H1 v t → t = .type (tyD d) → rIsi K [v, .ty n] H1 Q := fun {t} ty e => ⟨v, .ty n, t, .type n, b, rfl, .ty n, ty, by rw [e]; exact hk, q _ _ _ _ ok1 g1 (Rp.bl _)⟩
    have r2 : Rp K H1 v d := Rp.mono ok1.hd.ex r1
    cases r2 with
    | non => exact fin (.base .non) rfl
    | bl b => exact fin (.base (.bl b)) rfl
    | int i => exact fin (.base (.int i)) rfl
    | str x => exact fin (.base (.str x)) rfl
    | lst h1 h2 => exact fin (.base (.lst h1)) rfl
    | emp h1 => exact fin (.base (.dK h1)) rfl
    | tup h1 h2 =>
      rcases h1 with (h1 | ⟨o, h1⟩) | ⟨o, its, n', h1, h3, _⟩
      · exact fin (.base (.tup h1)) rfl
      · exact fin (.fTuple h1) rfl
      · exact fin (.kTuple h1 h3) rfl
end
end DL

set_option maxRecDepth 100000
set_option maxHeartbeats 1000000
namespace DL
open PySem PySem.Spec PyProof.Rows L2

/-! ### repr of data -/
section
variable {X : Cx} {pins : List (Addr × Obj)} {σ : L2.St} {H : Hp} {s : Shared}
/-- data that stands in a heap is shown as its text; a dict is never the table of the modules -/
theorem shows_of (I : Inv X pins σ H s) : ∀ n : Nat,
    (∀ (d : PyData) (v : V) (u : Value), sizeOf d ≤ n → Rp X.K H v d → RelV v u → d.showable = true → d.shown.length ≤ sizeLine → ∃ as bs, Reads s.heap u d as ∧ ReadAtMost s.heap d.depth bs ∧ ReprK X.prog X.w bs s.heap d.depth u d.shown) ∧
    (∀ (ds : List PyData) (vs : List V) (us : List Value), sizeOf ds ≤ n → RpA X.K H vs ds → Vals vs us → PyData.showableAll ds = true → (∀ t ∈ PyData.shownAll ds, t.length ≤ sizeLine) →
      ∃ as bs, ReadsAll s.heap us ds as ∧ ReadAtMost s.heap (PyData.depthAll ds) bs ∧ ReprAllK X.prog X.w bs s.heap (PyData.depthAll ds) us (PyData.shownAll ds))
  | 0 => ⟨fun d v u hn => by cases d <;> simp at hn, fun ds vs us hn => by cases ds <;> simp at hn⟩
  | n + 1 => by
    obtain ⟨ih1, ih2⟩ := shows_of I n
    have no : ∀ k, ReadAtMost s.heap k [] := fun k b h => nomatch h
    refine ⟨fun d v u hn h r hs hz => ?_, fun ds vs us hn h r hs hz => ?_⟩
    · cases h with
      | non => cases (show u = Value.none from r); exact ⟨[], [], .none, no _, .of_is ReprIs.none _ _ _⟩
      | bl b => cases (show u = Value.bool b from r); exact ⟨[], [], .bool b, no _, .of_is (ReprIs.bool b) _ _ _⟩
      | int i => obtain ⟨t, q⟩ := (show ∃ t, u = Value.int i t from r); cases q; exact ⟨[], [], .int i t, no _, .of_is (ReprIs.int t (by simpa [PyData.showable] using hs)) _ _ _⟩
      | str x => obtain ⟨t, q⟩ := (show ∃ t, u = Value.str x t from r); cases q; exact ⟨[], [], .str x t, no _, .of_is (ReprIs.str x t (by simpa only [PyData.shown] using hz)) _ _ _⟩
      | @lst a xs ds h1 h2 =>
        cases (show u = Value.ref a from r)
        obtain ⟨_, its, m, rv, e⟩ := (show ObjOk X.prog X.w H s.heap a (.lst xs) from I.hok a _ h1)
        have hz2 : (listText (PyData.shownAll ds)).length ≤ sizeLine := by simpa only [PyData.shown] using hz
        obtain ⟨as, bs, r1, r2, r3⟩ := ih2 ds xs its (by simp at hn; omega) h2 rv (by simpa [PyData.showable] using hs) fun t ht => Nat.le_trans (listText_mem_le ht) hz2
        have rr : Reads s.heap (.ref a) (.list ds) (a :: as) := .list e rfl rfl (by simpa using r1)
        have out : a ∉ bs := not_mem_of_deeper rr (by rw [PyData.depth]; omega) r2
        refine ⟨_, a :: bs, rr, .cons rr (by rw [PyData.depth]; omega) r2, ?_⟩
        rw [PyData.depth, PyData.shown]
        cases its with
        | nil =>
          cases r3' : ds with
          | nil =>
            rw [PyData.shownAll, listText_nil]
            exact ReprK.listEmpty e rfl rfl
          | cons y ys =>
            rw [r3'] at r1
            cases r1
        | cons y ys => exact ReprK.list e rfl rfl out (by simpa using r3.length_eq) fun i z q => r3.item i z (by simpa using q)
      | @tup a xs ds h1 h2 =>
        cases (show u = Value.ref a from r)
        obtain ⟨its, rv, p, _⟩ := I.tuple h1
        obtain ⟨o, e, c, m, dd⟩ := p
        have hz2 : (tupleText (PyData.shownAll ds)).length ≤ sizeLine := by simpa only [PyData.shown] using hz
        obtain ⟨as, bs, r1, r2, r3⟩ := ih2 ds xs its (by simp at hn; omega) h2 rv (by simpa [PyData.showable] using hs) fun t ht => Nat.le_trans (tupleText_mem_le ht) hz2
        have rr : Reads s.heap (.ref a) (.tuple ds) as := .tuple e c dd (by simpa using r1)
        have out : a ∉ bs := not_mem_of_deeper rr (by rw [PyData.depth]; omega) r2
        refine ⟨_, a :: bs, rr, .cons rr (by rw [PyData.depth]; omega) r2, ?_⟩
        rw [PyData.depth, PyData.shown]
        exact ReprK.tuple e c dd out (by simpa using r3)
      | @emp a h1 =>
        cases (show u = Value.ref a from r)
        obtain ⟨_, hm, vs, kv, o, es, ep, e, ex, q⟩ := (show ObjOk X.prog X.w H s.heap a (.dK []) from I.hok a _ h1)
        cases kv
        obtain ⟨q1, q2, q3, q4⟩ := q
        have he : es.toList = [] := by
          cases hl : es.toList with
          | nil => rfl
          | cons y ys =>
            rw [hl] at q3
            cases q3
        have rr : Reads s.heap (.ref a) (.dict []) [a] := .dict (es := es) (n := ep) (as := []) (bs := []) e ex.1 q1 (by
          rw [he]
          exact .nil) (by
          rw [he]
          exact .nil)
        refine ⟨_, [a], rr, .cons (bs := []) rr (by rw [PyData.depth]; omega) (no 0), ?_⟩
        refine ReprK.dict (as := []) e ex.1 q1 hm (by simp) ?_
        rw [he]
        exact .nil
    · cases h with
      | nil => cases r; exact ⟨[], [], .nil, no _, .nil⟩
      | cons h t => cases r with
        | cons r1 r2 =>
          simp at hn
          rw [PyData.showableAll, Bool.and_eq_true] at hs
          rw [PyData.shownAll] at hz
          obtain ⟨as, cs, a1, a2, a3⟩ := ih1 _ _ _ (by omega) h r1 hs.1 (hz _ List.mem_cons_self)
          obtain ⟨bs, ds, b1, b2, b3⟩ := ih2 _ _ _ (by omega) t r2 hs.2 fun y hy => hz y (List.mem_cons_of_mem _ hy)
          refine ⟨as ++ bs, cs ++ ds, .cons a1 b1, ?_, ?_⟩
          · rw [PyData.depthAll]
            exact (a2.mono (Nat.le_max_left _ _)).append (b2.mono (Nat.le_max_right _ _))
          · rw [PyData.depthAll, PyData.shownAll]
            exact .cons ((a3.more fun _ m => List.mem_append_left _ m).level_le (Nat.le_max_left _ _)) (b3.more_le (fun _ m => List.mem_append_right _ m) (Nat.le_max_right _ _))
def rRepr (K : PySem.W.Frag) : List V → Hp → VK → Prop := fun xs H Q => ∃ v d, xs = [v] ∧ Rp K H v d ∧ d.showable = true ∧ d.depth ≤ 64 ∧ d.shown.length ≤ sizeLine ∧ Q (.str d.shown) H
theorem call_reprD (gd : X.A.guards = some []) (hu : X.A.units + 100 < cLine) : CallR X (.builtin "repr") (rRepr X.K) := by
  intro pins s σ H xs us Q I r h
  obtain ⟨v, d, rfl, rp, hs, hd, hz, q⟩ := h
  obtain ⟨u, rfl, ru⟩ := vals1 r
  have fin : ∀ t : Nat, EP X pins σ Q (.str d.shown t) { s with toks := s.toks + 1 } := fun t => ⟨.str d.shown, H, I.tok _, ⟨t, rfl⟩, q⟩
  have fin2 : ∀ (h' : Heap) (u t : Nat), (∀ b o, s.heap.get? b = some o → h'.get? b = some o) → EP X pins σ Q (.str d.shown u) { s with heap := h', toks := t } := fun h' u t hk => ⟨.str d.shown, H, I.kept hk, ⟨u, rfl⟩, q⟩
  have self : ∀ b o, s.heap.get? b = some o → s.heap.get? b = some o := fun _ _ e => e
  cases rp with
  | non =>
    cases (show u = Value.none from ru)
    exact PySem.P.repr_of_none (by simpa only [PyData.shown] using fin _)
  | bl b =>
    cases (show u = Value.bool b from ru)
    exact PySem.P.repr_of_bool (by simpa only [PyData.shown] using fin _)
  | int i =>
    obtain ⟨t, e⟩ := (show ∃ t, u = Value.int i t from ru)
    subst e
    exact PySem.P.repr_of_int (by simpa [PyData.showable] using hs) (by simpa only [PyData.shown] using fin _)
  | str x =>
    obtain ⟨t, e⟩ := (show ∃ t, u = Value.str x t from ru)
    subst e
    exact PySem.P.repr_of_str (by simpa only [PyData.shown] using fin _) (by simpa only [PyData.shown] using hz)
  | @lst a xs ds h1 h2 =>
    cases (show u = Value.ref a from ru)
    obtain ⟨_, its, m, rv, e⟩ := (show ObjOk X.prog X.w H s.heap a (.lst xs) from I.hok a _ h1)
    have hz2 : (listText (PyData.shownAll ds)).length ≤ sizeLine := by simpa only [PyData.shown] using hz
    obtain ⟨as, bs, r1, r2, r3⟩ := (shows_of I _).2 ds xs its (Nat.le_refl _) h2 rv (by simpa [PyData.showable] using hs) fun t ht => Nat.le_trans (listText_mem_le ht) hz2
    have rr : Reads s.heap (.ref a) (.list ds) (a :: as) := .list e rfl rfl (by simpa using r1)
    have out : a ∉ bs := not_mem_of_deeper rr (by rw [PyData.depth]; omega) r2
    rw [PyData.shown] at fin2
    rw [PyData.depth] at hd
    refine call_repr_slot (by omega) ⟨_, e, rfl⟩ F.slot_list_repr.toG ?_
    cases its with
    | nil =>
      cases r3' : ds with
      | nil =>
        rw [r3', PyData.shownAll, listText_nil] at fin2
        exact call_list_repr_empty ⟨_, e, rfl⟩ e rfl ⟨_, _, rfl, fin2 s.heap _ _ self⟩
      | cons y ys =>
        rw [r3'] at r1
        cases r1
    | cons y ys => exact call_list_reprK e rfl rfl out (by simpa using r3.length_eq) (fun i z q => r3.item i z (by simpa using q)) gd (fun b _ => Clear.nil b) (by show X.A.units + 1 + _ < cLine; omega) self (fun h' u t hk => ⟨_, _, rfl, fin2 h' u t hk⟩) hz2
  | @tup a xs ds h1 h2 =>
    cases (show u = Value.ref a from ru)
    obtain ⟨its, rv, p, _⟩ := I.tuple h1
    obtain ⟨o, e, c, m, dd⟩ := p
    have hz2 : (tupleText (PyData.shownAll ds)).length ≤ sizeLine := by simpa only [PyData.shown] using hz
    obtain ⟨as, bs, r1, r2, r3⟩ := (shows_of I _).2 ds xs its (Nat.le_refl _) h2 rv (by simpa [PyData.showable] using hs) fun t ht => Nat.le_trans (tupleText_mem_le ht) hz2
    have rr : Reads s.heap (.ref a) (.tuple ds) as := .tuple e c dd (by simpa using r1)
    have out : a ∉ bs := not_mem_of_deeper rr (by rw [PyData.depth]; omega) r2
    rw [PyData.shown] at fin2
    rw [PyData.depth] at hd
    refine call_repr_slot (by omega) ⟨o, e, c⟩ F.slot_tuple_repr ?_
    exact call_tuple_reprK e c dd out (by simpa using r3) gd (fun b _ => Clear.nil b) (by show X.A.units + 1 + _ < cLine; omega) self (fun h' u t hk => ⟨_, _, rfl, fin2 h' u t hk⟩) hz2
  | @emp a h1 =>
    cases (show u = Value.ref a from ru)
    obtain ⟨_, hm, vs, kv, o, es, ep, e, ex, q'⟩ := (show ObjOk X.prog X.w H s.heap a (.dK []) from I.hok a _ h1)
    cases kv
    obtain ⟨q1, q2, q3, q4⟩ := q'
    have he : es.toList = [] := by
      cases hl : es.toList with
      | nil => rfl
      | cons y ys =>
        rw [hl] at q3
        cases q3
    refine call_repr_slot (by omega) ⟨o, e, ex.1⟩ F.slot_dict_repr ?_
    refine call_dict_reprK (as := []) (d := 0) (ps := []) e ex.1 q1 hm (by simp) (by rw [he]; exact .nil) gd (fun b _ => Clear.nil b) (by show X.A.units + 1 + _ < cLine; omega) self (fun h' u t hk => ⟨_, _, rfl, fin2 h' u t hk⟩) (by decide)
end

section
variable {K : PySem.W.Frag} {S S0 S1 S2 S3 : SS} {ta tb te : TE} {x y z : SD} {d e : PyData} {i j : Int} {ds es : List PyData} {k : Nat}
variable {c : Addr → Prop} {Hf H : Hp} {σ : L2.St} {fp : List (List Addr)}
theorem rc_repr (hs : d.showable = true) (hd : d.depth ≤ 64) (hz : d.shown.length ≤ sizeLine) : Rc K (rRepr K) [.dat d] S (.dat (.str d.shown)) S := fun c Hf H σ fp ok vs r Q q => by
  obtain ⟨v, rfl, rv⟩ := r.one
  exact ⟨v, d, rfl, Rp.mono ok.hd.ex rv, hs, hd, hz, q _ _ _ _ ok Gr.refl (Rp.str _)⟩
/-! ### an own list changes -/
theorem Okk.setL (ok : Okk K c Hf H σ fp S) (ho : S.ob[k]? = some (.lst ds)) {v : V} (r : SRl K Hf fp (some v) (.own k)) :
    ∃ a xs, v = .ref a ∧ H a = some (.lst xs) ∧ RpA K Hf xs ds ∧ ∀ zs es, RpA K Hf zs es → Okk K c Hf (upd H a (.lst zs)) σ fp { S with ob := S.ob.set k (.lst es) } ∧ Gr Hf H fp Hf (upd H a (.lst zs)) fp := by
  obtain ⟨a, xs, rfl, h1, h2, h3⟩ := ok.obL ho r
  refine ⟨a, xs, rfl, h2, h3, fun zs es rz => ?_⟩
  obtain ⟨hd, g⟩ := ok.hd.put (o' := .lst es) (H' := upd H a (.lst zs)) h1 ho (by intro z; cases z) (fun b hb => upd_ne (by simpa using hb)) ⟨a, zs, rfl, upd_same, rz⟩ (fun b hb => by
    have e : b = a := by simpa using hb
    rw [e]
    exact ⟨_, upd_same⟩) (fun _ _ => ⟨ds, rfl⟩)
  exact ⟨⟨hd, ok.ln, ok.sr⟩, g⟩
/-- xs.append(e) -/
theorem ee_append (hl : Ee K ta S (.own k) S1) (he : Ee K te S1 (.dat d) S2) (ho1 : ∃ ds1, S1.ob[k]? = some (.lst ds1)) (ho : S2.ob[k]? = some (.lst ds)) (hz : ds.length < 1000000) :
    Ee K (tBM K "list" rAppend ta (tCons te tNil)) S (.dat .none) { S2 with ob := S2.ob.set k (.lst (ds ++ [d])) } := fun c Hf H σ fp ok Q q =>
  hl c Hf H σ fp ok _ fun v Hf1 H1 fp1 ok1 g1 r1 => by
    obtain ⟨ds1, ho1⟩ := ho1
    obtain ⟨a, xs, rfl, h1, h2, h3⟩ := ok1.obL ho1 r1
    refine ⟨.inl ⟨rfl, xs, .inl (.inl h2)⟩, he c Hf1 H1 σ fp1 ok1 _ fun u Hf2 H2 fp2 ok2 g2 r2 => ?_⟩
    obtain ⟨b, zs, e, k1, k2, k3⟩ := ok2.setL ho (r1.mono g2.sm g2.pr)
    cases e
    obtain ⟨ok3, g3⟩ := k3 (zs ++ [u]) (ds ++ [d]) (k2.append (.cons r2 .nil))
    refine ⟨_, zs, u, rfl, rfl, k1, ?_, q _ _ _ _ ok3 ((g1.trans g2).trans g3) Rp.non⟩
    rw [k2.len]
    exact Nat.lt_of_lt_of_le hz (by decide)
/-- xs.extend(ys), ys a list -/
theorem ee_extend (hl : Ee K ta S (.own k) S1) (he : Ee K te S1 x S2) (hx : AsD S2 x (.list es)) (ho1 : ∃ ds1, S1.ob[k]? = some (.lst ds1)) (ho : S2.ob[k]? = some (.lst ds)) (hz : ds.length + es.length ≤ 1000000) :
    Ee K (tBM K "list" rExtend ta (tCons te tNil)) S (.dat .none) { S2 with ob := S2.ob.set k (.lst (ds ++ es)) } := fun c Hf H σ fp ok Q q =>
  hl c Hf H σ fp ok _ fun v Hf1 H1 fp1 ok1 g1 r1 => by
    obtain ⟨ds1, ho1⟩ := ho1
    obtain ⟨a, xs, rfl, h1, h2, h3⟩ := ok1.obL ho1 r1
    refine ⟨.inl ⟨rfl, xs, .inl (.inl h2)⟩, he c Hf1 H1 σ fp1 ok1 _ fun u Hf2 H2 fp2 ok2 g2 r2 => ?_⟩
    obtain ⟨b, zs, e, k1, k2, k3⟩ := ok2.setL ho (r1.mono g2.sm g2.pr)
    cases e
    obtain ⟨p, ws, rfl, w1, w2⟩ := ok2.asL r2 hx
    obtain ⟨ok3, g3⟩ := k3 (zs ++ ws) (ds ++ es) (k2.append w2)
    refine ⟨_, p, zs, ws, rfl, rfl, k1, w1, ?_, q _ _ _ _ ok3 ((g1.trans g2).trans g3) Rp.non⟩
    rw [k2.len, w2.len]
    exact Nat.le_trans hz (by decide)
/-- xs.pop() -/
theorem ee_pop (hl : Ee K ta S (.own k) S1) (ho : S1.ob[k]? = some (.lst (ds ++ [d]))) : Ee K (tBM0 K "list" rPop ta) S (.dat d) { S1 with ob := S1.ob.set k (.lst ds) } := fun c Hf H σ fp ok Q q =>
  hl c Hf H σ fp ok _ fun v Hf1 H1 fp1 ok1 g1 r1 => by
    obtain ⟨b, zs, e, k1, k2, k3⟩ := ok1.setL ho r1
    cases e
    have hl := k2.len
    rw [List.length_append, List.length_singleton] at hl
    obtain ⟨w, w1, w2⟩ := k2.get (i := zs.length - 1) (d := d) (by rw [hl, Nat.add_sub_cancel, List.getElem?_concat_length])
    have k4 : RpA K Hf1 zs.dropLast ds := by
      have := k2.take ds.length
      rw [List.take_left] at this
      rw [List.dropLast_eq_take, hl, Nat.add_sub_cancel]
      exact this
    obtain ⟨ok3, g3⟩ := k3 _ _ k4
    exact ⟨.inl ⟨rfl, zs, .inl (.inl k1)⟩, _, zs, w, rfl, rfl, k1, w1, q _ _ _ _ ok3 (g1.trans g3) w2⟩
end

/-! ### calls: what a def promises, over data -/
/-- a def: from what its arguments and the objects handed in are known to be, what it gives and leaves -/
abbrev FR := List SD → List OO → SD → List OO → Prop
/-- the objects that a caller has, others of them handed in: none is taken for unchanging -/
def prot (Hf H : Hp) : Addr → Prop := fun a => Hf a = none ∧ ∃ o, H a = some o
/-- a result: no list of own lists leaves a def -/
def nol : SD → SD
  | .lown _ => .un
  | x => x
theorem srl_nol {K : PySem.W.Frag} {Hf : Hp} {fp : List (List Addr)} {v : V} {r : SD} (h : SRl K Hf fp (some v) r) : SRl K Hf fp (some v) (nol r) := by
  cases r <;> first | exact h | trivial
def spD (K : PySem.W.Frag) (np : Nat) (R : FR) : Sp := fun vs H Q _ => vs.length = np ∧ ∃ Hf fp as ob r ob', Hd K (prot Hf H) Hf H fp ob ∧ (∀ o ∈ ob, ∀ ds, o ≠ .lst ds) ∧ SRA K Hf fp vs as ∧ R as ob r ob' ∧
  ∀ v Hf' H' fp', Hd K (prot Hf H) Hf' H' fp' ob' → Gr Hf H fp Hf' H' fp' → SRl K Hf' fp' (some v) (nol r) → Q v H'
/-- the state of a def's frame at its entry -/
def entry (n : Nat) (as : List SD) (ob : List OO) : SS := ⟨as ++ List.replicate (n - as.length) .un, ob⟩
section
variable {K : PySem.W.Frag} {S S0 S1 S2 S3 : SS} {x y z : SD} {ob ob' : List OO} {as : List SD} {R : FR} {r : SD}
variable {c : Addr → Prop} {Hf H : Hp} {σ : L2.St} {fp : List (List Addr)}
theorem SRA.get {vs : List V} : ∀ {as : List SD} {i : Nat} {d : SD}, SRA K Hf fp vs as → as[i]? = some d → ∃ v, vs[i]? = some v ∧ SRl K Hf fp (some v) d := by
  induction vs with
  | nil => intro as i d h e; cases h; simp at e
  | cons v vs ih =>
    intro as i d h e
    cases h with
    | cons h t => cases i with
      | zero =>
        simp at e
        subst e
        exact ⟨v, rfl, h⟩
      | succ i =>
        obtain ⟨u, h1, h2⟩ := ih t (by simpa using e)
        exact ⟨u, by simpa using h1, h2⟩
/-- a def's body, over data -/
theorem body_of {N : List Str} {np : Nat} {ts : TS} {vs : List V} {Q : VK} {E : XK} (h : spD K np R vs H Q E) (hN : np ≤ N.length)
    (hb : ∀ as ob r ob', R as ob r ob' → as.length = np → Ts K ts (entry N.length as ob) { nx := fun S' => r = .dat .none ∧ S'.ob = ob', rt := fun x S' => x = r ∧ S'.ob = ob' }) : ts { nx := fun _ H' => Q .non H', rt := Q } (L2.start N vs) H := by
  obtain ⟨hl, Hf, fp, as, ob, r, ob', hd, hno, sr, hR, k⟩ := h
  have la : as.length = np := by
    rw [← hl]
    exact (Paired.length sr).symm
  have ok : Okk K (prot Hf H) Hf H (L2.start N vs) fp (entry N.length as ob) := by
    refine ⟨hd, ?_, fun i d e => ?_⟩
    · unfold L2.start entry
      simp only [List.length_append, List.length_map, List.length_replicate]
      omega
    · unfold entry at e
      by_cases hi : i < as.length
      · rw [List.getElem?_append_left hi] at e
        obtain ⟨v, h1, h2⟩ := sr.get e
        refine ⟨some v, ?_, h2⟩
        unfold L2.start
        rw [List.getElem?_append_left (by rw [List.length_map]; omega), List.getElem?_map, h1]
        rfl
      · rw [List.getElem?_append_right (by omega), List.getElem?_replicate] at e
        split at e
        · rename_i hlt
          obtain rfl := Option.some.inj e
          refine ⟨none, ?_, trivial⟩
          unfold L2.start
          rw [List.getElem?_append_right (by rw [List.length_map]; omega), List.getElem?_replicate, if_pos (by rw [List.length_map]; omega)]
        · cases e
  refine hb as ob r ob' hR la _ Hf H _ fp ok _ (fun S' Hf' H' σ' fp' ok' g e => ?_) (fun x S' v Hf' H' σ' fp' ok' g rv e => ?_) (fun _ _ _ _ _ _ _ z => z.elim) fun _ _ _ _ _ _ _ z => z.elim
  · obtain ⟨rfl, rfl⟩ := e
    exact k .non Hf' H' fp' ok'.hd g Rp.non
  · obtain ⟨rfl, rfl⟩ := e
    exact k v Hf' H' fp' ok'.hd g (srl_nol rv)
/-- an object of a callee's, as its caller counts them -/
def shR (n : Nat) : SD → SD
  | .own i => .own (n + i)
  | .lown _ => .un
  | x => x
theorem srl_nil {v : V} {d : PyData} (h : SRl K Hf fp (some v) (.dat d)) : SRl K Hf [] (some v) (.dat d) := h
theorem sra_nil : ∀ {vs : List V} {ds : List PyData}, SRA K Hf fp vs (ds.map SD.dat) → SRA K Hf [] vs (ds.map SD.dat)
  | _, [], .nil => .nil
  | _, _ :: _, .cons h t => .cons h (sra_nil t)
/-- args that are data, or the script -/
def Plain : SD → Prop
  | .dat _ => True
  | .scr _ => True
  | .tx _ => True
  | _ => False
theorem sra_plain : ∀ {as : List SD} {vs : List V} {fp' : List (List Addr)}, (∀ a ∈ as, Plain a) → SRA K Hf fp vs as → SRA K Hf fp' vs as
  | [], _, _, _, .nil => .nil
  | a :: as, _, fp', hp, .cons h t => .cons (by
      have := hp a List.mem_cons_self
      cases a with
      | dat d => exact h
      | scr ns => exact h
      | rng _ _ => exact this.elim
      | lown _ => exact this.elim
      | tx _ => exact h
      | tq _ _ _ => exact this.elim
      | no => exact this.elim
      | own k => exact this.elim
      | un => exact this.elim) (sra_plain (fun b hb => hp b (List.mem_cons_of_mem _ hb)) t)
theorem Hd.join {Hf' H' : Hp} {fpn : List (List Addr)} (h : Hd K c Hf H fp ob) (h2 : Hd K (prot Hf H) Hf' H' fpn ob') (g : Gr Hf H [] Hf' H' fpn) : Hd K c Hf' H' (fp ++ fpn) (ob ++ ob') ∧ Gr Hf H fp Hf' H' (fp ++ fpn) := by
  have cut : ∀ {α : Type} (l m : List α) (y : α) (k : Nat), (l ++ m)[k]? = some y → (k < l.length ∧ l[k]? = some y) ∨ (l.length ≤ k ∧ m[k - l.length]? = some y) := fun l m y k e => by
    by_cases hk : k < l.length
    · rw [List.getElem?_append_left hk] at e
      exact .inl ⟨hk, e⟩
    · rw [List.getElem?_append_right (by omega)] at e
      exact .inr ⟨by omega, e⟩
  have same : ∀ a ∈ fp.flatten, H' a = H a := fun a ha => by
    obtain ⟨o, e⟩ := h.al a ha
    rw [e]
    exact g.fr a o e (by simp)
  have new : ∀ a ∈ fpn.flatten, H a = none := fun a ha => (g.nw a ha).elim (fun z => by simp at z) id
  have pr : ∀ a, c a → prot Hf H a := fun a z => h.pt a z
  refine ⟨⟨h2.ex, by rw [List.length_append, List.length_append, h.fl, h2.fl], fun k a o e1 e2 => ?_, ?_, fun a ha => ?_, fun k p o e1 e2 hx a ha => ?_, fun a z => h2.pt a (pr a z), fun k p ds e1 e2 a ha z => ?_⟩, g.sm, List.prefix_append _ _, fun a o e _ => g.fr a o e (by simp), fun a ha => ?_, g.th⟩
  · rcases cut _ _ _ _ e1 with ⟨l1, e1⟩ | ⟨l1, e1⟩
    · rcases cut _ _ _ _ e2 with ⟨l2, e2⟩ | ⟨l2, e2⟩
      · exact (h.oo k a o e1 e2).mono g.sm fun b hb => same b (mem_fl e1 hb)
      · have := h.fl
        omega
    · rcases cut _ _ _ _ e2 with ⟨l2, e2⟩ | ⟨l2, e2⟩
      · have := h.fl
        omega
      · rw [← h.fl] at e2
        exact h2.oo _ a o e1 e2
  · rw [List.flatten_append, List.nodup_append]
    refine ⟨h.nd, h2.nd, fun a ha b hb e => ?_⟩
    subst e
    obtain ⟨o, q⟩ := h.al a ha
    rw [new a hb] at q
    cases q
  · rw [List.flatten_append, List.mem_append] at ha
    rcases ha with ha | ha
    · obtain ⟨o, e⟩ := h.al a ha
      exact ⟨o, by rw [same a ha]; exact e⟩
    · exact h2.al a ha
  · rcases cut _ _ _ _ e1 with ⟨l1, e1⟩ | ⟨l1, e1⟩
    · rcases cut _ _ _ _ e2 with ⟨l2, e2⟩ | ⟨l2, e2⟩
      · exact (h2.pt a ⟨h.nf k p o e1 e2 hx a ha, h.al a (mem_fl e1 ha)⟩).1
      · have := h.fl
        omega
    · rcases cut _ _ _ _ e2 with ⟨l2, e2⟩ | ⟨l2, e2⟩
      · have := h.fl
        omega
      · rw [← h.fl] at e2
        exact h2.nf _ p o e1 e2 hx a ha
  · rcases cut _ _ _ _ e1 with ⟨l1, e1⟩ | ⟨l1, e1⟩
    · rcases cut _ _ _ _ e2 with ⟨l2, e2⟩ | ⟨l2, e2⟩
      · exact h.np k p ds e1 e2 a ha z
      · have := h.fl
        omega
    · rcases cut _ _ _ _ e2 with ⟨l2, e2⟩ | ⟨l2, e2⟩
      · have := h.fl
        omega
      · rw [← h.fl] at e2
        exact h2.np _ p ds e1 e2 a ha (pr a z)
  · rw [List.flatten_append, List.mem_append] at ha
    exact ha.elim .inl fun z => .inr (new a z)
/-- a call to which no own object is handed in -/
theorem sp_call0 {np : Nat} {E : XK} {vs : List V} (ok : Okk K c Hf H σ fp S) (sr : SRA K Hf fp vs as) (hp : ∀ a ∈ as, Plain a) (hl : as.length = np) (hR : R as [] r ob') {Q : VK}
    (k : ∀ v Hf' H' fp', Okk K c Hf' H' σ fp' { S with ob := S.ob ++ ob' } → Gr Hf H fp Hf' H' fp' → SRl K Hf' fp' (some v) (shR S.ob.length r) → Q v H') : spD K np R vs H Q E := by
  refine ⟨by rw [Paired.length sr]; exact hl, Hf, [], as, [], r, ob', ⟨ok.hd.ex, rfl, fun k a o e => by simp at e, by simp, fun a h => by simp at h, fun k p o e => by simp at e, fun a z => z, fun k p ds e => by simp at e⟩, fun o h => by simp at h, sra_plain hp sr, hR, fun v Hf2 H2 fp2 hd2 g2 rv => ?_⟩
  obtain ⟨hd, g⟩ := ok.hd.join hd2 g2
  refine k v Hf2 H2 (fp ++ fp2) ⟨hd, ok.ln, fun i d e => ?_⟩ g ?_
  · obtain ⟨x, h1, h2⟩ := ok.sr i d e
    exact ⟨x, h1, h2.mono g.sm g.pr⟩
  · cases r with
    | un => trivial
    | dat d => exact rv
    | scr ns => exact rv
    | rng _ _ => exact rv
    | lown _ => trivial
    | tx _ => exact rv
    | tq _ _ _ => exact rv
    | no => exact rv
    | own i =>
      obtain ⟨a, p, h1, h2⟩ := rv
      refine ⟨a, p, ?_, h2⟩
      rw [List.getElem?_append_right (by rw [ok.hd.fl]; omega), ok.hd.fl, Nat.add_sub_cancel_left]
      exact h1
/-- a call to which the k-th own object is handed in -/
def atK (k : Nat) : SD → SD
  | .own _ => .own k
  | .lown _ => .no
  | x => x
def atR (k : Nat) : SD → SD
  | .own _ => .own k
  | .lown _ => .un
  | x => x
theorem sra_one {k : Nat} {p : List Addr} (hk : fp[k]? = some p) : ∀ {as : List SD} {vs : List V}, (∀ a ∈ as, ∀ j, a = .own j → j = 0) → SRA K Hf fp vs (as.map (atK k)) → SRA K Hf [p] vs as
  | [], _, _, .nil => .nil
  | a :: as, _, h0, .cons h t => .cons (by
      cases a with
      | dat d => exact h
      | scr ns => exact h
      | rng _ _ => exact h
      | lown _ => exact False.elim h
      | tx _ => exact h
      | tq _ _ _ => exact h
      | no => exact h
      | un => trivial
      | own j =>
        have e := h0 _ List.mem_cons_self j rfl
        subst e
        obtain ⟨b, q, h1, h2⟩ := h
        rw [hk] at h1
        exact ⟨b, q, h1, h2⟩) (sra_one hk (fun b hb => h0 b (List.mem_cons_of_mem _ hb)) t)
theorem sp_call1 {np k : Nat} {E : XK} {vs : List V} {o o' : OO} (ok : Okk K c Hf H σ fp S) (sr : SRA K Hf fp vs (as.map (atK k))) (h0 : ∀ a ∈ as, ∀ j, a = .own j → j = 0) (hl : as.length = np) (ho : S.ob[k]? = some o) (hg : o ≠ .gone) (hn : ∀ ds, o ≠ .lst ds) (hR : R as [o] r [o']) {Q : VK}
    (kq : ∀ v Hf' H' fp', Okk K c Hf' H' σ fp' { S with ob := S.ob.set k o' } → Gr Hf H fp Hf' H' fp' → SRl K Hf' fp' (some v) (atR k r) → Q v H') : spD K np R vs H Q E := by
  obtain ⟨p, hk⟩ : ∃ p, fp[k]? = some p := ⟨_, List.getElem?_eq_getElem (by rw [ok.hd.fl]; exact (List.getElem?_eq_some_iff.mp ho).1)⟩
  have mp : ∀ a ∈ p, a ∈ fp.flatten := fun a ha => mem_fl hk ha
  have one : ∀ {j : Nat} {α : Type} {x y : α}, [x][j]? = some y → j = 0 ∧ y = x := fun {j α x y} e => by
    cases j with
    | zero => exact ⟨rfl, (Option.some.inj e).symm⟩
    | succ j => simp at e
  have ndp : p.Nodup := (List.pairwise_flatten.mp ok.hd.nd).1 p (List.mem_of_getElem? hk)
  have prp : ∀ a ∈ p, prot Hf H a := fun a ha => ⟨ok.hd.nf k p o hk ho hg a ha, ok.hd.al a (mp a ha)⟩
  refine ⟨by rw [Paired.length sr, List.length_map]; exact hl, Hf, [p], as, [o], r, [o'], ⟨ok.hd.ex, rfl, fun j a u e1 e2 => ?_, by simpa using ndp, fun a h => ok.hd.al a (mp a (by simpa using h)), fun j q u e1 e2 hx a ha => ?_, fun a z => z, fun j q ds e1 e2 => ?_⟩, fun u hu ds => ?_, sra_one hk h0 sr, hR, fun v Hf2 H2 fp2 hd2 g2 rv => ?_⟩
  · obtain ⟨rfl, rfl⟩ := one e1
    obtain ⟨_, rfl⟩ := one e2
    exact ok.hd.oo k _ _ hk ho
  · obtain ⟨rfl, rfl⟩ := one e1
    exact (prp a ha).1
  · obtain ⟨_, e⟩ := one e2
    exact absurd e.symm (hn ds)
  · rw [List.mem_singleton.mp hu]
    exact hn ds
  · have f2 : fp2 = [p] := by
      obtain ⟨t, rfl⟩ := g2.pr
      have := hd2.fl
      simp at this
      rw [this]
      rfl
    subst f2
    have off : ∀ {j : Nat} {q : List Addr}, fp[j]? = some q → j ≠ k → ∀ b ∈ q, H2 b = H b := fun {j q} e hj b hb => by
      obtain ⟨u, e'⟩ := ok.hd.al b (mem_fl e hb)
      rw [e']
      refine g2.fr b u e' fun m => hj (nodup_fl ok.hd.nd e hk hb (by simpa using m))
    have hlt : k < S.ob.length := (List.getElem?_eq_some_iff.mp ho).1
    have hd : Hd K c Hf2 H2 fp (S.ob.set k o') := by
      refine ⟨hd2.ex, by rw [List.length_set]; exact ok.hd.fl, fun j q u e1 e2 => ?_, ok.hd.nd, fun a ha => ?_, fun j q u e1 e2 hx a ha => ?_, fun a z => hd2.pt a (ok.hd.pt a z), fun j q ds e1 e2 a ha z => ?_⟩
      · by_cases hj : j = k
        · subst hj
          rw [hk] at e1
          obtain rfl := Option.some.inj e1
          rw [List.getElem?_set_self hlt] at e2
          obtain rfl := Option.some.inj e2
          exact hd2.oo 0 _ _ rfl rfl
        · rw [List.getElem?_set_ne (Ne.symm hj)] at e2
          exact (ok.hd.oo j q u e1 e2).mono g2.sm (off e1 hj)
      · obtain ⟨u, e⟩ := ok.hd.al a ha
        exact g2.th a u e
      · by_cases hj : j = k
        · subst hj
          rw [hk] at e1
          obtain rfl := Option.some.inj e1
          exact (hd2.pt a (prp a ha)).1
        · rw [List.getElem?_set_ne (Ne.symm hj)] at e2
          exact (hd2.pt a ⟨ok.hd.nf j q u e1 e2 hx a ha, ok.hd.al a (mem_fl e1 ha)⟩).1
      · by_cases hj : j = k
        · subst hj
          rw [hk] at e1
          obtain rfl := Option.some.inj e1
          rw [List.getElem?_set_self hlt] at e2
          obtain rfl := Option.some.inj e2
          exact hd2.np 0 p ds rfl rfl a ha (prp a ha)
        · rw [List.getElem?_set_ne (Ne.symm hj)] at e2
          exact ok.hd.np j q ds e1 e2 a ha z
    have g : Gr Hf H fp Hf2 H2 fp := ⟨g2.sm, List.prefix_rfl, fun a u e n => g2.fr a u e fun m => n (mp a (by simpa using m)), fun a m => .inl m, g2.th⟩
    refine kq v Hf2 H2 fp ⟨hd, ok.ln, fun i d e => ?_⟩ g ?_
    · obtain ⟨x, h1, h2⟩ := ok.sr i d e
      exact ⟨x, h1, h2.mono g.sm g.pr⟩
    · cases r with
      | un => trivial
      | dat d => exact rv
      | scr ns => exact rv
      | rng _ _ => exact rv
      | lown _ => trivial
      | tx _ => exact rv
      | tq _ _ _ => exact rv
      | no => exact rv
      | own i =>
        obtain ⟨a, q, h1, h2⟩ := rv
        obtain ⟨_, e⟩ := one h1
        exact ⟨a, q, by rw [hk, e], h2⟩
theorem ee_call0 {np : Nat} {E : XK} {ta : TA} (ha : Ea K ta S as S1) (hp : ∀ a ∈ as, Plain a) (hl : as.length = np) (hR : R as [] r ob') : Ee K (tCall (spD K np R) [] E ta) S (shR S1.ob.length r) { S1 with ob := S1.ob ++ ob' } := fun c Hf H σ fp ok Q q =>
  ha c Hf H σ fp ok _ fun vs Hf1 H1 fp1 ok1 g1 sr => by
    rw [List.append_nil]
    exact sp_call0 ok1 sr hp hl hR fun v Hf' H' fp' ok' g' rv => q v Hf' H' fp' ok' (g1.trans g') rv
/-- a call of data alone, that gives data -/
theorem ee_callD {np : Nat} {E : XK} {ta : TA} {ds : List PyData} {d : PyData} (ha : Ed K ta S ds S1) (hl : ds.length = np) (hR : R (ds.map SD.dat) [] (.dat d) []) : Ee K (tCall (spD K np R) [] E ta) S (.dat d) S1 := by
  have h := ee_call0 (np := np) (E := E) (R := R) (r := .dat d) (ob' := []) ha (fun a h => by
    obtain ⟨x, _, rfl⟩ := List.mem_map.mp h
    trivial) (by rw [List.length_map]; exact hl) hR
  rw [List.append_nil] at h
  exact h
theorem ee_callK {np : Nat} {E : XK} {ta tk : TA} {gV : List V → List V → List V} {ds es fs : List PyData} {d : PyData} (ha : Ed K ta S ds S1) (hk : Ed K tk S1 es S2)
    (hg : ∀ (Hf : Hp) vs zs, RpA K Hf vs ds → RpA K Hf zs es → RpA K Hf (gV vs zs) fs) (hl : fs.length = np) (hR : R (fs.map SD.dat) [] (.dat d) []) : Ee K (tCallK (spD K np R) gV E ta tk) S (.dat d) S2 := fun c Hf H σ fp ok Q q =>
  ha c Hf H σ fp ok _ fun vs Hf1 H1 fp1 ok1 g1 sr => hk c Hf1 H1 σ fp1 ok1 _ fun zs Hf2 H2 fp2 ok2 g2 sr2 => by
    have rr := hg Hf2 vs zs ((SRA.rp sr).mono g2.sm) (SRA.rp sr2)
    have back : ∀ {ds : List PyData} {vs : List V}, RpA K Hf2 vs ds → SRA K Hf2 fp2 vs (ds.map SD.dat) := fun {ds} => by
      induction ds with
      | nil => intro vs h; cases h; exact .nil
      | cons d ds ih => intro vs h; cases h with
        | cons h t => exact .cons h (ih t)
    refine sp_call0 (R := R) (r := .dat d) (ob' := []) ok2 (back rr) (fun a h => by
      obtain ⟨x, _, rfl⟩ := List.mem_map.mp h
      trivial) (by rw [List.length_map]; exact hl) hR fun v Hf' H' fp' ok' g' rv => q v Hf' H' fp' ?_ ((g1.trans g2).trans g') rv
    rw [List.append_nil] at ok'
    exact ok'
theorem ee_call1 {np k : Nat} {E : XK} {ta : TA} {o o' : OO} {asC : List SD} (ha : Ea K ta S asC S1) (he : asC = as.map (atK k)) (h0 : ∀ a ∈ as, ∀ j, a = .own j → j = 0) (hl : as.length = np) (ho : S1.ob[k]? = some o) (hg : o ≠ .gone) (hn : ∀ ds, o ≠ .lst ds) (hR : R as [o] r [o']) :
    Ee K (tCall (spD K np R) [] E ta) S (atR k r) { S1 with ob := S1.ob.set k o' } := fun c Hf H σ fp ok Q q =>
  ha c Hf H σ fp ok _ fun vs Hf1 H1 fp1 ok1 g1 sr => by
    rw [List.append_nil]
    subst he
    exact sp_call1 ok1 sr h0 hl ho hg hn hR fun v Hf' H' fp' ok' g' rv => q v Hf' H' fp' ok' (g1.trans g') rv
end
end DL

set_option maxRecDepth 100000
set_option maxHeartbeats 1000000
namespace DL
open PySem PySem.Spec PyProof.Rows L2

/-! ### built-ins, as they are named here -/
section
variable {X : Cx}
theorem cb_len : CallR X (.builtin "len") (rLen X.K) := call_len
theorem cb_abs : CallR X (.builtin "abs") rAbs := call_abs
theorem cb_int : CallR X (.type "int") rInt1 := call_int1
theorem cb_list : CallR X (.type "list") (rListOf X.K) := call_list_of
theorem cb_tuple : CallR X (.type "tuple") (rTupleOf X.K) := call_tuple_of
theorem un_negU : UnR X (unaryOp .USub) (rU fun i => .int (-i)) := un_neg
/-- a op b op2 c op3 d -/
def tChain3 (r r2 r3 : R2) (ta tb tc td : TE) : TE := fun σ H Q => ta σ H fun x H1 => tb σ H1 fun y H2 => r x y H2 fun z H3 => ∃ k, z = .bl k ∧
  (if k = true then tc σ H3 fun u H4 => r2 y u H4 fun z2 H5 => ∃ k2, z2 = .bl k2 ∧ (if k2 = true then td σ H5 fun v H6 => r3 u v H6 Q else Q (.bl false) H5) else Q (.bl false) H3)
theorem pe_chain3 {op op2 op3 : CmpOp} {r r2 r3 : R2} {ta tb tc td : TE} {a b c d : Expr} {pos : Pos} (ho : OpR X (compareOp op) r) (ho2 : OpR X (compareOp op2) r2) (ho3 : OpR X (compareOp op3) r3) (ha : PE X a ta) (hb : PE X b tb) (hc : PE X c tc) (hd : PE X d td)
    (hm : lastMarks [op, op2, op3] [b, c, d] = false := by with_unfolding_all rfl) : PE X (.Compare a [op, op2, op3] [b, c, d] pos) (tChain3 r r2 r3 ta tb tc td) := by
  constructor
  intro pins s σ H Q I h
  refine Compare_chain (thn (ha.run pins s σ H _ I h) fun v s1 ⟨x, H1, I1, r1, q1⟩ => chain_link (thn (hb.run pins s1 σ H1 _ I1 q1) fun u s2 ⟨y, H2, I2, k2, q2⟩ => thn (ho pins s2 σ H2 x y v u _ I2 r1 k2 q2) fun e s3 ⟨z, H3, I3, k3, k, ez, q3⟩ => ?_)) hm
  subst ez
  cases k3
  refine wpAny_truthy_bool ?_
  cases k with
  | false => exact ite_ff ⟨.bl false, H3, I3, rfl, q3⟩
  | true =>
    refine ite_tt (chain_link (thn (hc.run pins s3 σ H3 _ I3 q3) fun u' s4 ⟨w, H4, I4, k4, q4⟩ => thn (ho2 pins s4 σ H4 y w u u' _ I4 k2 k4 q4) fun e' s5 ⟨z', H5, I5, k5, k', ez', q5⟩ => ?_))
    subst ez'
    cases k5
    refine wpAny_truthy_bool ?_
    cases k' with
    | false => exact ite_ff ⟨.bl false, H5, I5, rfl, q5⟩
    | true => exact ite_tt (chain_last (thn (hd.run pins s5 σ H5 _ I5 q5) fun v' s6 ⟨w', H6, I6, k6, q6⟩ => ho3 pins s6 σ H6 w w' u' v' Q I6 k4 k6 q6))
end

section
variable {K : PySem.W.Frag} {S S0 S1 S2 S3 S4 : SS} {ta tb tc td te : TE} {t u : TT} {x y z w : SD} {d e : PyData} {i j l : Int} {ds es : List PyData} {k n : Nat} {E : DE} {g : TG} {a b : Bool} {r r2 r3 : R2}
variable {c : Addr → Prop} {Hf H : Hp} {σ : L2.St} {fp : List (List Addr)}
theorem ru_neg : Ru K (rU fun i => .int (-i)) (.dat (.int i)) S (.dat (.int (-i))) S := fun c Hf H σ fp ok v rv Q q => by
  cases rv
  exact ⟨i, rfl, q _ _ _ _ ok Gr.refl (Rp.int _)⟩
/-- a op b op2 c; the state stays -/
theorem ee_chain (ha : Ee K ta S x S) (hb : Ee K tb S y S) (hr : Ro K r x y S (.dat (.bool a)) S) (hc : a = true → Ee K tc S z S) (hr2 : a = true → Ro K r2 y z S (.dat (.bool b)) S) : Ee K (tChain r r2 ta tb tc) S (.dat (.bool (a && b))) S := fun c Hf H σ fp ok Q q =>
  ha c Hf H σ fp ok _ fun v Hf1 H1 fp1 ok1 g1 r1 => hb c Hf1 H1 σ fp1 ok1 _ fun u Hf2 H2 fp2 ok2 g2 q2 => hr c Hf2 H2 σ fp2 ok2 v u (r1.mono g2.sm g2.pr) q2 _ fun w Hf3 H3 fp3 ok3 g3 q3 => by
    cases q3
    refine ⟨a, rfl, ?_⟩
    have G := (g1.trans g2).trans g3
    cases a with
    | false => exact iteF (q _ _ _ _ ok3 G (Rp.bl _))
    | true =>
      refine iteT (hc rfl c Hf3 H3 σ fp3 ok3 _ fun w Hf4 H4 fp4 ok4 g4 q4 => hr2 rfl c Hf4 H4 σ fp4 ok4 u w (q2.mono (g3.trans g4).sm (g3.trans g4).pr) q4 Q fun w' Hf5 H5 fp5 ok5 g5 q5 => ?_)
      exact q w' Hf5 H5 fp5 ok5 ((G.trans g4).trans g5) q5
theorem ee_chain3 {e' : Bool} (ha : Ee K ta S x S) (hb : Ee K tb S y S) (hr : Ro K r x y S (.dat (.bool a)) S) (hc : a = true → Ee K tc S z S) (hr2 : a = true → Ro K r2 y z S (.dat (.bool b)) S) (hd : a = true → b = true → Ee K td S w S) (hr3 : a = true → b = true → Ro K r3 z w S (.dat (.bool e')) S) :
    Ee K (tChain3 r r2 r3 ta tb tc td) S (.dat (.bool (a && (b && e')))) S := fun c Hf H σ fp ok Q q =>
  ha c Hf H σ fp ok _ fun v Hf1 H1 fp1 ok1 g1 r1 => hb c Hf1 H1 σ fp1 ok1 _ fun u Hf2 H2 fp2 ok2 g2 q2 => hr c Hf2 H2 σ fp2 ok2 v u (r1.mono g2.sm g2.pr) q2 _ fun w1 Hf3 H3 fp3 ok3 g3 q3 => by
    cases q3
    refine ⟨a, rfl, ?_⟩
    have G := (g1.trans g2).trans g3
    cases a with
    | false => exact iteF (q _ _ _ _ ok3 G (Rp.bl _))
    | true =>
      refine iteT (hc rfl c Hf3 H3 σ fp3 ok3 _ fun w2 Hf4 H4 fp4 ok4 g4 q4 => hr2 rfl c Hf4 H4 σ fp4 ok4 u w2 (q2.mono (g3.trans g4).sm (g3.trans g4).pr) q4 _ fun w' Hf5 H5 fp5 ok5 g5 q5 => ?_)
      cases q5
      refine ⟨b, rfl, ?_⟩
      have G2 := (G.trans g4).trans g5
      cases b with
      | false => exact iteF (q _ _ _ _ ok5 G2 (Rp.bl _))
      | true =>
        refine iteT (hd rfl rfl c Hf5 H5 σ fp5 ok5 _ fun w3 Hf6 H6 fp6 ok6 g6 q6 => hr3 rfl rfl c Hf6 H6 σ fp6 ok6 w2 w3 (q4.mono (g5.trans g6).sm (g5.trans g6).pr) q6 Q fun w4 Hf7 H7 fp7 ok7 g7 q7 => ?_)
        exact q w4 Hf7 H7 fp7 ok7 ((G2.trans g6).trans g7) q7
/-- enumerate(t) -/
theorem ei_enumT {tas : TA} (h : Ed K tas S [.tuple ds] S1) : Ei K (iEnumT K tas) S (enumD ds) S1 := fun c Hf H σ fp ok R q => h c Hf H σ fp ok _ fun v Hf1 H1 fp1 ok1 g1 r1 => by
  cases r1 with
  | cons r1 rr =>
    cases rr
    cases r1 with
    | tup h1 h2 =>
      refine ⟨_, _, rfl, sameT ok1.hd.ex h1, q _ Hf1 H1 fp1 ok1 g1 (wk_of (walk_enumT (K := K)) (enumD_len.trans h2.len.symm) (fun Hf2 H2 e1 e2 => sameT e2 (sameT e1 h1)) fun i d Hf2 H2 x H3 e1 e2 hd y => .inr ?_)⟩
      obtain ⟨T, v1, v2, rfl, hT, rfl, y1, y2⟩ := y
      obtain ⟨e, k1, rfl⟩ := enumD_get hd
      obtain ⟨w, k2, k3⟩ := h2.get k1
      have y3 : some v2 = some w := y2.symm.trans k2
      obtain rfl := Option.some.inj y3
      obtain rfl := Option.some.inj y1
      refine ⟨T, _, hT, rfl, .tup (.inl (.inl upd_same)) (.cons (.int _) (.cons (k3.mono (e1.trans ?_)) .nil))⟩
      intro b o eb
      rw [upd_ne (ne_of_none eb (e2.free hT))]
      exact eb
/-! ### targets that store into objects -/
def Egh (K : PySem.W.Frag) (g : TG) (d : PyData) (S S' : SS) : Prop := ∀ c Hf H σ fp, Okk K c Hf H σ fp S → ∀ x, Rp K Hf x d → ∀ Q : L2.St → Hp → Prop, (∀ σ' Hf' H' fp', Okk K c Hf' H' σ' fp' S' → Gr Hf H fp Hf' H' fp' → Q σ' H') → g x σ H Q
def Eghs (K : PySem.W.Frag) (g : TGs) (ds : List PyData) (S S' : SS) : Prop := ∀ c Hf H σ fp, Okk K c Hf H σ fp S → ∀ xs, RpA K Hf xs ds → ∀ Q : L2.St → Hp → Prop, (∀ σ' Hf' H' fp', Okk K c Hf' H' σ' fp' S' → Gr Hf H fp Hf' H' fp' → Q σ' H') → g xs σ H Q
theorem egh_of (h : Eg K g d S S1) : Egh K g d S S1 := fun c Hf H σ fp ok x r Q q => h c Hf H σ fp ok x r Q fun σ' ok' => q σ' Hf H fp ok' Gr.refl
theorem egh_sub (hl : Ee K ta S (.own k) S1) (hi : Ee K tb S1 (.dat (.int i)) S2) (ho : S2.ob[k]? = some (.lst ds)) (hx : ixN ds.length i = some n) : Egh K (gSub ta tb rSetL) d S { S2 with ob := S2.ob.set k (.lst (ds.set n d)) } := fun c Hf H σ fp ok v rv Q q =>
  hl c Hf H σ fp ok _ fun o Hf1 H1 fp1 ok1 g1 r1 => hi c Hf1 H1 σ fp1 ok1 _ fun u Hf2 H2 fp2 ok2 g2 r2 => by
    cases r2
    obtain ⟨b, zs, e, k1, k2, k3⟩ := ok2.setL ho (r1.mono g2.sm g2.pr)
    subst e
    obtain ⟨ok3, g3⟩ := k3 _ _ (k2.set (rv.mono (g1.trans g2).sm) n)
    exact ⟨b, zs, i, n, rfl, rfl, k1, by rw [k2.len]; exact hx, q _ _ _ _ ok3 ((g1.trans g2).trans g3)⟩
theorem eghs_nil : Eghs K gNil [] S S := fun c Hf H σ fp ok xs r Q q => by
  cases r
  exact ⟨rfl, q σ _ _ _ ok Gr.refl⟩
theorem eghs_cons {gs : TGs} (h : Egh K g d S S1) (hs : Eghs K gs ds S1 S2) : Eghs K (gCons g gs) (d :: ds) S S2 := fun c Hf H σ fp ok xs r Q q => by
  cases r with
  | cons r rr => exact ⟨_, _, rfl, h c Hf H σ fp ok _ r _ fun σ' Hf' H' fp' ok' g' => hs c Hf' H' σ' fp' ok' _ (rr.mono g'.sm) Q fun σ2 Hf2 H2 fp2 ok2 g2 => q σ2 Hf2 H2 fp2 ok2 (g'.trans g2)⟩
theorem egh_tup {gs : TGs} {n : Nat} (h : Eghs K gs ds S S1) (hn : ds.length = n := by rfl) : Egh K (gTup K n gs) (.tuple ds) S S1 := fun c Hf H σ fp ok x r Q q => by
  cases r with
  | tup h1 h2 => exact ⟨_, _, rfl, sameT ok.hd.ex h1, h2.len.trans hn, h c Hf H σ fp ok _ h2 Q q⟩
theorem ts_asgG (h : Ee K te S (.dat d) S1) (hg : Egh K g d S1 S2) (k : E.nx S2) : Ts K (tAsg te g) S E := fun c Hf H σ fp ok D n r bk ct =>
  h c Hf H σ fp ok _ fun v Hf1 H1 fp1 ok1 g1 r1 => hg c Hf1 H1 σ fp1 ok1 v r1 _ fun σ' Hf2 H2 fp2 ok2 g2 => n _ Hf2 H2 σ' fp2 ok2 (g1.trans g2) k
/-! ### new empty dict as data -/
theorem ee_emp : Ee K tDNewK S (.dat (.dict [])) S := fun c Hf H σ fp ok Q q p hp => by
  obtain ⟨ok2, g2⟩ := ok.laid (.dK []) hp
  exact q _ _ _ _ ok2 g2 (Rp.emp upd_same)
end
end DL

set_option maxRecDepth 100000
set_option maxHeartbeats 1000000
/-! DLraw: own objects as they stand -/
namespace DL
open PySem PySem.Spec PyProof.Rows L2
section
variable {K : PySem.W.Frag} {S S0 S1 S2 S3 : SS} {td te tv : TE} {x y z : SD} {i : Int} {k : Nat} {ds : List Int} {s t : Int} {E : DE}
variable {c : Addr → Prop} {Hf H : Hp} {σ : L2.St} {fp : List (List Addr)}
theorem Okk.guard (ok : Okk K c Hf H σ fp S) {p : Addr} {o : HO} (h : H p = some o) (hf : Hf p = none) (nm : p ∉ fp.flatten) : Okk K (fun a => c a ∨ a = p) Hf H σ fp S :=
  ⟨⟨ok.hd.ex, ok.hd.fl, ok.hd.oo, ok.hd.nd, ok.hd.al, ok.hd.nf, fun a z => by
    rcases z with z | rfl
    · exact ok.hd.pt a z
    · exact ⟨hf, o, h⟩, fun k q ds e1 e2 a ha z => by
    rcases z with z | rfl
    · exact ok.hd.np k q ds e1 e2 a ha z
    · exact nm (mem_fl e1 ha)⟩, ok.ln, ok.sr⟩
theorem Gr.out {Hf' H' : Hp} {fp' : List (List Addr)} (g : Gr Hf H fp Hf' H' fp') {p : Addr} {o : HO} (h : H p = some o) (nm : p ∉ fp.flatten) : H' p = some o ∧ p ∉ fp'.flatten :=
  ⟨g.fr p o h nm, fun m => (g.nw p m).elim nm fun z => by
    rw [h] at z
    cases z⟩
/-- an object that stands by itself is laid, as it is -/
theorem Okk.apart (ok : Okk K c Hf H σ fp S) {p : Addr} (o : HO) (hp : H p = none) : Okk K c Hf (upd H p o) σ fp S ∧ Gr Hf H fp Hf (upd H p o) fp ∧ p ∉ fp.flatten ∧ ¬ c p := by
  have npf : ∀ a ∈ fp.flatten, a ≠ p := fun a ha => by
    obtain ⟨x, e⟩ := ok.hd.al a ha
    exact ne_of_none e hp
  have keep : ∀ a u, H a = some u → (upd H p o) a = some u := fun a u e => by
    rw [upd_ne (ne_of_none e hp)]
    exact e
  refine ⟨⟨⟨fun b u e => keep b u (ok.hd.ex b u e), ok.hd.fl, fun k q u h1 h2 => (ok.hd.oo k q u h1 h2).mono (Same.refl _) fun b hb => upd_ne (npf b (mem_fl h1 hb)), ok.hd.nd, fun a ha => ?_, ok.hd.nf, fun a z => ?_, ok.hd.np⟩, ok.ln, ok.sr⟩,
    ⟨Same.refl _, List.prefix_rfl, fun a u e _ => keep a u e, fun _ m => .inl m, fun a u e => ⟨u, keep a u e⟩⟩, fun m => npf p m rfl, fun z => ?_⟩
  · obtain ⟨x, e⟩ := ok.hd.al a ha
    exact ⟨x, keep a x e⟩
  · obtain ⟨z1, u, z2⟩ := ok.hd.pt a z
    exact ⟨z1, u, keep a u z2⟩
  · obtain ⟨_, u, z2⟩ := ok.hd.pt p z
    rw [hp] at z2
    cases z2
/-- an object that stands by itself, as it is, as one's own -/
theorem Hd.ownR (h : Hd K c Hf H fp ob) {p : Addr} {o : HO} (hp : H p = some o) (hf : Hf p = none) (hm : p ∉ fp.flatten) : Hd K c Hf H (fp ++ [[p]]) (ob ++ [.raw p o]) := by
  have hsz : ∀ {α : Type} (l : List α) (x y : α) (k : Nat), (l ++ [x])[k]? = some y → (k < l.length ∧ l[k]? = some y) ∨ (k = l.length ∧ y = x) := fun l x y k e => by
    by_cases hk : k < l.length
    · rw [List.getElem?_append_left hk] at e
      exact .inl ⟨hk, e⟩
    · have e2 := (List.getElem?_eq_some_iff.mp e).1
      rw [List.length_append, List.length_singleton] at e2
      have e3 : k = l.length := by omega
      subst e3
      rw [List.getElem?_concat_length] at e
      exact .inr ⟨rfl, (Option.some.inj e).symm⟩
  refine ⟨h.ex, by rw [List.length_append, List.length_append, h.fl]; rfl, fun k a x h1 h2 => ?_, ?_, fun a ha => ?_, fun k q x h1 h2 hx a ha => ?_, h.pt, fun k q ds' h1 h2 a ha => ?_⟩
  · rcases hsz _ _ _ _ h1 with ⟨hk, h1'⟩ | ⟨hk, rfl⟩
    · rcases hsz _ _ _ _ h2 with ⟨hk2, h2'⟩ | ⟨hk2, rfl⟩
      · exact h.oo k a x h1' h2'
      · have := h.fl
        omega
    · rcases hsz _ _ _ _ h2 with ⟨hk2, h2'⟩ | ⟨hk2, rfl⟩
      · have := h.fl
        omega
      · exact ⟨rfl, hp⟩
  · rw [List.flatten_append, List.nodup_append]
    refine ⟨h.nd, by simp, fun a ha b hb => ?_⟩
    have e : b = p := by simpa using hb
    rw [e]
    exact fun z => hm (z ▸ ha)
  · rw [List.flatten_append, List.mem_append] at ha
    rcases ha with ha | ha
    · exact h.al a ha
    · have e : a = p := by simpa using ha
      rw [e]
      exact ⟨_, hp⟩
  · rcases hsz _ _ _ _ h1 with ⟨hk, h1'⟩ | ⟨hk, rfl⟩
    · rcases hsz _ _ _ _ h2 with ⟨hk2, h2'⟩ | ⟨hk2, rfl⟩
      · exact h.nf k q x h1' h2' hx a ha
      · have := h.fl
        omega
    · have e : a = p := by simpa using ha
      rw [e]
      exact hf
  · rcases hsz _ _ _ _ h1 with ⟨hk, h1'⟩ | ⟨hk, rfl⟩
    · rcases hsz _ _ _ _ h2 with ⟨hk2, h2'⟩ | ⟨hk2, e2⟩
      · exact h.np k q ds' h1' h2' a ha
      · have := h.fl
        omega
    · rcases hsz _ _ _ _ h2 with ⟨hk2, h2'⟩ | ⟨hk2, e2⟩
      · have := h.fl
        omega
      · cases e2
/-- a new object that is one's own, as it is -/
theorem Okk.newR (ok : Okk K c Hf H σ fp S) {p : Addr} (o : HO) (hp : H p = none) : Okk K c Hf (upd H p o) σ (fp ++ [[p]]) { S with ob := S.ob ++ [.raw p o] } ∧ Gr Hf H fp Hf (upd H p o) (fp ++ [[p]]) := by
  obtain ⟨ok1, g1, nm, nc⟩ := ok.apart o hp
  refine ⟨⟨ok1.hd.ownR upd_same (ok.hd.ex.free hp) nm, ok1.ln, fun i d e => ?_⟩, g1.own hp⟩
  obtain ⟨x, e1, e2⟩ := ok1.sr i d e
  exact ⟨x, e1, e2.mono (Same.refl _) (List.prefix_append _ _)⟩
theorem Okk.raw (ok : Okk K c Hf H σ fp S) {a : Addr} {o : HO} (ho : S.ob[k]? = some (.raw a o)) : fp[k]? = some [a] ∧ H a = some o := by
  have hk : k < fp.length := by
    rw [ok.hd.fl]
    exact (List.getElem?_eq_some_iff.mp ho).1
  obtain ⟨e, h2⟩ := ok.hd.oo k _ _ (List.getElem?_eq_getElem hk) ho
  exact ⟨by rw [List.getElem?_eq_getElem hk, e], h2⟩
theorem Okk.rawV (ok : Okk K c Hf H σ fp S) {a : Addr} {o : HO} (ho : S.ob[k]? = some (.raw a o)) {v : V} (r : SRl K Hf fp (some v) (.own k)) : v = .ref a := by
  obtain ⟨b, q, h1, h2⟩ := r
  rw [(ok.raw ho).1] at h1
  have : a = b := by
    have := Option.some.inj h1
    simp at this
    exact this.1
  rw [h2, this]
theorem Okk.putR (ok : Okk K c Hf H σ fp S) {a : Addr} {o o' : HO} (ho : S.ob[k]? = some (.raw a o)) : Okk K c Hf (upd H a o') σ fp { S with ob := S.ob.set k (.raw a o') } ∧ Gr Hf H fp Hf (upd H a o') fp := by
  obtain ⟨h1, h2⟩ := ok.raw ho
  obtain ⟨hd, g⟩ := ok.hd.put (o' := .raw a o') (H' := upd H a o') h1 ho (by intro z; cases z) (fun b hb => upd_ne (by simpa using hb)) ⟨rfl, upd_same⟩ (fun b hb => by
    rw [List.mem_singleton.mp hb]
    exact ⟨_, upd_same⟩) (fun _ z => by cases z)
  exact ⟨⟨hd, ok.ln, ok.sr⟩, g⟩
theorem Okk.put_sl (ok : Okk K c Hf H σ fp S) {i : Nat} {a : Addr} {o : HO} (ho : S.ob[k]? = some (.raw a o)) : Okk K c Hf H (σ.set i (some (.ref a))) fp { S with sl := S.sl.set i (.own k) } := by
  refine ok.put (x := .own k) ⟨a, [], ?_, rfl⟩
  exact (ok.raw ho).1
end
end DL

set_option maxRecDepth 100000
set_option maxHeartbeats 1000000
/-! DLw: the law's deck, a dict of a list and a whole number; how it is made -/
namespace DL
open PySem PySem.Spec PyProof.Rows L2
theorem ne_ds : ¬ (kD = kS) := fun h => absurd (Sum.inr.inj h) (by decide +kernel)
theorem val_deep (l : Addr) (s t : Int) : valV (wellK l s t) kD = some (.ref l) := valV_pos (p := (kD, V.ref l)) rfl
theorem val_stirred (l : Addr) (s t : Int) : valV (wellK l s t) kS = some (.int s) := by
  unfold wellK
  rw [valV_neg (p := (kD, V.ref l)) ne_ds]
  exact valV_pos (p := (kS, V.int s)) rfl
theorem put_state (l : Addr) (s t u : Int) : putK (wellK l s t) kS (.int u) = wellK l u t := by
  unfold putK
  have e : ((wellK l s t).any fun kv => decide (kv.1 = kS)) = true := by
    unfold wellK
    rw [List.any_cons, List.any_cons, decide_eq_true (rfl : kS = kS)]
    simp
  rw [if_pos e]
  unfold wellK
  show [(if kD = kS then ((kD, V.int u) : Key × V) else (kD, V.ref l)), (if kS = kS then ((kS, V.int u) : Key × V) else (kS, V.int s))] = _
  rw [if_neg ne_ds, if_pos rfl]
theorem put_deep (l l' : Addr) (s t : Int) : putK (wellK l s t) kD (.ref l') = wellK l' s t := by
  unfold putK
  have e : ((wellK l s t).any fun kv => decide (kv.1 = kD)) = true := by
    unfold wellK
    rw [List.any_cons, decide_eq_true (rfl : kD = kD)]
    simp
  rw [if_pos e]
  unfold wellK
  show [(if kD = kD then ((kD, V.ref l') : Key × V) else (kD, V.ref l)), (if kS = kD then ((kD, V.ref l') : Key × V) else (kS, V.int s))] = _
  rw [if_pos rfl, if_neg (Ne.symm ne_ds)]
theorem merge_well (l : Addr) (s t : Int) : mergeK [] (wellK l s t) = wellK l s t := by
  show putK (putK [] kD (.ref l)) kS (.int s) = _
  have a1 : putK ([] : List (Key × V)) kD (.ref l) = [(kD, V.ref l)] := rfl
  rw [a1]
  exact putK_new _ (by
    rw [valV_neg (p := (kD, V.ref l)) ne_ds]
    rfl)
section
variable {K : PySem.W.Frag} {S S0 S1 S2 S3 : SS} {td te tv : TE} {x y z : SD} {i : Int} {k : Nat} {ds : List Int} {s t : Int} {E : DE}
variable {c : Addr → Prop} {Hf H : Hp} {σ : L2.St} {fp : List (List Addr)}
theorem Okk.well (ok : Okk K c Hf H σ fp S) (ho : S.ob[k]? = some (.well ds s t)) {v : V} (r : SRl K Hf fp (some v) (.own k)) :
    ∃ a l, v = .ref a ∧ fp[k]? = some [a, l] ∧ H a = some (.dK (wellK l s t)) ∧ H l = some (.lst (ds.map V.int)) := by
  obtain ⟨a, q, h1, h2⟩ := r
  obtain ⟨a', l, e, h3, h4⟩ := ok.hd.oo k _ _ h1 ho
  have e2 : a = a' ∧ q = [l] := by simpa using e
  obtain ⟨rfl, rfl⟩ := e2
  exact ⟨a, l, h2, h1, h3, h4⟩
theorem ee_wS (h : Ee K td S (.own k) S1) (ho : S1.ob[k]? = some (.well ds s t)) : Ee K (tDGet td (tC (.str "state"))) S (.dat (.int s)) S1 := fun c Hf H σ fp ok Q q =>
  h c Hf H σ fp ok _ fun v Hf1 H1 fp1 ok1 g1 r1 => by
    obtain ⟨a, l, rfl, _, h2, _⟩ := ok1.well ho r1
    refine ⟨a, .int s, rfl, ?_, q _ _ _ _ ok1 g1 (Rp.int _)⟩
    rw [← val_stirred l s t]
    exact DGet.k (k := kS) h2
theorem dp_ints {H : Hp} {l : Addr} (h : H l = some (.lst (ds.map V.int))) : Dp K H (.ref l) (.list (ds.map PyData.int)) := by
  refine .lst (.inl (.inl h)) ?_
  clear h
  induction ds with
  | nil => exact .nil
  | cons n r ih => exact .cons (.int n) ih
theorem shaped_ints : SeqAt.shaped (.list (ds.map PyData.int)) = true := by
  have h1 : PyData.canLayAll0 (ds.map PyData.int) = true := by
    induction ds with
    | nil => rfl
    | cons n r ih => simp [PyData.canLayAll0, PyData.canLay0, ih]
  have h2 : PyData.depthAll (ds.map PyData.int) ≤ 1 := by
    clear h1
    induction ds with
    | nil => simp [PyData.depthAll]
    | cons n r ih => simp [PyData.depthAll, PyData.depth, ih]
  unfold SeqAt.shaped
  rw [Bool.and_eq_true]
  refine ⟨by simpa [PyData.canLay0] using h1, decide_eq_true ?_⟩
  simp only [PyData.depth]
  omega
theorem eqv_nil : PyData.eqv (.list (ds.map PyData.int)) (.list []) = ds.isEmpty := by
  cases ds <;> simp [PyData.eqv, PyData.eqvAll]
/-- well["deep"] != [] -/
theorem ee_wne (h : Ee K td S (.own k) S1) (ho : S1.ob[k]? = some (.well ds s t)) : Ee K (tOp (rNeU K) (tDGet td (tC (.str "deep"))) (tLst tNil)) S (.dat (.bool (!ds.isEmpty))) S1 := fun c Hf H σ fp ok Q q =>
  h c Hf H σ fp ok _ fun v Hf1 H1 fp1 ok1 g1 r1 => by
    obtain ⟨a, l, rfl, _, h2, h3⟩ := ok1.well ho r1
    refine ⟨a, .ref l, rfl, ?_, Nat.zero_le _, fun p hp => ?_⟩
    · rw [← val_deep l s t]
      exact DGet.k (k := kD) h2
    · obtain ⟨ok2, g2⟩ := ok1.laid (.lst []) hp
      refine .inr ⟨.list (ds.map PyData.int), .list [], dp_ints (by rw [upd_ne (ne_of_none h3 hp)]; exact h3), .lst (.inl (.inl upd_same)) .nil, shaped_ints, by decide, ?_⟩
      rw [eqv_nil]
      exact q _ _ _ _ ok2 (g1.trans g2) (Rp.bl _)
/-- the well changes -/
theorem Okk.setW (ok : Okk K c Hf H σ fp S) (ho : S.ob[k]? = some (.well ds s t)) {v : V} (r : SRl K Hf fp (some v) (.own k)) :
    ∃ a l, v = .ref a ∧ H a = some (.dK (wellK l s t)) ∧ H l = some (.lst (ds.map V.int)) ∧ (∀ es : List Int, Okk K c Hf (upd H l (.lst (es.map V.int))) σ fp { S with ob := S.ob.set k (.well es s t) } ∧ Gr Hf H fp Hf (upd H l (.lst (es.map V.int))) fp) ∧
      ∀ u : Int, Okk K c Hf (upd H a (.dK (wellK l u t))) σ fp { S with ob := S.ob.set k (.well ds u t) } ∧ Gr Hf H fp Hf (upd H a (.dK (wellK l u t))) fp := by
  obtain ⟨a, l, rfl, h1, h2, h3⟩ := ok.well ho r
  have hal : a ≠ l := ne_of h2 h3 (by intro z; cases z)
  have nl : ∀ {o' : OO}, (∀ ds', o' ≠ .lst ds') → ∀ ds', o' = .lst ds' → ∃ ds0, OO.well ds s t = .lst ds0 := fun h ds' e => absurd e (h ds')
  refine ⟨a, l, rfl, h2, h3, fun es => ?_, fun u => ?_⟩
  · obtain ⟨hd, g⟩ := ok.hd.put (o' := .well es s t) (H' := upd H l (.lst (es.map V.int))) h1 ho (by intro z; cases z) (fun b hb => upd_ne (by rw [List.mem_cons, not_or] at hb; simpa using hb.2)) ⟨a, l, rfl, by rw [upd_ne hal]; exact h2, upd_same⟩ (fun b hb => by
      rcases List.mem_cons.mp hb with e | e
      · rw [e, upd_ne hal]
        exact ⟨_, h2⟩
      · rw [List.mem_singleton.mp e]
        exact ⟨_, upd_same⟩) (nl fun _ z => by cases z)
    exact ⟨⟨hd, ok.ln, ok.sr⟩, g⟩
  · obtain ⟨hd, g⟩ := ok.hd.put (o' := .well ds u t) (H' := upd H a (.dK (wellK l u t))) h1 ho (by intro z; cases z) (fun b hb => upd_ne (by rw [List.mem_cons, not_or] at hb; exact hb.1)) ⟨a, l, rfl, upd_same, by rw [upd_ne (Ne.symm hal)]; exact h3⟩ (fun b hb => by
      rcases List.mem_cons.mp hb with e | e
      · rw [e]
        exact ⟨_, upd_same⟩
      · rw [List.mem_singleton.mp e, upd_ne (Ne.symm hal)]
        exact ⟨_, h3⟩) (nl fun _ z => by cases z)
    exact ⟨⟨hd, ok.ln, ok.sr⟩, g⟩
/-- well["deep"].pop() -/
theorem ee_wpop (h : Ee K td S (.own k) S1) (ho : S1.ob[k]? = some (.well (ds ++ [i]) s t)) : Ee K (tBM0 K "list" rPop (tDGet td (tC (.str "deep")))) S (.dat (.int i)) { S1 with ob := S1.ob.set k (.well ds s t) } := fun c Hf H σ fp ok Q q =>
  h c Hf H σ fp ok _ fun v Hf1 H1 fp1 ok1 g1 r1 => by
    obtain ⟨a, l, rfl, h2, h3, hw, _⟩ := ok1.setW ho r1
    obtain ⟨ok2, g2⟩ := hw ds
    refine ⟨a, .ref l, rfl, ?_, .inl ⟨rfl, _, .inl (.inl h3)⟩, l, _, .int i, rfl, rfl, h3, ?_, ?_⟩
    · rw [← val_deep l s t]
      exact DGet.k (k := kD) h2
    · rw [List.map_append, List.length_append, List.length_map]
      show (ds.map V.int ++ [V.int i])[ds.length + 1 - 1]? = _
      rw [Nat.add_sub_cancel]
      have := List.getElem?_concat_length (l := ds.map V.int) (a := V.int i)
      rw [List.length_map] at this
      exact this
    · have e : ((ds ++ [i]).map V.int).dropLast = ds.map V.int := by
        rw [List.map_append]
        exact List.dropLast_concat
      rw [e]
      exact q _ _ _ _ ok2 (g1.trans g2) (Rp.int _)
/-- well["deep"].append(e) -/
theorem ee_wapp (h : Ee K td S (.own k) S1) (ho1 : ∃ ds1 s1 t1, S1.ob[k]? = some (.well ds1 s1 t1)) (he : Ee K te S1 (.dat (.int i)) S2) (ho : S2.ob[k]? = some (.well ds s t)) (hsame : S2 = S1) (hz : ds.length < 1000000) :
    Ee K (tBM K "list" rAppend (tDGet td (tC (.str "deep"))) (tCons te tNil)) S (.dat .none) { S2 with ob := S2.ob.set k (.well (ds ++ [i]) s t) } := fun c Hf H σ fp ok Q q =>
  h c Hf H σ fp ok _ fun v Hf1 H1 fp1 ok1 g1 r1 => by
    have ho1 : S1.ob[k]? = some (.well ds s t) := by
      rw [← hsame]
      exact ho
    obtain ⟨a, l, rfl, q1, h2, h3⟩ := ok1.well ho1 r1
    refine ⟨a, .ref l, rfl, ?_, .inl ⟨rfl, _, .inl (.inl h3)⟩, he c Hf1 H1 σ fp1 ok1 _ fun u Hf2 H2 fp2 ok2 g2 r2 => ?_⟩
    · rw [← val_deep l s t]
      exact DGet.k (k := kD) h2
    · cases r2
      obtain ⟨a', l', e', k2, k3, hw, _⟩ := ok2.setW ho (r1.mono g2.sm g2.pr)
      cases e'
      obtain ⟨a2, l2, e2, q2, _, _⟩ := ok2.well ho (r1.mono g2.sm g2.pr)
      cases e2
      have el : l = l' := by
        have f1 := pre_get g2.pr q1
        have f2 := ok2.hd.oo k _ _ f1 ho
        obtain ⟨x1, x2, f3, f4, f5⟩ := f2
        have f6 : x1 = a ∧ x2 = l := by
          have := f3
          simp at this
          exact ⟨this.1.symm, this.2.symm⟩
        obtain ⟨rfl, rfl⟩ := f6
        rw [k2] at f4
        have f7 : wellK l' s t = wellK x2 s t := by
          have := Option.some.inj f4
          injection this
        unfold wellK at f7
        injection f7 with f8 _
        injection f8 with _ f9
        injection f9 with f10
        exact f10.symm
      subst el
      obtain ⟨ok3, g3⟩ := hw (ds ++ [i])
      refine ⟨l, _, .int i, rfl, rfl, k3, ?_, ?_⟩
      · rw [List.length_map]
        exact Nat.lt_of_lt_of_le hz (by decide)
      · rw [List.map_append] at ok3 g3
        exact q _ _ _ _ ok3 ((g1.trans g2).trans g3) Rp.non
/-- deck["state"] = e -/
theorem ts_wstate (hv : Ee K tv S (.dat (.int i)) S1) (h : Ee K td S1 (.own k) S2) (ho : S2.ob[k]? = some (.well ds s t)) (kx : E.nx { S2 with ob := S2.ob.set k (.well ds i t) }) : Ts K (sDPut td (tC (.str "state")) tv) S E := fun c Hf H σ fp ok D n r bk ct =>
  hv c Hf H σ fp ok _ fun u Hf1 H1 fp1 ok1 g1 r1 => h c Hf1 H1 σ fp1 ok1 _ fun v Hf2 H2 fp2 ok2 g2 r2 => by
    cases r1
    obtain ⟨a, l, rfl, k2, k3, _, hw⟩ := ok2.setW ho r2
    obtain ⟨ok3, g3⟩ := hw i
    refine ⟨a, _, rfl, DPut.k (k := kS) k2 (by show 2 < sizeLine; decide), ?_⟩
    rw [put_state]
    exact n _ _ _ _ _ ok3 ((g1.trans g2).trans g3) kx
/-- deck = {"deep": [], "state": e} -/
theorem ts_newdeck {t2 : TE} {n : Nat} (h2 : ∀ ob', Ee K t2 { S with ob := ob' } (.dat (.int s)) { S with ob := ob' }) (kx : ∀ a l, E.nx { S with sl := S.sl.set n (.own S.ob.length), ob := S.ob ++ [.raw a (.dK (wellK l s 0)), .raw l (.lst [])] }) :
    Ts K (tAsg (tDisp [(tC (.str "deep"), tLst tNil), (tC (.str "state"), t2)]) (gName n)) S E := fun c Hf H σ fp ok D nx r bk ct p hp => by
  obtain ⟨ok1, g1⟩ := ok.newR (.dK []) hp
  refine ⟨Nat.zero_le _, fun l hl => ?_⟩
  obtain ⟨ok2, g2⟩ := ok1.newR (.lst []) hl
  have e0 : (S.ob ++ [OO.raw p (.dK [])]) ++ [OO.raw l (.lst [])] = S.ob ++ [OO.raw p (.dK []), OO.raw l (.lst [])] := by rw [List.append_assoc]; rfl
  refine h2 _ c Hf _ σ _ ok2 _ fun v Hf3 H3 fp3 ok3 g3 r3 => ?_
  cases r3
  have at0 : ((S.ob ++ [OO.raw p (.dK [])]) ++ [OO.raw l (.lst [])])[S.ob.length]? = some (OO.raw p (.dK [])) := by
    rw [e0, List.getElem?_append_right (Nat.le_refl _), Nat.sub_self]
    rfl
  obtain ⟨k1, k2⟩ := ok3.raw at0
  refine ⟨k2, wellK l s 0, rfl, by show 2 ≤ 15; decide, ?_⟩
  rw [merge_well]
  obtain ⟨ok4, g4⟩ := ok3.putR (o' := .dK (wellK l s 0)) at0
  have es : ((S.ob ++ [OO.raw p (.dK [])]) ++ [OO.raw l (.lst [])]).set S.ob.length (OO.raw p (.dK (wellK l s 0))) = S.ob ++ [OO.raw p (.dK (wellK l s 0)), OO.raw l (.lst [])] := by
    rw [e0, List.set_append_right _ _ (Nat.le_refl _), Nat.sub_self]
    rfl
  have ok4 : Okk K c Hf3 (upd H3 p (.dK (wellK l s 0))) σ fp3 { S with ob := S.ob ++ [OO.raw p (.dK (wellK l s 0)), OO.raw l (.lst [])] } := by
    rw [← es]
    exact ok4
  have ok5 := ok4.put_sl (k := S.ob.length) (i := n) (a := p) (o := .dK (wellK l s 0)) (by
    show (S.ob ++ [.raw p (.dK (wellK l s 0)), .raw l (.lst [])])[S.ob.length]? = _
    rw [List.getElem?_append_right (Nat.le_refl _), Nat.sub_self]
    rfl)
  exact nx _ _ _ _ _ ok5 (((g1.trans g2).trans g3).trans g4) (kx p l)
/-- deck["state"] of a deck that is being made -/
theorem ee_rS {i : Nat} {a l : Addr} (hs : S.sl[i]? = some (.own k)) (ho : S.ob[k]? = some (.raw a (.dK (wellK l s t)))) : Ee K (tDGet (tVar i) (tC (.str "state"))) S (.dat (.int s)) S := fun c Hf H σ fp ok Q q =>
  ee_var hs (fun z => by cases z) c Hf H σ fp ok _ fun v Hf1 H1 fp1 ok1 g1 r1 => by
    obtain rfl := ok1.rawV ho r1
    refine ⟨a, .int s, rfl, ?_, q _ _ _ _ ok1 g1 (Rp.int _)⟩
    rw [← val_stirred l s t]
    exact DGet.k (k := kS) (ok1.raw ho).2
/-- [e] + deck["deep"] -/
theorem el_rcons {i j : Nat} {a l : Addr} {x : Int} (hw : Ee K te S (.dat (.int x)) S) (hs : S.sl[i]? = some (.own k)) (ho : S.ob[k]? = some (.raw a (.dK (wellK l s t)))) (hj : S.ob[j]? = some (.raw l (.lst (ds.map V.int)))) (hl : ds.length ≤ 1000) :
    El K (tOp (rPlus K) (tLst (tCons te tNil)) (tDGet (tVar i) (tC (.str "deep")))) S ((x :: ds).map PyData.int) S := fun c Hf H σ fp ok Q q =>
  ee_of_el (el_lst (ds := [.int x]) (ed_cons hw ed_nil) (show (1 : Nat) ≤ 1000000 by decide)) c Hf H σ fp ok _ fun u Hf0 H0 fp0 ok0 g0 r0 => ee_var hs (fun z => by cases z) c Hf0 H0 σ fp0 ok0 _ fun v Hf1 H1 fp1 ok1 g1 r1 => by
    obtain rfl := ok1.rawV ho r1
    refine ⟨a, .ref l, rfl, ?_, ?_⟩
    · rw [← val_deep l s t]
      exact DGet.k (k := kD) (ok1.raw ho).2
    · cases r0.mono g1.sm g1.pr with
      | lst h1 h2 =>
        refine .inr (.inl ⟨_, l, _, _, rfl, rfl, ok1.hd.ex _ _ h1, (ok1.raw hj).2, ?_, fun p hp => ?_⟩)
        · rw [h2.len, List.length_map]
          exact Nat.le_trans (show 1 + ds.length ≤ 1001 by omega) (by decide)
        · obtain ⟨ok2, g2, al⟩ := ok1.alone hp (h2.append (RpA.ints ds))
          exact q p _ _ _ ok2 ((g0.trans g1).trans g2) (none_back (g0.trans g1).th hp) al
/-- deck["deep"] = a new list -/
theorem ts_rdeep {i : Nat} {a l : Addr} (h : El K te S (ds.map PyData.int) S) (hs : S.sl[i]? = some (.own k)) (ho : S.ob[k]? = some (.raw a (.dK (wellK l s t)))) (kx : ∀ l', E.nx { S with ob := S.ob.set k (.raw a (.dK (wellK l' s t))) ++ [.raw l' (.lst (ds.map V.int))] }) :
    Ts K (sDPut (tVar i) (tC (.str "deep")) te) S E := fun c Hf H σ fp ok D n r bk ct =>
  h c Hf H σ fp ok _ fun p Hf1 H1 fp1 ok1 g1 hp al => by
    obtain ⟨⟨xs, l1, l2⟩, l3, l4, l5⟩ := al
    refine ee_var hs (fun z => by cases z) _ Hf1 H1 σ fp1 (ok1.guard l1 l3 l4) _ fun v Hf2 H2 fp2 ok2 g2 r2 => ?_
    obtain rfl := ok2.rawV ho r2
    have exs := RpA.ints_inv l2
    subst exs
    obtain ⟨b1, b2⟩ := g2.out l1 l4
    have b3 := (ok2.hd.pt p (.inr rfl)).1
    have ok3 : Okk K c Hf2 H2 σ fp2 S := ok2.weak fun a z => .inl z
    obtain ⟨ok4, g4⟩ := ok3.putR (o' := .dK (wellK p s t)) ho
    have hpa : p ≠ a := fun e => by
      have := (ok3.raw ho).2
      rw [← e, b1] at this
      cases this
    have ok5 : Okk K c Hf2 (upd H2 a (.dK (wellK p s t))) σ (fp2 ++ [[p]]) { S with ob := S.ob.set k (.raw a (.dK (wellK p s t))) ++ [.raw p (.lst (ds.map V.int))] } := by
      refine ⟨ok4.hd.ownR (by rw [upd_ne hpa]; exact b1) b3 b2, ok4.ln, fun i d e => ?_⟩
      obtain ⟨x, e1, e2⟩ := ok4.sr i d e
      exact ⟨x, e1, e2.mono (Same.refl _) (List.prefix_append _ _)⟩
    refine ⟨a, _, rfl, DPut.k (k := kD) (ok3.raw ho).2 (by show 2 < sizeLine; decide), ?_⟩
    rw [put_deep]
    exact n _ _ _ _ _ ok5 (((g1.trans g2).trans g4).own hp) (kx p)
/-- deck["state"] = e, of a deck that is being made -/
theorem ts_rstate {i : Nat} {a l : Addr} {u : Int} (hv : Ee K tv S (.dat (.int u)) S) (hs : S.sl[i]? = some (.own k)) (ho : S.ob[k]? = some (.raw a (.dK (wellK l s t)))) (kx : E.nx { S with ob := S.ob.set k (.raw a (.dK (wellK l u t))) }) :
    Ts K (sDPut (tVar i) (tC (.str "state")) tv) S E := fun c Hf H σ fp ok D n r bk ct =>
  hv c Hf H σ fp ok _ fun x Hf1 H1 fp1 ok1 g1 r1 => ee_var hs (fun z => by cases z) c Hf1 H1 σ fp1 ok1 _ fun v Hf2 H2 fp2 ok2 g2 r2 => by
    cases r1
    obtain rfl := ok2.rawV ho r2
    refine ⟨a, _, rfl, DPut.k (k := kS) (ok2.raw ho).2 (by show 2 < sizeLine; decide), ?_⟩
    rw [put_state]
    obtain ⟨ok3, g3⟩ := ok2.putR (o' := .dK (wellK l u t)) ho
    exact n _ _ _ _ _ ok3 ((g1.trans g2).trans g3) kx
end
end DL

set_option maxRecDepth 100000
set_option maxHeartbeats 1000000
/-! DLx: objects of a def's own that nobody sees any more are forgotten at its end -/
namespace DL
open PySem PySem.Spec PyProof.Rows L2
section
variable {K : PySem.W.Frag} {S S0 S1 S2 S3 : SS} {te : TE} {ob ob' ob1 : List OO} {as : List SD} {R : FR} {r : SD}
variable {c : Addr → Prop} {Hf H Hf' H' : Hp} {σ : L2.St} {fp fp' : List (List Addr)}
theorem take_get {α : Type} {l : List α} {n k : Nat} {x : α} (h : (l.take n)[k]? = some x) : l[k]? = some x := by
  rw [List.getElem?_take] at h
  split at h
  · exact h
  · cases h
theorem take_fl {fp : List (List Addr)} {n : Nat} {a : Addr} (h : a ∈ (fp.take n).flatten) : a ∈ fp.flatten := by
  obtain ⟨p, h1, h2⟩ := List.mem_flatten.mp h
  exact List.mem_flatten.mpr ⟨p, List.mem_of_mem_take h1, h2⟩
theorem Hd.cut (h : Hd K c Hf H fp ob) (p : ob1 <+: ob) : Hd K c Hf H (fp.take ob1.length) ob1 := by
  refine ⟨h.ex, ?_, fun k a o e1 e2 => h.oo k a o (take_get e1) (pre_get p e2), ?_, fun a ha => h.al a (take_fl ha), fun k q o e1 e2 => h.nf k q o (take_get e1) (pre_get p e2), h.pt, fun k q ds e1 e2 => h.np k q ds (take_get e1) (pre_get p e2)⟩
  · have := p.length_le
    have := h.fl
    rw [List.length_take]
    omega
  · have e : fp.flatten = (fp.take ob1.length).flatten ++ (fp.drop ob1.length).flatten := by
      rw [← List.flatten_append, List.take_append_drop]
    have := h.nd
    rw [e, List.nodup_append] at this
    exact this.1
theorem Gr.cut (g : Gr Hf H fp Hf' H' fp') {n : Nat} (hl : fp.length ≤ n) : Gr Hf H fp Hf' H' (fp'.take n) :=
  ⟨g.sm, List.prefix_take_iff.mpr ⟨g.pr, hl⟩, g.fr, fun a m => g.nw a (take_fl m), g.th⟩
theorem SRl.cut {v : V} {n : Nat} (h : SRl K Hf fp (some v) r) (hk : ∀ k, r = .own k → k < n) : SRl K Hf (fp.take n) (some v) (nol r) := by
  cases r with
  | un => trivial
  | dat d => exact h
  | scr ns => exact h
  | rng _ _ => exact h
  | lown _ => trivial
  | tx _ => exact h
  | tq _ _ _ => exact h
  | no => exact h
  | own k =>
    obtain ⟨a, q, h1, h2⟩ := h
    refine ⟨a, q, ?_, h2⟩
    rw [List.getElem?_take, if_pos (hk k rfl)]
    exact h1
/-- a def's body, over data; what it made for itself is forgotten -/
theorem body_ofG {N : List Str} {np : Nat} {ts : TS} {vs : List V} {Q : VK} {E : XK} (h : spD K np R vs H Q E) (hN : np ≤ N.length)
    (hk : ∀ as ob r ob', R as ob r ob' → ob.length ≤ ob'.length ∧ ∀ k, r = .own k → k < ob'.length)
    (hb : ∀ as ob r ob', R as ob r ob' → as.length = np → Ts K ts (entry N.length as ob) { nx := fun S' => r = .dat .none ∧ ob' <+: S'.ob, rt := fun x S' => x = r ∧ ob' <+: S'.ob }) : ts { nx := fun _ H' => Q .non H', rt := Q } (L2.start N vs) H := by
  have h2 : spD K np (fun as ob r obx => R as ob r obx) vs H Q E := h
  obtain ⟨hl, Hf, fp, as, ob, r, ob', hd, hno, sr, hR, k⟩ := h
  obtain ⟨k1, k2⟩ := hk _ _ _ _ hR
  have la : as.length = np := by
    rw [← hl]
    exact (Paired.length sr).symm
  have ok : Okk K (prot Hf H) Hf H (L2.start N vs) fp (entry N.length as ob) := by
    refine ⟨hd, ?_, fun i d e => ?_⟩
    · unfold L2.start entry
      simp only [List.length_append, List.length_map, List.length_replicate]
      omega
    · unfold entry at e
      by_cases hi : i < as.length
      · rw [List.getElem?_append_left hi] at e
        obtain ⟨v, h1, h2⟩ := sr.get e
        refine ⟨some v, ?_, h2⟩
        unfold L2.start
        rw [List.getElem?_append_left (by rw [List.length_map]; omega), List.getElem?_map, h1]
        rfl
      · rw [List.getElem?_append_right (by omega), List.getElem?_replicate] at e
        split at e
        · rename_i hlt
          obtain rfl := Option.some.inj e
          refine ⟨none, ?_, trivial⟩
          unfold L2.start
          rw [List.getElem?_append_right (by rw [List.length_map]; omega), List.getElem?_replicate, if_pos (by rw [List.length_map]; omega)]
        · cases e
  have k1' : fp.length ≤ ob'.length := by
    rw [hd.fl]
    exact k1
  refine hb as ob r ob' hR la _ Hf H _ fp ok _ (fun S' Hf' H' σ' fp' ok' g e => ?_) (fun x S' v Hf' H' σ' fp' ok' g rv e => ?_) (fun _ _ _ _ _ _ _ z => z.elim) fun _ _ _ _ _ _ _ z => z.elim
  · obtain ⟨rfl, p⟩ := e
    exact k .non Hf' H' _ (ok'.hd.cut p) (g.cut k1') Rp.non
  · obtain ⟨rfl, p⟩ := e
    exact k v Hf' H' _ (ok'.hd.cut p) (g.cut k1') (rv.cut k2)
/-- an operator, its fragment told -/
theorem opK {X : Cx} (K : PySem.W.Frag) {R : PySem.W.Frag → R2} {f : Value → Value → Sem Value} (h : OpR X f (R X.K)) (e : X.K = K) : OpR X f (R K) := e ▸ h
/-- the script's part -/
theorem RpA.ofInts {xs : List V} {ns : List Int} (e : xs = ns.map V.int) : RpA K Hf xs (ns.map PyData.int) := e ▸ RpA.ints ns
theorem el_slScr {tl th : TO} {lo hi : Option Int} {ns : List Int} (h : Ee K te S (.scr ns) S1) (hl : Eo K tl S1 lo S2) (hh : Eo K th S2 hi S3) : El K (tSl (rSlU K) te tl th) S (cutD (ns.map PyData.int) lo hi) S3 := fun c Hf H σ fp ok Q q =>
  h c Hf H σ fp ok _ fun v Hf1 H1 fp1 ok1 g1 r1 => hl c Hf1 H1 σ fp1 ok1 _ fun Hf2 H2 fp2 ok2 g2 => hh c Hf2 H2 σ fp2 ok2 _ fun Hf3 H3 fp3 ok3 g3 => by
    obtain ⟨a, rfl, h1⟩ := r1
    refine .inl ⟨a, _, rfl, (g2.sm.trans g3.sm |>.trans ok3.hd.ex).seq h1, fun p hp => ?_⟩
    obtain ⟨ok4, g4, al⟩ := ok3.alone hp (cutD_rp (RpA.ints ns) (lo := lo) (hi := hi))
    have G := (g1.trans g2).trans g3
    exact q p _ _ _ ok4 (G.trans g4) (none_back G.th hp) al
theorem cut_take {n : Nat} (ns : List Int) : cutD (ns.map PyData.int) none (some (n : Int)) = (ns.take n).map PyData.int := by
  unfold cutD
  have e1 : HT.sIx (ns.map PyData.int).length 0 none = 0 := rfl
  have e2 : HT.sIx (ns.map PyData.int).length (ns.map PyData.int).length (some (n : Int)) = min n (ns.map PyData.int).length := by
    unfold HT.sIx
    simp
    omega
  rw [e1, e2, List.drop_zero, Nat.sub_zero, List.map_take]
  by_cases h : n ≤ (ns.map PyData.int).length
  · rw [Nat.min_eq_left h]
  · rw [Nat.min_eq_right (by omega), List.take_of_length_le (Nat.le_refl _), List.take_of_length_le (by omega)]
end
end DL

set_option maxRecDepth 100000
set_option maxHeartbeats 1000000
/-! DLs: sorted, slices of tuples, products, zip, while, own dicts of whole numbers, l.pop(i), list(range(..)), l[::-1], targets out of lists -/
namespace DL
open PySem PySem.Spec PyProof.Rows L2
/-! ### whole numbers in order -/
def sortI (ns : List Int) : List Int := ns.mergeSort fun a b => decide (a ≤ b)
theorem sortI_perm (ns : List Int) : (sortI ns).Perm ns := List.mergeSort_perm _ _
theorem sortI_sorted (ns : List Int) : (sortI ns).Pairwise (· ≤ ·) := by
  have h := List.pairwise_mergeSort (le := fun a b : Int => decide (a ≤ b)) (fun a b c h1 h2 => decide_eq_true (Int.le_trans (of_decide_eq_true h1) (of_decide_eq_true h2))) (fun a b => by
    rw [Bool.or_eq_true, decide_eq_true_eq, decide_eq_true_eq]
    exact Int.le_total a b) ns
  exact h.imp fun {a b} z => of_decide_eq_true z
theorem sorted_uniq : ∀ {xs ys : List Int}, xs.Perm ys → xs.Pairwise (· ≤ ·) → ys.Pairwise (· ≤ ·) → xs = ys
  | [], ys, p, _, _ => by rw [List.nil_perm.mp p]
  | x :: xs, [], p, _, _ => by cases (List.perm_nil.mp p)
  | x :: xs, y :: ys, p, s, t => by
    have s1 := List.pairwise_cons.mp s
    have t1 := List.pairwise_cons.mp t
    have e : x = y := by
      have h1 : y ≤ x := by
        rcases List.mem_cons.mp (p.subset (List.mem_cons_self (a := x))) with h | h
        · exact Int.le_of_eq h.symm
        · exact t1.1 x h
      have h2 : x ≤ y := by
        rcases List.mem_cons.mp (p.symm.subset (List.mem_cons_self (a := y))) with h | h
        · exact Int.le_of_eq h.symm
        · exact s1.1 y h
      exact Int.le_antisymm h2 h1
    subst e
    rw [sorted_uniq p.cons_inv s1.2 t1.2]
theorem sortI_of {ms ns : List Int} (p : ms.Perm ns) (s : ms.Pairwise (· ≤ ·)) : ms = sortI ns := sorted_uniq (p.trans (sortI_perm ns).symm) s (sortI_sorted ns)
section
variable {K : PySem.W.Frag} {S S0 S1 S2 S3 S4 : SS} {ta tb tc td te : TE} {t u : TT} {x y z w : SD} {d e : PyData} {i j l : Int} {ds es : List PyData} {ns : List Int} {k n : Nat} {E : DE} {g : TG} {a b : Bool} {tbd : TS}
variable {c : Addr → Prop} {Hf H : Hp} {σ : L2.St} {fp : List (List Addr)}
theorem rcl_sortL (h : AsD S x (.list (ns.map PyData.int))) : RcL K (rSortU K) [x] S ((sortI ns).map PyData.int) S := fun c Hf H σ fp ok vs r Q q => by
  obtain ⟨v, rfl, rv⟩ := r.one
  obtain ⟨a, xs, rfl, h1, h2⟩ := ok.asL rv h
  obtain rfl := RpA.ints_inv h2
  refine .inl ⟨a, ns, rfl, .inl (.inl h1), fun ms p e1 e2 hp => ?_⟩
  obtain ⟨ok2, g2, al⟩ := ok.alone hp (RpA.ints ms)
  rw [sortI_of e1 e2] at *
  exact q p _ _ _ ok2 g2 hp al
theorem rcl_sortT : RcL K (rSortU K) [.dat (.tuple (ns.map PyData.int))] S ((sortI ns).map PyData.int) S := fun c Hf H σ fp ok vs r Q q => by
  obtain ⟨v, rfl, rv⟩ := r.one
  cases rv with
  | tup h1 h2 =>
    obtain rfl := RpA.ints_inv h2
    refine .inr ⟨_, ns, rfl, sameT ok.hd.ex h1, fun ms p e1 e2 hp => ?_⟩
    obtain ⟨ok2, g2, al⟩ := ok.alone hp (RpA.ints ms)
    rw [sortI_of e1 e2] at *
    exact q p _ _ _ ok2 g2 hp al
/-! ### slices -/
theorem ee_slT {tl th : TO} {lo hi : Option Int} (h : Ee K te S (.dat (.tuple ds)) S1) (hl : Eo K tl S1 lo S2) (hh : Eo K th S2 hi S3) : Ee K (tSl (rSlU K) te tl th) S (.dat (.tuple (cutD ds lo hi))) S3 := fun c Hf H σ fp ok Q q =>
  h c Hf H σ fp ok _ fun v Hf1 H1 fp1 ok1 g1 r1 => hl c Hf1 H1 σ fp1 ok1 _ fun Hf2 H2 fp2 ok2 g2 => hh c Hf2 H2 σ fp2 ok2 _ fun Hf3 H3 fp3 ok3 g3 => by
    have r2 := r1.mono (g2.trans g3).sm (g2.trans g3).pr
    have G := (g1.trans g2).trans g3
    cases r2 with
    | tup h1 h2 =>
      refine .inr ⟨_, _, rfl, sameT ok3.hd.ex h1, fun e => ?_, fun _ p hp => ?_⟩
      · refine q _ _ _ _ ok3 G ?_
        have e1 : cutD ds lo hi = ds := by
          unfold cutD
          rw [← h2.len, e.1, e.2, List.drop_zero, Nat.sub_zero, h2.len, List.take_length]
        rw [e1]
        exact Rp.tup h1 h2
      · obtain ⟨ok4, g4⟩ := ok3.laid (.tup _) hp
        exact q _ _ _ _ ok4 (G.trans g4) (Rp.tup (.inl (.inl upd_same)) ((cutD_rp h2).mono g4.sm))
theorem el_slU {tl th : TO} {lo hi : Option Int} (h : Ee K te S x S1) (hl : Eo K tl S1 lo S2) (hh : Eo K th S2 hi S3) (hx : AsD S3 x (.list ds)) : El K (tSl (rSlU K) te tl th) S (cutD ds lo hi) S3 := fun c Hf H σ fp ok Q q =>
  h c Hf H σ fp ok _ fun v Hf1 H1 fp1 ok1 g1 r1 => hl c Hf1 H1 σ fp1 ok1 _ fun Hf2 H2 fp2 ok2 g2 => hh c Hf2 H2 σ fp2 ok2 _ fun Hf3 H3 fp3 ok3 g3 => by
    obtain ⟨a, xs, rfl, h1, h2⟩ := ok3.asL (r1.mono (g2.trans g3).sm (g2.trans g3).pr) hx
    refine .inl ⟨a, xs, rfl, .inl (.inl h1), fun p hp => ?_⟩
    obtain ⟨ok4, g4, al⟩ := ok3.alone hp (cutD_rp h2 (lo := lo) (hi := hi))
    have G := (g1.trans g2).trans g3
    exact q p _ _ _ ok4 (G.trans g4) (none_back G.th hp) al
theorem el_revL (h : Ee K te S x S1) (hx : AsD S1 x (.list ds)) : El K (tRevL K te) S ds.reverse S1 := fun c Hf H σ fp ok Q q =>
  h c Hf H σ fp ok _ fun v Hf1 H1 fp1 ok1 g1 r1 => by
    obtain ⟨a, xs, rfl, h1, h2⟩ := ok1.asL r1 hx
    refine ⟨a, xs, rfl, .inl (.inl h1), fun p hp => ?_⟩
    obtain ⟨ok2, g2, al⟩ := ok1.alone hp h2.reverse
    exact q p _ _ _ ok2 (g1.trans g2) (none_back g1.th hp) al
/-! ### products -/
def repD (k : Nat) (ds : List PyData) : List PyData := (List.replicate k ds).flatten
theorem repD_succ (k : Nat) (ds : List PyData) : repD (k + 1) ds = ds ++ repD k ds := rfl
theorem repD_len (ds : List PyData) : ∀ k : Nat, (repD k ds).length = k * ds.length
  | 0 => by rw [Nat.zero_mul]; rfl
  | k + 1 => by rw [repD_succ, List.length_append, repD_len ds k, Nat.succ_mul, Nat.add_comm]
theorem RpA.rep {xs : List V} (h : RpA K Hf xs ds) : ∀ k : Nat, RpA K Hf (List.replicate k xs).flatten (repD k ds)
  | 0 => .nil
  | k + 1 => h.append (RpA.rep h k)
theorem rol_rep (h : AsD S x (.list ds)) (h0 : 0 ≤ i) (hz : ds.length * i.toNat ≤ 1000000) (hi : i ≤ 1000000) : RoL K (rMulU K) x (.dat (.int i)) S (repD i.toNat ds) S := fun c Hf H σ fp ok v u rv ru Q q => by
  obtain ⟨a, xs, rfl, h1, h2⟩ := ok.asL rv h
  cases ru
  refine .inr (.inr (.inl ⟨a, i, xs, rfl, rfl, h1, by omega, by omega, ?_, fun p hp => ?_⟩))
  · rw [h2.len]
    exact Nat.le_trans hz (by decide)
  · obtain ⟨ok2, g2, al⟩ := ok.alone hp (RpA.rep h2 i.toNat)
    exact q p _ _ _ ok2 g2 hp al
theorem ro_repT (hne : ds ≠ []) (h2 : 2 ≤ i) (hz : ds.length * i.toNat ≤ 1000000) : Ro K (rMulU K) (.dat (.tuple ds)) (.dat (.int i)) S (.dat (.tuple (repD i.toNat ds))) S := fun c Hf H σ fp ok v u rv ru Q q => by
  cases ru
  cases rv with
  | @tup a xs _ h1 h3 =>
    refine .inr (.inr (.inr ⟨a, i, xs, rfl, rfl, sameT ok.hd.ex h1, fun e => hne ?_, h2, by rw [h3.len]; exact hz, fun p hp => ?_⟩))
    · subst e
      cases h3
      rfl
    · obtain ⟨ok2, g2⟩ := ok.laid (.tup _) hp
      exact q _ _ _ _ ok2 g2 (Rp.tup (.inl (.inl upd_same)) ((RpA.rep h3 i.toNat).mono g2.sm))
/-! ### list(range(..)), tuple(range(..)) -/
theorem rp_rng (lo : Int) (hi : Int) : RpA K Hf (rgV lo hi) (rngD lo (hi - lo).toNat) := by
  unfold rgV rngD
  induction (List.range (hi - lo).toNat) with
  | nil => exact .nil
  | cons a r ih => exact .cons (.int _) ih
theorem el_rng1 (h : Ee K te S (.dat (.int i)) S1) (hi : 0 ≤ i ∧ i ≤ 1000000) : El K (tLstRg (tRg1 te)) S (rngD 0 i.toNat) S1 := fun c Hf H σ fp ok Q q =>
  h c Hf H σ fp ok _ fun v Hf1 H1 fp1 ok1 g1 r1 => by
    cases r1
    refine ⟨i, rfl, RgOk.of_le (Int.le_refl 0) (by omega) (by decide) hi.1, fun p hp => ?_⟩
    obtain ⟨ok2, g2, al⟩ := ok1.alone hp (rp_rng (K := K) 0 i)
    rw [Int.sub_zero] at al
    exact q p _ _ _ ok2 (g1.trans g2) (none_back g1.th hp) al
theorem ee_trng1 (h : Ee K te S (.dat (.int i)) S1) (hi : 0 ≤ i ∧ i ≤ 1000000) : Ee K (tTupRg (tRg1 te)) S (.dat (.tuple (rngD 0 i.toNat))) S1 := fun c Hf H σ fp ok Q q =>
  h c Hf H σ fp ok _ fun v Hf1 H1 fp1 ok1 g1 r1 => by
    cases r1
    refine ⟨i, rfl, RgOk.of_le (Int.le_refl 0) (by omega) (by decide) hi.1, fun p hp => ?_⟩
    obtain ⟨ok2, g2⟩ := ok1.laid (.tup (rgV 0 i)) hp
    have r := rp_rng (K := K) (Hf := upd Hf1 p (.tup (rgV 0 i))) 0 i
    rw [Int.sub_zero] at r
    exact q _ _ _ _ ok2 (g1.trans g2) (Rp.tup (.inl (.inl upd_same)) r)
/-! ### zip -/
def zipD (xs ys : List PyData) : List PyData := (List.range (min xs.length ys.length)).map fun i => .tuple [xs.getD i .none, ys.getD i .none]
theorem zipD_len (xs ys : List PyData) : (zipD xs ys).length = min xs.length ys.length := by
  unfold zipD
  rw [List.length_map, List.length_range]
theorem zipD_get {xs ys : List PyData} {i : Nat} (h : (zipD xs ys)[i]? = some d) : ∃ p q, xs[i]? = some p ∧ ys[i]? = some q ∧ d = .tuple [p, q] := by
  unfold zipD at h
  rw [List.getElem?_map] at h
  by_cases hi : i < min xs.length ys.length
  · rw [List.getElem?_range hi] at h
    have h1 : i < xs.length := by omega
    have h2 : i < ys.length := by omega
    refine ⟨xs[i], ys[i], List.getElem?_eq_getElem h1, List.getElem?_eq_getElem h2, ?_⟩
    rw [← Option.some.inj h]
    show PyData.tuple [xs.getD i .none, ys.getD i .none] = _
    rw [List.getD_eq_getElem?_getD, List.getElem?_eq_getElem h1, List.getD_eq_getElem?_getD, List.getElem?_eq_getElem h2]
    rfl
  · rw [List.getElem?_eq_none (by rw [List.length_range]; omega)] at h
    cases h
theorem zip_pair {xs ys : List PyData} {vs us : List V} (r1 : RpA K Hf vs xs) (r2 : RpA K Hf us ys) {Hf1 H1 : Hp} {v : V} {H2 : Hp} {i : Nat} (e1 : Same Hf Hf1) (e2 : Same Hf1 H1) (hd : (zipD xs ys)[i]? = some d) (y : YPair (fun i => vs[i]?) (fun i => us[i]?) i H1 v H2) :
    ∃ p o, H1 p = none ∧ H2 = upd H1 p o ∧ Rp K (upd Hf1 p o) v d := by
  obtain ⟨T, v1, v2, rfl, hT, rfl, y1, y2⟩ := y
  obtain ⟨p, q, k1, k2, rfl⟩ := zipD_get hd
  obtain ⟨w1, a1, a2⟩ := r1.get k1
  obtain ⟨w2, b1, b2⟩ := r2.get k2
  have y3 : some v1 = some w1 := y1.symm.trans a1
  have y4 : some v2 = some w2 := y2.symm.trans b1
  obtain rfl := Option.some.inj y3
  obtain rfl := Option.some.inj y4
  have up : Same Hf1 (upd Hf1 T (.tup [v1, v2])) := fun b o eb => by
    rw [upd_ne (ne_of_none eb (e2.free hT))]
    exact eb
  exact ⟨T, _, hT, rfl, .tup (.inl (.inl upd_same)) (.cons (a2.mono (e1.trans up)) (.cons (b2.mono (e1.trans up)) .nil))⟩
theorem ei_zipT {tas : TA} {xs ys : List PyData} (h : Ed K tas S [.tuple xs, .tuple ys] S1) : Ei K (RZ.iZipA K tas) S (zipD xs ys) S1 := fun c Hf H σ fp ok R q => h c Hf H σ fp ok _ fun v Hf1 H1 fp1 ok1 g1 r1 => by
  cases r1 with
  | cons r1 rr => cases rr with
    | cons r2 rr =>
      cases rr
      cases r1 with
      | tup h1 h2 => cases r2 with
        | tup h3 h4 =>
          refine ⟨_, _, _, _, rfl, .inr ⟨sameT ok1.hd.ex h1, sameT ok1.hd.ex h3, q _ Hf1 H1 fp1 ok1 g1 (wk_of walk_zipT ((zipD_len xs ys).trans (by rw [h2.len, h4.len])) (fun Hf2 H2 e1 e2 => ⟨sameT e2 (sameT e1 h1), sameT e2 (sameT e1 h3)⟩) fun i d Hf2 H2 x H3 e1 e2 hd y => .inr (zip_pair h2 h4 e1 e2 hd y))⟩⟩
/-! ### while -/
theorem ts_while (Pv : Nat → SS → Prop) (m0 : Nat) (h0 : Pv m0 S) (hs : ∀ m S', Pv m S' → ∃ b S1, Et K t S' b S1 ∧ (b = true → Ts K tbd S1 { nx := fun S2 => ∃ m', m' < m ∧ Pv m' S2, rt := E.rt, bk := E.nx, ct := fun S2 => ∃ m', m' < m ∧ Pv m' S2 }) ∧ (b = false → E.nx S1)) : Ts K (tWhile t tbd) S E := fun c Hf H σ fp ok D n r bk ct => by
  refine ⟨fun m σ' H' => ∃ S' Hf' fp', Okk K c Hf' H' σ' fp' S' ∧ Gr Hf H fp Hf' H' fp' ∧ Pv m S', ⟨m0, S, Hf, fp, ok, Gr.refl, h0⟩, ?_⟩
  rintro m σ' H' ⟨S', Hf', fp', ok', g', p⟩
  obtain ⟨b, S1, ht, hb, hd⟩ := hs m S' p
  refine ht c Hf' H' σ' fp' ok' _ fun Hf1 H1 fp1 ok1 g1 => ?_
  cases b with
  | false => exact iteF (n S1 Hf1 H1 σ' fp1 ok1 (g'.trans g1) (hd rfl))
  | true =>
    refine iteT ⟨fun σ2 H2 => ∃ m', m' < m ∧ ∃ S' Hf' fp', Okk K c Hf' H2 σ2 fp' S' ∧ Gr Hf H fp Hf' H2 fp' ∧ Pv m' S', fun σ2 H2 z => z, ?_⟩
    exact hb rfl c Hf1 H1 σ' fp1 ok1 _ (fun S2 Hf2 H2 σ2 fp2 ok2 g2 ⟨m', lt, p'⟩ => ⟨m', lt, S2, Hf2, fp2, ok2, (g'.trans g1).trans g2, p'⟩) (fun x S2 v Hf2 H2 σ2 fp2 ok2 g2 sr p' => r x S2 v Hf2 H2 σ2 fp2 ok2 ((g'.trans g1).trans g2) sr p')
      (fun S2 Hf2 H2 σ2 fp2 ok2 g2 p' => n S2 Hf2 H2 σ2 fp2 ok2 ((g'.trans g1).trans g2) p') (fun S2 Hf2 H2 σ2 fp2 ok2 g2 ⟨m', lt, p'⟩ => ⟨m', lt, S2, Hf2, fp2, ok2, (g'.trans g1).trans g2, p'⟩)
/-! ### l.pop(i) -/
theorem RpA.erase : ∀ {vs : List V} {ds : List PyData} (i : Nat), RpA K Hf vs ds → RpA K Hf (vs.eraseIdx i) (ds.eraseIdx i)
  | _, _, _, .nil => .nil
  | _, _, 0, .cons _ t => t
  | _, _, i + 1, .cons h t => .cons h (RpA.erase i t)
theorem ee_popAt (hl : Ee K ta S (.own k) S1) (he : Ee K te S1 (.dat (.int i)) S2) (ho1 : ∃ ds1, S1.ob[k]? = some (.lst ds1)) (ho : S2.ob[k]? = some (.lst ds)) (hi : ixN ds.length i = some n) (hd : ds[n]? = some d) (hz : ds.length ≤ 1000000) :
    Ee K (tBM K "list" rPopAt ta (tCons te tNil)) S (.dat d) { S2 with ob := S2.ob.set k (.lst (ds.eraseIdx n)) } := fun c Hf H σ fp ok Q q =>
  hl c Hf H σ fp ok _ fun v Hf1 H1 fp1 ok1 g1 r1 => by
    obtain ⟨ds1, ho1⟩ := ho1
    obtain ⟨a, xs, rfl, h1, h2, h3⟩ := ok1.obL ho1 r1
    refine ⟨.inl ⟨rfl, xs, .inl (.inl h2)⟩, he c Hf1 H1 σ fp1 ok1 _ fun u Hf2 H2 fp2 ok2 g2 r2 => ?_⟩
    cases r2
    obtain ⟨b, zs, e, k1, k2, k3⟩ := ok2.setL ho (r1.mono g2.sm g2.pr)
    cases e
    obtain ⟨w, w1, w2⟩ := k2.get hd
    obtain ⟨ok3, g3⟩ := k3 _ _ (RpA.erase n k2)
    obtain ⟨q1, q2, q3, q4⟩ := ixN_seq hi
    refine ⟨a, zs, i, n, w, rfl, rfl, k1, by omega, by omega, by rw [k2.len]; exact q1, w1, q _ _ _ _ ok3 ((g1.trans g2).trans g3) w2⟩
/-! ### targets out of lists -/
theorem eg_unl {gs : TGs} {n : Nat} (h : Egs K gs ds S S1) (hn : ds.length = n := by rfl) : Eg K (gUnl K n gs) (.list ds) S S1 := fun c Hf H σ fp ok x r Q q => by
  cases r with
  | lst h1 h2 => exact ⟨_, _, rfl, .inl (.inl (ok.hd.ex _ _ h1)), h2.len.trans hn, h c Hf H σ fp ok _ h2 Q q⟩
/-! ### own dicts of whole numbers -/
theorem Hd.ownO (h : Hd K c Hf H fp S.ob) {p : Addr} {o : OO} (hx : ∃ u, H p = some u) (hf : Hf p = none) (hm : p ∉ fp.flatten) (ho : OOk K Hf H [p] o) (hl : ∀ ds, o ≠ .lst ds) : Hd K c Hf H (fp ++ [[p]]) (S.ob ++ [o]) := by
  have hsz : ∀ {α : Type} (l : List α) (x y : α) (k : Nat), (l ++ [x])[k]? = some y → (k < l.length ∧ l[k]? = some y) ∨ (k = l.length ∧ y = x) := fun l x y k e => by
    by_cases hk : k < l.length
    · rw [List.getElem?_append_left hk] at e
      exact .inl ⟨hk, e⟩
    · have e2 := (List.getElem?_eq_some_iff.mp e).1
      rw [List.length_append, List.length_singleton] at e2
      have e3 : k = l.length := by omega
      subst e3
      rw [List.getElem?_concat_length] at e
      exact .inr ⟨rfl, (Option.some.inj e).symm⟩
  have fl := h.fl
  refine ⟨h.ex, by rw [List.length_append, List.length_append, fl]; rfl, fun k a x h1 h2 => ?_, ?_, fun a ha => ?_, fun k q x h1 h2 hx a ha => ?_, h.pt, fun k q ds' h1 h2 a ha => ?_⟩
  · rcases hsz _ _ _ _ h1 with ⟨hk, h1'⟩ | ⟨hk, rfl⟩
    · rcases hsz _ _ _ _ h2 with ⟨hk2, h2'⟩ | ⟨hk2, rfl⟩
      · exact h.oo k a x h1' h2'
      · omega
    · rcases hsz _ _ _ _ h2 with ⟨hk2, h2'⟩ | ⟨hk2, rfl⟩
      · omega
      · exact ho
  · rw [List.flatten_append, List.nodup_append]
    refine ⟨h.nd, by simp, fun a ha b hb => ?_⟩
    have e : b = p := by simpa using hb
    rw [e]
    exact fun z => hm (z ▸ ha)
  · rw [List.flatten_append, List.mem_append] at ha
    rcases ha with ha | ha
    · exact h.al a ha
    · have e : a = p := by simpa using ha
      rw [e]
      exact hx
  · rcases hsz _ _ _ _ h1 with ⟨hk, h1'⟩ | ⟨hk, rfl⟩
    · rcases hsz _ _ _ _ h2 with ⟨hk2, h2'⟩ | ⟨hk2, rfl⟩
      · exact h.nf k q x h1' h2' hx a ha
      · omega
    · have e : a = p := by simpa using ha
      rw [e]
      exact hf
  · rcases hsz _ _ _ _ h1 with ⟨hk, h1'⟩ | ⟨hk, rfl⟩
    · rcases hsz _ _ _ _ h2 with ⟨hk2, h2'⟩ | ⟨hk2, e2⟩
      · exact h.np k q ds' h1' h2' a ha
      · omega
    · rcases hsz _ _ _ _ h2 with ⟨hk2, h2'⟩ | ⟨hk2, e2⟩
      · omega
      · exact absurd e2.symm (hl ds')
theorem eo_newdic : Ee K tDNewK S (.own S.ob.length) { S with ob := S.ob ++ [.dic (fun _ => none) 0] } := fun c Hf H σ fp ok Q q p hp => by
  obtain ⟨ok2, g2, nm, nc⟩ := ok.apart (.dK []) hp
  have hf := ok.hd.ex.free hp
  refine q _ Hf _ (fp ++ [[p]]) ⟨ok2.hd.ownO ⟨_, upd_same⟩ hf nm ⟨p, [], rfl, upd_same, Nat.le_refl _, fun k => rfl⟩ (fun ds z => by cases z), ok2.ln, fun i d e => ?_⟩ (g2.own hp) ⟨p, [], ?_, rfl⟩
  · obtain ⟨x, q1, q2⟩ := ok2.sr i d e
    exact ⟨x, q1, q2.mono (Same.refl _) (List.prefix_append _ _)⟩
  · rw [← ok.hd.fl, List.getElem?_concat_length]
theorem Okk.dic (ok : Okk K c Hf H σ fp S) {f : Int → Option Int} (ho : S.ob[k]? = some (.dic f n)) {v : V} (r : SRl K Hf fp (some v) (.own k)) :
    ∃ a kvs, v = .ref a ∧ fp[k]? = some [a] ∧ H a = some (.dK kvs) ∧ kvs.length ≤ n ∧ ∀ j : Int, valV kvs (Sum.inl j) = (f j).map V.int := by
  obtain ⟨a, q, h1, h2⟩ := r
  obtain ⟨a', kvs, e, h3, h4, h5⟩ := ok.hd.oo k _ _ h1 ho
  have e2 : a = a' ∧ q = [] := by simpa using e
  obtain ⟨rfl, rfl⟩ := e2
  exact ⟨a, kvs, h2, h1, h3, h4, h5⟩
/-- d.get(k, x) -/
theorem ee_dget2 {f : Int → Option Int} (hd : Ee K td S (.own k) S1) (ho : S1.ob[k]? = some (.dic f n)) (hk : Ee K ta S1 (.dat (.int i)) S1) (hx : Ee K tb S1 (.dat (.int j)) S1) : Ee K (tDGet2 td ta tb) S (.dat (.int ((f i).getD j))) S1 := fun c Hf H σ fp ok Q q =>
  hd c Hf H σ fp ok _ fun v Hf1 H1 fp1 ok1 g1 r1 => by
    obtain ⟨a, kvs, rfl, _, h2, h3, h4⟩ := ok1.dic ho r1
    refine ⟨a, rfl, .inl ⟨kvs, .inl h2⟩, hk c Hf1 H1 σ fp1 ok1 _ fun u Hf2 H2 fp2 ok2 g2 r2 => hx c Hf2 H2 σ fp2 ok2 _ fun u2 Hf3 H3 fp3 ok3 g3 r3 => ?_⟩
    cases r2
    cases r3
    obtain ⟨b, kvs3, e, _, h5, h6, h7⟩ := ok3.dic ho (r1.mono (g2.trans g3).sm (g2.trans g3).pr)
    cases e
    refine ⟨valV kvs3 (Sum.inl i), DGet.k (k := Sum.inl i) h5, ?_⟩
    rw [h7 i]
    have e : ((f i).map V.int).getD (V.int j) = V.int ((f i).getD j) := by cases f i <;> rfl
    rw [e]
    exact q _ _ _ _ ok3 ((g1.trans g2).trans g3) (Rp.int _)
theorem put_len (kvs : List (Key × V)) (k : Key) (v : V) : (putK kvs k v).length ≤ kvs.length + 1 := by
  unfold putK
  split
  · rw [List.length_map]
    exact Nat.le_succ _
  · rw [List.length_append, List.length_singleton]
    exact Nat.le_refl _
/-- d[k] = v -/
theorem ts_dput {f : Int → Option Int} {tk tv : TE} (hv : Ee K tv S (.dat (.int j)) S1) (hd : Ee K td S1 (.own k) S2) (hk : Ee K tk S2 (.dat (.int i)) S3) (ho : S3.ob[k]? = some (.dic f n)) (hz : n < 1000000)
    (kx : E.nx { S3 with ob := S3.ob.set k (.dic (fun m => if m = i then some j else f m) (n + 1)) }) : Ts K (sDPut td tk tv) S E := fun c Hf H σ fp ok D nn r bk ct =>
  hv c Hf H σ fp ok _ fun v Hf1 H1 fp1 ok1 g1 r1 => hd c Hf1 H1 σ fp1 ok1 _ fun u Hf2 H2 fp2 ok2 g2 r2 => hk c Hf2 H2 σ fp2 ok2 _ fun w Hf3 H3 fp3 ok3 g3 r3 => by
    cases r1
    cases r3
    obtain ⟨a, kvs, rfl, e0, h2, h3, h4⟩ := ok3.dic ho (r2.mono g3.sm g3.pr)
    obtain ⟨hd3, g4⟩ := ok3.hd.put (o' := .dic (fun m => if m = i then some j else f m) (n + 1)) (H' := upd H3 a (.dK (putK kvs (Sum.inl i) (.int j)))) e0 ho (by intro z; cases z) (fun b hb => upd_ne (by simpa using hb)) ⟨a, _, rfl, upd_same, by have := put_len kvs (Sum.inl i) (.int j); omega, fun m => by
      rw [valV_put, h4 m]
      show _ = (if m = i then some j else f m).map V.int
      by_cases e : m = i
      · rw [if_pos (by rw [e]), if_pos e]
        rfl
      · rw [if_neg (fun z => e (Sum.inl.inj z)), if_neg e]⟩ (fun b hb => by
      rw [show b = a by simpa using hb]
      exact ⟨_, upd_same⟩) (fun ds z => by cases z)
    refine ⟨a, _, rfl, DPut.k (k := Sum.inl i) h2 (Nat.lt_of_le_of_lt h3 (Nat.lt_of_lt_of_le hz (by decide))), ?_⟩
    exact nn { S3 with ob := S3.ob.set k (.dic (fun m => if m = i then some j else f m) (n + 1)) } _ _ _ _ ⟨hd3, ok3.ln, ok3.sr⟩ (((g1.trans g2).trans g3).trans g4) kx
end
end DL

set_option maxRecDepth 100000
set_option maxHeartbeats 1000000
/-! DLt: lists made as data at once -/
namespace DL
open PySem PySem.Spec PyProof.Rows L2
section
variable {K : PySem.W.Frag} {S S0 S1 S2 S3 S4 : SS} {ta tb tc td te : TE} {t u : TT} {x y z w : SD} {d e : PyData} {i j l : Int} {ds es : List PyData} {ns : List Int} {k n : Nat} {E : DE} {g : TG} {a b : Bool} {tbd : TS} {r : R2} {rc : List V → Hp → VK → Prop} {xs : List SD}
theorem ro_of_rol (h : RoL K r x y S ds S1) : Ro K r x y S (.dat (.list ds)) S1 := fun c Hf H σ fp ok v u rv ru Q q => h c Hf H σ fp ok v u rv ru Q fun p Hf1 H1 fp1 ok1 g1 hp al => by
  obtain ⟨Hf2, ok2, g2, rp⟩ := al.dat ok1
  exact q _ _ _ _ ok2 (g1.trans g2) rp
theorem rc_of_rcl (h : RcL K rc xs S ds S1) : Rc K rc xs S (.dat (.list ds)) S1 := fun c Hf H σ fp ok vs r Q q => h c Hf H σ fp ok vs r Q fun p Hf1 H1 fp1 ok1 g1 hp al => by
  obtain ⟨Hf2, ok2, g2, rp⟩ := al.dat ok1
  exact q _ _ _ _ ok2 (g1.trans g2) rp
theorem ro_cat (hl : ds.length + es.length ≤ 1000000) : Ro K (rPlus K) (.dat (.list ds)) (.dat (.list es)) S (.dat (.list (ds ++ es))) S := ro_of_rol (rol_cat (.dat _) (.dat _) hl)
theorem rc_listD : Rc K (rListOf K) [.dat (.list ds)] S (.dat (.list ds)) S := rc_of_rcl (rcl_listL (.dat _))
theorem rc_listT : Rc K (rListOf K) [.dat (.tuple ds)] S (.dat (.list ds)) S := rc_of_rcl rcl_listT
theorem rc_sortL : Rc K (rSortU K) [.dat (.list (ns.map PyData.int))] S (.dat (.list ((sortI ns).map PyData.int))) S := rc_of_rcl (rcl_sortL (.dat _))
theorem rc_sortT : Rc K (rSortU K) [.dat (.tuple (ns.map PyData.int))] S (.dat (.list ((sortI ns).map PyData.int))) S := rc_of_rcl rcl_sortT
theorem ee_slL {tl th : TO} {lo hi : Option Int} (h : Ee K te S x S1) (hl : Eo K tl S1 lo S2) (hh : Eo K th S2 hi S3) (hx : AsD S3 x (.list ds)) : Ee K (tSl (rSlU K) te tl th) S (.dat (.list (cutD ds lo hi))) S3 := ee_of_el (el_slU h hl hh hx)
theorem ee_revL (h : Ee K te S (.dat (.list ds)) S1) : Ee K (tRevL K te) S (.dat (.list ds.reverse)) S1 := ee_of_el (el_revL h (.dat _))
theorem ee_rng1 (h : Ee K te S (.dat (.int i)) S1) (hi : 0 ≤ i ∧ i ≤ 1000000) : Ee K (tLstRg (tRg1 te)) S (.dat (.list (rngD 0 i.toNat))) S1 := ee_of_el (el_rng1 h hi)
theorem ee_lst {tas : TA} (ha : Ed K tas S ds S1) (hz : ds.length ≤ 1000000) : Ee K (tLst tas) S (.dat (.list ds)) S1 := ee_of_el (el_lst ha hz)
theorem ee_tupz {tas : TA} (ha : Ed K tas S ds S1) (hz : ds.length ≤ 1000000) : Ee K (tTup tas) S (.dat (.tuple ds)) S1 := ee_tup ha hz
/-- a comprehension that leaves all as it is: what p lets, by f -/
theorem el_lcf {wi : TI} {vs : List Nat} {p : PyData → Bool} {f : PyData → PyData} (h : Ei K wi S ds S0) (hl : ds.length ≤ 1000000)
    (hs : ∀ (i : Nat) (d : PyData), ds[i]? = some d → ∃ Sg S2, Egc K vs g d { S0 with sl := wipeS S0.sl vs } Sg ∧ Et K t Sg (p d) S2 ∧ S2.ob = S0.ob ∧ (p d = true → ∃ S3, Ee K te S2 (.dat (f d)) S3 ∧ S3.ob = S0.ob)) : El K (tLc wi g t te vs) S ((ds.filter p).map f) S0 := by
  refine el_lc (obo := S0.ob) h (fun i acc ob => acc = ((ds.take i).filter p).map f ∧ ob = S0.ob) ⟨rfl, rfl⟩ ?_ hl ?_
  · rintro i d acc ob hd ⟨rfl, rfl⟩
    obtain ⟨Sg, S2, a1, a2, a3, a4⟩ := hs i d hd
    have e : ds.take (i + 1) = ds.take i ++ [d] := by
      rw [List.take_add_one, hd]
      rfl
    refine ⟨Sg, p d, S2, a1, a2, fun hb => ⟨?_, a3⟩, fun hb => ?_⟩
    · rw [e, List.filter_append, List.filter_cons, hb]
      simp
    · obtain ⟨S3, b1, b2⟩ := a4 hb
      refine ⟨f d, S3, b1, ?_, b2⟩
      rw [e, List.filter_append, List.filter_cons, hb]
      simp
  · rintro acc ob ⟨rfl, rfl⟩
    rw [List.take_of_length_le (Nat.le_refl _)]
    exact ⟨rfl, rfl⟩
theorem el_lcm {wi : TI} {vs : List Nat} {f : PyData → PyData} (h : Ei K wi S ds S0) (hl : ds.length ≤ 1000000)
    (hs : ∀ (i : Nat) (d : PyData), ds[i]? = some d → ∃ Sg, Egc K vs g d { S0 with sl := wipeS S0.sl vs } Sg ∧ ∃ S3, Ee K te Sg (.dat (f d)) S3 ∧ S3.ob = S0.ob ∧ Sg.ob = S0.ob) : El K (tLc wi g tYes te vs) S (ds.map f) S0 := by
  have := el_lcf (p := fun _ => true) (f := f) (g := g) (vs := vs) (t := tYes) (te := te) h hl fun i d hd => by
    obtain ⟨Sg, a1, S3, a2, a3, a4⟩ := hs i d hd
    exact ⟨Sg, Sg, a1, et_yes, a4, fun _ => ⟨S3, a2, a3⟩⟩
  rw [List.filter_eq_self.mpr fun _ _ => rfl] at this
  exact this
end
/-! ### within a comprehension the fragment is told -/
theorem pi_listK {X : Cx} (K : PySem.W.Frag) {tg l : Expr} {tl : TE} (e : X.K = K) (hl : PE X l tl) : PI X tg l (iList K tl) := e ▸ pi_list hl
theorem pi_tupK {X : Cx} (K : PySem.W.Frag) {tg l : Expr} {tl : TE} (e : X.K = K) (hl : PE X l tl) : PI X tg l (iTup K tl) := e ▸ pi_tup hl
theorem ixK {X : Cx} (K : PySem.W.Frag) {R : PySem.W.Frag → R2} (h : IxR X (R X.K)) (e : X.K = K) : IxR X (R K) := e ▸ h
theorem slK {X : Cx} (K : PySem.W.Frag) {R : PySem.W.Frag → V → Option Int → Option Int → Hp → VK → Prop} (h : SlR X (R X.K)) (e : X.K = K) : SlR X (R K) := e ▸ h
theorem callK {X : Cx} (K : PySem.W.Frag) {f : Value} {R : PySem.W.Frag → List V → Hp → VK → Prop} (h : CallR X f (R X.K)) (e : X.K = K) : CallR X f (R K) := e ▸ h
theorem pg_tupK {X : Cx} (K : PySem.W.Frag) {es : List Expr} {k : Nat} {pos : Pos} {t : TGs} {n : Nat} (e : X.K = K) (hc : X.calm = true) (h : PGs X es t)
    (hn : (assignEach es X.env).length = n := by rfl) (hst : (assignEach es X.env).findIdx? (·.1) = none := by rfl) : PG X (.Tuple es k pos) (gTup K n t) := e ▸ pg_tup hc h hn hst
/-! ### flat data: what == may see -/
structure Fl (k : Nat) (d : PyData) : Prop where
  c : d.canLay0 = true
  t : d.depth ≤ k
theorem fl_all {k : Nat} : ∀ {xs : List PyData}, (∀ x ∈ xs, Fl k x) → PyData.canLayAll0 xs = true ∧ PyData.depthAll xs ≤ k
  | [], _ => ⟨rfl, by simp [PyData.depthAll]⟩
  | x :: xs, h => by
    obtain ⟨h1, h2⟩ := fl_all (xs := xs) fun y hy => h y (List.mem_cons_of_mem _ hy)
    have h3 := h x List.mem_cons_self
    refine ⟨by simp [PyData.canLayAll0, h1, h3.c], ?_⟩
    unfold PyData.depthAll
    exact Nat.max_le.mpr ⟨h3.t, h2⟩
theorem Fl.mono {k j : Nat} {d : PyData} (h : Fl k d) (e : k ≤ j) : Fl j d := ⟨h.c, Nat.le_trans h.t e⟩
theorem Fl.int {k : Nat} {i : Int} : Fl k (.int i) := ⟨by simp [PyData.canLay0], Nat.zero_le _⟩
theorem Fl.bl {k : Nat} {b : Bool} : Fl k (.bool b) := ⟨by simp [PyData.canLay0], Nat.zero_le _⟩
theorem Fl.str {k : Nat} {x : Str} (h : PyData.strOk x = true := by decide +kernel) : Fl k (.str x) := ⟨by simpa [PyData.canLay0] using h, Nat.zero_le _⟩
theorem Fl.tup {k : Nat} {xs : List PyData} (h : ∀ x ∈ xs, Fl k x) : Fl (k + 1) (.tuple xs) := ⟨by simpa [PyData.canLay0] using (fl_all h).1, by simp only [PyData.depth]; have := (fl_all h).2; omega⟩
theorem Fl.lst {k : Nat} {xs : List PyData} (h : ∀ x ∈ xs, Fl k x) : Fl (k + 1) (.list xs) := ⟨by simpa [PyData.canLay0] using (fl_all h).1, by simp only [PyData.depth]; have := (fl_all h).2; omega⟩
theorem Fl.sh {k : Nat} {d : PyData} (h : Fl k d) (e : k ≤ 64 := by decide) : SeqAt.shaped d = true := by
  unfold SeqAt.shaped
  rw [h.c, Bool.true_and]
  exact decide_eq_true (Nat.le_trans h.t e)
theorem Fl.rI {k : Nat} {d : PyData} {ns : List Int} (h : d ∈ ns.map PyData.int) : Fl k d := by
  obtain ⟨i, _, rfl⟩ := List.mem_map.mp h
  exact .int
theorem Fl.ints {ns : List Int} : Fl 1 (.list (ns.map PyData.int)) := .lst fun x h => Fl.rI h
theorem Fl.intsT {ns : List Int} : Fl 1 (.tuple (ns.map PyData.int)) := .tup fun x h => Fl.rI h
theorem Fl.self {k : Nat} {d : PyData} (h : Fl k d) : PyData.eqv d d = true := SeqAt.eqv_refl d h.c
theorem eqv_ints : ∀ {ns ms : List Int}, PyData.eqvAll (ns.map PyData.int) (ms.map PyData.int) = decide (ns = ms)
  | [], [] => rfl
  | [], _ :: _ => rfl
  | _ :: _, [] => rfl
  | n :: ns, m :: ms => by
    show (PyData.eqv (.int n) (.int m) && PyData.eqvAll (ns.map PyData.int) (ms.map PyData.int)) = _
    rw [eqv_ints]
    show ((n == m) && decide (ns = ms)) = _
    by_cases e : n = m
    · subst e
      by_cases e2 : ns = ms
      · subst e2
        simp
      · rw [decide_eq_false e2, decide_eq_false (fun z => e2 (List.cons.inj z).2), Bool.and_false]
    · rw [decide_eq_false (fun z => e (List.cons.inj z).1), beq_eq_false_iff_ne.mpr e, Bool.false_and]
theorem eqv_listI {ns ms : List Int} : PyData.eqv (.list (ns.map PyData.int)) (.list (ms.map PyData.int)) = decide (ns = ms) := eqv_ints
theorem eqv_tupI {ns ms : List Int} : PyData.eqv (.tuple (ns.map PyData.int)) (.tuple (ms.map PyData.int)) = decide (ns = ms) := eqv_ints
theorem eqv_nilL {ds : List PyData} : PyData.eqv (.list ds) (.list []) = ds.isEmpty := by cases ds <;> rfl
theorem ro_neNil {K : PySem.W.Frag} {S : SS} {x y : SD} {ds : List PyData} {k : Nat} (hx : AsD S x (.list ds)) (hy : AsD S y (.list [])) (h : ∀ z ∈ ds, Fl k z) (hk : k + 1 ≤ 64 := by decide) : Ro K (rNeU K) x y S (.dat (.bool (!ds.isEmpty))) S := by
  have := ro_neD (K := K) hx hy ((Fl.lst h).sh hk) (by decide)
  rw [eqv_nilL] at this
  exact this
theorem cut_takeD {ds : List PyData} {c : Int} (h : 0 ≤ c) : cutD ds none (some c) = ds.take c.toNat := by
  unfold cutD
  have e1 : HT.sIx ds.length 0 none = 0 := rfl
  have e2 : HT.sIx ds.length ds.length (some c) = min c.toNat ds.length := by
    show (if c < 0 then (c + (ds.length : Int)).toNat else min c.toNat ds.length) = _
    rw [if_neg (by omega)]
  rw [e1, e2, List.drop_zero, Nat.sub_zero]
  by_cases q : c.toNat ≤ ds.length
  · rw [Nat.min_eq_left q]
  · rw [Nat.min_eq_right (by omega), List.take_of_length_le (Nat.le_refl _), List.take_of_length_le (by omega)]
/-- an own list that is not changed any more, seen as data from here on -/
theorem ts_ghost {K : PySem.W.Frag} {S : SS} {ts : TS} {E : DE} {i k : Nat} {ds : List PyData} (hi : S.sl[i]? = some (.own k)) (ho : S.ob[k]? = some (.lst ds)) (h : Ts K ts { S with sl := S.sl.set i (.dat (.list ds)), ob := S.ob.set k .gone } E) : Ts K ts S E := fun c Hf H σ fp ok D n r bk ct => by
  obtain ⟨x, e1, e2⟩ := ok.sr i _ hi
  cases x with
  | none => exact e2.elim
  | some v =>
    obtain ⟨a, xs, rfl, h1, h2, h3⟩ := ok.obL ho e2
    obtain ⟨hd, g2⟩ := ok.hd.freeze h1 ho h2
    have ok2 : Okk K c (upd Hf a (.lst xs)) H σ fp { S with ob := S.ob.set k .gone } := ⟨hd, ok.ln, fun j d e => by
      obtain ⟨x, q1, q2⟩ := ok.sr j d e
      exact ⟨x, q1, q2.mono g2.sm g2.pr⟩⟩
    have ok3 : Okk K c (upd Hf a (.lst xs)) H σ fp { S with sl := S.sl.set i (.dat (.list ds)), ob := S.ob.set k .gone } := by
      refine ⟨ok2.hd, by rw [List.length_set]; exact ok2.ln, fun j d e => ?_⟩
      by_cases hj : i = j
      · subst hj
        have hl : i < S.sl.length := (List.getElem?_eq_some_iff.mp hi).1
        have e' : (S.sl.set i (SD.dat (.list ds)))[i]? = some d := e
        rw [List.getElem?_set_self hl] at e'
        obtain rfl := Option.some.inj e'
        exact ⟨_, e1, Rp.lst upd_same (h3.mono g2.sm)⟩
      · have e' : (S.sl.set i (SD.dat (.list ds)))[j]? = some d := e
        rw [List.getElem?_set_ne hj] at e'
        exact ok2.sr j d e'
    exact h c _ H σ fp ok3 D (fun S' Hf' H' σ' fp' o g e => n S' Hf' H' σ' fp' o (g2.trans g) e) (fun x S' v Hf' H' σ' fp' o g q e => r x S' v Hf' H' σ' fp' o (g2.trans g) q e) (fun S' Hf' H' σ' fp' o g e => bk S' Hf' H' σ' fp' o (g2.trans g) e) fun S' Hf' H' σ' fp' o g e => ct S' Hf' H' σ' fp' o (g2.trans g) e
section
variable {K : PySem.W.Frag} {S : SS} {x y : SD} {d : PyData} {k : Nat}
theorem ro_neS_self {a : Str} : Ro K (rNeU K) (.dat (.str a)) (.dat (.str a)) S (.dat (.bool false)) S := by
  have := ro_neS (K := K) (S := S) (a := a) (b := a)
  rw [decide_eq_true rfl] at this
  exact this
theorem ro_eqS_self {a : Str} : Ro K (rEqU K) (.dat (.str a)) (.dat (.str a)) S (.dat (.bool true)) S := by
  have := ro_eqS (K := K) (S := S) (a := a) (b := a)
  rw [decide_eq_true rfl] at this
  exact this
theorem ro_neD_self (hx : AsD S x d) (hy : AsD S y d) (h : Fl k d) (hk : k ≤ 64 := by decide) : Ro K (rNeU K) x y S (.dat (.bool false)) S := by
  have := ro_neD (K := K) hx hy (h.sh hk) (h.sh hk)
  rw [h.self] at this
  exact this
theorem ro_eqD_self (hx : AsD S x d) (hy : AsD S y d) (h : Fl k d) (hk : k ≤ 64 := by decide) : Ro K (rEqU K) x y S (.dat (.bool true)) S := by
  have := ro_eqD (K := K) hx hy (h.sh hk) (h.sh hk)
  rw [h.self] at this
  exact this
end
end DL

set_option maxRecDepth 100000
set_option maxHeartbeats 1000000
/-! DLu: tuple(range(a, b, -1)), a walk down, whether a tuple is empty, a += b -/
namespace DL
open PySem PySem.Spec PyProof.Rows L2
/-! ### tuple(range(a, b, -1)) -/
def downV (i : Int) (n : Nat) : List V := (List.range n).map fun (k : Nat) => V.int (i + (k : Int) * (-1))
def tTupDn (ta : TA) : TE := fun σ H Q => ta σ H fun vs H1 => ∃ i j : Int, vs = [.int i, .int j, .int (-1)] ∧ (-1000000 ≤ i ∧ i ≤ 1000000 ∧ -1000000 ≤ j ∧ j ≤ 1000000) ∧ ∀ q, H1 q = none → Q (.ref q) (upd H1 q (.tup (downV i (i - j).toNat)))
theorem pe_tupDn {X : Cx} {a b c : Expr} {ta : TA} {p pos p2 pos2 : Pos} (hc : X.calm = true) (hg : Gl X "tuple") (hm : X.mg "tuple" = none) (hgr : Gl X "range") (hmr : X.mg "range" = none) (ha : PA X [a, b, c] ta)
    (n1 : starEach [a, b, c] X.env = (false, eval a X.env) :: starEach [b, c] X.env := by rfl) (n2 : (backTo pos2 (starEach [b, c] X.env)).any (·.1) = false := by rfl)
    (n3 : starEach [.Call (.Name "range" p2) [a, b, c] [] pos2] X.env = (false, eval (.Call (.Name "range" p2) [a, b, c] [] pos2) X.env) :: starEach [] X.env := by rfl) :
    PE X (.Call (.Name "tuple" p) [.Call (.Name "range" p2) [a, b, c] [] pos2] [] pos) (tTupDn ta) := by
  constructor
  intro pins s σ H Q I h
  have inner : wpAny (model X.prog X.w) X.A (eval (.Call (.Name "range" p2) [a, b, c] [] pos2) X.env) (fun x s' => ∃ (r : Addr) (i j : Int) (t u v : Tok) (H' : Hp), x = .ref r ∧ IsRange s'.heap r i j (-1) t u v ∧ Inv X pins σ H' s' ∧ (-1000000 ≤ i ∧ i ≤ 1000000 ∧ -1000000 ≤ j ∧ j ≤ 1000000) ∧ ∀ q, H' q = none → Q (.ref q) (upd H' q (.tup (downV i (i - j).toNat)))) X.xe s := by
    refine Call_ (ld_blt I hgr hmr boot_range (PyProof.Rows.callWith_type1 (thn (ha.run pos2 pins s σ H _ I h) fun us s1 ⟨vs, H1, I1, r1, q1⟩ => ?_) n1 n2))
    obtain ⟨i, j, e, bd, q⟩ := q1
    subst e
    cases r1 with
    | cons r rr => cases rr with
      | cons r' rr => cases rr with
        | cons r'' rr =>
          cases rr
          obtain ⟨t, rfl⟩ := r
          obtain ⟨t', rfl⟩ := r'
          obtain ⟨t'', rfl⟩ := r''
          exact call_range_3 (by decide) ⟨_, i, j, t, t', t'', H1, rfl, IsRange.new _ _ _ _ _ _ _, I1.kept (t' := s1.toks) fun _ _ e => Heap.get?_push_of_some _ e, bd, q⟩ (.inl (PyProof.noPylong_small (by decide)))
  refine Call_ (ld_blt I hg hm boot_tuple (PyProof.Rows.callWith_type1 (args_cons (thn inner fun x s1 ⟨r, i, j, t, u, v, H1, ex, hr, I1, bd, q⟩ => args_nil ?_) n3) n3))
  subst ex
  refine call_tuple_range (n := (i - j).toNat) (I1.ok.hd hc) hr (PySem.W.small_down (by omega) (by omega) (by omega) (by omega)) (PySem.W.rangeSize_downNat i j) (by omega) fun h' tk acc hk hi => ?_
  have I2 : Inv X pins σ H1 { s1 with heap := h', toks := tk } := I1.kept hk
  have len : acc.toList.length = (i - j).toNat := by rw [Array.length_toList]; exact hi.1
  have vals : Vals (downV i (i - j).toNat) acc.toList := by
    unfold downV
    rw [← len]
    refine vals_of_get acc.toList _ fun m w hw => ?_
    obtain ⟨t, rfl⟩ := hi.2 m w (by rw [← hw, Array.getElem?_toList])
    exact ⟨t, rfl⟩
  refine ⟨.ref h'.objs.size, upd H1 h'.objs.size (.tup (downV i (i - j).toNat)), I2.laid (t' := tk) (fun _ _ e => Heap.get?_push_of_some _ e) (Nat.le_refl _) (show ObjOk X.prog X.w _ _ _ (.tup (downV i (i - j).toNat)) from ⟨?_, acc.toList, vals, ?_⟩), rfl, q _ (I2.hok.fresh (Nat.le_refl _))⟩
  · unfold downV
    rw [List.length_map, List.length_range, sizeLine_eq]
    omega
  · rw [Array.toArray_toList]
    exact IsTup.new _ _
def downD (i : Int) (n : Nat) : List PyData := (List.range n).map fun (k : Nat) => PyData.int (i + (k : Int) * (-1))
theorem downD_len (i : Int) (n : Nat) : (downD i n).length = n := by
  unfold downD
  rw [List.length_map, List.length_range]
theorem downD_get {i : Int} {n k : Nat} {d : PyData} (h : (downD i n)[k]? = some d) : k < n ∧ d = .int (i + (k : Int) * (-1)) := by
  unfold downD at h
  rw [List.getElem?_map] at h
  by_cases hk : k < n
  · rw [List.getElem?_range hk] at h
    exact ⟨hk, (Option.some.inj h).symm⟩
  · rw [List.getElem?_eq_none (by rw [List.length_range]; omega)] at h
    cases h
section
variable {K : PySem.W.Frag} {S S0 S1 S2 S3 S4 : SS} {ta tb tc td te : TE} {t u : TT} {x y z w : SD} {d e : PyData} {i j l : Int} {ds es : List PyData} {ns : List Int} {k n : Nat} {E : DE} {g : TG} {a b : Bool} {tbd : TS}
theorem rp_down {Hf : Hp} (i : Int) (n : Nat) : RpA K Hf (downV i n) (downD i n) := by
  unfold downV downD
  induction (List.range n) with
  | nil => exact .nil
  | cons a r ih => exact .cons (.int _) ih
theorem ee_tupDn {tas : TA} (h : Ed K tas S [.int i, .int j, .int (-1)] S1) (hb : -1000000 ≤ i ∧ i ≤ 1000000 ∧ -1000000 ≤ j ∧ j ≤ 1000000) : Ee K (tTupDn tas) S (.dat (.tuple (downD i (i - j).toNat))) S1 := fun c Hf H σ fp ok Q q =>
  h c Hf H σ fp ok _ fun v Hf1 H1 fp1 ok1 g1 r1 => by
    cases r1 with
    | cons r1 rr => cases rr with
      | cons r2 rr => cases rr with
        | cons r3 rr =>
          cases rr
          cases r1
          cases r2
          cases r3
          refine ⟨i, j, rfl, hb, fun p hp => ?_⟩
          obtain ⟨ok2, g2⟩ := ok1.laid (.tup _) hp
          exact q _ _ _ _ ok2 (g1.trans g2) (Rp.tup (.inl (.inl upd_same)) (rp_down _ _))
theorem ei_down {tas : TA} (h : Ed K tas S [.int i, .int j, .int (-1)] S1) (hb : -1000000 ≤ i ∧ i ≤ 1000000 ∧ -1000000 ≤ j ∧ j ≤ 1000000) : Ei K (iRng3 tas) S (downD i (i - j).toNat) S1 := fun c Hf H σ fp ok R q => h c Hf H σ fp ok _ fun v Hf1 H1 fp1 ok1 g1 r1 => by
  cases r1 with
  | cons r1 rr => cases rr with
    | cons r2 rr => cases rr with
      | cons r3 rr =>
        cases rr
        cases r1
        cases r2
        cases r3
        refine ⟨i, j, -1, (i - j).toNat, rfl, RgC.neg (by omega) (by omega) (by omega) (by omega), q _ Hf1 H1 fp1 ok1 g1 (wk_of walk_rangeC (downD_len _ _) (fun _ _ _ _ => trivial) fun m d Hf2 H2 x H3 e1 e2 hd y => .inl ?_)⟩
        obtain ⟨rfl, rfl⟩ := y
        obtain ⟨_, rfl⟩ := downD_get hd
        exact ⟨rfl, .int _⟩
/-! ### whether a tuple is empty -/
def tTru (K : PySem.W.Frag) (ta : TE) : TT := fun σ H Q => ta σ H fun x H' => ∃ k, TruV K x H' k ∧ Q k H'
theorem pt_tru {X : Cx} {a : Expr} {ta : TE} (ha : PE X a ta) (he : ∀ whole, isTrue a X.env whole = (do let v ← whole; standAt a.pos; holding [v] (truthy v)) := by intro _; rfl) : PT X a (tTru X.K ta) := pt_truth ha he
theorem et_truT (h : Ee K te S (.dat (.tuple ds)) S1) : Et K (tTru K te) S (!ds.isEmpty) S1 := fun c Hf H σ fp ok Q q => h c Hf H σ fp ok _ fun v Hf1 H1 fp1 ok1 g1 r1 => by
  cases r1 with
  | @tup a xs _ h1 h2 =>
    refine ⟨_, .inr (.inl ⟨xs, sameT ok1.hd.ex h1, ?_⟩), q _ _ _ ok1 g1⟩
    cases h2 <;> rfl
theorem rc_min2 : Rc K (fun xs H Q => ∃ i j, xs = [.int i, .int j] ∧ Q (.int (if j < i then j else i)) H) [.dat (.int i), .dat (.int j)] S (.dat (.int (if j < i then j else i))) S := fun c Hf H σ fp ok vs r Q q => by
  obtain ⟨v, u, rfl, r1, r2⟩ := r.two
  cases r1
  cases r2
  exact ⟨i, j, rfl, q _ _ _ _ ok Gr.refl (Rp.int _)⟩
theorem rc_max2 : Rc K (fun xs H Q => ∃ i j, xs = [.int i, .int j] ∧ Q (.int (if j > i then j else i)) H) [.dat (.int i), .dat (.int j)] S (.dat (.int (if j > i then j else i))) S := fun c Hf H σ fp ok vs r Q q => by
  obtain ⟨v, u, rfl, r1, r2⟩ := r.two
  cases r1
  cases r2
  exact ⟨i, j, rfl, q _ _ _ _ ok Gr.refl (Rp.int _)⟩
theorem et_orF (h1 : Et K t S false S1) (h2 : Et K u S1 b S2) : Et K (tOr t u) S b S2 := fun c Hf H σ fp ok Q q => h1 c Hf H σ fp ok _ fun Hf1 H1 fp1 ok1 g1 => h2 c Hf1 H1 σ fp1 ok1 Q fun Hf2 H2 fp2 ok2 g2 => q Hf2 H2 fp2 ok2 (g1.trans g2)
theorem et_andT (h1 : Et K t S true S1) (h2 : Et K u S1 b S2) : Et K (tAnd t u) S b S2 := fun c Hf H σ fp ok Q q => h1 c Hf H σ fp ok _ fun Hf1 H1 fp1 ok1 g1 => h2 c Hf1 H1 σ fp1 ok1 Q fun Hf2 H2 fp2 ok2 g2 => q Hf2 H2 fp2 ok2 (g1.trans g2)
theorem ee_andT (h1 : Ee K ta S (.dat (.bool true)) S1) (h2 : Ee K tb S1 x S2) : Ee K (tAndV ta tb) S x S2 := fun c Hf H σ fp ok Q q => h1 c Hf H σ fp ok _ fun v Hf1 H1 fp1 ok1 g1 r1 => by
  cases r1
  exact ⟨true, rfl, h2 c Hf1 H1 σ fp1 ok1 Q fun v Hf2 H2 fp2 ok2 g2 r2 => q v Hf2 H2 fp2 ok2 (g1.trans g2) r2⟩
theorem ee_orF (h1 : Ee K ta S (.dat (.bool false)) S1) (h2 : Ee K tb S1 x S2) : Ee K (tOrV ta tb) S x S2 := fun c Hf H σ fp ok Q q => h1 c Hf H σ fp ok _ fun v Hf1 H1 fp1 ok1 g1 r1 => by
  cases r1
  exact ⟨false, rfl, h2 c Hf1 H1 σ fp1 ok1 Q fun v Hf2 H2 fp2 ok2 g2 r2 => q v Hf2 H2 fp2 ok2 (g1.trans g2) r2⟩
end
end DL

set_option maxRecDepth 100000
set_option maxHeartbeats 4000000
/-! DLset: set(..) of whole numbers, out of a list with any of them twice; sorted(set(..)) -/
namespace DL
open PySem PySem.Spec PyProof.Rows L2
abbrev mtSet (w : World) : Obj := { cls := .type "set", dict := none, data := .set #[] 0 (.fresh 0 0 (!w.params.followText "set-order")) }
section
variable {P : Program} {w : World} {A : Around} {E : Value → Shared → Prop} {s : Shared}
set_option maxHeartbeats 6400000 in
theorem set_of_lst {l : Addr} {items : Array Value} (ns : List Int) {Q : Value → Shared → Prop} (none_ : A.handled = none) (isl : s.heap.IsList l items) (nums : IntsAre items.toList ns) (few : ns.length + 1 < scanBound)
    (then_ : ∀ (h2 : Heap) (t2 c : Nat), SetR w h2 s.heap.objs.size (fun j => decide (j ∈ ns)) c → c ≤ ns.length → (∀ b o, s.heap.get? b = some o → h2.get? b = some o) → Q (.ref s.heap.objs.size) { s with heap := h2, toks := t2 }) : wpAny (model P w) A (call (.type "set") [.ref l]) Q E s := by
  have size : items.size = ns.length := (Array.length_toList (xs := items)).symm.trans (IntsAre.length nums)
  obtain ⟨_, _, hmro⟩ := F.called_set.mro
  have m1 := F.called_set.made; have m2 := F.called_set.sub
  refine wpAny_call (codeAny_of_tree (show wpAny _ _ (callAny (.type "set") _) _ _ _ from wpAny_pure ⟨Code.quiet_builtin _ (by decide +kernel), codeAny_builtin F.entry_type_call ?_⟩))
  rw [Around.under_plain (weight_type_call_type "set" [.ref l] []) rfl]
  have m3 := F.called_set.notType; have m4 := F.called_set.canCreate; have m5 := F.typeCall_set_1 (.ref l)
  repeat (any_goals (first | assumption | wp_step))
  refine codeAny_mono (code_set_led1 (.ref l) (E := E) (Q₁ := fun ob s1 => ob = .ref s.heap.objs.size ∧ s1 = { s with heap := s.heap.push (mtSet w) }) ⟨rfl, rfl⟩) fun r s1 hr => ?_
  rcases r with e | (_ | _ | _ | ob)
  · exact hr
  · exact hr.elim
  · exact hr.elim
  · exact hr.elim
  obtain ⟨rfl, rfl⟩ := hr
  have there : (s.heap.push (mtSet w)).get? s.heap.objs.size = some (mtSet w) := Heap.get?_push_size _ rfl
  have kind : Shared.TypeIs { s with heap := s.heap.push (mtSet w) } (.ref s.heap.objs.size) "set" := ⟨_, there, rfl⟩
  have n1 := F.called_set.init.lookup; have n2 := F.called_set.init.bind (.ref s.heap.objs.size)
  repeat (any_goals (first | assumption | wp_step))
  refine codeAny_mono (codeAny_call_builtin (R := wants (fun r s2 => r = .none ∧ ∃ h2 t2 c, s2 = { s with heap := h2, toks := t2 } ∧ SetR w h2 s.heap.objs.size (fun j => decide (j ∈ ns)) c ∧ c ≤ ns.length ∧ (∀ b o, s.heap.get? b = some o → h2.get? b = some o)) E) F.called_set.init.plain F.entry_set_init (check_set_init_1 kind ?_)) fun r2 s2 hr2 => ?_
  · obtain ⟨⟨oc, od, odt, osl⟩, at_, rfl, n, rfl⟩ := isl
    have at2 : (s.heap.push (mtSet w)).get? l = some { cls := .type "list", dict := od, data := .seq items n, slots := osl } := Heap.get?_push_of_some _ at_
    have isl2 : (s.heap.push (mtSet w)).IsList l items := ⟨_, at2, rfl, n, rfl⟩
    have k1 := F.sub_list_set; have k2 := F.sub_list_frozenset
    have k3 : (Value.type "list" == Value.type "dict") = false := by decide
    unfold Builtin.«set.__init__» noKeywords Builtin.Frozenset.updateFrom
    generalize hi : pyIter = IT
    wp_walk
    subst hi
    refine wpAny_pyIter_list isl2 (wpAny_bind (wpAny_runValue ?_))
    have low : l < s.heap.objs.size := Heap.lt_size at_
    have none3 : A.in1.in1.in1.handled = none := by simp [none_]
    have sz1 : (s.heap.push (mtSet w)).objs.size = s.heap.objs.size + 1 := Heap.size_push ..
    have apart : l ≠ (s.heap.push (mtSet w)).objs.size := by
      rw [sz1]
      exact Nat.ne_of_lt (Nat.lt_succ_of_lt low)
    have out : s.heap.objs.size ∉ [(s.heap.push (mtSet w)).objs.size, l] := by
      rw [sz1, List.mem_cons, List.mem_singleton, not_or]
      exact ⟨Nat.ne_of_lt (Nat.lt_succ_self _), Nat.ne_of_gt low⟩
    have each : ∀ (i : Nat) (v : Value), items[i]? = some v → ∃ k t, ns[i]? = some k ∧ v = .int k t := fun i v hv => by
      have lt : i < ns.length := size ▸ (Array.getElem?_eq_some_iff.mp hv).1
      obtain ⟨t, e⟩ := PyProof.Rows.IntsAre.int_at nums i v (by rw [Array.getElem?_toList]; exact hv)
      exact ⟨ns[i], t, List.getElem?_eq_getElem lt, by rw [e, List.getD_eq_getElem?_getD, List.getElem?_eq_getElem lt]; rfl⟩
    refine set_update_ints ((Walks.list none3 _ l apart items).toS) s.heap.objs.size out ns size few each (items.size - 0) 0 _ (by omega) (Nat.zero_le _) ⟨⟨_, Heap.get?_push_size _ rfl, rfl, rfl⟩, isl2.push _⟩ ⟨0, Nat.le_refl 0, setR_new_at (Heap.get?_push_of_some _ there)⟩ fun s3 c3 mv le st => ?_
    obtain ⟨h3, g3, d3, t3, o3⟩ := s3
    obtain rfl : g3 = s.gens := mv.gens
    obtain rfl : d3 = s.drawn := mv.drawn
    obtain rfl : o3 = s.os := mv.os
    rw [size] at le
    refine wpAny_pure (show wpAny _ _ (ret Value.none) _ _ _ from wpAny_pure ⟨rfl, h3, t3, c3, rfl, st, le, fun b o e => ?_⟩)
    have lb : b < s.heap.objs.size := Heap.lt_size e
    refine mv.heap b o ?_ (Heap.get?_push_of_some _ (Heap.get?_push_of_some _ e))
    rw [List.mem_cons, List.mem_singleton, not_or]
    exact ⟨Nat.ne_of_lt lb, by rw [sz1]; exact Nat.ne_of_lt (Nat.lt_succ_of_lt lb)⟩
  · rcases r2 with e | (_ | _ | _ | v)
    · exact hr2
    · exact hr2.elim
    · exact hr2.elim
    · exact hr2.elim
    obtain ⟨rfl, h2, t2, c, rfl, z1, z2, z3⟩ := hr2
    repeat (any_goals (first | assumption | wp_step))
    exact then_ _ _ _ z1 z2 z3
end
end DL

set_option maxRecDepth 100000
set_option maxHeartbeats 4000000
namespace DL
open PySem PySem.Spec PyProof.Rows L2
/-! ### as rules -/
def rSetI (K : PySem.W.Frag) (w : World) : List V → Hp → VK → Prop := fun xs H Q => ∃ (a : Addr) (ns : List Int), xs = [.ref a] ∧ (SqL K H a (ns.map V.int) ∨ SqT K H a (ns.map V.int)) ∧ ns.length ≤ 4000 ∧
  ∀ (p : Addr) (S : Int → Bool) (n : Nat), H p = none → (∀ k : Int, S k = true ↔ k ∈ ns) → (∀ us : List Int, (∀ k ∈ ns, k ∈ us) → n ≤ us.length) → Q (.ref p) (upd H p (SetO w p S n))
theorem nodup_le : ∀ {xs ys : List Int}, xs.Nodup → (∀ x ∈ xs, x ∈ ys) → xs.length ≤ ys.length
  | [], _, _, _ => Nat.zero_le _
  | x :: xs, ys, nd, h => by
    have hx := h x List.mem_cons_self
    have n2 := List.nodup_cons.mp nd
    have ih := nodup_le (xs := xs) (ys := ys.erase x) n2.2 fun y hy => (List.mem_erase_of_ne (fun e => by subst e; exact n2.1 hy)).mpr (h y (List.mem_cons_of_mem _ hy))
    have e := List.length_erase_of_mem hx
    have : 0 < ys.length := List.length_pos_of_mem hx
    rw [List.length_cons]
    omega
theorem setR_few {w : World} {h : Heap} {a : Addr} {ns : List Int} {c : Nat} (R : SetR w h a (fun j => decide (j ∈ ns)) c) (us : List Int) (hu : ∀ k ∈ ns, k ∈ us) : c ≤ us.length := by
  obtain ⟨o, es, ep, t, _, _, _, _, nd, mem, _, _, hn, _⟩ := R
  have := nodup_le nd (ys := us) fun x hx => hu x (of_decide_eq_true ((mem x).mpr hx))
  rw [List.length_map, Array.length_toList, hn] at this
  exact this
theorem cr_setI {X : Cx} (hc : X.calm = true) : CallR X (.type "set") (rSetI X.K X.w) := fun pins s σ H xs us Q I r h => by
  obtain ⟨a, ns, rfl, ha, few, q⟩ := h
  rw [Vals.ref1 r]
  have big : ns.length + 1 < scanBound := by
    unfold scanBound
    omega
  have fin : ∀ (h2 : Heap) (t2 c : Nat), SetR X.w h2 s.heap.objs.size (fun j => decide (j ∈ ns)) c → c ≤ ns.length → (∀ b o, s.heap.get? b = some o → h2.get? b = some o) → EP X pins σ Q (.ref s.heap.objs.size) { s with heap := h2, toks := t2 } := fun h2 t2 c R _ keep =>
    ⟨.ref _, upd H s.heap.objs.size (SetO X.w s.heap.objs.size (fun j => decide (j ∈ ns)) c), I.laid (t' := t2) keep (Nat.le_refl _) (setO_new R), rfl, q _ _ _ (I.hok.fresh (Nat.le_refl _)) (fun k => decide_eq_true_iff) (setR_few R)⟩
  rcases ha with ha | ha
  · obtain ⟨its, rv, p, _⟩ := I.list ha
    exact set_of_lst ns (I.ok.hd hc) p.isList (by simpa using rv.ints) big fin
  · obtain ⟨its, rv, p, _⟩ := I.tuple ha
    exact call_set_tupI ns (I.ok.hd hc) (show s.heap.IsTuple a its.toArray from p) (by simpa using rv.ints) big fin
/-! ### as data: sorted(set(..)) -/
def insI (x : Int) : List Int → List Int
  | [] => [x]
  | y :: ys => if x < y then x :: y :: ys else if x = y then y :: ys else y :: insI x ys
def setI (ns : List Int) : List Int := ns.foldr insI []
theorem insI_mem (x : Int) : ∀ {l : List Int} {k : Int}, k ∈ insI x l ↔ k = x ∨ k ∈ l
  | [], k => by simp [insI]
  | y :: ys, k => by
    unfold insI
    split
    · simp
    split
    · rename_i e
      subst e
      simp
    · rw [List.mem_cons, insI_mem x, List.mem_cons]
      constructor
      · rintro (h | h | h)
        · exact .inr (.inl h)
        · exact .inl h
        · exact .inr (.inr h)
      · rintro (h | h | h)
        · exact .inr (.inl h)
        · exact .inl h
        · exact .inr (.inr h)
theorem insI_sorted (x : Int) : ∀ {l : List Int}, l.Pairwise (· < ·) → (insI x l).Pairwise (· < ·)
  | [], _ => List.pairwise_singleton _ _
  | y :: ys, h => by
    have h2 := List.pairwise_cons.mp h
    unfold insI
    split
    · rename_i lt
      refine List.pairwise_cons.mpr ⟨fun z hz => ?_, h⟩
      rcases List.mem_cons.mp hz with e | hz
      · rw [e]
        exact lt
      · have := h2.1 z hz
        omega
    split
    · exact h
    · refine List.pairwise_cons.mpr ⟨fun z hz => ?_, insI_sorted x h2.2⟩
      rcases (insI_mem x).mp hz with e | hz
      · omega
      · exact h2.1 z hz
theorem setI_mem : ∀ {ns : List Int} {k : Int}, k ∈ setI ns ↔ k ∈ ns
  | [], k => Iff.rfl
  | n :: ns, k => by
    show k ∈ insI n (setI ns) ↔ _
    rw [insI_mem, setI_mem, List.mem_cons]
theorem setI_sorted : ∀ ns : List Int, (setI ns).Pairwise (· < ·)
  | [] => .nil
  | n :: ns => insI_sorted n (setI_sorted ns)
theorem lt_uniq : ∀ {xs ys : List Int}, xs.Pairwise (· < ·) → ys.Pairwise (· < ·) → (∀ k, k ∈ xs ↔ k ∈ ys) → xs = ys
  | [], [], _, _, _ => rfl
  | [], y :: ys, _, _, h => absurd ((h y).mpr List.mem_cons_self) (by simp)
  | x :: xs, [], _, _, h => absurd ((h x).mp List.mem_cons_self) (by simp)
  | x :: xs, y :: ys, h1, h2, h => by
    have a := List.pairwise_cons.mp h1
    have b := List.pairwise_cons.mp h2
    have e : x = y := by
      rcases List.mem_cons.mp ((h x).mp List.mem_cons_self) with e | m
      · exact e
      · rcases List.mem_cons.mp ((h y).mpr List.mem_cons_self) with e | m2
        · exact e.symm
        · have := b.1 x m
          have := a.1 y m2
          omega
    subst e
    rw [lt_uniq a.2 b.2 fun k => ?_]
    constructor
    · intro hk
      rcases List.mem_cons.mp ((h k).mp (List.mem_cons_of_mem _ hk)) with e | m
      · have := a.1 k hk
        omega
      · exact m
    · intro hk
      rcases List.mem_cons.mp ((h k).mpr (List.mem_cons_of_mem _ hk)) with e | m
      · have := b.1 k hk
        omega
      · exact m
section
variable {K : PySem.W.Frag} {w : World} {S S1 : SS} {te : TE} {x : SD} {ns us : List Int} {rc : List V → Hp → VK → Prop}
/-- sorted(set(x)), x a list or a tuple of whole numbers, few unlike ones -/
theorem el_sset {tas : TA} (h : Ea K tas S [x] S1) (hx : AsD S1 x (.list (ns.map PyData.int)) ∨ x = .dat (.tuple (ns.map PyData.int))) (hz : ns.length ≤ 4000) (hu : ∀ k ∈ ns, k ∈ us) (h64 : us.length < 64) :
    El K (tCB (rSortedSet w) (tCons (tCB (rSetI K w) tas) tNil)) S ((setI ns).map PyData.int) S1 := fun c Hf H σ fp ok Q q =>
  h c Hf H σ fp ok _ fun vs Hf1 H1 fp1 ok1 g1 r1 => by
    obtain ⟨v, rfl, rv⟩ := r1.one
    have key : ∃ a, v = .ref a ∧ (SqL K H1 a (ns.map V.int) ∨ SqT K H1 a (ns.map V.int)) := by
      rcases hx with hx | rfl
      · obtain ⟨a, xs, rfl, h1, h2⟩ := ok1.asL rv hx
        obtain rfl := RpA.ints_inv h2
        exact ⟨a, rfl, .inl (.inl (.inl h1))⟩
      · cases rv with
        | tup h1 h2 =>
          obtain rfl := RpA.ints_inv h2
          exact ⟨_, rfl, .inr (sameT ok1.hd.ex h1)⟩
    obtain ⟨a, rfl, ha⟩ := key
    refine ⟨a, ns, rfl, ha, hz, fun p M n hp hM hn => ?_⟩
    obtain ⟨ok2, g2⟩ := ok1.laid (SetO w p M n) hp
    have few := hn us hu
    refine ⟨p, M, n, rfl, upd_same, by omega, fun ms l e1 e2 e3 hl => ?_⟩
    have e : ms = setI ns := lt_uniq e1 (setI_sorted ns) fun k => (e2 k).trans ((hM k).trans setI_mem.symm)
    subst e
    obtain ⟨ok3, g3, al⟩ := ok2.alone hl (RpA.ints (setI ns))
    have G := g1.trans g2
    exact q l _ _ _ ok3 (G.trans g3) (none_back G.th hl) al
end
end DL

set_option maxRecDepth 100000
set_option maxHeartbeats 1000000
/-! DLv: in and not in, is True, the least of a tuple, l.extend(t) -/
namespace DL
open PySem PySem.Spec PyProof.Rows L2
/-! ### min(t), max(t) -/
def rMinT (K : PySem.W.Frag) : List V → Hp → VK → Prop := fun vs H Q => ∃ (a : Addr) (n : Int) (ns : List Int), vs = [V.ref a] ∧ (SqT K H a ((n :: ns).map V.int) ∨ SqL K H a ((n :: ns).map V.int)) ∧ Q (.int (ns.foldl min n)) H
def rMaxT (K : PySem.W.Frag) : List V → Hp → VK → Prop := fun vs H Q => ∃ (a : Addr) (n : Int) (ns : List Int), vs = [V.ref a] ∧ (SqT K H a ((n :: ns).map V.int) ∨ SqL K H a ((n :: ns).map V.int)) ∧ Q (.int (ns.foldl max n)) H
theorem reads_ints {h : Heap} : ∀ {us : List Value} {ns : List Int}, IntsAre us ns → ReadsAll h us (ns.map PyData.int) []
  | _, _, .nil => .nil
  | _, _, .cons n t r => .cons (as := []) (bs := []) (.int n t) (reads_ints r)
theorem alike_ints (ns : List Int) : PySem.W.AlikeAll (ns.map PyData.int) := ⟨fun x hx y hy => by
  obtain ⟨i, _, rfl⟩ := List.mem_map.mp hx
  obtain ⟨j, _, rfl⟩ := List.mem_map.mp hy
  rfl, fun x hx => by
  obtain ⟨i, _, rfl⟩ := List.mem_map.mp hx
  intro z
  cases z⟩
theorem depth_ints : ∀ ns : List Int, PyData.depthAll (ns.map PyData.int) = 0
  | [] => rfl
  | n :: ns => by
    show max (PyData.depth (.int n)) (PyData.depthAll (ns.map PyData.int)) = 0
    rw [depth_ints ns]
    rfl
theorem cr_minT {X : Cx} (hc : X.calm = true) (hu : X.A.units + 100 < cLine) : CallR X (.builtin "min") (rMinT X.K) := fun pins s σ H vs us Q I r h => by
  obtain ⟨a, n, ns, rfl, ha, q⟩ := h
  rw [Vals.ref1 r]
  have room : X.A.units + 1 + PyData.depthAll (PyData.int n :: ns.map PyData.int) < cLine := by
    rw [show PyData.depthAll (PyData.int n :: ns.map PyData.int) = 0 from depth_ints (n :: ns)]
    omega
  have fin : ∀ (v : Value) (h2 : Heap) (tk : Nat) (bs : List Addr), Reads h2 v (PySem.W.minD (.int n) (ns.map PyData.int)) bs → (∀ b o, s.heap.get? b = some o → h2.get? b = some o) → EP X pins σ Q v { s with heap := h2, toks := tk } := fun v h2 tk bs rd keep => by
    rw [PySem.W.minD_ints] at rd
    cases rd with
    | int i t => exact ⟨.int _, H, I.kept keep, ⟨t, rfl⟩, q⟩
  rcases ha with ha | ha
  · obtain ⟨its, rv, p, _⟩ := I.tuple ha
    exact PySem.W.min_tuple_data (I.ok.hd hc) (show s.heap.IsTuple a its.toArray from p) (by simpa using reads_ints rv.ints) (alike_ints (n :: ns)) room fun _ v h2 tk bs _ rd keep => fin v h2 tk bs rd keep
  · obtain ⟨its, rv, p, _⟩ := I.list ha
    exact PySem.W.min_list_data (I.ok.hd hc) p.isList (by simpa using reads_ints rv.ints) (alike_ints (n :: ns)) room fun _ v h2 tk bs _ rd keep => fin v h2 tk bs rd keep
theorem cr_maxT {X : Cx} (hc : X.calm = true) (hu : X.A.units + 100 < cLine) : CallR X (.builtin "max") (rMaxT X.K) := fun pins s σ H vs us Q I r h => by
  obtain ⟨a, n, ns, rfl, ha, q⟩ := h
  rw [Vals.ref1 r]
  have room : X.A.units + 1 + PyData.depthAll (PyData.int n :: ns.map PyData.int) < cLine := by
    rw [show PyData.depthAll (PyData.int n :: ns.map PyData.int) = 0 from depth_ints (n :: ns)]
    omega
  have fin : ∀ (v : Value) (h2 : Heap) (tk : Nat) (bs : List Addr), Reads h2 v (PySem.W.maxD (.int n) (ns.map PyData.int)) bs → (∀ b o, s.heap.get? b = some o → h2.get? b = some o) → EP X pins σ Q v { s with heap := h2, toks := tk } := fun v h2 tk bs rd keep => by
    rw [PySem.W.maxD_ints] at rd
    cases rd with
    | int i t => exact ⟨.int _, H, I.kept keep, ⟨t, rfl⟩, q⟩
  rcases ha with ha | ha
  · obtain ⟨its, rv, p, _⟩ := I.tuple ha
    exact PySem.W.max_tuple_data (I.ok.hd hc) (show s.heap.IsTuple a its.toArray from p) (by simpa using reads_ints rv.ints) (alike_ints (n :: ns)) room fun _ v h2 tk bs _ rd keep => fin v h2 tk bs rd keep
  · obtain ⟨its, rv, p, _⟩ := I.list ha
    exact PySem.W.max_list_data (I.ok.hd hc) p.isList (by simpa using reads_ints rv.ints) (alike_ints (n :: ns)) room fun _ v h2 tk bs _ rd keep => fin v h2 tk bs rd keep
/-! ### l.extend(t) -/
theorem ext_meets (l b : Addr) (xs ys : Array Value) (n m : Nat) (dd : Option Addr) (sl : Array (Option Value)) (short : ¬(!xs.isEmpty && Builtin.List.listTooLong (xs.size + ys.size)) = true) (z1 : xs.size ≤ sizeLine) (z2 : xs.size + ys.size ≤ sizeLine + 1) :
    Meets (Builtin.«list.extend» ⟨[.ref l, .ref b], []⟩) (fun _ R s => s.heap.get? l = some { cls := .type "list", dict := none, data := .seq xs n, slots := #[] } ∧ s.heap.get? b = some { cls := .type "tuple", dict := dd, data := .seq ys m, slots := sl } ∧ R (.ok (.ret Value.none)) { s with heap := s.heap.update l (Obj.mapSeq fun x => x ++ ys), toks := s.toks }) :=
  .of_wp fun prog w A R s h => by
    obtain ⟨hp, g, d, tk, os⟩ := s
    obtain ⟨a1, a2, go⟩ := h
    have f1 := AutoSeq1.idx_int; have f2 := AutoSeq1.sub_tuple_tuple; have f3 := AutoSeq1.sub_list_list; have f4 := AutoSeq1.sub_tuple_list; have f5 := AutoSeq1.sub_list_tuple
    have z3 : (xs ++ ys).size ≤ sizeLine + 1 := Array.size_append ▸ z2
    wp_walk using (wpAny_updateSeq a1 rfl (hz := z1) (_hz' := z3)), wpAny_loadPart' a1, wpAny_loadPart' a2
    exact ⟨_, rfl, go⟩
def rExtendT (K : PySem.W.Frag) : V → List V → Hp → VK → Prop := fun x vs H Q => ∃ l b xs zs, x = .ref l ∧ vs = [.ref b] ∧ H l = some (.lst xs) ∧ SqT K H b zs ∧ xs.length + zs.length ≤ sizeLine ∧ Q .non (upd H l (.lst (xs ++ zs)))
theorem mt_extendT {X : Cx} : MtR X "list.extend" (rExtendT X.K) := fun pins s σ H x vs v us Q I rx rv h => by
  obtain ⟨l, b, xs, zs, rfl, rfl, hl, hb, sz, q⟩ := h
  cases rx
  obtain ⟨u, rfl, ru⟩ := rv.one
  cases ru
  obtain ⟨z, its, n, r, fits, at_⟩ := I.lstM hl
  obtain ⟨its2, r2, ⟨⟨c2, d2, dt2, sl2⟩, at2, ec, n2, ed⟩, _⟩ := I.tuple hb
  obtain rfl : c2 = _ := ec
  obtain rfl : dt2 = _ := ed
  have both : its.toArray.size + its2.toArray.size ≤ sizeLine := by rw [List.size_toArray, List.size_toArray, ← r.length, ← r2.length]; exact sz
  have short : ¬ (!its.toArray.isEmpty && Builtin.List.listTooLong (its.toArray.size + its2.toArray.size)) = true := by rw [notLongL both, Bool.and_false]; simp
  refine call_meets F.slot_list_extend ⟨_, at_, rfl⟩ F.entry_list_extend (F.args_list_extend_2 _ _) (ext_meets l b its.toArray its2.toArray n n2 d2 sl2 short (by omega) (by omega)) ⟨at_, at2, ?_⟩
  exact ⟨.non, _, I.lset (its' := its ++ its2) hl at_ (by simp) (r.append r2) (by rw [List.length_append]; exact sz), rfl, q⟩
/-! ### the same over data -/
section
variable {K : PySem.W.Frag} {S S0 S1 S2 S3 : SS} {ta tb tc td te : TE} {x y z : SD} {d e : PyData} {i j : Int} {ds es : List PyData} {ns : List Int} {k n : Nat} {a b : Bool}
theorem rc_minT {n : Int} : Rc K (rMinT K) [.dat (.tuple ((n :: ns).map PyData.int))] S (.dat (.int (ns.foldl min n))) S := fun c Hf H σ fp ok vs r Q q => by
  obtain ⟨v, rfl, rv⟩ := r.one
  cases rv with
  | tup h1 h2 =>
    obtain rfl := RpA.ints_inv (ns := n :: ns) h2
    exact ⟨_, n, ns, rfl, .inl (sameT ok.hd.ex h1), q _ _ _ _ ok Gr.refl (Rp.int _)⟩
theorem rc_maxL {n : Int} (h : AsD S x (.list ((n :: ns).map PyData.int))) : Rc K (rMaxT K) [x] S (.dat (.int (ns.foldl max n))) S := fun c Hf H σ fp ok vs r Q q => by
  obtain ⟨v, rfl, rv⟩ := r.one
  obtain ⟨a, xs, rfl, h1, h2⟩ := ok.asL rv h
  obtain rfl := RpA.ints_inv (ns := n :: ns) h2
  exact ⟨_, n, ns, rfl, .inr (.inl (.inl h1)), q _ _ _ _ ok Gr.refl (Rp.int _)⟩
theorem foldmin_le : ∀ (ns : List Int) (n : Int), ns.foldl min n ≤ n ∧ ∀ x ∈ ns, ns.foldl min n ≤ x
  | [], n => ⟨Int.le_refl _, fun _ z => by cases z⟩
  | m :: ns, n => by
    obtain ⟨h1, h2⟩ := foldmin_le ns (min n m)
    refine ⟨?_, fun x hx => ?_⟩
    · show ns.foldl min (min n m) ≤ n
      omega
    · rcases List.mem_cons.mp hx with e | hx
      · rw [e]
        show ns.foldl min (min n m) ≤ m
        omega
      · exact h2 x hx
/-- i in a list or a tuple of whole numbers -/
theorem inV_ints (i : Int) : ∀ ns : List Int, inV (V.int i) (ns.map V.int) = decide (i ∈ ns)
  | [] => rfl
  | n :: ns => by
    show ((n == i) || inV (V.int i) (ns.map V.int)) = _
    rw [inV_ints i ns]
    by_cases h : n = i
    · subst h
      simp
    · have h2 : ¬ i = n := fun z => h z.symm
      simp [h, h2]
theorem flat_ints (ns : List Int) : (ns.map V.int).all flatV = true := by
  rw [List.all_eq_true]
  intro x hx
  obtain ⟨i, _, rfl⟩ := List.mem_map.mp hx
  rfl
theorem ro_inT : Ro K (rIn K false) (.dat (.int i)) (.dat (.tuple (ns.map PyData.int))) S (.dat (.bool (decide (i ∈ ns)))) S := fun c Hf H σ fp ok v u rv ru Q q => by
  cases rv
  cases ru with
  | tup h1 h2 =>
    obtain rfl := RpA.ints_inv h2
    refine ⟨_, _, rfl, .inr (sameT ok.hd.ex h1), rfl, flat_ints ns, ?_⟩
    rw [if_neg (by decide), inV_ints]
    exact q _ _ _ _ ok Gr.refl (Rp.bl _)
theorem ro_notInT : Ro K (rIn K true) (.dat (.int i)) (.dat (.tuple (ns.map PyData.int))) S (.dat (.bool (!decide (i ∈ ns)))) S := fun c Hf H σ fp ok v u rv ru Q q => by
  cases rv
  cases ru with
  | tup h1 h2 =>
    obtain rfl := RpA.ints_inv h2
    refine ⟨_, _, rfl, .inr (sameT ok.hd.ex h1), rfl, flat_ints ns, ?_⟩
    rw [if_pos rfl, inV_ints]
    exact q _ _ _ _ ok Gr.refl (Rp.bl _)
theorem ro_inL (hy : AsD S y (.list (ns.map PyData.int))) : Ro K (rIn K false) (.dat (.int i)) y S (.dat (.bool (decide (i ∈ ns)))) S := fun c Hf H σ fp ok v u rv ru Q q => by
  cases rv
  obtain ⟨a, xs, rfl, h1, h2⟩ := ok.asL ru hy
  obtain rfl := RpA.ints_inv h2
  refine ⟨_, _, rfl, .inl (.inl (.inl h1)), rfl, flat_ints ns, ?_⟩
  rw [if_neg (by decide), inV_ints]
  exact q _ _ _ _ ok Gr.refl (Rp.bl _)
theorem ro_isB : Ro K rIsB (.dat (.bool a)) (.dat (.bool b)) S (.dat (.bool (decide (a = b)))) S := fun c Hf H σ fp ok v u rv ru Q q => by
  cases rv
  cases ru
  exact ⟨a, b, rfl, rfl, q _ _ _ _ ok Gr.refl (Rp.bl _)⟩
theorem ro_notB : Ro K rNotB (.dat (.bool a)) (.dat (.bool b)) S (.dat (.bool (!decide (a = b)))) S := fun c Hf H σ fp ok v u rv ru Q q => by
  cases rv
  cases ru
  exact ⟨a, b, rfl, rfl, q _ _ _ _ ok Gr.refl (Rp.bl _)⟩
theorem ee_extendT (hl : Ee K ta S (.own k) S1) (he : Ee K te S1 (.dat (.tuple es)) S2) (ho1 : ∃ ds1, S1.ob[k]? = some (.lst ds1)) (ho : S2.ob[k]? = some (.lst ds)) (hz : ds.length + es.length ≤ 1000000) :
    Ee K (tBM K "list" (rExtendT K) ta (tCons te tNil)) S (.dat .none) { S2 with ob := S2.ob.set k (.lst (ds ++ es)) } := fun c Hf H σ fp ok Q q =>
  hl c Hf H σ fp ok _ fun v Hf1 H1 fp1 ok1 g1 r1 => by
    obtain ⟨ds1, ho1⟩ := ho1
    obtain ⟨a, xs, rfl, h1, h2, h3⟩ := ok1.obL ho1 r1
    refine ⟨.inl ⟨rfl, xs, .inl (.inl h2)⟩, he c Hf1 H1 σ fp1 ok1 _ fun u Hf2 H2 fp2 ok2 g2 r2 => ?_⟩
    obtain ⟨b, zs, e, k1, k2, k3⟩ := ok2.setL ho (r1.mono g2.sm g2.pr)
    cases e
    cases r2 with
    | @tup p ws _ w1 w2 =>
      obtain ⟨ok3, g3⟩ := k3 (zs ++ ws) (ds ++ es) (k2.append w2)
      refine ⟨_, p, zs, ws, rfl, rfl, k1, sameT ok2.hd.ex w1, ?_, q _ _ _ _ ok3 ((g1.trans g2).trans g3) Rp.non⟩
      rw [k2.len, w2.len]
      exact Nat.le_trans hz (by decide)
end
section
variable {K : PySem.W.Frag} {S S1 : SS} {E : DE} {tu tw : TS}
/-- two ways, one state behind them -/
theorem ts_seqTo (h : Ts K tu S { E with nx := fun S' => S' = S1 }) (k : Ts K tw S1 E) : Ts K (tSeq tu tw) S E := ts_seq (ts_mono h (fun S' e => by rw [show S' = S1 from e]; exact k) (fun _ _ z => z) (fun _ z => z) (fun _ z => z))
end
end DL

set_option maxRecDepth 100000
set_option maxHeartbeats 1000000
/-! DLz: bits of whole numbers, over data; reversed; the truth of a number. -/
namespace DL
open PySem PySem.Spec PyProof.Rows L2
/-! ### bits -/
theorem not_lo (b : Nat) : ¬ (0 ≤ Builtin.bitNot (b : Int)) := by
  unfold Builtin.bitNot
  omega
theorem not_not (x : Int) : Builtin.bitNot (Builtin.bitNot x) = x := by
  unfold Builtin.bitNot
  omega
theorem bor_nat (a b : Nat) : Builtin.bitOr (a : Int) (b : Int) = ((a ||| b : Nat) : Int) := by
  unfold Builtin.bitOr Builtin.bitAnd
  rw [decide_eq_false (not_lo a), decide_eq_false (not_lo b)]
  show Builtin.bitNot (Builtin.bitNot (((Builtin.bitNot (Builtin.bitNot (a : Int))).toNat ||| (Builtin.bitNot (Builtin.bitNot (b : Int))).toNat : Nat) : Int)) = _
  rw [not_not, not_not, not_not, Int.toNat_natCast, Int.toNat_natCast]
def dropN (a b : Nat) : Nat := Nat.bitwise (fun x y => x && !y) a b
theorem drop_bit (a b i : Nat) : (dropN a b).testBit i = (a.testBit i && !b.testBit i) := by
  unfold dropN
  rw [Nat.testBit_bitwise rfl]
theorem add_apart {x y : Nat} (h : x &&& y = 0) : x + y = x ||| y := by
  have hs : x + y < 2 ^ (x + y) := Nat.lt_two_pow_self
  have hx : x < 2 ^ (x + y) := by omega
  have hy : y < 2 ^ (x + y) := by omega
  have z : (BitVec.ofNat (x + y) x) &&& (BitVec.ofNat (x + y) y) = 0#(x + y) := by
    apply BitVec.eq_of_toNat_eq
    rw [BitVec.toNat_and, BitVec.toNat_ofNat, BitVec.toNat_ofNat, Nat.mod_eq_of_lt hx, Nat.mod_eq_of_lt hy, h]
    rfl
  have e := congrArg BitVec.toNat (BitVec.add_eq_or_of_and_eq_zero _ _ z)
  rw [BitVec.toNat_add, BitVec.toNat_or, BitVec.toNat_ofNat, BitVec.toNat_ofNat, Nat.mod_eq_of_lt hx, Nat.mod_eq_of_lt hy, Nat.mod_eq_of_lt hs] at e
  exact e
theorem drop_add (a b : Nat) : dropN a b + (a &&& b) = a := by
  have h0 : dropN a b &&& (a &&& b) = 0 := by
    apply Nat.eq_of_testBit_eq
    intro i
    rw [Nat.testBit_and, Nat.testBit_and, drop_bit, Nat.zero_testBit]
    cases a.testBit i <;> cases b.testBit i <;> rfl
  have h1 : dropN a b ||| (a &&& b) = a := by
    apply Nat.eq_of_testBit_eq
    intro i
    rw [Nat.testBit_or, Nat.testBit_and, drop_bit]
    cases a.testBit i <;> cases b.testBit i <;> rfl
  have h2 := add_apart h0
  omega
theorem drop_nat (a b : Nat) : Builtin.bitAnd (a : Int) (Builtin.bitNot (b : Int)) = ((dropN a b : Nat) : Int) := by
  unfold Builtin.bitAnd
  rw [decide_eq_true (Int.natCast_nonneg a), decide_eq_false (not_lo b)]
  show (a : Int) - (((a : Int).toNat &&& (Builtin.bitNot (Builtin.bitNot (b : Int))).toNat : Nat) : Int) = _
  rw [not_not, Int.toNat_natCast, Int.toNat_natCast]
  have := drop_add a b
  omega
section
variable {K : PySem.W.Frag} {S S1 : SS} {i j : Int} {a b : Nat}
theorem ro_bor : Ro K (rI0 fun i j => .int (Builtin.bitOr i j)) (.dat (.int (a : Int))) (.dat (.int (b : Int))) S (.dat (.int ((a ||| b : Nat) : Int))) S := ro_I0 fun _ => by
  rw [bor_nat]
  exact .int _
theorem ro_band : Ro K (rI0 fun i j => .int (Builtin.bitAnd i j)) (.dat (.int (a : Int))) (.dat (.int (b : Int))) S (.dat (.int ((a &&& b : Nat) : Int))) S := ro_I0 fun _ => by
  rw [PySem.W.os_band]
  exact .int _
theorem ro_bdrop : Ro K (rI0 fun i j => .int (Builtin.bitAnd i j)) (.dat (.int (a : Int))) (.dat (.int (Builtin.bitNot (b : Int)))) S (.dat (.int ((dropN a b : Nat) : Int))) S := ro_I0 fun _ => by
  rw [drop_nat]
  exact .int _
theorem ru_inv : Ru K (rU fun i => .int (Builtin.bitNot i)) (.dat (.int i)) S (.dat (.int (Builtin.bitNot i))) S := fun c Hf H σ fp ok v rv Q q => by
  cases rv
  exact ⟨i, rfl, q _ _ _ _ ok Gr.refl (Rp.int _)⟩
/-- 1 << b -/
theorem ro_shl1 (h : CPow 1 (b : Int)) : Ro K (rI CPow fun i j => .int (i * 2 ^ j.toNat)) (.dat (.int 1)) (.dat (.int (b : Int))) S (.dat (.int ((2 ^ b : Nat) : Int))) S := by
  have e : (1 : Int) * 2 ^ (b : Int).toNat = ((2 ^ b : Nat) : Int) := by
    rw [Int.toNat_natCast, Int.one_mul, Int.natCast_pow]
    rfl
  rw [← e]
  exact ro_I (fun _ => .int _) h
/-- a >> b -/
theorem ro_shr : Ro K (rI (fun _ j => 0 ≤ j) fun i j => .int (i / 2 ^ j.toNat)) (.dat (.int (a : Int))) (.dat (.int (b : Int))) S (.dat (.int ((a >>> b : Nat) : Int))) S := by
  have e : (a : Int) / 2 ^ (b : Int).toNat = ((a >>> b : Nat) : Int) := by
    rw [Int.toNat_natCast, Nat.shiftRight_eq_div_pow, Int.natCast_ediv, Int.natCast_pow]
    rfl
  rw [← e]
  exact ro_I (fun _ => .int _) (Int.natCast_nonneg b)
theorem bit_of (a b : Nat) : ((((a >>> b &&& 1 : Nat)) : Int) != 0) = a.testBit b := by
  unfold Nat.testBit
  have : (a >>> b &&& 1) = 1 &&& a >>> b := Nat.and_comm _ _
  rw [this]
  by_cases h : (1 &&& a >>> b) = 0
  · rw [h]
    rfl
  · rw [bne_iff_ne.mpr h, bne_iff_ne.mpr (show (((1 &&& a >>> b : Nat)) : Int) ≠ 0 by omega)]
theorem one_bit (q i : Nat) : (2 ^ q).testBit i = decide (q = i) := Nat.testBit_two_pow
/-! ### reversed(tuple), the truth of a number -/
theorem walk_back {K : PySem.W.Frag} {a : Addr} {xs : List V} : Walk (RT.ItvT K a xs.length) xs.length (fun H => SqT K H a xs) (fun i H x H' => H' = H ∧ xs[xs.length - 1 - i]? = some x) := by
  refine ⟨fun i H hi q => ?_, fun H q => Nat.le_refl _, fun i H x H' hi q y => ⟨y.1, y.2 xs q⟩⟩
  have lt : xs.length - 1 - i < xs.length := by omega
  exact ⟨hi, xs, xs[xs.length - 1 - i]'lt, q, List.getElem?_eq_getElem lt⟩
theorem ei_back {te : TE} {ds : List PyData} (h : Ee K te S (.dat (.tuple ds)) S1) : Ei K (RT.iRevA K te) S ds.reverse S1 := fun c Hf H σ fp ok R q => h c Hf H σ fp ok _ fun v Hf1 H1 fp1 ok1 g1 r1 => by
  cases r1 with
  | @tup a xs _ h1 h2 =>
    refine ⟨a, xs, rfl, .inr ⟨sameT ok1.hd.ex h1, q _ Hf1 H1 fp1 ok1 g1 (wk_of (walk_back (K := K)) (by rw [List.length_reverse]; exact h2.len.symm) (fun Hf2 H2 e1 e2 => sameT e2 (sameT e1 h1)) fun i d Hf2 H2 x H3 e1 e2 hd y => .inl ?_)⟩⟩
    obtain ⟨rfl, y⟩ := y
    have hi : i < ds.length := by
      have := (List.getElem?_eq_some_iff.mp hd).1
      rwa [List.length_reverse] at this
    rw [List.getElem?_reverse hi, ← h2.len] at hd
    obtain ⟨w, k1, k2⟩ := h2.get hd
    rw [y] at k1
    obtain rfl := Option.some.inj k1
    exact ⟨rfl, k2.mono e1⟩
theorem et_truI {te : TE} (h : Ee K te S (.dat (.int i)) S1) : Et K (tTru K te) S (i != 0) S1 := fun c Hf H σ fp ok Q q => h c Hf H σ fp ok _ fun v Hf1 H1 fp1 ok1 g1 r1 => by
  cases r1
  exact ⟨_, rfl, q _ _ _ ok1 g1⟩
end
end DL

set_option maxRecDepth 100000
set_option maxHeartbeats 2000000
/-! DLz2: comprehensions of two clauses, over data. -/
namespace DL
open PySem PySem.Spec PyProof.Rows L2
section
variable {K : PySem.W.Frag} {c : Addr → Prop} {Hf H Hf' H' : Hp} {σ : L2.St} {fp fp' : List (List Addr)} {S : SS} {Dl : Addr} {o : HO}
theorem Okk.grow (ok : Okk K (fun a => c a ∨ a = Dl) Hf H σ fp S) (nm : Dl ∉ fp.flatten) : Okk K (fun a => c a ∨ a = Dl) Hf (upd H Dl o) σ fp S := by
  have hfD : Hf Dl = none := (ok.hd.pt Dl (.inr rfl)).1
  refine ⟨⟨fun b x e => ?_, ok.hd.fl, fun k q x e1 e2 => (ok.hd.oo k q x e1 e2).mono (Same.refl _) fun b hb => upd_ne fun z => nm (mem_fl e1 (by rw [← z]; exact hb)), ok.hd.nd, fun a ha => ?_, ok.hd.nf, fun a z => ?_, ok.hd.np⟩, ok.ln, ok.sr⟩
  · rw [upd_ne (ne_of_none e hfD)]
    exact ok.hd.ex b x e
  · obtain ⟨x, e⟩ := ok.hd.al a ha
    exact ⟨x, by rw [upd_ne (show a ≠ Dl from fun z => nm (by rw [← z]; exact ha))]; exact e⟩
  · obtain ⟨z1, x, z2⟩ := ok.hd.pt a z
    refine ⟨z1, ?_⟩
    by_cases hb : a = Dl
    · rw [hb]
      exact ⟨_, upd_same⟩
    · exact ⟨x, by rw [upd_ne hb]; exact z2⟩
theorem Gr.grow (g : Gr Hf H fp Hf' H' fp') (hD : H Dl = none) : Gr Hf H fp Hf' (upd H' Dl o) fp' := by
  refine ⟨g.sm, g.pr, fun a x e n => ?_, g.nw, fun a x e => ?_⟩
  · rw [upd_ne (ne_of_none e hD)]
    exact g.fr a x e n
  · rw [upd_ne (ne_of_none e hD)]
    exact g.th a x e
/-- a list that is being made at Dl -/
structure Mk (K : PySem.W.Frag) (c : Addr → Prop) (Dl : Addr) (Hf H Hf1 : Hp) (fp : List (List Addr)) (Hf' H' : Hp) (fp' : List (List Addr)) (acc : List PyData) : Prop where
  gr : Gr Hf H fp Hf' H' fp'
  sm : Same Hf1 Hf'
  at_ : ∃ xs, H' Dl = some (.lst xs) ∧ RpA K Hf' xs acc
  nm : Dl ∉ fp'.flatten
theorem Mk.step {Hf1 Hf2 H2 : Hp} {fp2 : List (List Addr)} {acc : List PyData} (m : Mk K c Dl Hf H Hf1 fp Hf' H' fp' acc) (g : Gr Hf' H' fp' Hf2 H2 fp2) : Mk K c Dl Hf H Hf1 fp Hf2 H2 fp2 acc := by
  obtain ⟨xs, h1, h2⟩ := m.at_
  exact ⟨m.gr.trans g, m.sm.trans g.sm, ⟨xs, g.fr _ _ h1 m.nm, h2.mono g.sm⟩, fun z => (g.nw Dl z).elim m.nm fun y => by rw [h1] at y; cases y⟩
theorem Mk.add {Hf1 : Hp} {acc : List PyData} {xs : List V} {v : V} {d : PyData} (m : Mk K c Dl Hf H Hf1 fp Hf' H' fp' acc) (hD : H Dl = none) (hx : H' Dl = some (.lst xs)) (r : RpA K Hf' xs acc) (rv : Rp K Hf' v d) : Mk K c Dl Hf H Hf1 fp Hf' (upd H' Dl (.lst (xs ++ [v]))) fp' (acc ++ [d]) :=
  ⟨m.gr.grow hD, m.sm, ⟨_, upd_same, r.append (.cons rv .nil)⟩, m.nm⟩
def outL (es : PyData → List PyData) (p : PyData → PyData → Bool) (f : PyData → PyData → PyData) (ds : List PyData) : List PyData := ds.flatMap fun d => ((es d).filter (p d)).map (f d)
theorem outL_take {es : PyData → List PyData} {p : PyData → PyData → Bool} {f : PyData → PyData → PyData} {ds : List PyData} {i : Nat} {d : PyData} (h : ds[i]? = some d) : outL es p f (ds.take (i + 1)) = outL es p f (ds.take i) ++ ((es d).filter (p d)).map (f d) := by
  unfold outL
  rw [List.take_add_one, h, List.flatMap_append]
  simp
theorem outL_part {es : PyData → List PyData} {p : PyData → PyData → Bool} {f : PyData → PyData → PyData} {ds : List PyData} {i j : Nat} {d : PyData} (h : ds[i]? = some d) (h2 : j ≤ (es d).length) : (outL es p f (ds.take i) ++ (((es d).take j).filter (p d)).map (f d)).length ≤ (outL es p f ds).length := by
  have e : outL es p f ds = outL es p f (ds.take (i + 1)) ++ outL es p f (ds.drop (i + 1)) := by
    unfold outL
    rw [← List.flatMap_append, List.take_append_drop]
  rw [e, outL_take h, List.length_append, List.length_append, List.length_append, List.length_map, List.length_map]
  have := ((List.take_sublist j (es d)).filter (p d)).length_le
  omega
theorem part_succ {es : List PyData} {p : PyData → Bool} {f : PyData → PyData} {j : Nat} {e : PyData} (h : es[j]? = some e) : ((es.take (j + 1)).filter p).map f = if p e = true then ((es.take j).filter p).map f ++ [f e] else ((es.take j).filter p).map f := by
  rw [List.take_add_one, h, List.filter_append, List.map_append]
  show _ ++ ([e].filter p).map f = _
  by_cases hp : p e = true
  · rw [if_pos hp, List.filter_cons_of_pos hp]
    rfl
  · rw [if_neg hp, List.filter_cons_of_neg hp]
    exact List.append_nil _
theorem el_lc2 {wi wi1 : TI} {g g1 : TG} {t1 : TT} {te : TE} {vs vs1 : List Nat} {S0 : SS} {ds : List PyData} (es : PyData → List PyData) (p : PyData → PyData → Bool) (f : PyData → PyData → PyData)
    (h : Ei K wi S ds S0) (hl : (outL es p f ds).length ≤ 1000000)
    (hs : ∀ (i : Nat) (d : PyData), ds[i]? = some d → ∃ Sg, Egc K vs g d { S0 with sl := wipeS S0.sl vs } Sg ∧ Sg.ob = S0.ob ∧ Ei K wi1 Sg (es d) Sg ∧
      ∀ (j : Nat) (e : PyData), (es d)[j]? = some e → ∃ Sh S2, Egc K vs1 g1 e { Sg with sl := wipeS Sg.sl vs1 } Sh ∧ Et K t1 Sh (p d e) S2 ∧ S2.ob = S0.ob ∧ (p d e = true → ∃ S3, Ee K te S2 (.dat (f d e)) S3 ∧ S3.ob = S0.ob)) :
    El K (tLc2 wi g tYes wi1 g1 t1 te vs vs1) S (outL es p f ds) S0 := fun c Hf H σ fp ok Q q =>
  h c Hf H σ fp ok _ fun J Hf1 H1 fp1 ok1 g0 w Dl hD => by
    have hHD : H Dl = none := none_back g0.th hD
    have cD : Addr → Prop := fun a => c a ∨ a = Dl
    refine ⟨fun i m H' => m = ds.length - i ∧ i ≤ ds.length ∧ ∃ Hf' fp', Okk K (fun a => c a ∨ a = Dl) Hf' H' σ fp' S0 ∧ Mk K c Dl Hf H Hf1 fp Hf' H' fp' (outL es p f (ds.take i)), ⟨ds.length, by simp, Nat.zero_le _, Hf1, fp1, ?_⟩, ?_⟩
    · obtain ⟨ok2, g2, al⟩ := ok1.alone (xs := []) (ds := []) hD .nil
      refine ⟨⟨⟨ok2.hd.ex, ok2.hd.fl, ok2.hd.oo, ok2.hd.nd, ok2.hd.al, ok2.hd.nf, fun a z => ?_, fun k p ds' e1 e2 a ha z => ?_⟩, ok2.ln, ok2.sr⟩, g0.trans g2, Same.refl _, ⟨[], upd_same, .nil⟩, al.nm⟩
      · rcases z with z | rfl
        · exact ok2.hd.pt a z
        · exact ⟨al.hf, _, upd_same⟩
      · rcases z with z | rfl
        · exact ok2.hd.np k p ds' e1 e2 a ha z
        · exact al.nm (mem_fl e1 ha)
    · rintro i m H' ⟨rfl, hi, Hf', fp', ok', mk⟩
      by_cases hlt : i < ds.length
      · have hd := List.getElem?_eq_getElem hlt
        generalize ds[i] = d at hd
        refine .inr ⟨w.go i Hf' H' mk.sm ok'.hd.ex hlt, fun H2 => i + 1 ≤ ds.length ∧ ∃ Hf' fp', Okk K (fun a => c a ∨ a = Dl) Hf' H2 σ fp' S0 ∧ Mk K c Dl Hf H Hf1 fp Hf' H2 fp' (outL es p f (ds.take (i + 1))), fun H2 ⟨a1, a2⟩ => ⟨ds.length - (i + 1), by omega, rfl, a1, a2⟩, fun x H2 y => ?_⟩
        obtain ⟨Sg, hg, hob, hin, hs1⟩ := hs i d hd
        have fin : ∀ Hf2, Okk K (fun a => c a ∨ a = Dl) Hf2 H2 σ fp' S0 → Gr Hf' H' fp' Hf2 H2 fp' → Rp K Hf2 x d → g x (wipe σ vs) H2 fun σ2 H2 => wipe σ2 vs = wipe σ vs ∧ tYes σ2 H2 fun b H3 =>
            if b = true then wi1 σ2 H3 fun J1 H4 => ∃ W1 : Nat → Nat → Hp → Prop, (∃ m, W1 0 m H4) ∧ ∀ j k H5, W1 j k H5 →
              (J1.stop j H5 ∧ (i + 1 ≤ ds.length ∧ ∃ Hf' fp', Okk K (fun a => c a ∨ a = Dl) Hf' H5 σ fp' S0 ∧ Mk K c Dl Hf H Hf1 fp Hf' H5 fp' (outL es p f (ds.take (i + 1))))) ∨ (J1.go j H5 ∧ ∃ Nx1 : Hp → Prop, (∀ H', Nx1 H' → ∃ k', k' < k ∧ W1 (j + 1) k' H') ∧ ∀ x H', J1.yld j H5 x H' → g1 x (wipe σ2 vs1) H' fun σ3 H5 => wipe σ3 vs1 = wipe σ2 vs1 ∧ t1 σ3 H5 fun b H6 =>
                if b = true then te σ3 H6 fun y H7 => ∃ acc, H7 Dl = some (.lst acc) ∧ acc.length < sizeLine ∧ Nx1 (upd H7 Dl (.lst (acc ++ [y]))) else Nx1 H6)
            else (i + 1 ≤ ds.length ∧ ∃ Hf' fp', Okk K (fun a => c a ∨ a = Dl) Hf' H3 σ fp' S0 ∧ Mk K c Dl Hf H Hf1 fp Hf' H3 fp' (outL es p f (ds.take (i + 1)))) := fun Hf2 ok2 g2 rp => by
          have mk2 := mk.step g2
          refine hg _ Hf2 H2 _ fp' (ok2.wiped vs) x rp _ fun σ3 w3 ok3 => ⟨?_, ?_⟩
          · rw [w3, wipe_wipe σ vs vs fun _ h => h]
          unfold tYes
          dsimp only
          rw [if_pos rfl]
          refine hin _ Hf2 H2 σ3 fp' ok3 _ fun J1 Hf4 H4 fp4 ok4 g4 w4 => ?_
          have back : ∀ {Hf5 H5 : Hp} {fp5 : List (List Addr)} {σ5 : L2.St} {S5 : SS}, S5.ob = S0.ob → Okk K (fun a => c a ∨ a = Dl) Hf5 H5 σ5 fp5 S5 → Gr Hf2 H2 fp' Hf5 H5 fp5 → Okk K (fun a => c a ∨ a = Dl) Hf5 H5 σ fp5 S0 := fun e o5 g5 => by
            have z := ok2.heap o5 g5
            rw [e] at z
            exact z
          refine ⟨fun j k H5 => k = (es d).length - j ∧ j ≤ (es d).length ∧ ∃ Hf5 fp5, Okk K (fun a => c a ∨ a = Dl) Hf5 H5 σ3 fp5 Sg ∧ Okk K (fun a => c a ∨ a = Dl) Hf5 H5 σ fp5 S0 ∧ Same Hf4 Hf5 ∧ Mk K c Dl Hf H Hf1 fp Hf5 H5 fp5 (outL es p f (ds.take i) ++ (((es d).take j).filter (p d)).map (f d)), ⟨(es d).length, by simp, Nat.zero_le _, Hf4, fp4, ok4, back hob ok4 g4, Same.refl _, ?_⟩, ?_⟩
          · have z := mk2.step g4
            rw [List.take_zero]
            show Mk K c Dl Hf H Hf1 fp Hf4 H4 fp4 (_ ++ [])
            rw [List.append_nil]
            exact z
          · rintro j k H5 ⟨rfl, hj, Hf5, fp5, ok5, okS, s5, mk5⟩
            by_cases hjl : j < (es d).length
            · have he := List.getElem?_eq_getElem hjl
              generalize (es d)[j] = e at he
              have bound := outL_part (p := p) (f := f) hd (show j ≤ (es d).length by omega)
              refine .inr ⟨w4.go j Hf5 H5 s5 ok5.hd.ex hjl, fun H6 => j + 1 ≤ (es d).length ∧ ∃ Hf5 fp5, Okk K (fun a => c a ∨ a = Dl) Hf5 H6 σ3 fp5 Sg ∧ Okk K (fun a => c a ∨ a = Dl) Hf5 H6 σ fp5 S0 ∧ Same Hf4 Hf5 ∧ Mk K c Dl Hf H Hf1 fp Hf5 H6 fp5 (outL es p f (ds.take i) ++ (((es d).take (j + 1)).filter (p d)).map (f d)), fun H6 ⟨a1, a2⟩ => ⟨(es d).length - (j + 1), by omega, rfl, a1, a2⟩, fun x1 H6 y1 => ?_⟩
              obtain ⟨Sh, S2, hg1, ht1, e2, hy⟩ := hs1 j e he
              rw [part_succ he]
              have fin1 : ∀ Hf6, Okk K (fun a => c a ∨ a = Dl) Hf6 H6 σ3 fp5 Sg → Okk K (fun a => c a ∨ a = Dl) Hf6 H6 σ fp5 S0 → Gr Hf5 H5 fp5 Hf6 H6 fp5 → Rp K Hf6 x1 e → g1 x1 (wipe σ3 vs1) H6 fun σ4 H5 => wipe σ4 vs1 = wipe σ3 vs1 ∧ t1 σ4 H5 fun b H6 =>
                  if b = true then te σ4 H6 fun y H7 => ∃ acc, H7 Dl = some (.lst acc) ∧ acc.length < sizeLine ∧ (j + 1 ≤ (es d).length ∧ ∃ Hf5 fp5, Okk K (fun a => c a ∨ a = Dl) Hf5 (upd H7 Dl (.lst (acc ++ [y]))) σ3 fp5 Sg ∧ Okk K (fun a => c a ∨ a = Dl) Hf5 (upd H7 Dl (.lst (acc ++ [y]))) σ fp5 S0 ∧ Same Hf4 Hf5 ∧ Mk K c Dl Hf H Hf1 fp Hf5 (upd H7 Dl (.lst (acc ++ [y]))) fp5 (outL es p f (ds.take i) ++ (if p d e = true then (((es d).take j).filter (p d)).map (f d) ++ [f d e] else (((es d).take j).filter (p d)).map (f d))))
                  else (j + 1 ≤ (es d).length ∧ ∃ Hf5 fp5, Okk K (fun a => c a ∨ a = Dl) Hf5 H6 σ3 fp5 Sg ∧ Okk K (fun a => c a ∨ a = Dl) Hf5 H6 σ fp5 S0 ∧ Same Hf4 Hf5 ∧ Mk K c Dl Hf H Hf1 fp Hf5 H6 fp5 (outL es p f (ds.take i) ++ (if p d e = true then (((es d).take j).filter (p d)).map (f d) ++ [f d e] else (((es d).take j).filter (p d)).map (f d)))) := fun Hf6 ok6 okS6 g6 rp1 => by
                refine hg1 _ Hf6 H6 _ fp5 (ok6.wiped vs1) x1 rp1 _ fun σ5 w5 ok7 => ⟨?_, ?_⟩
                · rw [w5, wipe_wipe σ3 vs1 vs1 fun _ h => h]
                refine ht1 _ Hf6 H6 σ5 fp5 ok7 _ fun Hf8 H8 fp8 ok8 g8 => ?_
                have mk8 := (mk5.step g6).step g8
                have up : ∀ {Hf9 H9 : Hp} {fp9 : List (List Addr)} {σ9 : L2.St} {S9 : SS}, S9.ob = S0.ob → Okk K (fun a => c a ∨ a = Dl) Hf9 H9 σ9 fp9 S9 → Gr Hf6 H6 fp5 Hf9 H9 fp9 → Okk K (fun a => c a ∨ a = Dl) Hf9 H9 σ3 fp9 Sg ∧ Okk K (fun a => c a ∨ a = Dl) Hf9 H9 σ fp9 S0 := fun e9 o9 g9 => by
                  have z1 := ok6.heap o9 g9
                  have z2 := okS6.heap o9 g9
                  rw [e9] at z1 z2
                  rw [← hob] at z1
                  exact ⟨z1, z2⟩
                by_cases hp : p d e = true
                · rw [hp]
                  refine iteT ?_
                  obtain ⟨S3, hee, e3⟩ := hy hp
                  refine hee _ Hf8 H8 σ5 fp8 ok8 _ fun v Hf9 H9 fp9 ok9 g9 r9 => ?_
                  have mk9 := mk8.step g9
                  obtain ⟨xs, hx, hr⟩ := mk9.at_
                  obtain ⟨u1, u2⟩ := up e3 ok9 (g8.trans g9)
                  refine ⟨xs, hx, Nat.lt_of_le_of_lt (show xs.length ≤ 1000000 by rw [hr.len]; omega) (by decide), hjl, Hf9, fp9, u1.grow mk9.nm, u2.grow mk9.nm, ((s5.trans g6.sm).trans g8.sm).trans g9.sm, ?_⟩
                  rw [if_pos rfl, ← List.append_assoc]
                  exact mk9.add hHD hx hr r9
                · have hpf : p d e = false := by simpa using hp
                  rw [hpf]
                  refine iteF ?_
                  obtain ⟨u1, u2⟩ := up e2 ok8 g8
                  rw [if_neg (by decide)]
                  exact ⟨hjl, Hf8, fp8, u1, u2, (s5.trans g6.sm).trans g8.sm, mk8⟩
              rcases w4.yl j e Hf5 H5 x1 H6 s5 ok5.hd.ex he y1 with ⟨rfl, rp1⟩ | ⟨pp, o1, hp1, rfl, rp1⟩
              · exact fin1 Hf5 ok5 okS Gr.refl rp1
              · obtain ⟨k1, k2⟩ := ok5.laid o1 hp1
                exact fin1 _ k1 (okS.laid o1 hp1).1 k2 rp1
            · have ej : j = (es d).length := by omega
              subst ej
              refine .inl ⟨w4.st Hf5 H5 s5 ok5.hd.ex, hlt, Hf5, fp5, okS, ?_⟩
              rw [outL_take hd]
              rw [List.take_length] at mk5
              exact mk5
        rcases w.yl i d Hf' H' x H2 mk.sm ok'.hd.ex hd y with ⟨rfl, rp⟩ | ⟨pp, o2, hp, rfl, rp⟩
        · exact fin Hf' ok' Gr.refl rp
        · obtain ⟨ok2, g2⟩ := ok'.laid o2 hp
          exact fin _ ok2 g2 rp
      · have e : i = ds.length := by omega
        subst e
        rw [List.take_length] at mk
        refine .inl ⟨w.st Hf' H' mk.sm ok'.hd.ex, ?_⟩
        have hfD := (ok'.hd.pt Dl (.inr rfl)).1
        refine q Dl Hf' H' fp' (ok'.weak fun a z => .inl z) mk.gr hHD ⟨mk.at_, hfD, mk.nm, fun z => ?_⟩
        obtain ⟨_, o, z2⟩ := ok.hd.pt Dl z
        rw [hHD] at z2
        cases z2
end
end DL

set_option maxRecDepth 100000
set_option maxHeartbeats 2000000
/-! DLr: ranges that are kept, |=, items changed in place, lists of own lists. -/
namespace DL
open PySem PySem.Spec PyProof.Rows L2
theorem tuple_mulS (l : Addr) (items : Array Value) (n : Nat) (dd : Option Addr) (sl : Array (Option Value)) (x : Int) (u : Tok) (c0 : (decide (x < -(2 ^ 63)) || decide (x ≥ 2 ^ 63)) = false) (c1 : (items.isEmpty || x == 1) = true) :
    Meets (Builtin.«tuple.__mul__» ⟨[.ref l, .int x u], []⟩) (fun _ R s => s.heap.get? l = some { cls := .type "tuple", dict := dd, data := .seq items n, slots := sl } ∧ R (.ok (.ret (Value.ref l))) s) :=
  .of_wp fun prog w A R s h => by
    obtain ⟨hp, g, d, tk, os⟩ := s
    obtain ⟨hl, h⟩ := h
    have f1 := AutoSeq1.idx_int
    wp_walk using wpAny_loadPart' hl
    repeat (first
      | (refine wpAny_ite_false (decide_eq_false (by rw [c0]; exact Bool.false_ne_true)) ?_; wp_walk using wpAny_loadPart' hl)
      | (refine wpAny_ite_true (decide_eq_true c1) ?_; wp_walk using wpAny_loadPart' hl))
    exact ⟨_, rfl, h⟩
/-- a tuple times 1, an empty tuple times a number: the tuple itself -/
def rRepS (K : PySem.W.Frag) : R2 := fun x y H Q => ∃ l k xs, x = .ref l ∧ y = .int k ∧ SqT K H l xs ∧ (xs = [] ∨ k = 1) ∧ 0 ≤ k ∧ k ≤ 1000000 ∧ Q (.ref l) H
theorem op_repS {X : Cx} : OpR X (binaryOp .Mult) (rRepS X.K) := by
  intro pins s σ H x y v u Q I rx ry h
  obtain ⟨l, k, xs, rfl, rfl, hT, hk, h1, h2, q⟩ := h
  cases rx
  obtain ⟨t, rfl⟩ := ry
  obtain ⟨its, r, ⟨⟨cls, dd, data, sl⟩, ho, hc, n, hd⟩, hs⟩ := I.tuple hT
  simp only at hc hd
  subst hc hd
  have hle : its.length = xs.length := r.length.symm
  have c0 : (decide (k < -(2 ^ 63)) || decide (k ≥ 2 ^ 63)) = false := by
    rw [decide_eq_false (by omega), decide_eq_false (by omega)] <;> rfl
  have c1 : (its.toArray.isEmpty || k == 1) = true := by
    rcases hk with hk | hk
    · subst hk
      rw [List.eq_nil_of_length_eq_zero hle]
      rfl
    · subst hk
      exact Bool.or_true _
  refine wpAny_binaryOp_repeat_ref (T := "tuple") (U := "int") (by decide) ⟨_, ho, rfl⟩ (fun s' => typeIs_int s' k t) noFill_tuple_mul F.fills_int_mul F.slot_int_rmul repeat_tuple F.slot_int_index.lookup
    (call_meets F.slot_int_rmul (typeIs_int s k t) F.entry_int_rmul (F.args_int_rmul_2 _ _) (int_rmul_tuple k t l its.toArray n dd sl)
      ⟨ho, rfl, ⟨_, ho, rfl⟩, call_meets F.slot_tuple_mul ⟨_, ho, rfl⟩ F.entry_tuple_mul (F.args_tuple_mul_2 _ _) (tuple_mulS l its.toArray n dd sl k t c0 c1) ⟨ho, ?_⟩⟩)
  exact ⟨.ref l, H, I, rfl, q⟩
def rMulS (K : PySem.W.Frag) : R2 := fun x y H Q => rMulU K x y H Q ∨ rRepS K x y H Q
theorem op_mulS {X : Cx} : OpR X (binaryOp .Mult) (rMulS X.K) := opr_or op_mulU op_repS
section
variable {X : Cx} {pos : Pos} {tg : Expr}
theorem ip_or : PIp X .BitOr (ipI fun i j => Builtin.bitOr i j) := iop_or
theorem ip_and : PIp X .BitAnd (ipI fun i j => Builtin.bitAnd i j) := iop_and
theorem ip_xor : PIp X .BitXor (ipI fun i j => Builtin.bitXor i j) := iop_xor
theorem get_list : PGet X (rIxL X.K) := by
  intro pins s σ H x y v u Q I rx ry h
  obtain ⟨p, xs, i, z, rfl, rfl, hq, he, q⟩ := h
  cases rx
  obtain ⟨t, rfl⟩ := ry
  obtain ⟨its, r, pl, hz⟩ := I.list hq
  obtain ⟨j, h1, h2, h3, h4, h5⟩ := atI_get he
  obtain ⟨w, ew, rw'⟩ := r.get h2
  have hl := r.length
  have hn := line63
  have fin : EP X pins σ Q w s := ⟨z, H, I, rw', q⟩
  by_cases h0 : 0 ≤ i
  · have hj : i.toNat = j := by
      rw [seqIndex_of h0 h5] at h1
      exact Option.some.inj h1
    exact wpAny_getItem_list pl.isList h0 (by omega) (by rw [hj]; simpa using ew) fin
  · have hj : (i + (its.toArray.size : Int)).toNat = j := by
      rw [seqIndex_neg (by omega) h4] at h1
      rw [List.size_toArray, ← hl]
      exact Option.some.inj h1
    exact wpAny_getItem_list_neg pl.isList (by omega) (by rw [List.size_toArray] <;> omega) (by omega) (by rw [hj]; simpa using ew) fin
/-- range(n) as a value -/
def rRng1 : List V → Hp → VK → Prop := fun vs H Q => ∃ j, vs = [V.int j] ∧ ∀ p, H p = none → Q (.ref p) (upd H p (.rng 0 j))
theorem cr_range1 : CallR X (.type "range") rRng1 := by
  intro pins s σ H vs us Q I r h
  obtain ⟨j, rfl, q⟩ := h
  obtain ⟨u1, rfl, rj⟩ := vals1 r
  obtain ⟨t, rfl⟩ := rj
  refine call_range_1 ⟨.ref s.heap.objs.size, upd H s.heap.objs.size (.rng 0 j), I.laid (fun b o e => Heap.get?_push_of_some _ e) (Nat.le_refl _) ?_, rfl, q _ (I.hok.fresh (Nat.le_refl _))⟩
  exact ⟨_, _, _, Heap.get?_push_size _ rfl⟩
def rRng2 : List V → Hp → VK → Prop := fun vs H Q => ∃ i j, vs = [V.int i, V.int j] ∧ ∀ p, H p = none → Q (.ref p) (upd H p (.rng i j))
theorem cr_range2' : CallR X (.type "range") rRng2 := cr_range2
/-- a range that is kept, walked -/
def iRngV (te : TE) : TI := fun σ H R => te σ H fun x H1 => ∃ (a : Addr) (lo hi : Int), x = .ref a ∧ H1 a = some (.rng lo hi) ∧ (-(2 ^ 62) ≤ lo ∧ lo < 2 ^ 62 ∧ -(2 ^ 62) ≤ hi ∧ hi < 2 ^ 62) ∧ R (Itr lo (hi - lo).toNat) H1
theorem pi_rngV {l : Expr} {tl : TE} (hl : PE X l tl) : PI X tg l (iRngV tl) := by
  refine ⟨fun pins s σ H R I h => ?_⟩
  refine thn (hl.run pins s σ H _ I h) fun v s1 ⟨x, H1, I1, r1, q1⟩ => ?_
  obtain ⟨a, lo, hi, e, hq, ⟨h1, h2, h3, h4⟩, q⟩ := q1
  subst e
  cases r1
  obtain ⟨t, u, v, ho⟩ := I1.hok a _ hq
  refine wpAny_pyIter_range (show IsRange s1.heap a lo hi 1 t u v from ho) (small_one h1 h2 h3 h4) ?_
  refine ⟨s1.heap.objs.size, [s1.heap.objs.size], _, _, H1, rfl, I1.kept (t' := s1.toks) fun b o e => Heap.get?_push_of_some _ e, turn_range _ lo (hi - lo).toNat, ?_, fun b hb => ?_, q⟩
  · have e1 : lo + ((0 : Nat) : Int) * 1 = lo := by simp
    have e2 : (((hi - lo).toNat : Nat) : Int) - ((0 : Nat) : Int) = Builtin.Range.rangeSize lo hi 1 := by rw [rangeSize_one]; split <;> omega
    show IsRangeIter _ _ (lo + ((0 : Nat) : Int) * 1) ((((hi - lo).toNat : Nat) : Int) - ((0 : Nat) : Int)) 1
    rw [e1, e2]
    exact Heap.get?_push_size _ rfl
  · have e : b = s1.heap.objs.size := by simpa using hb
    subst e
    exact I1.fpOk (Nat.le_refl _) (I1.hok.fresh (Nat.le_refl _))
theorem pt_truK (K : PySem.W.Frag) {a : Expr} {ta : TE} (e : X.K = K) (ha : PE X a ta) (he : ∀ whole, isTrue a X.env whole = (do let v ← whole; standAt a.pos; holding [v] (truthy v)) := by intro _; rfl) : PT X a (tTru K ta) := e ▸ pt_tru ha he
end
def tLstDn (ta : TA) : TE := fun σ H Q => ta σ H fun vs H1 => ∃ i j : Int, vs = [.int i, .int j, .int (-1)] ∧ (-1000000 ≤ i ∧ i ≤ 1000000 ∧ -1000000 ≤ j ∧ j ≤ 1000000) ∧ ∀ q, H1 q = none → Q (.ref q) (upd H1 q (.lst (downV i (i - j).toNat)))
theorem pe_lstDn {X : Cx} {a b c : Expr} {ta : TA} {p pos p2 pos2 : Pos} (hc : X.calm = true) (hg : Gl X "list") (hm : X.mg "list" = none) (hgr : Gl X "range") (hmr : X.mg "range" = none) (ha : PA X [a, b, c] ta)
    (n1 : starEach [a, b, c] X.env = (false, eval a X.env) :: starEach [b, c] X.env := by rfl) (n2 : (backTo pos2 (starEach [b, c] X.env)).any (·.1) = false := by rfl)
    (n3 : starEach [.Call (.Name "range" p2) [a, b, c] [] pos2] X.env = (false, eval (.Call (.Name "range" p2) [a, b, c] [] pos2) X.env) :: starEach [] X.env := by rfl) :
    PE X (.Call (.Name "list" p) [.Call (.Name "range" p2) [a, b, c] [] pos2] [] pos) (tLstDn ta) := by
  constructor
  intro pins s σ H Q I h
  have inner : wpAny (model X.prog X.w) X.A (eval (.Call (.Name "range" p2) [a, b, c] [] pos2) X.env) (fun x s' => ∃ (r : Addr) (i j : Int) (t u v : Tok) (H' : Hp), x = .ref r ∧ IsRange s'.heap r i j (-1) t u v ∧ Inv X pins σ H' s' ∧ (-1000000 ≤ i ∧ i ≤ 1000000 ∧ -1000000 ≤ j ∧ j ≤ 1000000) ∧ ∀ q, H' q = none → Q (.ref q) (upd H' q (.lst (downV i (i - j).toNat)))) X.xe s := by
    refine Call_ (ld_blt I hgr hmr boot_range (PyProof.Rows.callWith_type1 (thn (ha.run pos2 pins s σ H _ I h) fun us s1 ⟨vs, H1, I1, r1, q1⟩ => ?_) n1 n2))
    obtain ⟨i, j, e, bd, q⟩ := q1
    subst e
    cases r1 with
    | cons r rr => cases rr with
      | cons r' rr => cases rr with
        | cons r'' rr =>
          cases rr
          obtain ⟨t, rfl⟩ := r
          obtain ⟨t', rfl⟩ := r'
          obtain ⟨t'', rfl⟩ := r''
          exact call_range_3 (by decide) ⟨_, i, j, t, t', t'', H1, rfl, IsRange.new _ _ _ _ _ _ _, I1.kept (t' := s1.toks) fun _ _ e => Heap.get?_push_of_some _ e, bd, q⟩ (.inl (PyProof.noPylong_small (by decide)))
  refine Call_ (ld_blt I hg hm boot_list (PyProof.Rows.callWith_type1 (args_cons (thn inner fun x s1 ⟨r, i, j, t, u, v, H1, ex, hr, I1, bd, q⟩ => args_nil ?_) n3) n3))
  subst ex
  refine call_list_range (n := (i - j).toNat) (I1.ok.hd hc) hr (PySem.W.small_down (by omega) (by omega) (by omega) (by omega)) (PySem.W.rangeSize_downNat i j) (by omega) fun h' tk acc c' hk e' hi => ?_
  have len : acc.toList.length = (i - j).toNat := by rw [Array.length_toList]; exact hi.1
  have vals : Vals (downV i (i - j).toNat) acc.toList := by
    unfold downV
    rw [← len]
    refine vals_of_get acc.toList _ fun m w hw => ?_
    obtain ⟨t, rfl⟩ := hi.2 m w (by rw [← hw, Array.getElem?_toList])
    exact ⟨t, rfl⟩
  refine ⟨.ref s1.heap.objs.size, upd H1 s1.heap.objs.size (.lst (downV i (i - j).toNat)), I1.laid hk (Nat.le_refl _) (show ObjOk X.prog X.w _ _ _ (.lst (downV i (i - j).toNat)) from ⟨?_, acc.toList, c', vals, ?_⟩), rfl, q _ (I1.hok.fresh (Nat.le_refl _))⟩
  · unfold downV
    rw [List.length_map, List.length_range, sizeLine_eq]
    omega
  · rw [Array.toArray_toList]
    exact e'
section
variable {K : PySem.W.Frag} {S S0 S1 S2 S3 S4 : SS} {ta tb te tc to ti : TE} {t u : TT} {x y z : SD} {d e : PyData} {a b : Bool} {r : R2} {i j l : Int} {k n : Nat} {wi : TI} {g : TG} {tbd ts : TS} {E : DE} {ds : List PyData} {vs : List Nat}
variable {c c' : Addr → Prop} {Hf H : Hp} {σ : L2.St} {fp : List (List Addr)}
theorem rc_rng1 : Rc K rRng1 [.dat (.int j)] S (.rng 0 j) S := fun c Hf H σ fp ok vs r Q q => by
  obtain ⟨v, rfl, rv⟩ := r.one
  cases rv
  refine ⟨j, rfl, fun p hp => ?_⟩
  obtain ⟨ok2, g2⟩ := ok.laid (.rng 0 j) hp
  exact q _ _ _ _ ok2 g2 ⟨p, rfl, upd_same⟩
theorem rc_rng2 : Rc K rRng2 [.dat (.int i), .dat (.int j)] S (.rng i j) S := fun c Hf H σ fp ok vs r Q q => by
  obtain ⟨v, u, rfl, rv, ru⟩ := r.two
  cases rv
  cases ru
  refine ⟨i, j, rfl, fun p hp => ?_⟩
  obtain ⟨ok2, g2⟩ := ok.laid (.rng i j) hp
  exact q _ _ _ _ ok2 g2 ⟨p, rfl, upd_same⟩
theorem ei_rngV {lo hi : Int} (h : Ee K te S (.rng lo hi) S1) (hn : -1000000 ≤ lo ∧ lo ≤ 1000000 ∧ -1000000 ≤ hi ∧ hi ≤ 1000000) : Ei K (iRngV te) S (rngD lo (hi - lo).toNat) S1 := fun c Hf H σ fp ok R q => h c Hf H σ fp ok _ fun v Hf1 H1 fp1 ok1 g1 r1 => by
  obtain ⟨a, rfl, ha⟩ := r1
  exact ⟨a, lo, hi, rfl, ok1.hd.ex _ _ ha, ⟨by omega, by omega, by omega, by omega⟩, q _ Hf1 H1 fp1 ok1 g1 wk_range⟩
/-- xs[i] op= e, whole numbers -/
theorem ts_augSI {f : Int → Int → Int} (hl : Ee K to S (.own k) S) (hi : Ee K ti S (.dat (.int i)) S) (he : Ee K te S (.dat (.int l)) S) (ho : S.ob[k]? = some (.lst ds)) (hx : ixN ds.length i = some n) (hd : ds[n]? = some (.int j))
    (kx : E.nx { S with ob := S.ob.set k (.lst (ds.set n (.int (f j l)))) }) : Ts K (tAugS to ti te (rIxL K) (ipI f) rSetL) S E := fun c Hf H σ fp ok D nn r bk ct =>
  hl c Hf H σ fp ok _ fun o Hf1 H1 fp1 ok1 g1 r1 => hi c Hf1 H1 σ fp1 ok1 _ fun u Hf2 H2 fp2 ok2 g2 r2 => by
    cases r2
    obtain ⟨b, zs, rfl, e0, k1, k2⟩ := ok2.obL ho (r1.mono g2.sm g2.pr)
    obtain ⟨w, w1, w2⟩ := k2.get hd
    cases w2
    refine ⟨b, zs, i, .int j, rfl, rfl, .inl (.inl k1), ?_, ?_⟩
    · show (ixN zs.length i).bind _ = _
      rw [k2.len, hx]
      exact w1
    refine he c Hf2 H2 σ fp2 ok2 _ fun y Hf3 H3 fp3 ok3 g3 r3 => ?_
    cases r3
    refine ⟨j, l, rfl, rfl, ?_⟩
    obtain ⟨b', zs', e, k1', k2', k3⟩ := ok3.setL ho (r1.mono (g2.trans g3).sm (g2.trans g3).pr)
    cases e
    obtain ⟨ok4, g4⟩ := k3 _ _ (k2'.set (Rp.int (f j l)) n)
    exact ⟨b, zs', i, n, rfl, rfl, k1', by rw [k2'.len]; exact hx, nn _ _ _ _ _ ok4 (((g1.trans g2).trans g3).trans g4) kx⟩
theorem el_lstDn {tas : TA} (h : Ed K tas S [.int i, .int j, .int (-1)] S1) (hb : -1000000 ≤ i ∧ i ≤ 1000000 ∧ -1000000 ≤ j ∧ j ≤ 1000000) : El K (tLstDn tas) S (downD i (i - j).toNat) S1 := fun c Hf H σ fp ok Q q =>
  h c Hf H σ fp ok _ fun v Hf1 H1 fp1 ok1 g1 r1 => by
    cases r1 with
    | cons r1 rr => cases rr with
      | cons r2 rr => cases rr with
        | cons r3 rr =>
          cases rr
          cases r1
          cases r2
          cases r3
          refine ⟨i, j, rfl, hb, fun p hp => ?_⟩
          obtain ⟨ok2, g2, al⟩ := ok1.alone hp (rp_down (K := K) (Hf := Hf1) i (i - j).toNat)
          exact q p _ _ _ ok2 (g1.trans g2) (none_back g1.th hp) al
/-! ### lists of own lists -/
theorem ro_ixOwn {ks : List Nat} (e : atI ks i = some k) : Ro K (rIx K) (.lown ks) (.dat (.int i)) S (.own k) S := fun c Hf H σ fp ok v u rv ru Q q => by
  obtain ⟨a, xs, rfl, h1, h2, h3⟩ := rv
  cases ru
  unfold atI at e
  cases hx : ixN ks.length i with
  | none =>
    rw [hx] at e
    cases e
  | some m =>
    rw [hx] at e
    have e' : ks[m]? = some k := e
    have hm : m < xs.length := by
      have := (List.getElem?_eq_some_iff.mp e').1
      omega
    refine .inl ⟨a, xs, i, xs[m], rfl, rfl, .inl (.inl (ok.hd.ex _ _ h1)), ?_, ?_⟩
    · unfold atI
      rw [h2, hx]
      exact List.getElem?_eq_getElem hm
    · obtain ⟨b, r, q1, q2⟩ := h3 m k xs[m] e' (List.getElem?_eq_getElem hm)
      rw [q2]
      exact q _ _ _ _ ok Gr.refl ⟨b, r, q1, rfl⟩
theorem SRA.app {vs us : List V} {ds es : List SD} (h : SRA K Hf fp vs ds) (h2 : SRA K Hf fp us es) : SRA K Hf fp (vs ++ us) (ds ++ es) := by
  induction h with
  | nil => exact h2
  | cons r t ih => exact .cons r ih
theorem ee_lcOwn {out : List Nat} {obo : List OO} (h : Ei K wi S ds S0) (Pv : Nat → List Nat → List OO → Prop) (h0 : Pv 0 [] S0.ob)
    (hs : ∀ i d acc ob, ds[i]? = some d → Pv i acc ob → ∃ Sg b S2, Egc K vs g d { S0 with ob := ob, sl := wipeS S0.sl vs } Sg ∧ Et K t Sg b S2 ∧ (b = false → Pv (i + 1) acc S2.ob) ∧ (b = true → ∃ y S3, Ee K te S2 (.own y) S3 ∧ Pv (i + 1) (acc ++ [y]) S3.ob))
    (hl : ds.length ≤ 1000000) (hd : ∀ acc ob, Pv ds.length acc ob → acc = out ∧ ob = obo) : Ee K (tLc wi g t te vs) S (.lown out) { S0 with ob := obo } := fun c Hf H σ fp ok Q q =>
  h c Hf H σ fp ok _ fun J Hf1 H1 fp1 ok1 g1 w Dl hD => by
    -- the new list at Dl stands apart
    refine ⟨fun i m H' => m = ds.length - i ∧ i ≤ ds.length ∧ ∃ acc ob Hf' fp' xs, Okk K (fun a => c a ∨ a = Dl) Hf' H' σ fp' { S0 with ob := ob } ∧ Gr Hf H fp Hf' H' fp' ∧ Same Hf1 Hf' ∧ H' Dl = some (.lst xs) ∧ SRA K Hf' fp' xs (acc.map SD.own) ∧ Dl ∉ fp'.flatten ∧ acc.length ≤ i ∧ Pv i acc ob, ⟨ds.length, by simp, Nat.zero_le _, [], S0.ob, Hf1, fp1, [], ?_⟩, ?_⟩
    · obtain ⟨ok2, g2, al⟩ := ok1.alone (xs := []) (ds := []) hD .nil
      refine ⟨⟨⟨ok2.hd.ex, ok2.hd.fl, ok2.hd.oo, ok2.hd.nd, ok2.hd.al, ok2.hd.nf, fun a z => ?_, fun k p ds' e1 e2 a ha z => ?_⟩, ok2.ln, ok2.sr⟩, g1.trans g2, Same.refl _, upd_same, .nil, al.nm, Nat.le_refl _, h0⟩
      · rcases z with z | rfl
        · exact ok2.hd.pt a z
        · exact ⟨al.hf, _, upd_same⟩
      · rcases z with z | rfl
        · exact ok2.hd.np k p ds' e1 e2 a ha z
        · exact al.nm (mem_fl e1 ha)
    · rintro i m H' ⟨rfl, hi, acc, ob, Hf', fp', xs, ok', g', s', hx, hr, nm, hacc, p⟩
      by_cases hlt : i < ds.length
      · refine .inr ⟨w.go i Hf' H' s' ok'.hd.ex hlt, fun H2 => i + 1 ≤ ds.length ∧ ∃ acc ob Hf' fp' xs, Okk K (fun a => c a ∨ a = Dl) Hf' H2 σ fp' { S0 with ob := ob } ∧ Gr Hf H fp Hf' H2 fp' ∧ Same Hf1 Hf' ∧ H2 Dl = some (.lst xs) ∧ SRA K Hf' fp' xs (acc.map SD.own) ∧ Dl ∉ fp'.flatten ∧ acc.length ≤ i + 1 ∧ Pv (i + 1) acc ob, fun H2 ⟨a1, a2⟩ => ⟨ds.length - (i + 1), by omega, rfl, a1, a2⟩, fun x H2 y => ?_⟩
        obtain ⟨Sg, b, S2, hg, ht, hf, hy⟩ := hs i ds[i] acc ob (List.getElem?_eq_getElem hlt) p
        have fin : ∀ Hf2, Okk K (fun a => c a ∨ a = Dl) Hf2 H2 σ fp' { S0 with ob := ob } → Gr Hf' H' fp' Hf2 H2 fp' → Rp K Hf2 x ds[i] → g x (wipe σ vs) H2 fun σ2 H2 => wipe σ2 vs = wipe σ vs ∧ t σ2 H2 fun b H3 =>
            if b = true then te σ2 H3 fun y H4 => ∃ acc, H4 Dl = some (.lst acc) ∧ acc.length < sizeLine ∧ (i + 1 ≤ ds.length ∧ ∃ acc' ob Hf' fp' xs, Okk K (fun a => c a ∨ a = Dl) Hf' (upd H4 Dl (.lst (acc ++ [y]))) σ fp' { S0 with ob := ob } ∧ Gr Hf H fp Hf' (upd H4 Dl (.lst (acc ++ [y]))) fp' ∧ Same Hf1 Hf' ∧ (upd H4 Dl (.lst (acc ++ [y]))) Dl = some (.lst xs) ∧ SRA K Hf' fp' xs (acc'.map SD.own) ∧ Dl ∉ fp'.flatten ∧ acc'.length ≤ i + 1 ∧ Pv (i + 1) acc' ob)
            else (i + 1 ≤ ds.length ∧ ∃ acc ob Hf' fp' xs, Okk K (fun a => c a ∨ a = Dl) Hf' H3 σ fp' { S0 with ob := ob } ∧ Gr Hf H fp Hf' H3 fp' ∧ Same Hf1 Hf' ∧ H3 Dl = some (.lst xs) ∧ SRA K Hf' fp' xs (acc.map SD.own) ∧ Dl ∉ fp'.flatten ∧ acc.length ≤ i + 1 ∧ Pv (i + 1) acc ob) := fun Hf2 ok2 g2 rp => by
          refine hg _ Hf2 H2 _ fp' (ok2.wiped vs) x rp _ fun σ3 w3 ok3 => ⟨?_, ?_⟩
          · rw [w3, wipe_wipe σ vs vs fun _ h => h]
          refine ht _ Hf2 H2 σ3 fp' ok3 _ fun Hf4 H4 fp4 ok4 g4 => ?_
          have hx2 : H2 Dl = some (.lst xs) := g2.fr _ _ hx nm
          have hx4 : H4 Dl = some (.lst xs) := g4.fr _ _ hx2 nm
          have nm4 : Dl ∉ fp4.flatten := fun m => (g4.nw Dl m).elim nm fun z => by
            rw [hx2] at z
            cases z
          cases b with
          | false =>
            refine iteF ⟨hlt, acc, S2.ob, Hf4, fp4, xs, ok2.heap ok4 g4, (g'.trans g2).trans g4, (s'.trans g2.sm).trans g4.sm, hx4, SRA.mono hr (g2.sm.trans g4.sm) g4.pr, nm4, by omega, hf rfl⟩
          | true =>
            refine iteT ?_
            obtain ⟨yd, S3, he, p3⟩ := hy rfl
            refine he _ Hf4 H4 σ3 fp4 ok4 _ fun v Hf5 H5 fp5 ok5 g5 r5 => ?_
            have hx5 : H5 Dl = some (.lst xs) := g5.fr _ _ hx4 nm4
            have nm5 : Dl ∉ fp5.flatten := fun m => (g5.nw Dl m).elim nm4 fun z => by
              rw [hx4] at z
              cases z
            have hxl : xs.length = acc.length := by rw [Paired.length hr, List.length_map]
            refine ⟨xs, hx5, Nat.lt_of_le_of_lt (show xs.length ≤ 1000000 by omega) (by decide), hlt, acc ++ [yd], S3.ob, Hf5, fp5, xs ++ [v], ?_, ?_, ((s'.trans g2.sm).trans g4.sm).trans g5.sm, upd_same, by rw [List.map_append]; exact SRA.app (SRA.mono hr ((g2.sm.trans g4.sm).trans g5.sm) (g4.pr.trans g5.pr)) (.cons r5 .nil), nm5, by rw [List.length_append, List.length_singleton]; omega, p3⟩
            · have okA := ok2.heap ok5 (g4.trans g5)
              have hfD : Hf5 Dl = none := (ok5.hd.pt Dl (.inr rfl)).1
              refine ⟨⟨fun b o e => ?_, okA.hd.fl, fun k q o e1 e2 => (okA.hd.oo k q o e1 e2).mono (Same.refl _) fun b hb => upd_ne fun z => nm5 (mem_fl e1 (by rw [← z]; exact hb)), okA.hd.nd, fun a ha => ?_, okA.hd.nf, fun a z => ?_, okA.hd.np⟩, okA.ln, okA.sr⟩
              · rw [upd_ne (ne_of_none e hfD)]
                exact okA.hd.ex b o e
              · obtain ⟨o, e⟩ := okA.hd.al a ha
                exact ⟨o, by rw [upd_ne (show a ≠ Dl from fun z => nm5 (by rw [← z]; exact ha))]; exact e⟩
              · obtain ⟨z1, o, z2⟩ := okA.hd.pt a z
                refine ⟨z1, ?_⟩
                by_cases hb : a = Dl
                · rw [hb]
                  exact ⟨_, upd_same⟩
                · exact ⟨o, by rw [upd_ne hb]; exact z2⟩
            · have G := ((g'.trans g2).trans g4).trans g5
              have hHD : H Dl = none := none_back g1.th hD
              refine ⟨G.sm, G.pr, fun a o e n => ?_, G.nw, fun a o e => ?_⟩
              · rw [upd_ne (ne_of_none e hHD)]
                exact G.fr a o e n
              · rw [upd_ne (ne_of_none e hHD)]
                exact G.th a o e
        rcases w.yl i ds[i] Hf' H' x H2 s' ok'.hd.ex (List.getElem?_eq_getElem hlt) y with ⟨rfl, rp⟩ | ⟨pp, o, hp, rfl, rp⟩
        · exact fin Hf' ok' Gr.refl rp
        · obtain ⟨ok2, g2⟩ := ok'.laid o hp
          exact fin _ ok2 g2 rp
      · have e : i = ds.length := by omega
        subst e
        obtain ⟨rfl, rfl⟩ := hd acc ob p
        refine .inl ⟨w.st Hf' H' s' ok'.hd.ex, ?_⟩
        have hfD := (ok'.hd.pt Dl (.inr rfl)).1
        have nc : ¬ c Dl := fun z => by
          obtain ⟨_, o, z2⟩ := ok.hd.pt Dl z
          rw [none_back g1.th hD] at z2
          cases z2
        have okW := ok'.weak (c' := c) fun a z => .inl z
        obtain ⟨hd2, g2⟩ := okW.hd.stop nm nc hfD hx
        refine q _ _ H' fp' ⟨hd2, okW.ln, fun i d e => ?_⟩ (g'.trans g2) ⟨Dl, xs, rfl, upd_same, by rw [Paired.length hr, List.length_map], fun i k x e1 e2 => ?_⟩
        · obtain ⟨x, q1, q2⟩ := okW.sr i d e
          exact ⟨x, q1, q2.mono g2.sm g2.pr⟩
        · obtain ⟨v, q1, q2⟩ := SRA.get hr (i := i) (d := .own k) (by rw [List.getElem?_map, e1]; rfl)
          rw [e2] at q1
          obtain rfl := Option.some.inj q1
          obtain ⟨a, r, q3, q4⟩ := q2
          exact ⟨a, r, q3, q4⟩

def gones (ob : List OO) (ks : List Nat) : List OO := ks.foldl (fun ob k => ob.set k .gone) ob
theorem gones_get : ∀ {ks : List Nat} {ob : List OO} {k : Nat}, k ∉ ks → (gones ob ks)[k]? = ob[k]?
  | [], _, _, _ => rfl
  | m :: ks, ob, k, h => by
    rw [List.mem_cons, not_or] at h
    show (gones (ob.set m .gone) ks)[k]? = _
    rw [gones_get h.2, List.getElem?_set_ne (Ne.symm h.1)]
theorem gones_len : ∀ (ks : List Nat) (ob : List OO), (gones ob ks).length = ob.length
  | [], _ => rfl
  | m :: ks, ob => by
    show (gones (ob.set m .gone) ks).length = _
    rw [gones_len ks, List.length_set]
/-- own lists are not changed any more -/
theorem frz_all : ∀ {ks : List Nat} {Hf : Hp} {ob : List OO} {sl : List SD}, Okk K c Hf H σ fp ⟨sl, ob⟩ → ks.Nodup → (∀ k ∈ ks, ∃ ds, ob[k]? = some (.lst ds)) →
    ∃ Hf', Okk K c Hf' H σ fp ⟨sl, gones ob ks⟩ ∧ Gr Hf H fp Hf' H fp ∧ ∀ k ∈ ks, ∀ ds, ob[k]? = some (.lst ds) → ∃ a, fp[k]? = some [a] ∧ Rp K Hf' (.ref a) (.list ds)
  | [], Hf, ob, sl, ok, _, _ => ⟨Hf, ok, Gr.refl, fun k h => by cases h⟩
  | m :: ks, Hf, ob, sl, ok, nd, hk => by
    obtain ⟨ds, ho⟩ := hk m List.mem_cons_self
    obtain ⟨hm, nd'⟩ := List.nodup_cons.mp nd
    obtain ⟨a, xs, h1, h2, h3⟩ := ok.hd.oo m _ (.lst ds) (List.getElem?_eq_getElem (by rw [ok.hd.fl]; exact (List.getElem?_eq_some_iff.mp ho).1)) ho
    have h1' : fp[m]? = some [a] := by
      rw [List.getElem?_eq_getElem (by rw [ok.hd.fl]; exact (List.getElem?_eq_some_iff.mp ho).1), h1]
    obtain ⟨hd, g2⟩ := ok.hd.freeze h1' ho h2
    have ok2 : Okk K c (upd Hf a (.lst xs)) H σ fp ⟨sl, ob.set m .gone⟩ := ⟨hd, ok.ln, fun i d e => by
      obtain ⟨x, q1, q2⟩ := ok.sr i d e
      exact ⟨x, q1, q2.mono g2.sm g2.pr⟩⟩
    obtain ⟨Hf', ok3, g3, h4⟩ := frz_all ok2 nd' fun k hk' => by
      obtain ⟨ds', e⟩ := hk k (List.mem_cons_of_mem _ hk')
      exact ⟨ds', by rw [List.getElem?_set_ne (fun z => hm (by rw [z]; exact hk'))]; exact e⟩
    refine ⟨Hf', ok3, g2.trans g3, fun k hk' ds' e => ?_⟩
    by_cases z : k = m
    · subst z
      rw [ho] at e
      cases e
      exact ⟨a, h1', Rp.lst (g3.sm _ _ upd_same) (h3.mono (g2.trans g3).sm)⟩
    · rcases List.mem_cons.mp hk' with q | q
      · exact absurd q z
      · exact h4 k q ds' (by rw [List.getElem?_set_ne (Ne.symm z)]; exact e)
theorem ts_frzL {m : Nat} {ks : List Nat} {dss : List (List PyData)} (hs : S.sl[m]? = some (.lown ks)) (nd : ks.Nodup) (hl : ks.length = dss.length) (ho : ∀ (i k : Nat) (ds : List PyData), ks[i]? = some k → dss[i]? = some ds → S.ob[k]? = some (.lst ds))
    (h : Ts K ts ⟨S.sl.set m (.dat (.list (dss.map .list))), gones S.ob ks⟩ E) : Ts K ts S E := fun c Hf H σ fp ok D n r bk ct => by
  have hk : ∀ k ∈ ks, ∃ ds, S.ob[k]? = some (.lst ds) := fun k hk => by
    obtain ⟨i, hi, e⟩ := List.mem_iff_getElem.mp hk
    exact ⟨dss[i], ho i k _ (by rw [List.getElem?_eq_getElem hi, e]) (List.getElem?_eq_getElem (by omega))⟩
  obtain ⟨Hf', ok2, g, h2⟩ := frz_all (sl := S.sl) (ob := S.ob) ok nd hk
  obtain ⟨y, q1, q2⟩ := ok2.sr m _ hs
  cases y with
  | none => exact q2.elim
  | some v =>
    obtain ⟨a, xs, rfl, e1, e2, e3⟩ := q2
    have rp : Rp K Hf' (.ref a) (.list (dss.map .list)) := by
      refine Rp.lst e1 ?_
      have key : ∀ (us : List V) (es : List (List PyData)), us.length = es.length → (∀ (i : Nat) u ds, us[i]? = some u → es[i]? = some ds → Rp K Hf' u (.list ds)) → RpA K Hf' us (es.map .list) := fun us => by
        induction us with
        | nil =>
          intro es h _
          cases es with
          | nil => exact .nil
          | cons _ _ => cases h
        | cons u us ih =>
          intro es h hh
          cases es with
          | nil => cases h
          | cons e es => exact .cons (hh 0 u e rfl rfl) (ih es (by simpa using h) fun i u ds a b => hh (i + 1) u ds (by simpa using a) (by simpa using b))
      refine key xs dss (e2.trans hl) fun i u ds a1 a2 => ?_
      have hi : i < ks.length := by
        have := (List.getElem?_eq_some_iff.mp a1).1
        omega
      obtain ⟨b, rr, q3, q4⟩ := e3 i ks[i] u (List.getElem?_eq_getElem hi) a1
      have o1 := ho i ks[i] ds (List.getElem?_eq_getElem hi) a2
      obtain ⟨a', q5, q6⟩ := h2 _ (List.getElem_mem hi) ds o1
      rw [q3] at q5
      cases q5
      rw [q4]
      exact q6
    refine h c Hf' H σ fp ⟨ok2.hd, by rw [List.length_set]; exact ok2.ln, fun j d e => ?_⟩ D (fun S' Hf2 H2 σ2 fp2 o g2 => n S' Hf2 H2 σ2 fp2 o (g.trans g2)) (fun x S' v Hf2 H2 σ2 fp2 o g2 => r x S' v Hf2 H2 σ2 fp2 o (g.trans g2)) (fun S' Hf2 H2 σ2 fp2 o g2 => bk S' Hf2 H2 σ2 fp2 o (g.trans g2)) fun S' Hf2 H2 σ2 fp2 o g2 => ct S' Hf2 H2 σ2 fp2 o (g.trans g2)
    by_cases hj : m = j
    · subst hj
      have hlt := (List.getElem?_eq_some_iff.mp hs).1
      rw [show (S.sl.set m (.dat (.list (dss.map .list))))[m]? = some (.dat (.list (dss.map .list))) from List.getElem?_set_self hlt] at e
      obtain rfl := Option.some.inj e
      exact ⟨_, q1, rp⟩
    · rw [show (S.sl.set m (.dat (.list (dss.map .list))))[j]? = S.sl[j]? from List.getElem?_set_ne hj] at e
      exact ok2.sr j d e
/-! ### comprehensions over what is listed otherwise -/
theorem el_lcfA {α : Type} {g : TG} {vs : List Nat} {t : TT} {dA f : α → PyData} {lst : List α} {p : α → Bool} (h : Ei K wi S (lst.map dA) S0) (hl : lst.length ≤ 1000000)
    (hs : ∀ x ∈ lst, ∃ Sg S2, Egc K vs g (dA x) { S0 with sl := wipeS S0.sl vs } Sg ∧ Et K t Sg (p x) S2 ∧ S2.ob = S0.ob ∧ (p x = true → ∃ S3, Ee K te S2 (.dat (f x)) S3 ∧ S3.ob = S0.ob)) : El K (tLc wi g t te vs) S ((lst.filter p).map f) S0 := by
  refine el_lc (obo := S0.ob) h (fun i acc ob => acc = ((lst.take i).filter p).map f ∧ ob = S0.ob) ⟨rfl, rfl⟩ ?_ (by rw [List.length_map]; exact hl) ?_
  · rintro i d acc ob hd ⟨rfl, rfl⟩
    rw [List.getElem?_map] at hd
    cases e : lst[i]? with
    | none =>
      rw [e] at hd
      cases hd
    | some x =>
      rw [e] at hd
      obtain rfl := Option.some.inj hd
      obtain ⟨Sg, S2, a1, a2, a3, a4⟩ := hs x (List.mem_of_getElem? e)
      have et : lst.take (i + 1) = lst.take i ++ [x] := by
        rw [List.take_add_one, e]
        rfl
      refine ⟨Sg, p x, S2, a1, a2, fun hb => ⟨?_, a3⟩, fun hb => ?_⟩
      · rw [et, List.filter_append, List.filter_cons_of_neg (by rw [hb]; exact Bool.false_ne_true)]
        show _ = ((lst.take i).filter p ++ []).map f
        rw [List.append_nil]
      · obtain ⟨S3, a5, a6⟩ := a4 hb
        refine ⟨f x, S3, a5, ?_, a6⟩
        rw [et, List.filter_append, List.filter_cons_of_pos hb, List.map_append]
        rfl
  · rintro acc ob ⟨rfl, rfl⟩
    rw [List.length_map, List.take_length]
    exact ⟨rfl, rfl⟩
theorem el_lcmA {α : Type} {g : TG} {vs : List Nat} {dA f : α → PyData} {lst : List α} (h : Ei K wi S (lst.map dA) S0) (hl : lst.length ≤ 1000000)
    (hs : ∀ x ∈ lst, ∃ Sg, Egc K vs g (dA x) { S0 with sl := wipeS S0.sl vs } Sg ∧ Sg.ob = S0.ob ∧ ∃ S3, Ee K te Sg (.dat (f x)) S3 ∧ S3.ob = S0.ob) : El K (tLc wi g tYes te vs) S (lst.map f) S0 := by
  have := el_lcfA (t := tYes) (p := fun _ => true) h hl fun x hx => by
    obtain ⟨Sg, a1, a2, S3, a3, a4⟩ := hs x hx
    exact ⟨Sg, Sg, a1, et_yes, a2, fun _ => ⟨S3, a3, a4⟩⟩
  rw [List.filter_eq_self.mpr fun _ _ => rfl] at this
  exact this
/-! ### an own list handed in, to be read -/
theorem Okk.toP (ok : Okk K c Hf H σ fp S) (ho : S.ob[k]? = some (.lst ds)) : Okk K c Hf H σ fp { S with ob := S.ob.set k (.lstP ds) } := by
  have hk := (List.getElem?_eq_some_iff.mp ho).1
  refine ⟨⟨ok.hd.ex, by rw [List.length_set]; exact ok.hd.fl, fun j p o h1 h2 => ?_, ok.hd.nd, ok.hd.al, fun j p o h1 h2 hx => ?_, ok.hd.pt, fun j p es h1 h2 => ?_⟩, ok.ln, ok.sr⟩
  · by_cases e : k = j
    · subst e
      rw [List.getElem?_set_self hk] at h2
      obtain rfl := Option.some.inj h2
      obtain ⟨a, xs, q⟩ := ok.hd.oo k p _ h1 ho
      exact ⟨a, xs, q⟩
    · rw [List.getElem?_set_ne e] at h2
      exact ok.hd.oo j p o h1 h2
  · by_cases e : k = j
    · subst e
      exact ok.hd.nf k p _ h1 ho (by intro z; cases z)
    · rw [List.getElem?_set_ne e] at h2
      exact ok.hd.nf j p o h1 h2 hx
  · by_cases e : k = j
    · subst e
      rw [List.getElem?_set_self hk] at h2
      cases h2
    · rw [List.getElem?_set_ne e] at h2
      exact ok.hd.np j p es h1 h2
theorem Okk.ofP (ok : Okk K c Hf H σ fp S) (ho : S.ob[k]? = some (.lstP ds)) (hc : ∀ p, fp[k]? = some p → ∀ a ∈ p, ¬ c a) : Okk K c Hf H σ fp { S with ob := S.ob.set k (.lst ds) } := by
  have hk := (List.getElem?_eq_some_iff.mp ho).1
  refine ⟨⟨ok.hd.ex, by rw [List.length_set]; exact ok.hd.fl, fun j p o h1 h2 => ?_, ok.hd.nd, ok.hd.al, fun j p o h1 h2 hx => ?_, ok.hd.pt, fun j p es h1 h2 => ?_⟩, ok.ln, ok.sr⟩
  · by_cases e : k = j
    · subst e
      rw [List.getElem?_set_self hk] at h2
      obtain rfl := Option.some.inj h2
      obtain ⟨a, xs, q⟩ := ok.hd.oo k p _ h1 ho
      exact ⟨a, xs, q⟩
    · rw [List.getElem?_set_ne e] at h2
      exact ok.hd.oo j p o h1 h2
  · by_cases e : k = j
    · subst e
      exact ok.hd.nf k p _ h1 ho (by intro z; cases z)
    · rw [List.getElem?_set_ne e] at h2
      exact ok.hd.nf j p o h1 h2 hx
  · by_cases e : k = j
    · subst e
      exact hc p h1
    · rw [List.getElem?_set_ne e] at h2
      exact ok.hd.np j p es h1 h2
theorem ee_callR {np : Nat} {E0 : XK} {tas : TA} {R : FR} {as asC : List SD} (ha : Ea K tas S asC S1) (he : asC = as.map (atK k)) (h0 : ∀ a ∈ as, ∀ j, a = .own j → j = 0) (hl : as.length = np) (ho : S1.ob[k]? = some (.lst ds)) (hR : R as [.lstP ds] (.dat d) [.lstP ds]) :
    Ee K (tCall (spD K np R) [] E0 tas) S (.dat d) S1 := fun c Hf H σ fp ok Q q =>
  ha c Hf H σ fp ok _ fun vs Hf1 H1 fp1 ok1 g1 sr => by
    have hk := (List.getElem?_eq_some_iff.mp ho).1
    subst he
    rw [List.append_nil]
    refine sp_call1 (k := k) (o := .lstP ds) (o' := .lstP ds) (ok1.toP ho) sr h0 hl (List.getElem?_set_self hk) (by intro z; cases z) (fun _ z => by cases z) hR fun v Hf' H' fp' ok' g' rv => ?_
    have eo : ((S1.ob.set k (.lstP ds)).set k (.lstP ds)).set k (.lst ds) = S1.ob := by
      rw [List.set_set, List.set_set]
      refine List.ext_getElem? fun i => ?_
      by_cases e : k = i
      · subst e
        rw [List.getElem?_set_self hk, ho]
      · rw [List.getElem?_set_ne e]
    have ok2 := ok'.ofP (k := k) (ds := ds) (by
      show ((S1.ob.set k (.lstP ds)).set k (.lstP ds))[k]? = _
      rw [List.set_set, List.getElem?_set_self hk]) fun p hp a hm => by
        have hkf : k < fp1.length := by rw [ok1.hd.fl]; exact hk
        have h1 : fp1[k]? = some fp1[k] := List.getElem?_eq_getElem hkf
        have h2 := pre_get g'.pr h1
        rw [hp] at h2
        obtain rfl := Option.some.inj h2
        exact ok1.hd.np k _ ds h1 ho a hm
    have ok3 : Okk K c Hf' H' σ fp' S1 := by
      have : ({ S1 with ob := ((S1.ob.set k (.lstP ds)).set k (.lstP ds)).set k (.lst ds) } : SS) = S1 := by rw [eo]
      rw [← this]
      exact ok2
    exact q v Hf' H' fp' ok3 (g1.trans g') rv
theorem rc_maxTu {n : Int} {ns : List Int} : Rc K (rMaxT K) [.dat (.tuple ((n :: ns).map PyData.int))] S (.dat (.int (ns.foldl max n))) S := fun c Hf H σ fp ok vs r Q q => by
  obtain ⟨v, rfl, rv⟩ := r.one
  cases rv with
  | tup h1 h2 =>
    obtain rfl := RpA.ints_inv (ns := n :: ns) h2
    exact ⟨_, n, ns, rfl, .inl (sameT ok.hd.ex h1), q _ _ _ _ ok Gr.refl (Rp.int _)⟩
theorem rc_minL {n : Int} {ns : List Int} (h : AsD S x (.list ((n :: ns).map PyData.int))) : Rc K (rMinT K) [x] S (.dat (.int (ns.foldl min n))) S := fun c Hf H σ fp ok vs r Q q => by
  obtain ⟨v, rfl, rv⟩ := r.one
  obtain ⟨a, xs, rfl, h1, h2⟩ := ok.asL rv h
  obtain rfl := RpA.ints_inv (ns := n :: ns) h2
  exact ⟨_, n, ns, rfl, .inr (.inl (.inl h1)), q _ _ _ _ ok Gr.refl (Rp.int _)⟩
theorem ro_mulS (h1 : 1 ≤ i) (h2 : i ≤ 1000) (hz : ds.length ≤ 1000) : Ro K (rMulS K) (.dat (.tuple ds)) (.dat (.int i)) S (.dat (.tuple (repD i.toNat ds))) S := by
  by_cases hs : ds = [] ∨ i = 1
  · intro c Hf H σ fp ok v u rv ru Q q
    cases ru
    cases rv with
    | @tup a xs _ e1 e2 =>
      have er : repD i.toNat ds = ds := by
        rcases hs with hs | hs
        · subst hs
          have : ∀ k, repD k [] = [] := fun k => by
            induction k with
            | zero => rfl
            | succ k ih => rw [repD_succ, ih]; rfl
          exact this _
        · subst hs
          exact List.append_nil _
      rw [er] at q
      refine .inr ⟨a, i, xs, rfl, rfl, sameT ok.hd.ex e1, ?_, by omega, by omega, q _ _ _ _ ok Gr.refl (Rp.tup e1 e2)⟩
      rcases hs with hs | hs
      · subst hs
        cases e2
        exact .inl rfl
      · exact .inr hs
  · rw [not_or] at hs
    have hz2 : ds.length * i.toNat ≤ 1000000 := by
      have := Nat.mul_le_mul hz (show i.toNat ≤ 1000 by omega)
      omega
    exact fun c Hf H σ fp ok v u rv ru Q q => .inl (ro_repT (K := K) (S := S) hs.1 (by omega) hz2 c Hf H σ fp ok v u rv ru Q q)
end
section
variable {X : Cx}
/-- a op b op2 c op3 d, asked -/
theorem pt_chain3 {op op2 op3 : CmpOp} {r r2 r3 : R2} {ta tb tc td : TE} {a b c d : Expr} {pos : Pos} (ho : OpR X (compareOp op) r) (ho2 : OpR X (compareOp op2) r2) (ho3 : OpR X (compareOp op3) r3) (ha : PE X a ta) (hb : PE X b tb) (hc : PE X c tc) (hd : PE X d td)
    (hm : lastMarks [op, op2, op3] [b, c, d] = false := by with_unfolding_all rfl) : PT X (.Compare a [op, op2, op3] [b, c, d] pos) (tTest (tChain3 r r2 r3 ta tb tc td)) := by
  constructor
  intro pins s σ H Q I h
  refine isTrue_chain (thn (ha.run pins s σ H _ I h) fun v s1 ⟨x, H1, I1, r1, q1⟩ => test_link (thn (hb.run pins s1 σ H1 _ I1 q1) fun u s2 ⟨y, H2, I2, k2, q2⟩ => thn (ho pins s2 σ H2 x y v u _ I2 r1 k2 q2) fun e s3 ⟨z, H3, I3, k3, k, ez, q3⟩ => ?_)) hm
  subst ez
  cases k3
  refine wpAny_truthy_bool ?_
  cases k with
  | false =>
    obtain ⟨kk, e, q⟩ := q3
    cases e
    exact ite_ff ⟨H3, I3, q⟩
  | true =>
    refine ite_tt (test_link (thn (hc.run pins s3 σ H3 _ I3 q3) fun u' s4 ⟨w, H4, I4, k4, q4⟩ => thn (ho2 pins s4 σ H4 y w u u' _ I4 k2 k4 q4) fun e' s5 ⟨z', H5, I5, k5, k', ez', q5⟩ => ?_))
    subst ez'
    cases k5
    refine wpAny_truthy_bool ?_
    cases k' with
    | false =>
      obtain ⟨kk, e, q⟩ := q5
      cases e
      exact ite_ff ⟨H5, I5, q⟩
    | true =>
      refine ite_tt (test_last (thn (hd.run pins s5 σ H5 _ I5 q5) fun v' s6 ⟨w', H6, I6, k6, q6⟩ => thn (ho3 pins s6 σ H6 w w' u' v' _ I6 k4 k6 q6) fun e3 s7 ⟨z7, H7, I7, k7, kk, ez7, q7⟩ => ?_))
      subst ez7
      cases k7
      exact wpAny_truthy_bool ⟨H7, I7, q7⟩
end
section
variable {K : PySem.W.Frag} {S : SS}
theorem rcl_listScr {ns : List Int} : RcL K (rListOf K) [.scr ns] S (ns.map PyData.int) S := fun c Hf H σ fp ok vs r Q q => by
  obtain ⟨v, rfl, rv⟩ := r.one
  obtain ⟨a, rfl, h⟩ := rv
  refine ⟨a, _, rfl, .inl (ok.hd.ex.seq h), fun p hp => ?_⟩
  obtain ⟨ok2, g2, al⟩ := ok.alone hp (RpA.ints ns)
  exact q p _ _ _ ok2 g2 hp al
end
end DL

set_option maxRecDepth 100000
set_option maxHeartbeats 1000000
/-! DLm: max with a default, the index of a number in a tuple and in a list, any -/
namespace DL
open PySem PySem.Spec PyProof.Rows L2
theorem maxD_ints : ∀ (ys : List Int) (x : Int), PySem.W.maxD (.int x) (ys.map PyData.int) = .int (ys.foldl max x)
  | [], x => rfl
  | y :: ys, x => by
    have ih := maxD_ints ys (max x y)
    show List.foldl _ (if PySem.W.dataLt (.int x) (.int y) = true then PyData.int y else PyData.int x) (ys.map PyData.int) = PyData.int (ys.foldl max (max x y))
    rw [← ih, PySem.W.dataLt_int]
    show List.foldl _ _ _ = List.foldl _ (PyData.int (max x y)) _
    congr 1
    by_cases h : x < y
    · rw [if_pos (decide_eq_true h), show max x y = y by omega]
    · rw [if_neg (by rw [decide_eq_false h]; exact Bool.false_ne_true), show max x y = x by omega]
def rMaxD (K : PySem.W.Frag) (vs zs : List V) (H : Hp) (Q : VK) : Prop := ∃ (a : Addr) (ns : List Int) (d : Int), vs = [V.ref a] ∧ zs = [V.int d] ∧ SqL K H a (ns.map V.int) ∧ Q (.int (ns.foldl max (match ns with | [] => d | n :: _ => n))) H
theorem call_maxD {X : Cx} (hc : X.calm = true) (hu : X.A.units + 100 < cLine) : CallRK X (.builtin "max") ["default"] (rMaxD X.K) := fun pins s σ H xs zs us ws Q I hv hz ⟨a, ns, d, e1, e2, hs, q⟩ => by
  subst e1
  subst e2
  obtain rfl := hv.ref1
  obtain ⟨its, r, pl, sz⟩ := I.list hs
  cases hz with
  | cons hd ht =>
    obtain ⟨t, rfl⟩ := hd
    cases ht
    have ia := Vals.ints r
    refine PySem.W.max_list_default (xs := ns.map PyData.int) (as := []) (I.ok.hd hc) pl.isList (reads_ints ia) ?_ ?_ (fun e h' tk k => ?_) fun y ys i v h' tk bs e _ rd k => ?_
    · refine ⟨fun x hx y hy => ?_, fun x hx => ?_⟩
      · obtain ⟨p, _, rfl⟩ := List.mem_map.mp hx
        obtain ⟨q, _, rfl⟩ := List.mem_map.mp hy
        rfl
      · obtain ⟨p, _, rfl⟩ := List.mem_map.mp hx
        intro z
        cases z
    · rw [depth_ints]
      omega
    · have : ns = [] := List.map_eq_nil_iff.mp e
      subst this
      exact ⟨.int d, H, I.kept k, ⟨t, rfl⟩, q⟩
    · obtain ⟨n, ms, rfl⟩ : ∃ n ms, ns = n :: ms := by
        cases ns with
        | nil => cases e
        | cons n ms => exact ⟨n, ms, rfl⟩
      cases e
      rw [maxD_ints] at rd
      cases rd
      refine ⟨.int (ms.foldl max n), H, I.kept k, ⟨_, rfl⟩, ?_⟩
      have : List.foldl max n (n :: ms) = List.foldl max n ms := by
        rw [List.foldl_cons, show max n n = n by omega]
      rw [← this]
      exact q
def rIndexTI (K : PySem.W.Frag) : V → List V → Hp → VK → Prop := fun x xs H Q => ∃ (p : Addr) (ns : List Int) (z : Int) (j : Nat), x = .ref p ∧ xs = [.int z] ∧ SqT K H p (ns.map V.int) ∧ ns[j]? = some z ∧ (∀ m, m < j → ns[m]? ≠ some z) ∧ Q (.int (j : Nat)) H
theorem mt_tup_indexI {X : Cx} : MtR X "tuple.index" (rIndexTI X.K) := fun pins s σ H x xs v us Q I hx hxs ⟨p, ns, z, j, e1, e2, hs, hj, hm, q⟩ => by
  subst e1
  subst e2
  obtain rfl : v = .ref p := hx
  obtain ⟨u, rfl, hu⟩ := vals1 hxs
  obtain ⟨its, r, ⟨o, h1, h2, n, h3⟩, sz⟩ := I.tuple hs
  have hl : its.length = ns.length := by
    have := r.length
    rw [List.length_map] at this
    exact this.symm
  have geti : ∀ (i : Nat) (w : Int), ns[i]? = some w → ∃ t, its[i]? = some (Value.int w t) := fun i w e => by
    obtain ⟨u', h1, h2⟩ := r.get (i := i) (x := V.int w) (by rw [List.getElem?_map, e]; rfl)
    obtain ⟨t, rfl⟩ := h2
    exact ⟨t, h1⟩
  have hjl : j < its.toArray.size := by
    have := (List.getElem?_eq_some_iff.mp hj).1
    rw [List.size_toArray]
    omega
  have at' : ∀ (i : Nat) (hi : i < its.toArray.size) (w : Int), ns[i]? = some w → eqU (V.int z) its.toArray[i] = (w == z) := fun i hi w e => by
    obtain ⟨t, ht⟩ := geti i w e
    have : its.toArray[i] = Value.int w t := by
      rw [List.size_toArray] at hi
      rw [List.getElem?_eq_getElem hi] at ht
      rw [List.getElem_toArray]
      exact Option.some.inj ht
    rw [this]
    rfl
  obtain ⟨cls, dict, data, slots⟩ := o
  cases h2
  cases h3
  refine call_meets PySem.F.slot_tuple_index ⟨_, h1, rfl⟩ PySem.F.entry_tuple_index (PySem.F.args_tuple_index_2 _ _) (TI.tuple_indexAt p its.toArray n dict slots u (eqU (V.int z)) j hjl ?_ ?_) ⟨h1, fun y hy => mem_eqAt hu rfl r (flat_ints ns) y (by simpa using hy), ?_⟩
  · rw [at' j hjl z hj]
    exact beq_self_eq_true z
  · intro m hm1 hm2
    have hml : m < ns.length := by
      rw [List.size_toArray] at hm1
      omega
    rw [at' m hm1 _ (List.getElem?_eq_getElem hml)]
    have := hm m hm2
    rw [List.getElem?_eq_getElem hml] at this
    exact beq_eq_false_iff_ne.mpr fun z => this (by rw [z])
  · exact ⟨.int (j : Nat), H, I.tok _, ⟨_, rfl⟩, q⟩

def rTupX (K : PySem.W.Frag) : List V → Hp → VK → Prop := fun xs H Q => ∃ p ys, xs = [V.ref p] ∧ SqL K H p ys ∧ ∀ (l : Addr) (o : Obj), H l = none → o.cls = .type "tuple" → o.dict = none → Q (.ref l) (upd H l (.frz o (.tup ys)))
theorem cb_tupleX {X : Cx} : CallR X (.type "tuple") (rTupX X.K) := fun pins s σ H xs us Q I hxs ⟨p, ys, e, hs, q⟩ => by
  subst e
  obtain rfl := hxs.ref1
  obtain ⟨its, r, pl, sz⟩ := I.list hs
  have sz2 : its.length ≤ sizeLine := by rw [← r.length]; exact sz
  refine call_tuple_list pl.isList (fun h' k => ?_) (by rw [List.size_toArray]; exact sz2)
  have I2 := I.kept (t' := s.toks) k
  have hn := HOk.fresh I2.hok (Nat.le_refl _)
  refine ⟨.ref h'.objs.size, _, I2.laid (a := h'.objs.size) (o := .frz { cls := .type "tuple", data := .seq its.toArray } (.tup ys)) (t' := s.toks) (fun b u e => Heap.get?_push_of_some _ e) (Nat.le_refl _) ?_, rfl, q _ _ hn rfl rfl⟩
  simp only [L2.ObjOk]
  exact ⟨Heap.get?_push_size _ rfl, sz, its, r, IsTup.new h' its.toArray⟩
theorem tyOk_tx0 {X : Cx} : TyOk X "tuple" (fun x H => ∃ (a : Addr) (o : Obj) (xs : List V), x = .ref a ∧ H a = some (.frz o (.tup xs)) ∧ o.cls = .type "tuple" ∧ o.dict = none) := fun pins σ H s x v I hx ⟨a, o, xs, e, h1, h2, h3⟩ => by
  subst e
  obtain rfl : v = .ref a := hx
  have q := I.hok a _ h1
  simp only [L2.ObjOk] at q
  refine ⟨⟨o, q.1, h2⟩, fun b e => ?_⟩
  cases e
  exact ⟨o, q.1, h3⟩
theorem mtK {X : Cx} (K : PySem.W.Frag) {id : String} {R : PySem.W.Frag → V → List V → Hp → VK → Prop} (h : MtR X id (R X.K)) (e : X.K = K) : MtR X id (R K) := e ▸ h
section
variable {K : PySem.W.Frag} {S S1 S2 : SS} {te td to_ : TE} {ns : List Int} {z : Int} {j : Nat}
theorem rp_boolsM {Hf : Hp} : ∀ {bs : List Bool} {xs : List V}, RpA K Hf xs (bs.map PyData.bool) → xs = bs.map V.bl
  | [], _, .nil => rfl
  | b :: bs, _, .cons h t => by
    cases h
    rw [rp_boolsM t]
    rfl
theorem rc_any {bs : List Bool} : Rc K (rAny K) [.dat (.list (bs.map PyData.bool))] S (.dat (.bool (bs.any id))) S := fun c Hf H σ fp ok vs r Q q => by
  obtain ⟨v, rfl, rv⟩ := r.one
  cases rv with
  | lst h1 h2 => exact ⟨_, bs, rfl, .inl (.inl (by rw [← rp_boolsM h2]; exact ok.hd.ex _ _ h1)), q _ _ _ _ ok Gr.refl (Rp.bl _)⟩
def maxDN (d : Int) (ns : List Int) : Int := ns.foldl max (match ns with | [] => d | n :: _ => n)
theorem ee_maxD {d : Int} (h : Ee K te S (.dat (.list (ns.map PyData.int))) S1) (hd : Ee K td S1 (.dat (.int d)) S2) : Ee K (tCKw (rMaxD K) (tCons te tNil) (tCons td tNil)) S (.dat (.int (maxDN d ns))) S2 := fun c Hf H σ fp ok Q q =>
  h c Hf H σ fp ok _ fun v Hf1 H1 fp1 ok1 g1 r1 => hd c Hf1 H1 σ fp1 ok1 _ fun u Hf2 H2 fp2 ok2 g2 r2 => by
    have r3 := r1.mono g2.sm g2.pr
    cases r2
    cases r3 with
    | lst h1 h2 => exact ⟨_, ns, d, rfl, rfl, .inl (.inl (by rw [← RpA.ints_inv h2]; exact ok2.hd.ex _ _ h1)), q _ _ _ _ ok2 (g1.trans g2) (Rp.int _)⟩
theorem rc_tupX {x : SD} (h : AsD S x (.list (ns.map PyData.int))) : Rc K (rTupX K) [x] S (.tx ns) S := fun c Hf H σ fp ok vs r Q q => by
  obtain ⟨v, rfl, rv⟩ := r.one
  obtain ⟨a, xs, rfl, h1, h2⟩ := ok.asL rv h
  have e := RpA.ints_inv h2
  subst e
  refine ⟨a, _, rfl, .inl (.inl h1), fun p o hp ho hd => ?_⟩
  obtain ⟨ok2, g2⟩ := ok.laid (.frz o (.tup (ns.map V.int))) hp
  exact q _ _ _ _ ok2 g2 ⟨p, o, rfl, upd_same, ho, hd⟩
/-- such a tuple is data -/
theorem ee_txD (h : Ee K te S (.tx ns) S1) : Ee K te S (.dat (.tuple (ns.map PyData.int))) S1 := fun c Hf H σ fp ok Q q =>
  h c Hf H σ fp ok _ fun v Hf1 H1 fp1 ok1 g1 r1 => by
    obtain ⟨a, o, rfl, h1, _⟩ := r1
    exact q _ _ _ _ ok1 g1 (Rp.tup (.inl (.inr ⟨o, h1⟩)) (RpA.ints ns))
def tyTX : V → Hp → Prop := fun x H => ∃ (a : Addr) (o : Obj) (xs : List V), x = .ref a ∧ H a = some (.frz o (.tup xs)) ∧ o.cls = .type "tuple" ∧ o.dict = none
theorem tyOk_tx {X : Cx} : TyOk X "tuple" tyTX := tyOk_tx0
theorem ee_indexT (h : Ee K to_ S (.tx ns) S1) (he : Ee K te S1 (.dat (.int z)) S2) (hj : ns[j]? = some z) (hm : ∀ m, m < j → ns[m]? ≠ some z) : Ee K (tMG tyTX (rIndexTI K) to_ (tCons te tNil)) S (.dat (.int (j : Int))) S2 := fun c Hf H σ fp ok Q q =>
  h c Hf H σ fp ok _ fun v Hf1 H1 fp1 ok1 g1 r1 => by
    obtain ⟨a, o, rfl, h1, h2, h3⟩ := r1
    refine ⟨⟨a, o, _, rfl, ok1.hd.ex _ _ h1, h2, h3⟩, he c Hf1 H1 σ fp1 ok1 _ fun u Hf2 H2 fp2 ok2 g2 r2 => ?_⟩
    cases r2
    exact ⟨_, ns, z, j, rfl, rfl, .inl (.inr ⟨o, ok2.hd.ex _ _ (g2.sm _ _ h1)⟩), hj, hm, q _ _ _ _ ok2 (g1.trans g2) (Rp.int _)⟩
theorem ee_indexL (h : Ee K to_ S (.dat (.list (ns.map PyData.int))) S1) (he : Ee K te S1 (.dat (.int z)) S2) (hj : ns[j]? = some z) (hm : ∀ m, m < j → ns[m]? ≠ some z) : Ee K (tBM K "list" (rIndex K) to_ (tCons te tNil)) S (.dat (.int (j : Int))) S2 := fun c Hf H σ fp ok Q q =>
  h c Hf H σ fp ok _ fun v Hf1 H1 fp1 ok1 g1 r1 => by
    cases r1 with
    | lst h1 h2 =>
      have e := RpA.ints_inv h2
      subst e
      refine ⟨.inl ⟨rfl, _, .inl (.inl (ok1.hd.ex _ _ h1))⟩, he c Hf1 H1 σ fp1 ok1 _ fun u Hf2 H2 fp2 ok2 g2 r2 => ?_⟩
      cases r2
      refine ⟨_, ns.map V.int, .int z, j, .int z, rfl, rfl, .inl (.inl (ok2.hd.ex _ _ (g2.sm _ _ h1))), rfl, flat_ints ns, by rw [List.getElem?_map, hj]; rfl, beq_self_eq_true z, fun m z' hm1 hz' => ?_, q _ _ _ _ ok2 (g1.trans g2) (Rp.int _)⟩
      rw [List.getElem?_map] at hz'
      cases e : ns[m]? with
      | none =>
        rw [e] at hz'
        cases hz'
      | some w =>
        rw [e] at hz'
        obtain rfl := Option.some.inj hz'
        exact beq_eq_false_iff_ne.mpr fun y => hm m hm1 (by rw [e, y])
end
/-- a tuple written out, kept as it is -/
def tTupX (t : TA) : TE := fun σ H Q => t σ H fun xs H1 => xs.length ≤ sizeLine ∧ ∀ (p : Addr) (o : Obj), H1 p = none → o.cls = .type "tuple" → o.dict = none → Q (.ref p) (upd H1 p (.frz o (.tup xs)))
theorem pe_tupX {X : Cx} {es : List Expr} {t : TA} {pos : Pos} {x1 : Nat} (h : PA X es t) : PE X (.Tuple es x1 pos) (tTupX t) := ⟨fun pins s σ H Q I hq => wpAny_Tuple_spliced (thn (h.run pos pins s σ H _ I hq) fun us s1 ⟨xs, H1, I1, r, sz, q⟩ => by
  refine ⟨by rw [← r.length]; exact sz, .ref s1.heap.objs.size, _, I1.laid (a := s1.heap.objs.size) (o := .frz { cls := .type "tuple", data := .seq us.toArray } (.tup xs)) (t' := s1.toks) (fun b u e => Heap.get?_push_of_some _ e) (Nat.le_refl _) ?_, rfl, q _ _ (HOk.fresh I1.hok (Nat.le_refl _)) rfl rfl⟩
  simp only [L2.ObjOk]
  exact ⟨Heap.get?_push_size _ rfl, sz, us, r, IsTup.new s1.heap us.toArray⟩)⟩
section
variable {K : PySem.W.Frag} {S S1 : SS} {ta : TA} {ns : List Int}
theorem ee_tupX (h : Ed K ta S (ns.map PyData.int) S1) (hz : ns.length ≤ 1000000 := by first | decide | (simp; done)) : Ee K (tTupX ta) S (.tx ns) S1 := fun c Hf H σ fp ok Q q =>
  h c Hf H σ fp ok _ fun vs Hf1 H1 fp1 ok1 g1 r1 => by
    have r2 := SRA.rp r1
    have e := RpA.ints_inv r2
    subst e
    refine ⟨by rw [List.length_map]; exact Nat.le_trans hz (by decide), fun p o hp ho hd => ?_⟩
    obtain ⟨ok2, g2⟩ := ok1.laid (.frz o (.tup (ns.map V.int))) hp
    exact q _ _ _ _ ok2 (g1.trans g2) ⟨p, o, rfl, upd_same, ho, hd⟩
/-- a call of data alone, that gives such a tuple -/
theorem ee_callT {S : SS} {R : FR} {np : Nat} {E : XK} {ds : List PyData} (ha : Ed K ta S ds S1) (hl : ds.length = np) (hR : R (ds.map SD.dat) [] (.tx ns) []) : Ee K (tCall (spD K np R) [] E ta) S (.tx ns) S1 := by
  have h := ee_call0 (np := np) (E := E) (R := R) (r := .tx ns) (ob' := []) ha (fun a h => by
    obtain ⟨x, _, rfl⟩ := List.mem_map.mp h
    trivial) (by rw [List.length_map]; exact hl) hR
  rw [List.append_nil] at h
  exact h
/-- a tuple of three, the one in the middle such a tuple -/
theorem ee_tupQ {d1 d3 : PyData} (ha : Ea K ta S [.dat d1, .tx ns, .dat d3] S1) : Ee K (tTup ta) S (.tq d1 ns d3) S1 := fun c Hf H σ fp ok Q q =>
  ha c Hf H σ fp ok _ fun vs Hf1 H1 fp1 ok1 g1 r1 => by
    cases r1 with
    | @cons v1 _ _ _ q1 r1 => cases r1 with
      | @cons v2 _ _ _ q2 r1 => cases r1 with
        | @cons v3 _ _ _ q3 r1 =>
          cases r1
          obtain ⟨b, o, rfl, h2, h3, h4⟩ := q2
          refine ⟨by show 3 ≤ sizeLine; rw [sizeLine_eq]; omega, fun p hp => ?_⟩
          obtain ⟨ok2, g2⟩ := ok1.laid (.tup [v1, .ref b, v3]) hp
          exact q _ _ _ _ ok2 (g1.trans g2) ⟨p, v1, b, o, v3, rfl, upd_same, Rp.mono g2.sm q1, g2.sm _ _ h2, h3, h4, Rp.mono g2.sm q3⟩
theorem ro_ixQ {d1 d3 : PyData} : Ro K (rIx K) (.tq d1 ns d3) (.dat (.int 1)) S (.tx ns) S := fun c Hf H σ fp ok v u rv ru Q q => by
  obtain ⟨a, v1, b, o, v3, rfl, h1, h2, h3, h4, h5, h6⟩ := rv
  cases ru
  exact .inr (.inl ⟨_, _, 1, .ref b, rfl, rfl, sameT ok.hd.ex (.inl (.inl h1)), rfl, q _ _ _ _ ok Gr.refl ⟨b, o, rfl, h3, h4, h5⟩⟩)
theorem ee_tqD {te : TE} {d1 d3 : PyData} (h : Ee K te S (.tq d1 ns d3) S1) : Ee K te S (.dat (.tuple [d1, .tuple (ns.map PyData.int), d3])) S1 := fun c Hf H σ fp ok Q q =>
  h c Hf H σ fp ok _ fun v Hf1 H1 fp1 ok1 g1 r1 => by
    obtain ⟨a, v1, b, o, v3, rfl, h1, h2, h3, h4, h5, h6⟩ := r1
    exact q _ _ _ _ ok1 g1 (Rp.tup (.inl (.inl h1)) (.cons h2 (.cons (Rp.tup (.inl (.inr ⟨o, h3⟩)) (RpA.ints ns)) (.cons h6 .nil))))
theorem ee_callQ {S : SS} {R : FR} {np : Nat} {E : XK} {ds : List PyData} {d1 d3 : PyData} (ha : Ed K ta S ds S1) (hl : ds.length = np) (hR : R (ds.map SD.dat) [] (.tq d1 ns d3) []) : Ee K (tCall (spD K np R) [] E ta) S (.tq d1 ns d3) S1 := by
  have h := ee_call0 (np := np) (E := E) (R := R) (r := .tq d1 ns d3) (ob' := []) ha (fun a h => by
    obtain ⟨x, _, rfl⟩ := List.mem_map.mp h
    trivial) (by rw [List.length_map]; exact hl) hR
  rw [List.append_nil] at h
  exact h
end
theorem et_truL {K : PySem.W.Frag} {S S1 : SS} {te : TE} {ds : List PyData} (h : Ee K te S (.dat (.list ds)) S1) : Et K (tTru K te) S (!ds.isEmpty) S1 := fun c Hf H σ fp ok Q q => h c Hf H σ fp ok _ fun v Hf1 H1 fp1 ok1 g1 r1 => by
  cases r1 with
  | @lst a xs _ h1 h2 =>
    refine ⟨_, .inl ⟨xs, .inl (.inl (ok1.hd.ex _ _ h1)), ?_⟩, q _ _ _ ok1 g1⟩
    cases h2 <;> rfl
/-- data in a list of data -/
theorem ro_inD {K : PySem.W.Frag} {S : SS} {x y : SD} {d : PyData} {ds : List PyData} (hx : AsD S x d) (hy : AsD S y (.list ds)) (h1 : SeqAt.shaped d = true) (h2 : SeqAt.shaped (.list ds) = true) : Ro K (rInD K) x y S (.dat (.bool (ds.any fun z => PyData.eqv z d))) S := fun c Hf H σ fp ok v u rv ru Q q =>
  ⟨d, ds, ok.asDp rv hx (shaped_noDict h1), ok.asDp ru hy (shaped_noDict h2), h1, h2, q _ _ _ _ ok Gr.refl (Rp.bl _)⟩
theorem rc_allM {K : PySem.W.Frag} {S : SS} {bs : List Bool} : Rc K (rAll K) [.dat (.list (bs.map PyData.bool))] S (.dat (.bool (bs.all id))) S := fun c Hf H σ fp ok vs r Q q => by
  obtain ⟨v, rfl, rv⟩ := r.one
  cases rv with
  | lst h1 h2 => exact ⟨_, bs, rfl, .inl (.inl (by rw [← rp_boolsM h2]; exact ok.hd.ex _ _ h1)), q _ _ _ _ ok Gr.refl (Rp.bl _)⟩
/-- three names at once -/
theorem ts_par3 {K : PySem.W.Frag} {S S1 : SS} {x y z : SD} {i j l : Nat} {tas : TA} {E : DE} (h : Ea K tas S [x, y, z] S1) (k : E.nx { S1 with sl := ((S1.sl.set i x).set j y).set l z }) : Ts K (tPar3 i j l tas) S E := fun c Hf H σ fp ok D n r bk ct =>
  h c Hf H σ fp ok _ fun vs Hf1 H1 fp1 ok1 g1 r1 => by
    cases r1 with
    | cons r1 rr => cases rr with
      | cons r2 rr => cases rr with
        | cons r3 rr => cases rr with
          | nil => exact ⟨_, _, _, rfl, n _ Hf1 H1 _ fp1 (((ok1.put r1).put r2).put r3) g1 k⟩
/-- two ways that come to one place -/
theorem ts_join {K : PySem.W.Frag} {S : SS} {E : DE} {tu tw : TS} (Pv : SS → Prop) (h : Ts K tu S { E with nx := Pv }) (k : ∀ S', Pv S' → Ts K tw S' E) : Ts K (tSeq tu tw) S E :=
  ts_seq (ts_mono h (fun S hS => k S hS) (fun _ _ z => z) (fun _ z => z) fun _ z => z)
/-- a comprehension of two clauses over lists that are told by their sources -/
theorem outL_map {α β : Type} {dA : α → PyData} {uA : PyData → α} {dB : β → PyData} {uB : PyData → β} (ha : ∀ a, uA (dA a) = a) (hb : ∀ b, uB (dB b) = b) (es : α → List β) (p : α → β → Bool) (f : α → β → PyData) (lst : List α) :
    outL (fun d => (es (uA d)).map dB) (fun d e => p (uA d) (uB e)) (fun d e => f (uA d) (uB e)) (lst.map dA) = lst.flatMap fun a => ((es a).filter (p a)).map (f a) := by
  unfold outL
  rw [List.flatMap_map]
  congr 1
  funext a
  show (((es (uA (dA a))).map dB).filter fun e => p (uA (dA a)) (uB e)).map (fun e => f (uA (dA a)) (uB e)) = _
  rw [ha, List.filter_map, List.map_map]
  have e1 : ((fun e => p a (uB e)) ∘ dB) = p a := by
    funext b
    show p a (uB (dB b)) = _
    rw [hb]
  have e2 : ((fun e => f a (uB e)) ∘ dB) = f a := by
    funext b
    show f a (uB (dB b)) = _
    rw [hb]
  rw [e1, e2]
theorem el_lc2A {K : PySem.W.Frag} {S : SS} {α β : Type} {wi wi1 : TI} {g g1 : TG} {t1 : TT} {te : TE} {vs vs1 : List Nat} {S0 : SS} {dA : α → PyData} (uA : PyData → α) {dB : β → PyData} (uB : PyData → β) {lst : List α} (es : α → List β) (p : α → β → Bool) (f : α → β → PyData)
    (ha : ∀ a, uA (dA a) = a) (hb : ∀ b, uB (dB b) = b) (h : Ei K wi S (lst.map dA) S0) (hl : (lst.flatMap fun a => ((es a).filter (p a)).map (f a)).length ≤ 1000000)
    (hs : ∀ a ∈ lst, ∃ Sg, Egc K vs g (dA a) { S0 with sl := wipeS S0.sl vs } Sg ∧ Sg.ob = S0.ob ∧ Ei K wi1 Sg ((es a).map dB) Sg ∧
      ∀ b ∈ es a, ∃ Sh S2, Egc K vs1 g1 (dB b) { Sg with sl := wipeS Sg.sl vs1 } Sh ∧ Et K t1 Sh (p a b) S2 ∧ S2.ob = S0.ob ∧ (p a b = true → ∃ S3, Ee K te S2 (.dat (f a b)) S3 ∧ S3.ob = S0.ob)) :
    El K (tLc2 wi g tYes wi1 g1 t1 te vs vs1) S (lst.flatMap fun a => ((es a).filter (p a)).map (f a)) S0 := by
  rw [← outL_map ha hb es p f lst] at hl ⊢
  refine el_lc2 _ _ _ h hl fun i d hd => ?_
  rw [List.getElem?_map] at hd
  obtain ⟨a, ea, rfl⟩ := Option.map_eq_some_iff.mp hd
  obtain ⟨Sg, h1, h2, h3, h4⟩ := hs a (List.mem_of_getElem? ea)
  refine ⟨Sg, h1, h2, by show Ei K wi1 Sg ((es (uA (dA a))).map dB) Sg; rw [ha]; exact h3, fun j e he => ?_⟩
  rw [ha] at he
  rw [List.getElem?_map] at he
  obtain ⟨b, eb, rfl⟩ := Option.map_eq_some_iff.mp he
  obtain ⟨Sh, S2, k1, k2, k3, k4⟩ := h4 b (List.mem_of_getElem? eb)
  refine ⟨Sh, S2, k1, by rw [ha, hb]; exact k2, k3, fun z => ?_⟩
  rw [ha, hb] at z ⊢
  exact k4 z
/-! ### own dicts as sets of numbers -/
def setKV (ks : List Int) : List (Key × V) := ks.map fun z => (Sum.inl z, V.bl true)
def addS (ks : List Int) (z : Int) : List Int := if z ∈ ks then ks else ks ++ [z]
theorem setKV_key (ks : List Int) : (setKV ks).map (·.1) = ks.map Sum.inl := by
  unfold setKV
  rw [List.map_map]
  rfl
theorem put_setKV (ks : List Int) (z : Int) : putK (setKV ks) (Sum.inl z) (V.bl true) = setKV (addS ks z) := by
  unfold putK addS
  have e : ((setKV ks).any fun kv => decide (kv.1 = Sum.inl z)) = decide (z ∈ ks) := by
    unfold setKV
    rw [List.any_map]
    induction ks with
    | nil => rfl
    | cons a ks ih =>
      rw [List.any_cons, ih]
      by_cases h : a = z
      · subst h
        simp
      · have h2 : ¬ (z = a) := fun e => h e.symm
        simp [h, h2]
  rw [e]
  by_cases h : z ∈ ks
  · rw [if_pos (decide_eq_true h), if_pos h]
    unfold setKV
    rw [List.map_map]
    refine List.map_congr_left fun a _ => ?_
    show (if (Sum.inl a : Key) = Sum.inl z then ((Sum.inl a : Key), V.bl true) else (Sum.inl a, V.bl true)) = _
    split <;> rfl
  · rw [if_neg (by rw [decide_eq_false h]; decide), if_neg h]
    unfold setKV
    rw [List.map_append]
    rfl
def rSortDI : List V → Hp → VK → Prop := fun xs H Q => ∃ (a : Addr) (kvs : List (Key × V)) (ks : List Int), xs = [.ref a] ∧ Rd H a (.dK kvs) ∧ kvs.map (·.1) = ks.map Sum.inl ∧ ks.length < 64 ∧ ∀ (ys : List Int) (p : Addr), ys.Perm ks → ys.Pairwise (· ≤ ·) → H p = none → Q (.ref p) (upd H p (.lst (ys.map V.int)))
theorem cr_sortDI {X : Cx} (hcalm : X.calm = true) : CallR X (.builtin "sorted") rSortDI := call_sortedDI hcalm
section
variable {K : PySem.W.Frag} {S S1 : SS} {E : DE} {c : Addr → Prop} {Hf H : Hp} {σ : L2.St} {fp : List (List Addr)}
/-- found = {} -/
theorem ts_newset {n : Nat} (kx : ∀ a, E.nx { S with sl := S.sl.set n (.own S.ob.length), ob := S.ob ++ [.raw a (.dK (setKV []))] }) : Ts K (tAsg tDNewK (gName n)) S E := fun c Hf H σ fp ok D nx r bk ct p hp => by
  obtain ⟨ok1, g1⟩ := ok.newR (.dK []) hp
  have ok5 := ok1.put_sl (k := S.ob.length) (i := n) (a := p) (o := .dK []) List.getElem?_concat_length
  exact nx _ _ _ _ _ ok5 g1 (kx p)
/-- found[e] = True -/
theorem ts_putset {i k : Nat} {a : Addr} {ks : List Int} {z : Int} {tk : TE} (hs : S.sl[i]? = some (.own k)) (hk : Ee K tk S (.dat (.int z)) S) (ho : S.ob[k]? = some (.raw a (.dK (setKV ks)))) (hz : ks.length ≤ 100000) (kx : E.nx { S with ob := S.ob.set k (.raw a (.dK (setKV (addS ks z)))) }) :
    Ts K (sDPut (tVar i) tk (tC (.bl true))) S E := fun c Hf H σ fp ok D n r bk ct =>
  ee_bl (K := K) (S := S) (b := true) c Hf H σ fp ok _ fun x Hf1 H1 fp1 ok1 g1 r1 => ee_var hs (fun z => by cases z) c Hf1 H1 σ fp1 ok1 _ fun v Hf2 H2 fp2 ok2 g2 r2 => hk c Hf2 H2 σ fp2 ok2 _ fun y Hf3 H3 fp3 ok3 g3 r3 => by
    cases r1
    cases r3
    obtain rfl := ok2.rawV ho r2
    refine ⟨a, _, rfl, DPut.k (k := Sum.inl z) (ok3.raw ho).2 (by unfold setKV; rw [List.length_map]; exact Nat.lt_of_le_of_lt hz (by decide)), ?_⟩
    rw [put_setKV]
    obtain ⟨ok4, g4⟩ := ok3.putR (o' := .dK (setKV (addS ks z))) ho
    exact n _ _ _ _ _ ok4 (((g1.trans g2).trans g3).trans g4) kx
theorem pair_eq : ∀ {xs ys : List Int}, xs.Perm ys → xs.Pairwise (· ≤ ·) → ys.Pairwise (· ≤ ·) → xs = ys := fun h h1 h2 => h.eq_of_pairwise (fun a b _ _ p q => Int.le_antisymm p q) h1 h2
/-- sorted(found) -/
theorem rcl_sortset {k : Nat} {a : Addr} {ks ys : List Int} (ho : S.ob[k]? = some (.raw a (.dK (setKV ks)))) (hl : ks.length < 64) (hp : ys.Perm ks) (hy : ys.Pairwise (· ≤ ·)) : RcL K rSortDI [.own k] S (ys.map PyData.int) S := fun c Hf H σ fp ok vs r Q q => by
  obtain ⟨v, rfl, rv⟩ := r.one
  obtain rfl := ok.rawV ho rv
  refine ⟨a, setKV ks, ks, rfl, .inl (ok.raw ho).2, setKV_key ks, hl, fun zs p hz hs hn => ?_⟩
  obtain rfl := pair_eq (hz.trans hp.symm) hs hy
  obtain ⟨ok2, g2, al⟩ := ok.alone hn (RpA.ints zs)
  exact q p _ _ _ ok2 g2 hn al
end
/-- a test that may do something in its second part -/
theorem et_andS2 {K : PySem.W.Frag} {S S1 S2 : SS} {t u : TT} {a b : Bool} (h1 : Et K t S a S1) (h2 : a = true → Et K u S1 b S2) (h3 : a = false → S2 = S1) : Et K (tAnd t u) S (a && b) S2 := by
  cases a with
  | true => exact et_andT h1 (h2 rfl)
  | false =>
    rw [h3 rfl]
    exact et_and (b := b) h1 (fun z => by cases z)
theorem et_orS {K : PySem.W.Frag} {S S1 S2 : SS} {t u : TT} {a b : Bool} (h1 : Et K t S a S1) (h2 : a = false → Et K u S1 b S2) (h3 : a = true → S2 = S1) : Et K (tOr t u) S (a || b) S2 := by
  cases a with
  | false => exact et_orF h1 (h2 rfl)
  | true =>
    rw [h3 rfl]
    exact et_or (b := b) h1 (fun z => by cases z)
/-! ### xs.insert(i, y); range(a, b, 2) -/
def rInsert : V → List V → Hp → VK → Prop := fun x vs H Q => ∃ (l : Addr) (xs : List V) (i : Int) (y : V), x = .ref l ∧ vs = [.int i, y] ∧ H l = some (.lst xs) ∧ xs.length < sizeLine ∧ 0 ≤ i ∧ i < 2 ^ 63 ∧
    Q .non (upd H l (.lst (xs.take i.toNat ++ [y] ++ xs.drop i.toNat)))
theorem mt_insertN {X : Cx} : MtR X "list.insert" rInsert := mt_insert
section
variable {K : PySem.W.Frag} {S S1 S2 S3 : SS} {ta te ti : TE} {c : Addr → Prop} {Hf H : Hp} {σ : L2.St} {fp : List (List Addr)}
theorem ee_insert {k : Nat} {ds : List PyData} {i : Int} {d : PyData} (hl : Ee K ta S (.own k) S1) (hi : Ee K ti S1 (.dat (.int i)) S2) (he : Ee K te S2 (.dat d) S3) (ho1 : ∃ ds1, S1.ob[k]? = some (.lst ds1)) (ho : S3.ob[k]? = some (.lst ds)) (h0 : 0 ≤ i) (h1 : i ≤ 1000000) (hz : ds.length < 1000000) :
    Ee K (tBM K "list" rInsert ta (tCons ti (tCons te tNil))) S (.dat .none) { S3 with ob := S3.ob.set k (.lst (ds.take i.toNat ++ [d] ++ ds.drop i.toNat)) } := fun c Hf H σ fp ok Q q =>
  hl c Hf H σ fp ok _ fun v Hf1 H1 fp1 ok1 g1 r1 => by
    obtain ⟨ds1, ho1⟩ := ho1
    obtain ⟨a, xs, rfl, q1, q2, q3⟩ := ok1.obL ho1 r1
    refine ⟨.inl ⟨rfl, xs, .inl (.inl q2)⟩, hi c Hf1 H1 σ fp1 ok1 _ fun w Hf2 H2 fp2 ok2 g2 r2 => he c Hf2 H2 σ fp2 ok2 _ fun u Hf3 H3 fp3 ok3 g3 r3 => ?_⟩
    cases r2
    obtain ⟨b, zs, e, k1, k2, k3⟩ := ok3.setL ho (r1.mono (g2.trans g3).sm (g2.trans g3).pr)
    cases e
    obtain ⟨ok4, g4⟩ := k3 (zs.take i.toNat ++ [u] ++ zs.drop i.toNat) (ds.take i.toNat ++ [d] ++ ds.drop i.toNat) (((k2.take _).append (.cons r3 .nil)).append (k2.drop _))
    refine ⟨_, zs, i, u, rfl, rfl, k1, ?_, h0, by omega, q _ _ _ _ ok4 (((g1.trans g2).trans g3).trans g4) Rp.non⟩
    rw [k2.len]
    exact Nat.lt_of_lt_of_le hz (by decide)
end
/-- every second number -/
def twoN (lo hi : Int) : Nat := ((hi - lo + 1) / 2).toNat
def twoD (lo hi : Int) : List PyData := (List.range (twoN lo hi)).map fun (k : Nat) => .int (lo + (k : Int) * 2)
theorem twoN_in {lo hi : Int} {k : Nat} (h : k < twoN lo hi) : lo + (k : Int) * 2 < hi := by
  unfold twoN at h
  omega
theorem rsz2 (lo hi : Int) : Builtin.Range.rangeSize lo hi 2 = (twoN lo hi : Int) := by
  unfold Builtin.Range.rangeSize twoN
  rw [if_pos (by decide)]
  split <;> omega
theorem rg2 {lo hi : Int} (h1 : -1000000 ≤ lo ∧ lo ≤ 1000000 ∧ -1000000 ≤ hi ∧ hi ≤ 1000000) : RgC lo hi 2 (twoN lo hi) := by
  refine ⟨by decide, by decide, ?_, rsz2 lo hi⟩
  unfold Builtin.Range.small
  rw [rsz2]
  unfold twoN
  simp only [Builtin.Range.rangeFitsLong, Bool.and_eq_true, Bool.or_eq_true, decide_eq_true_eq, beq_iff_eq, show (2 : Int) > 0 by decide, if_true]
  omega
theorem ei_rng3 {K : PySem.W.Frag} {S S1 : SS} {tas : TA} {lo hi : Int} (h : Ed K tas S [.int lo, .int hi, .int 2] S1) (hn : -1000000 ≤ lo ∧ lo ≤ 1000000 ∧ -1000000 ≤ hi ∧ hi ≤ 1000000) : Ei K (iRng3 tas) S (twoD lo hi) S1 := fun c Hf H σ fp ok R q => h c Hf H σ fp ok _ fun v Hf1 H1 fp1 ok1 g1 r1 => by
  cases r1 with
  | cons r1 rr => cases rr with
    | cons r2 rr => cases rr with
      | cons r3 rr =>
        cases rr
        cases r1
        cases r2
        cases r3
        refine ⟨lo, hi, 2, twoN lo hi, rfl, rg2 hn, q _ Hf1 H1 fp1 ok1 g1 (wk_of walk_rangeC (by unfold twoD; rw [List.length_map, List.length_range]) (fun _ _ _ _ => trivial) fun i d Hf1 H1 x H2 e1 e2 hd y => .inl ?_)⟩
        obtain ⟨rfl, rfl⟩ := y
        unfold twoD at hd
        rw [List.getElem?_map] at hd
        obtain ⟨k, hk, rfl⟩ := Option.map_eq_some_iff.mp hd
        obtain ⟨_, e⟩ := List.getElem?_eq_some_iff.mp hk
        rw [List.getElem_range] at e
        subst e
        exact ⟨rfl, .int _⟩
/-! ### sorted(set(xs)), xs a list of tuples of numbers -/
theorem setOfT_calm {X : Cx} (hc : X.calm = true) (hu : X.A.units + 100 < cLine) : CallR X (.type "set") (rSetOfT X.K X.prog X.w) := cr_setOfT hc (by omega)
def intsD (ns : List Int) : PyData := .tuple (ns.map PyData.int)
section
variable {K : PySem.W.Frag} {P : Program} {w : World} {S S1 : SS} {x : SD} {te : TE} {c : Addr → Prop} {Hf H : Hp} {σ : L2.St} {fp : List (List Addr)}
theorem tups_of {Hf : Hp} : ∀ {xs : List (List Int)} {zs : List V}, RpA K Hf zs (xs.map intsD) → ∃ ks : List (Addr × List Int), zs = ks.map (fun p => V.ref p.1) ∧ ks.map (·.2) = xs ∧ ∀ p ∈ ks, SqT K Hf p.1 (p.2.map V.int)
  | [], _, .nil => ⟨[], rfl, rfl, fun _ z => by cases z⟩
  | ns :: xs, _, .cons h t => by
    obtain ⟨ks, e1, e2, e3⟩ := tups_of t
    cases h with
    | tup h1 h2 =>
      rename_i a us
      have := RpA.ints_inv h2
      subst this
      refine ⟨(a, ns) :: ks, by rw [e1]; rfl, by rw [List.map_cons, e2], fun p hp => ?_⟩
      rcases List.mem_cons.mp hp with rfl | hp
      · exact h1
      · exact e3 p hp
theorem rp_tups {Hf : Hp} : ∀ {ks : List (Addr × List Int)}, (∀ p ∈ ks, SqT K Hf p.1 (p.2.map V.int)) → RpA K Hf (ks.map fun p => V.ref p.1) ((ks.map (·.2)).map intsD)
  | [], _ => .nil
  | p :: ks, h => .cons (.tup (h p List.mem_cons_self) (RpA.ints p.2)) (rp_tups fun q hq => h q (List.mem_cons_of_mem _ hq))
theorem el_sortsetT {xs ys : List (List Int)} {d : Nat} {Bo : Int} (h : Ee K te S x S1) (hx : AsD S1 x (.list (xs.map intsD))) (hl : xs.length < 64) (hd : 1 ≤ d) (hb : ∀ ns ∈ xs, ns.length = d ∧ TS.Bd Bo ns)
    (hy : ∀ zs : List (List Int), zs.Nodup → (∀ z, z ∈ zs ↔ z ∈ xs) → zs.Pairwise (fun q r => TS.code Bo q ≤ TS.code Bo r) → zs = ys) :
    El K (tCB (rSortedT K P w) (tCons (tCB (rSetOfT K P w) (tCons te tNil)) tNil)) S (ys.map intsD) S1 := fun c Hf H σ fp ok Q q =>
  h c Hf H σ fp ok _ fun v Hf1 H1 fp1 ok1 g1 r1 => by
    obtain ⟨a, zs, rfl, h1, h2⟩ := ok1.asL r1 hx
    obtain ⟨ks, rfl, e2, e3⟩ := tups_of h2
    refine ⟨a, ks, rfl, .inl (.inl h1), fun p hp => sameT ok1.hd.ex (e3 p hp), by rw [← List.length_map (f := (·.2)), e2]; exact hl, fun s L hs hL hL2 => ?_⟩
    obtain ⟨ok2, g2⟩ := ok1.laid (SetTO P w s L) hs
    have memL : ∀ z, z ∈ L.map (·.2) ↔ z ∈ xs := fun z => by
      constructor
      · intro hz
        obtain ⟨p, hp, rfl⟩ := List.mem_map.mp hz
        rw [← e2]
        exact List.mem_map.mpr ⟨p, hL p hp, rfl⟩
      · intro hz
        rw [← e2] at hz
        obtain ⟨p, hp, rfl⟩ := List.mem_map.mp hz
        exact hL2 p hp
    have at2 : ∀ p ∈ L, SqT K (upd Hf1 s (SetTO P w s L)) p.1 (p.2.map V.int) := fun p hp => sameT g2.sm (e3 p (hL p hp))
    refine ⟨s, L, d, Bo, rfl, upd_same, fun p hp => sameT ok2.hd.ex (at2 p hp), hd, fun p hp => hb _ ((memL _).mp (List.mem_map.mpr ⟨p, hp, rfl⟩)), fun L' p hperm hnd hlt hpw hp => ?_⟩
    have ez : L'.map (·.2) = ys := by
      refine hy _ hnd (fun z => ?_) ?_
      · rw [← memL z]
        exact (hperm.map _).mem_iff
      · rw [List.pairwise_map]
        exact hpw
    obtain ⟨ok3, g3, al⟩ := ok2.alone (xs := L'.map fun q => V.ref q.1) (ds := ys.map intsD) hp (by
      rw [← ez]
      exact rp_tups fun p hp => at2 p (hperm.mem_iff.mp hp))
    exact q p _ _ _ ok3 ((g1.trans g2).trans g3) (none_back (g1.trans g2).th hp) al
end
theorem ei_rng1n {K : PySem.W.Frag} {S S1 : SS} {tas : TA} {n : Nat} (h : Ed K tas S [.int (n : Int)] S1) (hn : n ≤ 1000000) : Ei K (iRng1 tas) S (rngD 0 n) S1 := by
  have := ei_rng1 h (by omega)
  rw [Int.toNat_natCast] at this
  exact this
theorem el_rng2L {K : PySem.W.Frag} {S S1 S2 : SS} {ta tb : TE} {lo hi : Int} (h : Ee K ta S (.dat (.int lo)) S1) (h2 : Ee K tb S1 (.dat (.int hi)) S2) (hb : 0 ≤ lo ∧ lo ≤ 1000000 ∧ 0 ≤ hi ∧ hi ≤ 1000000) : El K (tLstRg (tRg2 ta tb)) S (rngD lo (hi - lo).toNat) S2 := fun c Hf H σ fp ok Q q =>
  h c Hf H σ fp ok _ fun v Hf1 H1 fp1 ok1 g1 r1 => h2 c Hf1 H1 σ fp1 ok1 _ fun u Hf2 H2 fp2 ok2 g2 r2 => by
    cases r1
    cases r2
    refine ⟨lo, hi, rfl, rfl, RgOk.of_le hb.1 (by omega) (by omega) hb.2.2.1, fun p hp => ?_⟩
    obtain ⟨ok3, g3, al⟩ := ok2.alone hp (rp_rng (K := K) lo hi)
    exact q p _ _ _ ok3 ((g1.trans g2).trans g3) (none_back (g1.trans g2).th hp) al
theorem ro_notBl {K : PySem.W.Frag} {S : SS} {a b : Bool} : Ro K rNotB (.dat (.bool a)) (.dat (.bool b)) S (.dat (.bool (!decide (a = b)))) S := fun c Hf H σ fp ok v u rv ru Q q => by
  cases rv
  cases ru
  exact ⟨a, b, rfl, rfl, q _ _ _ _ ok Gr.refl (Rp.bl _)⟩
theorem ro_isBl {K : PySem.W.Frag} {S : SS} {a b : Bool} : Ro K rIsB (.dat (.bool a)) (.dat (.bool b)) S (.dat (.bool (decide (a = b)))) S := fun c Hf H σ fp ok v u rv ru Q q => by
  cases rv
  cases ru
  exact ⟨a, b, rfl, rfl, q _ _ _ _ ok Gr.refl (Rp.bl _)⟩
theorem cut_dropD {ds : List PyData} {c : Int} (h : 0 ≤ c) : cutD ds (some c) none = ds.drop c.toNat := by
  unfold cutD
  have e1 : HT.sIx ds.length 0 (some c) = min c.toNat ds.length := by
    show (if c < 0 then (c + (ds.length : Int)).toNat else min c.toNat ds.length) = _
    rw [if_neg (by omega)]
  have e2 : HT.sIx ds.length ds.length none = ds.length := rfl
  rw [e1, e2]
  by_cases q : c.toNat ≤ ds.length
  · rw [Nat.min_eq_left q, List.take_of_length_le (by rw [List.length_drop]; exact Nat.le_refl _)]
  · rw [Nat.min_eq_right (by omega), Nat.sub_self, List.take_zero, List.drop_eq_nil_of_le (by omega)]
/-! ### the lowest bit -/
theorem ee_bits {K : PySem.W.Frag} {S S1 : SS} {te : TE} {i : Int} (h : Ee K te S (.dat (.int i)) S1) : Ee K (tBits te) S (.dat (.int (Builtin.Int.intBits i : Nat))) S1 := fun c Hf H σ fp ok Q q => h c Hf H σ fp ok _ fun v Hf1 H1 fp1 ok1 g1 r1 => by
  cases r1
  exact ⟨i, rfl, q _ _ _ _ ok1 g1 (Rp.int _)⟩
theorem bits_pow (k : Nat) : Builtin.Int.intBits ((2 ^ k : Nat) : Int) = k + 1 := by
  unfold Builtin.Int.intBits
  have h : ((2 ^ k : Nat) : Int) ≠ 0 := by
    have := Nat.two_pow_pos k
    omega
  rw [if_neg (by simpa using h)]
  congr 1
  rw [Int.natAbs_natCast]
  exact Nat.log2_two_pow
theorem low_form {a k : Nat} (h1 : a.testBit k = true) (h0 : ∀ i, i < k → a.testBit i = false) : a = 2 ^ (k + 1) * (a / 2 ^ (k + 1)) + 2 ^ k := by
  have e : a % 2 ^ (k + 1) = 2 ^ k := by
    refine Nat.eq_of_testBit_eq fun i => ?_
    rw [Nat.testBit_mod_two_pow, Nat.testBit_two_pow]
    by_cases q : i = k
    · subst q
      rw [h1]
      simp
    · by_cases q2 : i < k
      · rw [h0 i q2, decide_eq_false (show ¬ k = i from fun z => q z.symm), Bool.and_false]
      · rw [decide_eq_false (show ¬ i < k + 1 by omega), decide_eq_false (show ¬ k = i from fun z => q z.symm), Bool.false_and]
  have := Nat.div_add_mod a (2 ^ (k + 1))
  rw [e] at this
  exact this.symm
theorem band_neg {a k : Nat} (h1 : a.testBit k = true) (h0 : ∀ i, i < k → a.testBit i = false) : Builtin.bitAnd (a : Int) (-(a : Int)) = ((2 ^ k : Nat) : Int) := by
  have f := low_form h1 h0
  generalize a / 2 ^ (k + 1) = m at f
  have p := Nat.two_pow_pos k
  have ha : 0 < a := by omega
  have e : -(a : Int) = Builtin.bitNot ((a - 1 : Nat) : Int) := by
    show -(a : Int) = -((a - 1 : Nat) : Int) - 1
    omega
  rw [e, drop_nat]
  congr 1
  refine Nat.eq_of_testBit_eq fun i => ?_
  have e2 : a - 1 = 2 ^ (k + 1) * m + (2 ^ k - 1) := by omega
  have lt1 : 2 ^ k < 2 ^ (k + 1) := Nat.pow_lt_pow_right (by decide) (Nat.lt_succ_self k)
  rw [drop_bit, e2, f, Nat.testBit_two_pow_mul_add _ lt1, Nat.testBit_two_pow_mul_add _ (show 2 ^ k - 1 < 2 ^ (k + 1) by omega), Nat.testBit_two_pow]
  by_cases q : i < k + 1
  · rw [if_pos q, if_pos q, Nat.testBit_two_pow_sub_one]
    by_cases q2 : k = i
    · subst q2
      simp
    · rw [decide_eq_false q2, Bool.false_and]
  · rw [if_neg q, if_neg q, decide_eq_false (show ¬ k = i by omega)]
    cases m.testBit (i - (k + 1)) <;> rfl
/-! ### numbers in lists -/
theorem ro_notInL {K : PySem.W.Frag} {S : SS} {y : SD} {i : Int} {ns : List Int} (hy : AsD S y (.list (ns.map PyData.int))) : Ro K (rIn K true) (.dat (.int i)) y S (.dat (.bool (!decide (i ∈ ns)))) S := fun c Hf H σ fp ok v u rv ru Q q => by
  cases rv
  obtain ⟨a, xs, rfl, h1, h2⟩ := ok.asL ru hy
  obtain rfl := RpA.ints_inv h2
  refine ⟨_, _, rfl, .inl (.inl (.inl h1)), rfl, flat_ints ns, ?_⟩
  rw [if_pos rfl, inV_ints]
  exact q _ _ _ _ ok Gr.refl (Rp.bl _)
/-! ### a tuple times a number that may be nought -/
theorem tuple_mul0 (l : Addr) (items : Array Value) (n : Nat) (dd : Option Addr) (sl : Array (Option Value)) (x : Int) (u : Tok) (c0 : (decide (x < -(2 ^ 63)) || decide (x ≥ 2 ^ 63)) = false) (c1 : (items.isEmpty || x == 1) = false) (c2 : (decide (x ≤ 0) || items.isEmpty) = true) :
    Meets (Builtin.«tuple.__mul__» ⟨[.ref l, .int x u], []⟩) (fun _ R s => s.heap.get? l = some { cls := .type "tuple", dict := dd, data := .seq items n, slots := sl } ∧
      R (.ok (.ret (Value.ref s.heap.objs.size))) { s with heap := s.heap.push { cls := Value.type "tuple", data := Data.seq #[] }, toks := s.toks }) :=
  .of_wp fun prog w A R s h => by
    obtain ⟨hp, g, d, tk, os⟩ := s
    obtain ⟨hl, h⟩ := h
    have f1 := AutoSeq1.idx_int
    wp_walk using wpAny_loadPart' hl
    repeat (first
      | (refine wpAny_ite_false (decide_eq_false (by rw [c0]; exact Bool.false_ne_true)) ?_; wp_walk using wpAny_loadPart' hl)
      | (refine wpAny_ite_false (decide_eq_false (by rw [c1]; exact Bool.false_ne_true)) ?_; wp_walk using wpAny_loadPart' hl)
      | (refine wpAny_ite_true (decide_eq_true c2) ?_; wp_walk using wpAny_loadPart' hl))
    exact ⟨_, rfl, h⟩
def rRep0 (K : PySem.W.Frag) : R2 := fun x y H Q => ∃ l xs, x = .ref l ∧ y = .int 0 ∧ SqT K H l xs ∧ xs ≠ [] ∧ ∀ p, H p = none → Q (.ref p) (upd H p (.tup []))
theorem op_rep0 {X : Cx} : OpR X (binaryOp .Mult) (rRep0 X.K) := by
  intro pins s σ H x y v u Q I rx ry h
  obtain ⟨l, xs, rfl, rfl, hT, hne, q⟩ := h
  cases rx
  obtain ⟨t, rfl⟩ := ry
  obtain ⟨its, r, ⟨⟨cls, dd, data, sl⟩, ho, hc, n, hd⟩, hs⟩ := I.tuple hT
  simp only at hc hd
  subst hc hd
  have hle : its.length = xs.length := r.length.symm
  have hi : its.toArray.isEmpty = false := by
    cases its with
    | nil => exact absurd (List.eq_nil_of_length_eq_zero hle.symm) hne
    | cons a b => rfl
  have c1 : (its.toArray.isEmpty || (0 : Int) == 1) = false := by
    rw [hi]
    rfl
  refine wpAny_binaryOp_repeat_ref (T := "tuple") (U := "int") (by decide) ⟨_, ho, rfl⟩ (fun s' => typeIs_int s' 0 t) noFill_tuple_mul F.fills_int_mul F.slot_int_rmul repeat_tuple F.slot_int_index.lookup
    (call_meets F.slot_int_rmul (typeIs_int s 0 t) F.entry_int_rmul (F.args_int_rmul_2 _ _) (int_rmul_tuple 0 t l its.toArray n dd sl)
      ⟨ho, rfl, ⟨_, ho, rfl⟩, call_meets F.slot_tuple_mul ⟨_, ho, rfl⟩ F.entry_tuple_mul (F.args_tuple_mul_2 _ _) (tuple_mul0 l its.toArray n dd sl 0 t rfl c1 rfl) ⟨ho, ?_⟩⟩)
  refine ⟨.ref s.heap.objs.size, _, I.laid (t' := s.toks) (o := .tup []) (fun b ob q => Heap.get?_push_of_some _ q) (Nat.le_refl _) ?_, rfl, q _ (I.hok.fresh (Nat.le_refl _))⟩
  exact ⟨Nat.zero_le _, [], .nil, IsTup.new _ _⟩
def rMul0 (K : PySem.W.Frag) : R2 := fun x y H Q => rMulS K x y H Q ∨ rRep0 K x y H Q
theorem op_mul0 {X : Cx} : OpR X (binaryOp .Mult) (rMul0 X.K) := opr_or op_mulS op_rep0
theorem ro_mul0 {K : PySem.W.Frag} {S : SS} {ds : List PyData} {i : Int} (hne : ds ≠ []) (h1 : 0 ≤ i) (h2 : i ≤ 1000) (hz : ds.length ≤ 1000) : Ro K (rMul0 K) (.dat (.tuple ds)) (.dat (.int i)) S (.dat (.tuple (repD i.toNat ds))) S := by
  by_cases h0 : i = 0
  · subst h0
    intro c Hf H σ fp ok v u rv ru Q q
    cases ru
    cases rv with
    | @tup a xs _ e1 e2 =>
      refine .inr ⟨a, xs, rfl, rfl, sameT ok.hd.ex e1, fun e => hne (by subst e; cases e2; rfl), fun p hp => ?_⟩
      obtain ⟨ok2, g2⟩ := ok.laid (.tup _) hp
      exact q _ _ _ _ ok2 g2 (Rp.tup (.inl (.inl upd_same)) .nil)
  · intro c Hf H σ fp ok v u rv ru Q q
    exact .inl (ro_mulS (by omega) h2 hz c Hf H σ fp ok v u rv ru Q q)
/-! ### data in a tuple of data -/
def rNotInT (K : PySem.W.Frag) : R2 := fun x y H Q => ∃ d ds, Dp K H x d ∧ Dp K H y (.tuple ds) ∧ SeqAt.shaped d = true ∧ SeqAt.shaped (.tuple ds) = true ∧ Q (.bl (!ds.any fun z => PyData.eqv z d)) H
theorem op_notInT {X : Cx} (hu : X.A.units + 65 < cLine) : OpR X (compareOp .NotIn) (rNotInT X.K) := by
  intro pins s σ H x y v u Q I rx ry h
  obtain ⟨d, ds, hd, he, sd, se, q⟩ := h
  obtain ⟨as, r1⟩ := Dp.reads I d x v hd rx
  obtain ⟨bs, r2⟩ := Dp.reads I (.tuple ds) y u he ry
  exact SeqAt.notIn_tuple_reads r2 r1 (SeqAt.canLay_of_shaped se) (SeqAt.canLay_of_shaped sd) (room_in_shaped sd hu) ⟨.bl _, H, I, rfl, q⟩
theorem ro_notInTD {K : PySem.W.Frag} {S : SS} {x y : SD} {d : PyData} {ds : List PyData} (hx : AsD S x d) (hy : AsD S y (.tuple ds)) (h1 : SeqAt.shaped d = true) (h2 : SeqAt.shaped (.tuple ds) = true) : Ro K (rNotInT K) x y S (.dat (.bool (!ds.any fun z => PyData.eqv z d))) S := fun c Hf H σ fp ok v u rv ru Q q =>
  ⟨d, ds, ok.asDp rv hx (shaped_noDict h1), ok.asDp ru hy (shaped_noDict h2), h1, h2, q _ _ _ _ ok Gr.refl (Rp.bl _)⟩
/-! ### a walk down -/
def dnD (lo hi : Int) : List PyData := (List.range (lo - hi).toNat).map fun (k : Nat) => .int (lo + (k : Int) * (-1))
theorem rszD (lo hi : Int) : Builtin.Range.rangeSize lo hi (-1) = ((lo - hi).toNat : Int) := by
  unfold Builtin.Range.rangeSize
  rw [if_neg (by decide)]
  split <;> (try rw [show (-(-1) : Int) = 1 from rfl, Int.ediv_one]) <;> omega
theorem rgD {lo hi : Int} (h1 : -1000000 ≤ lo ∧ lo ≤ 1000000 ∧ -1000000 ≤ hi ∧ hi ≤ 1000000) : RgC lo hi (-1) (lo - hi).toNat := by
  refine ⟨by decide, by decide, ?_, rszD lo hi⟩
  unfold Builtin.Range.small
  rw [rszD]
  simp only [Builtin.Range.rangeFitsLong, Bool.and_eq_true, Bool.or_eq_true, decide_eq_true_eq, beq_iff_eq, show ¬ (-1 : Int) > 0 by decide, if_false]
  omega
theorem ei_rngDn {K : PySem.W.Frag} {S S1 : SS} {tas : TA} {lo hi : Int} (h : Ed K tas S [.int lo, .int hi, .int (-1)] S1) (hn : -1000000 ≤ lo ∧ lo ≤ 1000000 ∧ -1000000 ≤ hi ∧ hi ≤ 1000000) : Ei K (iRng3 tas) S (dnD lo hi) S1 := fun c Hf H σ fp ok R q => h c Hf H σ fp ok _ fun v Hf1 H1 fp1 ok1 g1 r1 => by
  cases r1 with
  | cons r1 rr => cases rr with
    | cons r2 rr => cases rr with
      | cons r3 rr =>
        cases rr
        cases r1
        cases r2
        cases r3
        refine ⟨lo, hi, -1, (lo - hi).toNat, rfl, rgD hn, q _ Hf1 H1 fp1 ok1 g1 (wk_of walk_rangeC (by unfold dnD; rw [List.length_map, List.length_range]) (fun _ _ _ _ => trivial) fun i d Hf1 H1 x H2 e1 e2 hd y => .inl ?_)⟩
        obtain ⟨rfl, rfl⟩ := y
        unfold dnD at hd
        rw [List.getElem?_map] at hd
        obtain ⟨k, hk, rfl⟩ := Option.map_eq_some_iff.mp hd
        obtain ⟨_, e⟩ := List.getElem?_eq_some_iff.mp hk
        rw [List.getElem_range] at e
        subst e
        exact ⟨rfl, .int _⟩
/-! ### lists or tuples walked -/
def iAny (K : PySem.W.Frag) (te : TE) : TI := fun σ H R => iTup K te σ H R ∨ iList K te σ H R
theorem pi_any {X : Cx} {tg l : Expr} {tl : TE} (h : PE X l tl) : PI X tg l (iAny X.K tl) := ⟨fun pins s σ H R I q => q.elim ((pi_tup h).run pins s σ H R I) ((pi_list h).run pins s σ H R I)⟩
theorem ei_anyT {K : PySem.W.Frag} {S S1 : SS} {te : TE} {ds : List PyData} (h : Ei K (iTup K te) S ds S1) : Ei K (iAny K te) S ds S1 := fun c Hf H σ fp ok R q => .inl (h c Hf H σ fp ok R q)
theorem ei_anyL {K : PySem.W.Frag} {S S1 : SS} {te : TE} {ds : List PyData} (h : Ei K (iList K te) S ds S1) : Ei K (iAny K te) S ds S1 := fun c Hf H σ fp ok R q => .inr (h c Hf H σ fp ok R q)
def iEnumA (K : PySem.W.Frag) (ta : TA) : TI := fun σ H R => iEnumT K ta σ H R ∨ iEnum K ta σ H R
theorem pi_enumA {X : Cx} {e : Expr} {ta : TA} {p pos tpos : Pos} {elts : List Expr} {kk : Nat} (hg : Gl X "enumerate") (hm : X.mg "enumerate" = none) (h : PA X [e] ta) (hs : starEach [e] X.env = [(false, eval e X.env)] := by rfl) : PI X (.Tuple elts kk tpos) (.Call (.Name "enumerate" p) [e] [] pos) (iEnumA X.K ta) :=
  ⟨fun pins s σ H R I q => q.elim ((pi_enumT hg hm h hs).run pins s σ H R I) ((pi_enum hg hm h hs).run pins s σ H R I)⟩
theorem ei_enumAT {K : PySem.W.Frag} {S S1 : SS} {ds : List PyData} {tas : TA} (h : Ed K tas S [.tuple ds] S1) : Ei K (iEnumA K tas) S (enumD ds) S1 := fun c Hf H σ fp ok R q => .inl (ei_enumT h c Hf H σ fp ok R q)
theorem ei_enumAL {K : PySem.W.Frag} {S S1 : SS} {ds : List PyData} {tas : TA} (h : Ed K tas S [.list ds] S1) : Ei K (iEnumA K tas) S (enumD ds) S1 := fun c Hf H σ fp ok R q => .inr (ei_enum h c Hf H σ fp ok R q)
/-! ### how many unlike numbers: len(set(x)) -/
def rLenSet (w : World) : List V → Hp → VK → Prop := fun xs H Q => ∃ (a : Addr) (S : Int → Bool) (n : Nat), xs = [.ref a] ∧ H a = some (SetO w a S n) ∧ Q (.int n) H
theorem cb_lenSet {X : Cx} : CallR X (.builtin "len") (rLenSet X.w) := fun pins s σ H xs us Q I r h => by
  obtain ⟨a, S, n, rfl, ha, q⟩ := h
  rw [Vals.ref1 r]
  obtain ⟨o, es, ep, t, h1, h2, h3, _, _, _, hs, hf, hn, _⟩ := setO_get I ha
  refine call_len_set h1 h2 h3 hf ?_ ?_
  · unfold scanBound at hs
    omega
  · rw [hn]
    exact ⟨.int n, H, I.tok _, ⟨_, rfl⟩, q⟩
def rSetX (K : PySem.W.Frag) (w : World) : List V → Hp → VK → Prop := fun xs H Q => ∃ (a : Addr) (ns : List Int), xs = [.ref a] ∧ (SqL K H a (ns.map V.int) ∨ SqT K H a (ns.map V.int)) ∧ ns.length ≤ 4000 ∧
  ∀ (p : Addr) (S : Int → Bool), H p = none → Q (.ref p) (upd H p (SetO w p S (setI ns).length))
theorem setR_all {w : World} {h : Heap} {a : Addr} {ns : List Int} {c : Nat} (R : SetR w h a (fun j => decide (j ∈ ns)) c) : c = (setI ns).length := by
  refine Nat.le_antisymm (setR_few R _ fun k hk => setI_mem.mpr hk) ?_
  obtain ⟨o, es, ep, t, _, _, _, _, nd, mem, _, _, hn, _⟩ := R
  have l : (es.toList.map keyOf).length = c := by rw [List.length_map, Array.length_toList, hn]
  rw [← l]
  exact nodup_le ((setI_sorted ns).imp fun h => Int.ne_of_lt h) fun x hx => (mem x).mp (decide_eq_true (setI_mem.mp hx))
theorem cr_setX {X : Cx} (hc : X.calm = true) : CallR X (.type "set") (rSetX X.K X.w) := fun pins s σ H xs us Q I r h => by
  obtain ⟨a, ns, rfl, ha, few, q⟩ := h
  rw [Vals.ref1 r]
  have big : ns.length + 1 < scanBound := by
    unfold scanBound
    omega
  have fin : ∀ (h2 : Heap) (t2 c : Nat), SetR X.w h2 s.heap.objs.size (fun j => decide (j ∈ ns)) c → c ≤ ns.length → (∀ b o, s.heap.get? b = some o → h2.get? b = some o) → EP X pins σ Q (.ref s.heap.objs.size) { s with heap := h2, toks := t2 } := fun h2 t2 c R _ keep => by
    have e := setR_all R
    subst e
    exact ⟨.ref _, upd H s.heap.objs.size (SetO X.w s.heap.objs.size (fun j => decide (j ∈ ns)) (setI ns).length), I.laid (t' := t2) keep (Nat.le_refl _) (setO_new R), rfl, q _ _ (I.hok.fresh (Nat.le_refl _))⟩
  rcases ha with ha | ha
  · obtain ⟨its, rv, p, _⟩ := I.list ha
    exact set_of_lst ns (I.ok.hd hc) p.isList (by simpa using rv.ints) big fin
  · obtain ⟨its, rv, p, _⟩ := I.tuple ha
    exact call_set_tupI ns (I.ok.hd hc) (show s.heap.IsTuple a its.toArray from p) (by simpa using rv.ints) big fin
theorem ee_lenSet {K : PySem.W.Frag} {w : World} {S S1 : SS} {te : TE} {ns : List Int} (h : Ee K te S (.dat (.tuple (ns.map PyData.int))) S1) (hz : ns.length ≤ 4000) : Ee K (tCB (rLenSet w) (tCons (tCB (rSetX K w) (tCons te tNil)) tNil)) S (.dat (.int ((setI ns).length : Int))) S1 := fun c Hf H σ fp ok Q q =>
  h c Hf H σ fp ok _ fun v Hf1 H1 fp1 ok1 g1 r1 => by
    cases r1 with
    | tup h1 h2 =>
      obtain rfl := RpA.ints_inv h2
      refine ⟨_, ns, rfl, .inr (sameT ok1.hd.ex h1), hz, fun p M hp => ?_⟩
      obtain ⟨ok2, g2⟩ := ok1.laid (SetO w p M (setI ns).length) hp
      exact ⟨p, M, _, rfl, upd_same, q _ _ _ _ ok2 (g1.trans g2) (Rp.int _)⟩
/-! ### a pair of values, one of them one's own -/
theorem ts_asgP {K : PySem.W.Frag} {S S1 : SS} {E : DE} {tas : TA} {x y : SD} {i j : Nat} (h : Ea K tas S [x, y] S1) (kx : E.nx { S1 with sl := (S1.sl.set i x).set j y }) : Ts K (tAsg (tTup tas) (gTup K 2 (gCons (gName i) (gCons (gName j) gNil)))) S E := fun c Hf H σ fp ok D n r bk ct =>
  h c Hf H σ fp ok _ fun vs Hf1 H1 fp1 ok1 g1 r1 => by
    cases r1 with
    | @cons v1 _ _ _ q1 r1 => cases r1 with
      | @cons v2 _ _ _ q2 r1 =>
        cases r1
        refine ⟨by show 2 ≤ sizeLine; rw [sizeLine_eq]; omega, fun p hp => ?_⟩
        obtain ⟨ok2, g2⟩ := ok1.laid (.tup [v1, v2]) hp
        refine ⟨p, [v1, v2], rfl, sameT ok2.hd.ex (.inl (.inl upd_same)), rfl, ?_⟩
        exact ⟨_, _, rfl, ⟨_, _, rfl, ⟨rfl, n _ _ _ _ _ ((ok2.put (x := x) (q1.mono g2.sm g2.pr)).put (x := y) (q2.mono g2.sm g2.pr)) (g1.trans g2) kx⟩⟩⟩
end DL

set_option maxRecDepth 100000
set_option maxHeartbeats 1000000
/-! DLsortP: sorted(xs), xs a list of pairs of whole numbers -/
namespace DL
open PySem PySem.Spec PyProof.Rows L2
def toIV : Value → Int
  | .int i _ => i
  | _ => 0
def adrV : Value → Addr
  | .ref a => a
  | _ => 0
/-- the pair at a reference -/
def kH (h : Heap) (v : Value) : Int × Int :=
  match h.get? (adrV v) with
  | some o => (match o.data with
    | .seq its _ => (toIV (its[0]?.getD .none), toIV (its[1]?.getD .none))
    | _ => (0, 0))
  | none => (0, 0)
def rSortedPS (K : PySem.W.Frag) : List V → Hp → VK → Prop := fun vs H Q => ∃ (a : Addr) (ks : List (Addr × Int × Int)), vs = [V.ref a] ∧ SqL K H a (ks.map fun p => V.ref p.1) ∧ (∀ p ∈ ks, SqT K H p.1 [.int p.2.1, .int p.2.2]) ∧
  ∀ (kt : List (Addr × Int × Int)) (p : Addr), (kt.map (·.2)).Perm (ks.map (·.2)) → (∀ x ∈ kt, x ∈ ks) → (kt.map (·.2)).Pairwise (fun x y => SrtO.lexB y x = false) → H p = none → Q (.ref p) (upd H p (.lst (kt.map fun q => V.ref q.1)))
theorem cr_sortedPS {X : Cx} : CallR X (.builtin "sorted") (rSortedPS X.K) := fun pins s σ H vs us Q I r h => by
  obtain ⟨a, ks, rfl, hs, hx, q⟩ := h
  obtain ⟨its, rv, hl, hz⟩ := I.list hs
  obtain ⟨u, rfl, ru⟩ := vals1 r
  obtain rfl : u = Value.ref a := ru
  have key : ∀ p ∈ ks, ∃ o t1 t2 n, s.heap.get? p.1 = some o ∧ o.cls = .type "tuple" ∧ o.data = .seq #[.int p.2.1 t1, .int p.2.2 t2] n := fun p hp => by
    obtain ⟨us, k1, ⟨o, ho, hc, n, hd⟩, _⟩ := I.tuple (hx p hp)
    obtain ⟨u1, u2, rfl, ri, rj⟩ := vals2 k1
    obtain ⟨t1, rfl⟩ := ri
    obtain ⟨t2, rfl⟩ := rj
    exact ⟨o, t1, t2, n, ho, hc, hd⟩
  have kk : ∀ p ∈ ks, kH s.heap (.ref p.1) = p.2 := fun p hp => by
    obtain ⟨o, t1, t2, n, ho, _, hd⟩ := key p hp
    unfold kH
    show (match s.heap.get? p.1 with
      | some o => _
      | none => _) = _
    rw [ho]
    show (match o.data with
      | .seq its _ => _
      | _ => _) = _
    rw [hd]
    rfl
  obtain ⟨e1, e2⟩ := refs_back rv fun x m => by
    obtain ⟨p, _, e⟩ := List.mem_map.mp m
    exact ⟨p.1, e.symm⟩
  have from_ : ∀ v ∈ its, ∃ p ∈ ks, v = .ref p.1 := fun v hv => by
    obtain ⟨t, rfl⟩ := e2 v hv
    have hm : V.ref t ∈ ks.map fun p => V.ref p.1 := by
      rw [e1]
      exact List.mem_map.mpr ⟨_, hv, rfl⟩
    obtain ⟨p, hp, e⟩ := List.mem_map.mp hm
    cases e
    exact ⟨p, hp, rfl⟩
  have kits : its.map (kH s.heap) = ks.map (·.2) := by
    have ez : its = ks.map fun p => Value.ref p.1 := by
      have z1 : its.map backV = ks.map fun p => V.ref p.1 := e1.symm
      have z2 : ∀ (l : List Value) (m : List (Addr × Int × Int)), (∀ v ∈ l, ∃ t, v = Value.ref t) → l.map backV = m.map (fun p => V.ref p.1) → l = m.map fun p => Value.ref p.1 := by
        intro l
        induction l with
        | nil =>
          intro m _ e
          cases m with
          | nil => rfl
          | cons _ _ => cases e
        | cons v l ih =>
          intro m hv e
          cases m with
          | nil => cases e
          | cons p m =>
            obtain ⟨t, rfl⟩ := hv v List.mem_cons_self
            rw [List.map_cons, List.map_cons] at e
            have e3 := (List.cons.inj e).1
            have e4 := (List.cons.inj e).2
            have e5 : V.ref t = V.ref p.1 := e3
            cases e5
            rw [List.map_cons, ih m (fun v hv' => hv v (List.mem_cons_of_mem _ hv')) e4]
      exact z2 _ _ e2 z1
    rw [ez, List.map_map]
    exact List.map_congr_left fun p hp => kk p hp
  refine SrtO.sorted_pairsO (k := kH s.heap) hl.isList (by rw [← rv.length]; exact hz) (fun v hv => ?_) fun h' d out h1 h2 kp hd hn => ?_
  · obtain ⟨p, hp, rfl⟩ := from_ v hv
    rw [kk p hp]
    obtain ⟨o, t1, t2, n, ho, hc, hd⟩ := key p hp
    exact ⟨p.1, o, t1, t2, n, rfl, ho, hc, hd⟩
  · have h3 : ∀ u ∈ out, ∃ p ∈ ks, u = Value.ref p.1 := fun u hu => from_ u (h2.perm.mem_iff.mp hu)
    obtain ⟨n, hn⟩ := hn
    have em : (out.map fun v => (adrV v, kH s.heap v)).map (fun q => V.ref q.1) = out.map backV := by
      rw [List.map_map]
      refine List.map_congr_left fun v hv => ?_
      obtain ⟨p, _, rfl⟩ := h3 v hv
      rfl
    have e2' : (out.map fun v => (adrV v, kH s.heap v)).map (·.2) = out.map (kH s.heap) := by
      rw [List.map_map]
      rfl
    have vb : ∀ u ∈ out, ∃ a, u = Value.ref a := fun u hu => by
      obtain ⟨p, _, e⟩ := h3 u hu
      exact ⟨p.1, e⟩
    have hlen : out.length ≤ sizeLine := by
      rw [h2.perm.length_eq, ← rv.length]
      exact hz
    refine ⟨.ref d, upd H d (.lst ((out.map fun v => (adrV v, kH s.heap v)).map fun q => V.ref q.1)), I.laid (t' := s.toks) kp hd ⟨?_, out, n, ?_, hn⟩, rfl, q _ d ?_ ?_ ?_ (I.hok.fresh hd)⟩
    · rw [List.length_map, List.length_map]
      exact hlen
    · rw [em]
      exact vals_back vb
    · rw [e2', ← kits]
      exact h2.perm.map _
    · intro x hx
      obtain ⟨v, hv, rfl⟩ := List.mem_map.mp hx
      obtain ⟨p, hp, rfl⟩ := h3 v hv
      rw [kk p hp]
      exact hp
    · rw [e2', List.pairwise_map]
      exact h1
section
variable {K : PySem.W.Frag} {S S1 : SS} {x : SD} {te : TE}
def prD (x : Int × Int) : PyData := .tuple [.int x.1, .int x.2]
theorem prs_of {Hf : Hp} : ∀ {xs : List (Int × Int)} {zs : List V}, RpA K Hf zs (xs.map prD) → ∃ ks : List (Addr × Int × Int), zs = ks.map (fun p => V.ref p.1) ∧ ks.map (·.2) = xs ∧ ∀ p ∈ ks, SqT K Hf p.1 [.int p.2.1, .int p.2.2]
  | [], _, .nil => ⟨[], rfl, rfl, fun _ z => by cases z⟩
  | x :: xs, _, .cons h t => by
    obtain ⟨ks, e1, e2, e3⟩ := prs_of t
    cases h with
    | tup h1 h2 =>
      rename_i a us
      have := RpA.ints_inv (ns := [x.1, x.2]) h2
      subst this
      refine ⟨(a, x) :: ks, by rw [e1]; rfl, by rw [List.map_cons, e2], fun p hp => ?_⟩
      rcases List.mem_cons.mp hp with rfl | hp
      · exact h1
      · exact e3 p hp
theorem rp_prs {Hf : Hp} : ∀ {ks : List (Addr × Int × Int)}, (∀ p ∈ ks, SqT K Hf p.1 [.int p.2.1, .int p.2.2]) → RpA K Hf (ks.map fun p => V.ref p.1) ((ks.map (·.2)).map prD)
  | [], _ => .nil
  | p :: ks, h => .cons (.tup (h p List.mem_cons_self) (RpA.ints [p.2.1, p.2.2])) (rp_prs fun q hq => h q (List.mem_cons_of_mem _ hq))
/-- sorted(xs): ys is what any such list must be -/
theorem rcl_sortP {xs ys : List (Int × Int)} (hx : AsD S x (.list (xs.map prD))) (hy : ∀ zs : List (Int × Int), zs.Perm xs → zs.Pairwise (fun x y => SrtO.lexB y x = false) → zs = ys) : RcL K (rSortedPS K) [x] S (ys.map prD) S := fun c Hf H σ fp ok vs r Q q => by
  obtain ⟨v, rfl, rv⟩ := r.one
  obtain ⟨a, zs, rfl, h1, h2⟩ := ok.asL rv hx
  obtain ⟨ks, rfl, e2, e3⟩ := prs_of h2
  refine ⟨a, ks, rfl, .inl (.inl h1), fun p hp => sameT ok.hd.ex (e3 p hp), fun kt p hperm hsub hpw hp => ?_⟩
  have ez : kt.map (·.2) = ys := hy _ (by rw [← e2]; exact hperm) hpw
  obtain ⟨ok2, g2, al⟩ := ok.alone (xs := kt.map fun q => V.ref q.1) (ds := ys.map prD) hp (by
    rw [← ez]
    exact rp_prs fun x hx => e3 x (hsub x hx))
  exact q p _ _ _ ok2 g2 hp al
end
end DL

set_option maxRecDepth 100000
set_option maxHeartbeats 1000000
/-! DLzipM: zip of a tuple and a list -/
namespace DL
open PySem PySem.Spec PyProof.Rows L2 PySem.W
def ItzM (K : PySem.W.Frag) (a b : Addr) : It :=
  ⟨fun i H => ∃ (xs ys : List V) (x y : V), SqT K H a xs ∧ SqL K H b ys ∧ xs[i]? = some x ∧ ys[i]? = some y,
    fun i H v H' => ∃ T x y, v = .ref T ∧ H T = none ∧ H' = upd H T (.tup [x, y]) ∧ (∀ xs, SqT K H a xs → xs[i]? = some x) ∧ ∀ ys, SqL K H b ys → ys[i]? = some y,
    fun i H => ∃ xs ys : List V, SqT K H a xs ∧ SqL K H b ys ∧ i ≤ xs.length ∧ i ≤ ys.length ∧ (i = xs.length ∨ i = ys.length)⟩
theorem turn_zipM {P : Program} {w : World} {K : PySem.W.Frag} {elts : List Expr} {kk : Nat} {tpos : Pos} {a b z TI TO i1 i2 : Addr} (D : ZipSep2 z TI TO i1 i2 [i1, a] [i2, b]) (ha : a ≠ i1) (hb : b ≠ i2) :
    Turn P w K (.Tuple elts kk tpos) (ItzM K a b) [z, TI, TO, i1, i2] z (fun i h => IsZip h z TI TO .none ∧ IsTupOf2 h TI (.ref i1) (.ref i2) ∧ (∃ x y, IsTupOf2 h TO x y) ∧ h.IsTupleIter i1 a i ∧ h.IsListIter i2 b i) where
  mem := List.mem_cons_self
  obj := fun i h ⟨hz, hTI, ⟨x, y, hTO⟩, ⟨o1, e1, _, d1⟩, ⟨o2, e2, _, d2⟩⟩ c hc => by
    have e' : c = z ∨ c = TI ∨ c = TO ∨ c = i1 ∨ c = i2 := by simpa using hc
    rcases e' with rfl | rfl | rfl | rfl | rfl
    · exact ⟨_, hz, fun v q => nomatch q⟩
    · exact ⟨_, hTI, fun v q => nomatch q⟩
    · exact ⟨_, hTO, fun v q => nomatch q⟩
    · exact ⟨o1, e1, fun v q => by rw [d1] at q; cases q⟩
    · exact ⟨o2, e2, fun v q => by rw [d2] at q; cases q⟩
  keep := fun i h h' ⟨hz, hTI, ⟨x, y, hTO⟩, h1, h2⟩ k =>
    ⟨k z (by simp) _ hz, k TI (by simp) _ hTI, ⟨x, y, k TO (by simp) _ hTO⟩, h1.at fun o q => k i1 (by simp) o q, h2.at fun o q => k i2 (by simp) o q⟩
  item := by
    intro X hP hw hK hc i pins s σ H E I hf st hg
    subst hP hw hK
    obtain ⟨hz, hTI, ⟨x0, y0, hTO⟩, h1, h2⟩ := st
    obtain ⟨xs, ys, x, y, hqx, hqy, hx, hy⟩ := hg
    obtain ⟨its, rv, p, _⟩ := I.tuple hqx
    obtain ⟨its2, rv2, p2, _⟩ := I.list hqy
    obtain ⟨u, hu, ru⟩ := rv.get hx
    obtain ⟨u2, hu2, ru2⟩ := rv2.get hy
    have lt1 : i < its.toArray.size := by
      have := (List.getElem?_eq_some_iff.mp hu).1
      simpa using this
    have lt2 : i < its2.toArray.size := by
      have := (List.getElem?_eq_some_iff.mp hu2).1
      simpa using this
    have hh : X.A.in1.handled = none := I.ok.hd hc
    refine wpAny_pyNext_zipD2_item D (Draws.tuple hh i1 a ha its.toArray) (Draws.list hh i2 b hb its2.toArray) hz hTI hTO ⟨h1, p⟩ ⟨h2, p2.isList⟩ lt1 lt2 fun v1 v2 h' tk k1 k2 z' TO' st1 st2 hT hsz hk => ?_
    have ev1 : v1 = u := by
      have k1 : its.toArray[i]? = some v1 := k1
      rw [List.getElem?_toArray, hu] at k1
      exact (Option.some.inj k1).symm
    have ev2 : v2 = u2 := by
      have k2 : its2.toArray[i]? = some v2 := k2
      rw [List.getElem?_toArray, hu2] at k2
      exact (Option.some.inj k2).symm
    subst ev1
    subst ev2
    have hzl : z < s.heap.objs.size := Heap.lt_size hz
    refine ⟨_, rfl, wpAny_letOwnedTupleGo_zip (s := { s with heap := h', toks := tk }) z' fun h'' z'' sb => ?_⟩
    have new : ObjOk X.prog X.w (upd H s.heap.objs.size (.tup [x, y])) h'' s.heap.objs.size (.tup [x, y]) :=
      ⟨by show 2 ≤ sizeLine; decide, [v1, v2], .cons ru (.cons ru2 .nil), ⟨_, (sb.2 _ (Nat.ne_of_gt hzl)).trans hT, rfl, _, rfl⟩⟩
    have I1 : Inv X pins σ (upd H s.heap.objs.size (.tup [x, y])) { s with heap := h'', toks := tk } :=
      I.turnedNew (t' := tk) (ch := [z, TI, TO, i1, i2]) (fun c o hb q => (sb.2 c (fun q' => hb (by simp [q']))).trans (hk c o (fun q' => hb (by simp [q'])) (fun q' => hb (by simp [q'])) (fun q' => hb (by simp [q'])) (fun q' => hb (by simp [q'])) q)) hf (Nat.le_refl _) new
    have ni1 : i1 ≠ z := fun e => D.zi1 e.symm
    have ni2 : i2 ≠ z := fun e => D.zi2 e.symm
    refine ⟨.ref s.heap.objs.size, _, I1, rfl, ⟨_, x, y, rfl, I.hok.fresh (Nat.le_refl _), rfl, fun l hl => by rw [I.tuple_inj hl hqx]; exact hx, fun l hl => by rw [I.list_inj hl hqy]; exact hy⟩, ⟨z'', ?_, ⟨v1, v2, ?_⟩, ?_, ?_⟩, fun c hcm => ?_⟩
    · exact (sb.2 _ D.TIz).trans (hk _ _ D.TIz D.TITO D.TIi1 D.TIi2 hTI)
    · exact (sb.2 _ D.TOz).trans TO'
    · exact st1.1.at fun o q => (sb.2 _ ni1).trans q
    · exact st2.1.at fun o q => (sb.2 _ ni2).trans q
    · have hlt : c < s.heap.objs.size := by
        have e' : c = z ∨ c = TI ∨ c = TO ∨ c = i1 ∨ c = i2 := by simpa using hcm
        obtain ⟨_, f1, _⟩ := h1
        obtain ⟨_, f2, _⟩ := h2
        rcases e' with rfl | rfl | rfl | rfl | rfl
        · exact hzl
        · exact Heap.lt_size hTI
        · exact Heap.lt_size hTO
        · exact Heap.lt_size f1
        · exact Heap.lt_size f2
      rw [upd_ne (Nat.ne_of_lt hlt)]
      exact (hf c hcm).1
  done := by
    intro X hP hw hK hc i pins s σ H E I hf st hg
    subst hP hw hK
    obtain ⟨hz, hTI, ⟨x0, y0, hTO⟩, h1, h2⟩ := st
    obtain ⟨xs, ys, hqx, hqy, le1, le2, hend⟩ := hg
    obtain ⟨its, rv, p, _⟩ := I.tuple hqx
    obtain ⟨its2, rv2, p2, _⟩ := I.list hqy
    have s1 : its.toArray.size = xs.length := by rw [List.size_toArray, rv.length]
    have s2 : its2.toArray.size = ys.length := by rw [List.size_toArray, rv2.length]
    have hh : X.A.in1.handled = none := I.ok.hd hc
    exact wpAny_pyNext_zipD2_end D (Draws.tuple hh i1 a ha its.toArray) (Draws.list hh i2 b hb its2.toArray) hz hTI hTO ⟨h1, p⟩ ⟨h2, p2.isList⟩ (by omega) (by omega) (by omega) fun h' tk hk => ⟨rfl, I.turnedL (t' := tk) (ch := [z, TI, TO, i1, i2]) (fun c o hb q =>
      hk c o (fun q' => hb (by simp [q'])) (fun q' => hb (by simp [q'])) (fun q' => hb (by simp [q'])) (fun q' => hb (by simp [q'])) q) hf⟩
  self := fun A i s Q E st h => wpAny_pyIter_zip st.1 h
def iZipM (K : PySem.W.Frag) (ta : TA) : TI := fun σ H R => RZ.iZipA K ta σ H R ∨ ta σ H fun vs H1 => ∃ a b xs ys, vs = [.ref a, .ref b] ∧ SqT K H1 a xs ∧ SqL K H1 b ys ∧ R (ItzM K a b) H1
theorem pi_zipM {X : Cx} {e e2 : Expr} {ta : TA} {p pos tpos : Pos} {elts : List Expr} {kk : Nat} (hg : Gl X "zip") (hm : X.mg "zip" = none) (ha : PA X [e, e2] ta)
    (hs : starEach [e, e2] X.env = (false, eval e X.env) :: starEach [e2] X.env := by rfl) (hpl : (backTo pos (starEach [e2] X.env)).any (·.1) = false := by rfl) :
    PI X (.Tuple elts kk tpos) (.Call (.Name "zip" p) [e, e2] [] pos) (iZipM X.K ta) := by
  refine ⟨fun pins s σ H R I h => ?_⟩
  rcases h with h | h
  · exact (RZ.pi_zipA hg hm ha hs hpl).run pins s σ H R I h
  refine Call_ (ld_blt I hg hm PyProof.Rows.boot_zip (PyProof.Rows.callWith_type1 (thn (ha.run pos pins s σ H _ I h) fun us s1 ⟨vs, H1, I1, r1, q1⟩ => ?_) hs hpl))
  obtain ⟨a, b, xs, ys, rfl, hqx, hqy, q⟩ := q1
  cases r1 with
  | cons r rr =>
    cases rr with
    | cons r' rr =>
      cases rr
      cases r
      cases r'
      obtain ⟨its, rv, p1, _⟩ := I1.tuple hqx
      obtain ⟨its2, rv2, p2, _⟩ := I1.list hqy
      have la : a < s1.heap.objs.size := by
        obtain ⟨o, ho, _⟩ := p1
        exact Heap.lt_size ho
      have lb : b < s1.heap.objs.size := p2.lt
      have fresh5 : ∀ c, c ∈ [s1.heap.objs.size + 4, s1.heap.objs.size + 2, s1.heap.objs.size + 3, s1.heap.objs.size, s1.heap.objs.size + 1] → FpOk X pins H1 c := fun c hcm => by
        have hle : s1.heap.objs.size ≤ c := by
          have e' : c = s1.heap.objs.size + 4 ∨ c = s1.heap.objs.size + 2 ∨ c = s1.heap.objs.size + 3 ∨ c = s1.heap.objs.size ∨ c = s1.heap.objs.size + 1 := by simpa using hcm
          omega
        exact I1.fpOk hle (I1.hok.fresh hle)
      refine zip_begins2 (begins_tuple a its.toArray) (begins_list b its2.toArray) p1 p2.isList fun h' hz hTI hTO h1 h2 hsz hk => wpAny_pyIter_zip hz ?_
      have I2 : Inv X pins σ H1 { s1 with heap := h' } := I1.kept (t' := s1.toks) hk
      have S : ZipSep2 (s1.heap.objs.size + 4) (s1.heap.objs.size + 2) (s1.heap.objs.size + 3) s1.heap.objs.size (s1.heap.objs.size + 1) [s1.heap.objs.size, a] [s1.heap.objs.size + 1, b] := zip_sep2 (fun c hc => by rw [List.mem_singleton.mp hc]; exact la) (fun c hc => by rw [List.mem_singleton.mp hc]; exact lb)
      exact ⟨s1.heap.objs.size + 4, [s1.heap.objs.size + 4, s1.heap.objs.size + 2, s1.heap.objs.size + 3, s1.heap.objs.size, s1.heap.objs.size + 1], _, _, H1, rfl, I2, turn_zipM S (Nat.ne_of_lt la) (Nat.ne_of_lt (Nat.lt_succ_of_lt lb)), ⟨hz, hTI, ⟨_, _, hTO⟩, ⟨_, h1, rfl, rfl⟩, ⟨_, h2, rfl, rfl⟩⟩, fresh5, q⟩
/-! ### as data -/
theorem walk_zipM {K : PySem.W.Frag} {a b : Addr} {xs ys : List V} : Walk (ItzM K a b) (min xs.length ys.length) (fun H => SqT K H a xs ∧ SqL K H b ys) (YPair (fun i => xs[i]?) (fun i => ys[i]?)) :=
  ⟨fun i _ hi q => ⟨xs, ys, xs[i]'(by omega), ys[i]'(by omega), q.1, q.2, List.getElem?_eq_getElem _, List.getElem?_eq_getElem _⟩, fun _ q => ⟨xs, ys, q.1, q.2, by omega, by omega, by omega⟩, fun i H v H' _ q y => by
    obtain ⟨T, x, z, e1, e2, e3, e4, e5⟩ := y
    exact ⟨T, x, z, e1, e2, e3, e4 xs q.1, e5 ys q.2⟩⟩
section
variable {K : PySem.W.Frag} {S S1 : SS}
theorem ei_zipMT {tas : TA} {xs ys : List PyData} (h : Ed K tas S [.tuple xs, .tuple ys] S1) : Ei K (iZipM K tas) S (zipD xs ys) S1 := fun c Hf H σ fp ok R q => .inl (ei_zipT h c Hf H σ fp ok R q)
theorem ei_zipML {tas : TA} {xs ys : List PyData} (h : Ed K tas S [.tuple xs, .list ys] S1) : Ei K (iZipM K tas) S (zipD xs ys) S1 := fun c Hf H σ fp ok R q => .inr (h c Hf H σ fp ok _ fun v Hf1 H1 fp1 ok1 g1 r1 => by
  cases r1 with
  | cons r1 rr => cases rr with
    | cons r2 rr =>
      cases rr
      cases r1 with
      | tup h1 h2 => cases r2 with
        | lst h3 h4 =>
          refine ⟨_, _, _, _, rfl, sameT ok1.hd.ex h1, .inl (.inl (ok1.hd.ex _ _ h3)), q _ Hf1 H1 fp1 ok1 g1 (wk_of walk_zipM ((zipD_len xs ys).trans (by rw [h2.len, h4.len])) (fun Hf2 H2 e1 e2 => ⟨sameT e2 (sameT e1 h1), .inl (.inl (e2 _ _ (e1 _ _ h3)))⟩) fun i d Hf2 H2 x H3 e1 e2 hd y => .inr (zip_pair h2 h4 e1 e2 hd y))⟩)
theorem ei_zipLL {tas : TA} {xs ys : List PyData} (h : Ed K tas S [.list xs, .list ys] S1) : Ei K (RZ.iZipA K tas) S (zipD xs ys) S1 := fun c Hf H σ fp ok R q => h c Hf H σ fp ok _ fun v Hf1 H1 fp1 ok1 g1 r1 => by
  cases r1 with
  | cons r1 rr => cases rr with
    | cons r2 rr =>
      cases rr
      cases r1 with
      | lst h1 h2 => cases r2 with
        | lst h3 h4 =>
          refine ⟨_, _, _, _, rfl, .inl ⟨.inl (.inl (ok1.hd.ex _ _ h1)), .inl (.inl (ok1.hd.ex _ _ h3)), q _ Hf1 H1 fp1 ok1 g1 (wk_of (walk_zip rfl) ((zipD_len xs ys).trans (by rw [h2.len, h4.len])) (fun Hf2 H2 e1 e2 => ⟨.inl (.inl (e2 _ _ (e1 _ _ h1))), .inl (.inl (e2 _ _ (e1 _ _ h3)))⟩) fun i d Hf2 H2 x H3 e1 e2 hd y => .inr (zip_pair h2 h4 e1 e2 hd y))⟩⟩
end
end DL

set_option maxRecDepth 100000
set_option maxHeartbeats 1000000
/-! DLown: a walk over a list of own lists; a ^ b of bits -/
namespace DL
open PySem PySem.Spec PyProof.Rows L2
section
variable {K : PySem.W.Frag} {S : SS} {E : DE} {tbd : TS}
theorem ts_forL {ks : List Nat} {m n : Nat} (hs : S.sl[m]? = some (.lown ks)) (Pv : Nat → SS → Prop) (h0 : Pv 0 S)
    (hst : ∀ (i k : Nat) (S' : SS), ks[i]? = some k → Pv i S' → Ts K tbd { S' with sl := S'.sl.set n (.own k) } { nx := Pv (i + 1), rt := E.rt, bk := E.nx, ct := Pv (i + 1) }) (hd : ∀ S', Pv ks.length S' → E.nx S') :
    Ts K (tFor (iList K (tVar m)) (gName n) tbd) S E := fun c Hf H σ fp ok D nx r bk ct => by
    unfold tFor iList
    refine ee_var hs (fun z => by cases z) c Hf H σ fp ok _ fun v Hf1 H1 fp1 ok1 g1 r1 => ?_
    obtain ⟨a, xs, rfl, h1, h2, h3⟩ := r1
    refine ⟨_, rfl, ⟨_, .inl (.inl (ok1.hd.ex _ _ h1))⟩, ?_⟩
    have W := walk_list (K := K) (a := a) (xs := xs)
    refine ⟨fun i mm σ' H' => mm = ks.length - i ∧ i ≤ ks.length ∧ ∃ S' Hf' fp', Okk K c Hf' H' σ' fp' S' ∧ Gr Hf H fp Hf' H' fp' ∧ Same Hf1 Hf' ∧ fp1 <+: fp' ∧ Pv i S', ⟨ks.length, by simp, Nat.zero_le _, S, Hf1, fp1, ok1, g1, Same.refl _, List.prefix_rfl, h0⟩, ?_⟩
    rintro i mm σ' H' ⟨rfl, hi, S', Hf', fp', ok', g', s', pr, p⟩
    have hG : SqL K H' a xs := .inl (.inl (ok'.hd.ex _ _ (s' _ _ h1)))
    by_cases hlt : i < ks.length
    · refine .inr ⟨W.goes i H' (by rw [h2]; exact hlt) hG, fun σ2 H2 => ∃ S' Hf' fp', Okk K c Hf' H2 σ2 fp' S' ∧ Gr Hf H fp Hf' H2 fp' ∧ Same Hf1 Hf' ∧ fp1 <+: fp' ∧ Pv (i + 1) S', fun σ2 H2 ⟨S2, Hf2, fp2, a1, a2, a3, a4, a5⟩ => ⟨ks.length - (i + 1), by omega, rfl, hlt, S2, Hf2, fp2, a1, a2, a3, a4, a5⟩, fun x H2 y => ?_⟩
      obtain ⟨rfl, y2⟩ := W.yields i H' x H2 (by rw [h2]; exact hlt) hG y
      obtain ⟨b, rr, q1, rfl⟩ := h3 i ks[i] x (List.getElem?_eq_getElem hlt) y2
      have sr : SRl K Hf' fp' (some (V.ref b)) (.own ks[i]) := ⟨b, rr, pre_get pr q1, rfl⟩
      have hg : ∀ Q : L2.St → Hp → Prop, (∀ σ'', Okk K c Hf' H2 σ'' fp' { S' with sl := S'.sl.set n (.own ks[i]) } → Q σ'' H2) → gName n (V.ref b) σ' H2 Q := fun Q q => q _ (ok'.put (x := .own ks[i]) sr)
      refine hg _ fun σ3 ok3 => hst i ks[i] S' (List.getElem?_eq_getElem hlt) p c Hf' H2 σ3 fp' ok3 _ (fun S4 Hf4 H4 σ4 fp4 ok4 g4 p4 => ⟨S4, Hf4, fp4, ok4, g'.trans g4, s'.trans g4.sm, pr.trans g4.pr, p4⟩)
        (fun x S4 v Hf4 H4 σ4 fp4 ok4 g4 sr p4 => r x S4 v Hf4 H4 σ4 fp4 ok4 (g'.trans g4) sr p4) (fun S4 Hf4 H4 σ4 fp4 ok4 g4 p4 => nx S4 Hf4 H4 σ4 fp4 ok4 (g'.trans g4) p4)
        (fun S4 Hf4 H4 σ4 fp4 ok4 g4 p4 => ⟨S4, Hf4, fp4, ok4, g'.trans g4, s'.trans g4.sm, pr.trans g4.pr, p4⟩)
    · have e : i = ks.length := by omega
      subst e
      refine .inl ⟨?_, nx S' Hf' H' σ' fp' ok' g' (hd S' p)⟩
      have := W.stops H' hG
      rw [h2] at this
      exact this
/-- a ^ b, bits as Nat -/
theorem bxor_nat (a b : Nat) : Builtin.bitXor (a : Int) (b : Int) = ((a ^^^ b : Nat) : Int) := by
  rw [Bits.bitXor_pp (Int.natCast_nonneg a) (Int.natCast_nonneg b), Int.toNat_natCast, Int.toNat_natCast]
theorem ro_bxor {a b : Nat} : Ro K (rI0 fun i j => .int (Builtin.bitXor i j)) (.dat (.int (a : Int))) (.dat (.int (b : Int))) S (.dat (.int ((a ^^^ b : Nat) : Int))) S := ro_I0 fun _ => by
  rw [bxor_nat]
  exact Rp.int _
end
end DL

set_option maxRecDepth 100000
set_option maxHeartbeats 1000000
/-! DLdt: own dicts whose keys are tuples of numbers -/
namespace DL
open PySem PySem.Spec PyProof.Rows L2
/-! ### the rows as data -/
theorem set_self {α : Type} {l : List α} {k : Nat} {x : α} (h : l[k]? = some x) : l.set k x = l := by
  obtain ⟨h1, h2⟩ := List.getElem?_eq_some_iff.mp h
  subst h2
  exact List.set_getElem_self h1
def hasT (kv : List (List Int × PyData)) (k : List Int) : Bool := kv.any fun p => decide (p.1 = k)
def valT (kv : List (List Int × PyData)) (k : List Int) : Option PyData := (kv.find? fun p => decide (p.1 = k)).map (·.2)
def putT (kv : List (List Int × PyData)) (k : List Int) (d : PyData) : List (List Int × PyData) :=
  if hasT kv k = true then kv.map (fun p => if p.1 = k then (p.1, d) else p) else kv ++ [(k, d)]
theorem inlL_inj : ∀ {a b : List Int}, a.map (Sum.inl : Int → Key) = b.map Sum.inl → a = b
  | [], [], _ => rfl
  | [], _ :: _, e => by simp at e
  | _ :: _, [], e => by simp at e
  | x :: a, y :: b, e => by
    rw [List.map_cons, List.map_cons] at e
    injection e with e1 e2
    rw [Sum.inl.inj e1, inlL_inj e2]
theorem kV_inl (ks : List Int) : (ks.map (Sum.inl : Int → Key)).map kV = ks.map V.int := by
  rw [List.map_map]
  rfl
section
variable {K : PySem.W.Frag} {Hf : Hp}
theorem KvR.val {kvs : List (List Key × V)} {kv : List (List Int × PyData)} (r : KvR K Hf kvs kv) (k : List Int) :
    (valV kvs (k.map Sum.inl) = none ∧ valT kv k = none) ∨ ∃ v d, valV kvs (k.map Sum.inl) = some v ∧ valT kv k = some d ∧ Rp K Hf v d := by
  induction r with
  | nil => exact .inl ⟨rfl, rfl⟩
  | @cons p q ps qs h t ih =>
    obtain ⟨h1, h2⟩ := h
    by_cases e : q.1 = k
    · have e' : p.1 = k.map Sum.inl := by rw [h1, e]
      refine .inr ⟨p.2, q.2, valV_pos e', ?_, h2⟩
      simp [valT, List.find?_cons, e]
    · have e' : ¬ p.1 = k.map Sum.inl := fun z => e (inlL_inj (h1.symm.trans z))
      have b : valT (q :: qs) k = valT qs k := by simp [valT, List.find?_cons, e]
      rw [valV_neg e', b]
      exact ih
theorem hasT_val (kv : List (List Int × PyData)) (k : List Int) : hasT kv k = (valT kv k).isSome := by
  induction kv with
  | nil => rfl
  | cons p r ih =>
    by_cases e : p.1 = k
    · simp [hasT, valT, List.find?_cons, e]
    · have a : hasT (p :: r) k = hasT r k := by simp [hasT, e]
      have b : valT (p :: r) k = valT r k := by simp [valT, List.find?_cons, e]
      rw [a, b, ih]
theorem KvR.has {kvs : List (List Key × V)} {kv : List (List Int × PyData)} (r : KvR K Hf kvs kv) (k : List Int) : (valV kvs (k.map Sum.inl)).isSome = hasT kv k := by
  rw [hasT_val]
  rcases r.val k with ⟨a, b⟩ | ⟨v, d, a, b, _⟩
  · rw [a, b]
    rfl
  · rw [a, b]
    rfl
theorem KvR.put {kvs : List (List Key × V)} {kv : List (List Int × PyData)} (r : KvR K Hf kvs kv) (k : List Int) {v : V} {d : PyData} (rv : Rp K Hf v d) : KvR K Hf (putK kvs (k.map Sum.inl) v) (putT kv k d) := by
  have e := r.has k
  rw [← valV_any] at e
  unfold putK putT
  rw [e]
  by_cases a : hasT kv k = true
  · rw [if_pos a, if_pos a]
    clear a e
    induction r with
    | nil => exact .nil
    | @cons p q ps qs h t ih =>
      rw [List.map_cons, List.map_cons]
      refine .cons ?_ ih
      obtain ⟨h1, h2⟩ := h
      by_cases e : q.1 = k
      · have e' : p.1 = k.map Sum.inl := by rw [h1, e]
        rw [if_pos e, if_pos e']
        exact ⟨h1, rv⟩
      · have e' : ¬ p.1 = k.map Sum.inl := fun z => e (inlL_inj (h1.symm.trans z))
        rw [if_neg e, if_neg e']
        exact ⟨h1, h2⟩
  · rw [if_neg a, if_neg a]
    exact Paired.snoc r ⟨rfl, rv⟩
theorem KvR.len {kvs : List (List Key × V)} {kv : List (List Int × PyData)} (r : KvR K Hf kvs kv) : kvs.length = kv.length := Paired.length r
theorem KvR.mono {Hf' : Hp} {kvs : List (List Key × V)} {kv : List (List Int × PyData)} (r : KvR K Hf kvs kv) (e : Same Hf Hf') : KvR K Hf' kvs kv := Paired.mapP r fun _ _ z => ⟨z.1, z.2.mono e⟩
theorem KvR.keys {kvs : List (List Key × V)} {kv : List (List Int × PyData)} (r : KvR K Hf kvs kv) : kvs.map Prod.fst = (kv.map Prod.fst).map (List.map Sum.inl) := by
  induction r with
  | nil => rfl
  | @cons p q ps qs h t ih => rw [List.map_cons, List.map_cons, List.map_cons, ih, h.1]
end
theorem putT_len (kv : List (List Int × PyData)) (k : List Int) (d : PyData) : (putT kv k d).length ≤ kv.length + 1 := by
  unfold putT
  split
  · rw [List.length_map]
    omega
  · rw [List.length_append, List.length_singleton]
    omega
theorem hasT_iff {kv : List (List Int × PyData)} {k : List Int} : hasT kv k = true ↔ k ∈ kv.map Prod.fst := by
  unfold hasT
  rw [List.any_eq_true, List.mem_map]
  exact ⟨fun ⟨p, h1, h2⟩ => ⟨p, h1, of_decide_eq_true h2⟩, fun ⟨p, h1, h2⟩ => ⟨p, h1, decide_eq_true h2⟩⟩
theorem putT_new {kv : List (List Int × PyData)} {k : List Int} {d : PyData} (h : hasT kv k = false) : putT kv k d = kv ++ [(k, d)] := by
  unfold putT
  rw [h, if_neg (by decide)]

section
variable {K : PySem.W.Frag} {S S1 S2 S3 : SS} {ta tb te td ty tv : TE} {E : DE} {k i : Nat} {ks : List Int} {kv : List (List Int × PyData)}
variable {c : Addr → Prop} {Hf H : Hp} {σ : L2.St} {fp : List (List Addr)}
theorem eo_newdt : Ee K tDNewT S (.own S.ob.length) { S with ob := S.ob ++ [.dtt []] } := fun c Hf H σ fp ok Q q p hp => by
  obtain ⟨ok2, g2, nm, nc⟩ := ok.apart (.dT []) hp
  have hf := ok.hd.ex.free hp
  refine q _ Hf _ (fp ++ [[p]]) ⟨ok2.hd.ownO ⟨_, upd_same⟩ hf nm ⟨p, [], rfl, upd_same, .nil⟩ (fun ds z => by cases z), ok2.ln, fun i d e => ?_⟩ (g2.own hp) ⟨p, [], ?_, rfl⟩
  · obtain ⟨x, q1, q2⟩ := ok2.sr i d e
    exact ⟨x, q1, q2.mono (Same.refl _) (List.prefix_append _ _)⟩
  · rw [← ok.hd.fl, List.getElem?_concat_length]
theorem Okk.dtt (ok : Okk K c Hf H σ fp S) (ho : S.ob[k]? = some (.dtt kv)) {v : V} (r : SRl K Hf fp (some v) (.own k)) :
    ∃ a kvs, v = .ref a ∧ fp[k]? = some [a] ∧ H a = some (.dT kvs) ∧ KvR K Hf kvs kv := by
  obtain ⟨a, q, h1, h2⟩ := r
  obtain ⟨a', kvs, e, h3, h4⟩ := ok.hd.oo k _ _ h1 ho
  have e2 : a = a' ∧ q = [] := by simpa using e
  obtain ⟨rfl, rfl⟩ := e2
  exact ⟨a, kvs, h2, h1, h3, h4⟩
/-- a new tuple of numbers: a key -/
def Ek (K : PySem.W.Frag) (te : TE) (S : SS) (ks : List Int) (S' : SS) : Prop := ∀ c Hf H σ fp, Okk K c Hf H σ fp S → ∀ Q : VK,
  (∀ p Hf' H' fp', Okk K c Hf' H' σ fp' S' → Gr Hf H fp Hf' H' fp' → Hf' p = some (.tup (ks.map V.int)) → Q (.ref p) H') → te σ H Q
theorem ek_tup {tas : TA} (ha : Ed K tas S (ks.map PyData.int) S1) (hz : ks.length ≤ 1000000 := by first | decide | (simp; done) | (simp; omega)) : Ek K (tTup tas) S ks S1 := fun c Hf H σ fp ok Q q =>
  ha c Hf H σ fp ok _ fun vs Hf1 H1 fp1 ok1 g1 r1 => by
    obtain rfl := RpA.ints_inv (SRA.rp r1)
    refine ⟨by
      rw [List.length_map]
      exact Nat.le_trans hz (by decide), fun p hp => ?_⟩
    obtain ⟨ok2, g2⟩ := ok1.laid (.tup (ks.map V.int)) hp
    exact q _ _ _ _ ok2 (g1.trans g2) upd_same
/-- k in d -/
theorem ee_dtIn (hk : Ek K ty S ks S1) (hd : Ee K td S1 (.own k) S2) (ho : S2.ob[k]? = some (.dtt kv)) : Ee K (tDIn ty td) S (.dat (.bool (hasT kv ks))) S2 := fun c Hf H σ fp ok Q q =>
  hk c Hf H σ fp ok _ fun p Hf1 H1 fp1 ok1 g1 hp => hd c Hf1 H1 σ fp1 ok1 _ fun v Hf2 H2 fp2 ok2 g2 r2 => by
    obtain ⟨a, kvs, rfl, _, h2, h3⟩ := ok2.dtt ho r2
    refine ⟨a, valV kvs (ks.map Sum.inl), rfl, DGet.t h2 (by rw [kV_inl]; exact ok2.hd.ex _ _ (g2.sm _ _ hp)), ?_⟩
    rw [h3.has]
    exact q _ _ _ _ ok2 (g1.trans g2) (Rp.bl _)
theorem ee_dtNotIn (hk : Ek K ty S ks S1) (hd : Ee K td S1 (.own k) S2) (ho : S2.ob[k]? = some (.dtt kv)) : Ee K (tDNotIn ty td) S (.dat (.bool (!hasT kv ks))) S2 := fun c Hf H σ fp ok Q q =>
  hk c Hf H σ fp ok _ fun p Hf1 H1 fp1 ok1 g1 hp => hd c Hf1 H1 σ fp1 ok1 _ fun v Hf2 H2 fp2 ok2 g2 r2 => by
    obtain ⟨a, kvs, rfl, _, h2, h3⟩ := ok2.dtt ho r2
    refine ⟨a, valV kvs (ks.map Sum.inl), rfl, DGet.t h2 (by rw [kV_inl]; exact ok2.hd.ex _ _ (g2.sm _ _ hp)), ?_⟩
    rw [h3.has]
    exact q _ _ _ _ ok2 (g1.trans g2) (Rp.bl _)
/-- d.get(k, x) -/
theorem ee_dtget2 {e : PyData} (hd : Ee K td S (.own k) S1) (ho : S1.ob[k]? = some (.dtt kv)) (hk : Ek K ty S1 ks S1) (hx : Ee K tb S1 (.dat e) S1) : Ee K (tDGet2 td ty tb) S (.dat ((valT kv ks).getD e)) S1 := fun c Hf H σ fp ok Q q =>
  hd c Hf H σ fp ok _ fun v Hf1 H1 fp1 ok1 g1 r1 => by
    obtain ⟨a, kvs, rfl, _, h2, h3⟩ := ok1.dtt ho r1
    refine ⟨a, rfl, .inr ⟨kvs, .inl h2⟩, hk c Hf1 H1 σ fp1 ok1 _ fun p Hf2 H2 fp2 ok2 g2 hp => hx c Hf2 H2 σ fp2 ok2 _ fun u2 Hf3 H3 fp3 ok3 g3 r3 => ?_⟩
    obtain ⟨b, kvs3, e1, _, h5, h6⟩ := ok3.dtt ho (r1.mono (g2.trans g3).sm (g2.trans g3).pr)
    cases e1
    refine ⟨valV kvs3 (ks.map Sum.inl), DGet.t h5 (by rw [kV_inl]; exact ok3.hd.ex _ _ (g3.sm _ _ hp)), q _ _ _ _ ok3 ((g1.trans g2).trans g3) ?_⟩
    rcases h6.val ks with ⟨z1, z2⟩ | ⟨w, d, z1, z2, z3⟩
    · rw [z1, z2]
      exact r3
    · rw [z1, z2]
      exact z3
/-- d[k] = v -/
theorem ts_dtput {d : PyData} (hv : Ee K tv S (.dat d) S1) (hd : Ee K td S1 (.own k) S2) (hk : Ek K ty S2 ks S3) (ho : S3.ob[k]? = some (.dtt kv)) (hz : kv.length < 1000000)
    (kx : E.nx { S3 with ob := S3.ob.set k (.dtt (putT kv ks d)) }) : Ts K (sDPut td ty tv) S E := fun c Hf H σ fp ok D nn r bk ct =>
  hv c Hf H σ fp ok _ fun v Hf1 H1 fp1 ok1 g1 r1 => hd c Hf1 H1 σ fp1 ok1 _ fun u Hf2 H2 fp2 ok2 g2 r2 => hk c Hf2 H2 σ fp2 ok2 _ fun p Hf3 H3 fp3 ok3 g3 hp => by
    obtain ⟨a, kvs, rfl, e0, h2, h3⟩ := ok3.dtt ho (r2.mono g3.sm g3.pr)
    have rv : Rp K Hf3 v d := (show Rp K Hf1 v d from r1).mono (g2.trans g3).sm
    obtain ⟨hd3, g4⟩ := ok3.hd.put (o' := .dtt (putT kv ks d)) (H' := upd H3 a (.dT (putK kvs (ks.map Sum.inl) v))) e0 ho (by intro z; cases z) (fun b hb => upd_ne (by simpa using hb)) ⟨a, _, rfl, upd_same, h3.put ks rv⟩ (fun b hb => by
      rw [show b = a by simpa using hb]
      exact ⟨_, upd_same⟩) (fun ds z => by cases z)
    refine ⟨a, _, rfl, DPut.t (k := ks.map Sum.inl) h2 (by rw [kV_inl]; exact ok3.hd.ex _ _ hp) (Nat.lt_of_le_of_lt (Nat.le_of_eq h3.len) (Nat.lt_of_lt_of_le hz (by decide))), ?_⟩
    exact nn { S3 with ob := S3.ob.set k (.dtt (putT kv ks d)) } _ _ _ _ ⟨hd3, ok3.ln, ok3.sr⟩ (((g1.trans g2).trans g3).trans g4) kx
/-! ### a comprehension over the keys, which are pairs; the dict is locked -/
def outK (p : Int → Int → Bool) (f : Int → Int → PyData) : List (List Int) → List PyData
  | [] => []
  | [a, b] :: r => (if p a b = true then [f a b] else []) ++ outK p f r
  | _ :: r => outK p f r
theorem outK_cons {p : Int → Int → Bool} {f : Int → Int → PyData} {a b : Int} {r : List (List Int)} : outK p f ([a, b] :: r) = (if p a b = true then [f a b] else []) ++ outK p f r := rfl
theorem outK_app {p : Int → Int → Bool} {f : Int → Int → PyData} : ∀ {l m : List (List Int)}, (∀ q ∈ l, ∃ a b, q = [a, b]) → outK p f (l ++ m) = outK p f l ++ outK p f m
  | [], m, _ => rfl
  | q :: l, m, h => by
    obtain ⟨a, b, rfl⟩ := h q (by simp)
    rw [List.cons_append, outK_cons, outK_cons, outK_app (l := l) (m := m) fun z hz => h z (List.mem_cons_of_mem _ hz), List.append_assoc]
theorem el_lockK {x y : Nat} {t : TT} {vs : List Nat} {p : Int → Int → Bool} {f : Int → Int → PyData} (hs : S.sl[i]? = some (.own k)) (ho : S.ob[k]? = some (.dtt kv)) (hk : ∀ q ∈ kv.map Prod.fst, ∃ a b, q = [a, b]) (hl : kv.length ≤ 1000000)
    (ht : ∀ a b, [a, b] ∈ kv.map Prod.fst → ∀ ob, Et K t ⟨((wipeS S.sl vs).set x (.dat (.int a))).set y (.dat (.int b)), ob⟩ (p a b) ⟨((wipeS S.sl vs).set x (.dat (.int a))).set y (.dat (.int b)), ob⟩)
    (he : ∀ a b, [a, b] ∈ kv.map Prod.fst → p a b = true → ∀ ob, Ee K te ⟨((wipeS S.sl vs).set x (.dat (.int a))).set y (.dat (.int b)), ob⟩ (.dat (f a b)) ⟨((wipeS S.sl vs).set x (.dat (.int a))).set y (.dat (.int b)), ob⟩)
    (hx : x ∈ vs := by decide) (hy : y ∈ vs := by decide) :
    El K (tLockE (tLc (iKeys (tVar i)) (gTup K 2 (gCons (gName x) (gCons (gName y) gNil))) t te vs)) S (outK p f (kv.map Prod.fst)) S := fun c Hf H σ fp ok Q q => by
  obtain ⟨w, e1, e2⟩ := ok.sr i _ hs
  cases w with
  | none => exact e2.elim
  | some v =>
  obtain ⟨a, kvs, rfl, h1, h2, h3⟩ := ok.dtt ho e2
  refine ⟨a, .dT kvs, h2, ?_, fun od => ?_⟩
  · trivial
  have hka : a ∈ fp.flatten := mem_fl h1 (by simp)
  obtain ⟨hdL, gL⟩ := ok.hd.put (o' := .raw a (.frz od (.dT kvs))) (H' := upd H a (.frz od (.dT kvs))) h1 ho (by intro z; cases z) (fun b hb => upd_ne (by simpa using hb)) ⟨rfl, upd_same⟩ (fun b hb => by
      rw [show b = a by simpa using hb]
      exact ⟨_, upd_same⟩) (fun ds z => by cases z)
  have okL : Okk K c Hf (upd H a (.frz od (.dT kvs))) σ fp ⟨S.sl, S.ob.set k (.raw a (.frz od (.dT kvs)))⟩ := ⟨hdL, ok.ln, ok.sr⟩
  have hraw : (S.ob.set k (OO.raw a (.frz od (.dT kvs))))[k]? = some (.raw a (.frz od (.dT kvs))) := List.getElem?_set_self (List.getElem?_eq_some_iff.mp ho).1
  refine ⟨_, e1, a, od, rfl, .inr ⟨kvs, upd_same, fun Dl hD => ?_⟩⟩
  have W := walk_keysT (d := a) (o := od) (kvs := kvs)
  have hDa : Dl ≠ a := fun z => by
    rw [z, upd_same] at hD
    cases hD
  have hDH : H Dl = none := by
    rw [upd_ne hDa] at hD
    exact hD
  refine ⟨fun j m H' => m = kvs.length - j ∧ j ≤ kvs.length ∧ ∃ acc Hf' fp' xs, Okk K (fun a => c a ∨ a = Dl) Hf' H' σ fp' ⟨S.sl, S.ob.set k (.raw a (.frz od (.dT kvs)))⟩ ∧ Gr Hf H fp Hf' H' fp' ∧ H' Dl = some (.lst xs) ∧ RpA K Hf' xs acc ∧ Dl ∉ fp'.flatten ∧ acc.length ≤ j ∧ acc = outK p f ((kv.map Prod.fst).take j),
    ⟨kvs.length, by simp, Nat.zero_le _, [], Hf, fp, [], ?_⟩, ?_⟩
  · obtain ⟨ok2, g2, al⟩ := okL.alone (xs := []) (ds := []) hD .nil
    refine ⟨⟨⟨ok2.hd.ex, ok2.hd.fl, ok2.hd.oo, ok2.hd.nd, ok2.hd.al, ok2.hd.nf, fun a z => ?_, fun k p ds' e1 e2 a ha z => ?_⟩, ok2.ln, ok2.sr⟩, gL.trans g2, upd_same, .nil, al.nm, Nat.le_refl _, rfl⟩
    · rcases z with z | rfl
      · exact ok2.hd.pt a z
      · exact ⟨al.hf, _, upd_same⟩
    · rcases z with z | rfl
      · exact ok2.hd.np k p ds' e1 e2 a ha z
      · exact al.nm (mem_fl e1 ha)
  rintro j m H' ⟨rfl, hj, acc, Hf', fp', xs, ok', g', hxd, hr, nm, hacc, hout⟩
  have hG : H' a = some (.frz od (.dT kvs)) := (ok'.raw hraw).2
  by_cases hlt : j < kvs.length
  · refine .inr ⟨W.goes j H' hlt hG, fun H2 => j + 1 ≤ kvs.length ∧ ∃ acc Hf' fp' xs, Okk K (fun a => c a ∨ a = Dl) Hf' H2 σ fp' ⟨S.sl, S.ob.set k (.raw a (.frz od (.dT kvs)))⟩ ∧ Gr Hf H fp Hf' H2 fp' ∧ H2 Dl = some (.lst xs) ∧ RpA K Hf' xs acc ∧ Dl ∉ fp'.flatten ∧ acc.length ≤ j + 1 ∧ acc = outK p f ((kv.map Prod.fst).take (j + 1)), fun H2 ⟨a1, a2⟩ => ⟨kvs.length - (j + 1), by omega, rfl, a1, a2⟩, fun z H2 yy => ?_⟩
    obtain ⟨rfl, key, vv, qa, k1, rfl, k2⟩ := W.yields j H' z H2 hlt hG yy
    have k3 : (kvs.map Prod.fst)[j]? = some key := by rw [List.getElem?_map, k1]; rfl
    rw [h3.keys, List.getElem?_map] at k3
    cases hke : (kv.map Prod.fst)[j]? with
    | none =>
      rw [hke] at k3
      cases k3
    | some kk =>
    rw [hke] at k3
    have k4 : kk.map Sum.inl = key := Option.some.inj k3
    have hmem : kk ∈ kv.map Prod.fst := List.mem_of_getElem? hke
    obtain ⟨a1, b1, rfl⟩ := hk kk hmem
    subst k4
    rw [kV_inl] at k2
    have hstep : (kv.map Prod.fst).take (j + 1) = (kv.map Prod.fst).take j ++ [[a1, b1]] := by
      rw [List.take_succ, hke]
      rfl
    have hout2 : outK p f ((kv.map Prod.fst).take (j + 1)) = acc ++ (if p a1 b1 = true then [f a1 b1] else []) := by
      rw [hstep, outK_app fun q hq => hk q (List.mem_of_mem_take hq), ← hout, outK_cons]
      exact congrArg (acc ++ ·) (List.append_nil _)
    refine ⟨qa, [V.int a1, V.int b1], rfl, .inl (.inl k2), rfl, ?_⟩
    have hgs : Egcs K vs (gCons (gName x) (gCons (gName y) gNil)) [.int a1, .int b1] { sl := wipeS S.sl vs, ob := S.ob.set k (.raw a (.frz od (.dT kvs))) } _ := egcs_cons (egc_name hx) (egcs_cons (egc_name hy) egcs_nil)
    refine hgs _ Hf' H2 _ fp' (ok'.wiped vs) _ (.cons (.int _) (.cons (.int _) .nil)) _ fun σ3 w3 ok3 => ⟨?_, ?_⟩
    · rw [w3, wipe_wipe σ vs vs fun _ h => h]
    refine ht a1 b1 hmem _ _ Hf' H2 σ3 fp' ok3 _ fun Hf4 H4 fp4 ok4 g4 => ?_
    have hx4 : H4 Dl = some (.lst xs) := g4.fr _ _ hxd nm
    have nm4 : Dl ∉ fp4.flatten := fun m => (g4.nw Dl m).elim nm fun z => by
      rw [hxd] at z
      cases z
    cases hb : p a1 b1 with
    | false =>
      refine iteF ⟨hlt, acc, Hf4, fp4, xs, ok'.heap ok4 g4, g'.trans g4, hx4, hr.mono g4.sm, nm4, by omega, ?_⟩
      rw [hout2, hb, if_neg (by decide), List.append_nil]
    | true =>
      refine iteT ?_
      refine he a1 b1 hmem hb _ _ Hf4 H4 σ3 fp4 ok4 _ fun v5 Hf5 H5 fp5 ok5 g5 r5 => ?_
      have hx5 : H5 Dl = some (.lst xs) := g5.fr _ _ hx4 nm4
      have nm5 : Dl ∉ fp5.flatten := fun m => (g5.nw Dl m).elim nm4 fun z => by
        rw [hx4] at z
        cases z
      have hxl : xs.length = acc.length := hr.len
      have hkl : kvs.length = kv.length := h3.len
      refine ⟨xs, hx5, Nat.lt_of_le_of_lt (show xs.length ≤ 1000000 by omega) (by decide), hlt, acc ++ [f a1 b1], Hf5, fp5, xs ++ [v5], ?_, ?_, upd_same, (hr.mono (g4.sm.trans g5.sm)).append (.cons r5 .nil), nm5, by rw [List.length_append, List.length_singleton]; omega, by rw [hout2, hb, if_pos rfl]⟩
      · have okA := ok'.heap ok5 (g4.trans g5)
        have hfD : Hf5 Dl = none := (ok5.hd.pt Dl (.inr rfl)).1
        refine ⟨⟨fun b o e => ?_, okA.hd.fl, fun k q o e1 e2 => (okA.hd.oo k q o e1 e2).mono (Same.refl _) fun b hb => upd_ne fun z => nm5 (mem_fl e1 (by rw [← z]; exact hb)), okA.hd.nd, fun a ha => ?_, okA.hd.nf, fun a z => ?_, okA.hd.np⟩, okA.ln, okA.sr⟩
        · rw [upd_ne (ne_of_none e hfD)]
          exact okA.hd.ex b o e
        · obtain ⟨o, e⟩ := okA.hd.al a ha
          exact ⟨o, by rw [upd_ne (show a ≠ Dl from fun z => nm5 (by rw [← z]; exact ha))]; exact e⟩
        · obtain ⟨z1, o, z2⟩ := okA.hd.pt a z
          refine ⟨z1, ?_⟩
          by_cases hb : a = Dl
          · rw [hb]
            exact ⟨_, upd_same⟩
          · exact ⟨o, by rw [upd_ne hb]; exact z2⟩
      · have G := (g'.trans g4).trans g5
        refine ⟨G.sm, G.pr, fun a o e n => ?_, G.nw, fun a o e => ?_⟩
        · rw [upd_ne (ne_of_none e hDH)]
          exact G.fr a o e n
        · rw [upd_ne (ne_of_none e hDH)]
          exact G.th a o e
  · have e : j = kvs.length := by omega
    subst e
    refine .inl ⟨W.stops H' hG, hG, ?_⟩
    have hfD := (ok'.hd.pt Dl (.inr rfl)).1
    obtain ⟨r1, r2⟩ := ok'.raw hraw
    obtain ⟨hdU, gU⟩ := ok'.hd.put (o' := .dtt kv) (H' := upd H' a (.dT kvs)) r1 hraw (by intro z; cases z) (fun b hb => upd_ne (by simpa using hb)) ⟨a, kvs, rfl, upd_same, h3.mono g'.sm⟩ (fun b hb => by
      rw [show b = a by simpa using hb]
      exact ⟨_, upd_same⟩) (fun ds z => by cases z)
    have eob : (S.ob.set k (OO.raw a (.frz od (.dT kvs)))).set k (.dtt kv) = S.ob := by
      rw [List.set_set]
      exact set_self ho
    rw [eob] at hdU
    have okU : Okk K (fun a => c a ∨ a = Dl) Hf' (upd H' a (.dT kvs)) σ fp' S := ⟨hdU, ok'.ln, ok'.sr⟩
    have hall : outK p f ((kv.map Prod.fst).take kvs.length) = outK p f (kv.map Prod.fst) := by
      rw [List.take_of_length_le (by rw [List.length_map, h3.len]; exact Nat.le_refl _)]
    rw [hall] at hout
    subst hout
    refine q Dl Hf' (upd H' a (.dT kvs)) fp' (okU.weak fun a z => .inl z) (g'.trans gU) hDH ⟨⟨xs, ?_, hr⟩, hfD, nm, fun z => ?_⟩
    · rw [upd_ne hDa]
      exact hxd
    · obtain ⟨_, o, z2⟩ := ok.hd.pt Dl z
      rw [hDH] at z2
      cases z2
end
/-! ### how many unlike keys: len(dict([(k, 1) ..])) -/
def rDictP (K : PySem.W.Frag) : List V → Hp → VK → Prop := fun xs H Q => ∃ (a : Addr) (ps : List Addr) (kvs : List (Key × V)), xs = [.ref a] ∧ SqL K H a (ps.map V.ref) ∧ Paired (fun p kv => SqT K H p [kV kv.1, kv.2]) ps kvs ∧
    ∀ p, H p = none → Q (.ref p) (upd H p (.dK (mergeK [] kvs)))
theorem cr_dictP {X : Cx} (hc : X.calm = true) : CallR X (.type "dict") (rDictP X.K) := call_dictP hc
def rLenD : List V → Hp → VK → Prop := fun xs H Q => ∃ (a : Addr) (kvs : List (Key × V)), xs = [.ref a] ∧ H a = some (.dK kvs) ∧ Q (.int kvs.length) H
theorem cb_lenD {X : Cx} : CallR X (.builtin "len") rLenD := fun pins s σ H xs us Q I r h => by
  obtain ⟨a, kvs, rfl, ha, q⟩ := h
  rw [Vals.ref1 r]
  exact d_len I (.inl ha) fun t s' I' => ⟨.int kvs.length, H, I', ⟨_, rfl⟩, q⟩
def kvI (ks : List Int) : List (Key × V) := ks.map fun k => (Sum.inl k, V.int 1)
theorem kvI_any (ks : List Int) (z : Int) : ((kvI ks).any fun kv => decide (kv.1 = Sum.inl z)) = decide (z ∈ ks) := by
  induction ks with
  | nil => rfl
  | cons k r ih =>
    unfold kvI at ih ⊢
    rw [List.map_cons, List.any_cons, ih]
    by_cases e : k = z
    · subst e
      simp
    · have e2 : ¬ (Sum.inl k : Key) = Sum.inl z := fun q => e (Sum.inl.inj q)
      rw [decide_eq_false e2, Bool.false_or]
      by_cases m : z ∈ r
      · rw [decide_eq_true m, decide_eq_true (List.mem_cons_of_mem _ m)]
      · rw [decide_eq_false m, decide_eq_false fun q => (List.mem_cons.mp q).elim (fun q => e q.symm) m]
theorem put_kvI (ks : List Int) (z : Int) : putK (kvI ks) (Sum.inl z) (V.int 1) = kvI (addS ks z) := by
  unfold putK addS
  rw [kvI_any]
  by_cases m : z ∈ ks
  · rw [decide_eq_true m, if_pos rfl, if_pos m]
    unfold kvI
    rw [List.map_map]
    refine List.map_congr_left fun k _ => ?_
    show (if (Sum.inl k : Key) = Sum.inl z then ((Sum.inl k : Key), V.int 1) else (Sum.inl k, V.int 1)) = _
    split <;> rfl
  · rw [decide_eq_false m, if_neg (by decide), if_neg m]
    unfold kvI
    rw [List.map_append]
    rfl
theorem merge_kvI : ∀ (ks acc : List Int), mergeK (kvI acc) (kvI ks) = kvI (ks.foldl addS acc)
  | [], _ => rfl
  | k :: ks, acc => by
    have e : mergeK (kvI acc) (kvI (k :: ks)) = mergeK (putK (kvI acc) (Sum.inl k) (V.int 1)) (kvI ks) := rfl
    rw [e, put_kvI, merge_kvI ks (addS acc k)]
    rfl
theorem pairs_ref {K : PySem.W.Frag} {Hf : Hp} : ∀ {ks : List Int} {xs : List V}, RpA K Hf xs (ks.map fun k => PyData.tuple [.int k, .int 1]) → ∃ ps : List Addr, xs = ps.map V.ref ∧ Paired (fun p kv => SqT K Hf p [kV kv.1, kv.2]) ps (kvI ks)
  | [], _, .nil => ⟨[], rfl, .nil⟩
  | k :: ks, _, .cons h t => by
    obtain ⟨ps, rfl, q⟩ := pairs_ref t
    cases h with
    | @tup a _ _ h1 h2 =>
      cases h2 with
      | cons x1 h2 => cases h2 with
        | cons x2 h2 =>
          cases h2
          cases x1
          cases x2
          exact ⟨a :: ps, rfl, .cons h1 q⟩
theorem ee_lenDict {K : PySem.W.Frag} {S S1 : SS} {te : TE} {ks : List Int} (h : Ee K te S (.dat (.list (ks.map fun k => PyData.tuple [.int k, .int 1]))) S1) : Ee K (tCB rLenD (tCons (tCB (rDictP K) (tCons te tNil)) tNil)) S (.dat (.int ((ks.foldl addS []).length : Int))) S1 := fun c Hf H σ fp ok Q q =>
  h c Hf H σ fp ok _ fun v Hf1 H1 fp1 ok1 g1 r1 => by
    cases r1 with
    | lst h1 h2 =>
      obtain ⟨ps, rfl, h3⟩ := pairs_ref h2
      refine ⟨_, ps, kvI ks, rfl, .inl (.inl (ok1.hd.ex _ _ h1)), Paired.mapP h3 fun _ _ z => sameT ok1.hd.ex z, fun p hp => ?_⟩
      obtain ⟨ok2, g2⟩ := ok1.laid (.dK (mergeK [] (kvI ks))) hp
      have e : (mergeK [] (kvI ks)).length = (ks.foldl addS []).length := by
        have := merge_kvI ks []
        rw [show kvI [] = [] from rfl] at this
        rw [this]
        unfold kvI
        rw [List.length_map]
      refine ⟨p, _, rfl, upd_same, ?_⟩
      rw [e]
      exact q _ _ _ _ ok2 (g1.trans g2) (Rp.int _)
/-! ### one of two readings; a thing frozen as it comes -/
def tAlt (t u : TE) : TE := fun σ H Q => t σ H Q ∨ u σ H Q
theorem pe_alt {X : Cx} {e : Expr} {t u : TE} (h1 : PE X e t) (h2 : PE X e u) : PE X e (tAlt t u) :=
  ⟨fun pins s σ H Q I q => q.elim (h1.run pins s σ H Q I) (h2.run pins s σ H Q I)⟩
theorem ee_altL {K : PySem.W.Frag} {S S1 : SS} {t u : TE} {r : SD} (h : Ee K t S r S1) : Ee K (tAlt t u) S r S1 := fun c Hf H σ fp ok Q q => .inl (h c Hf H σ fp ok Q q)
theorem ee_altR {K : PySem.W.Frag} {S S1 : SS} {t u : TE} {r : SD} (h : Ee K u S r S1) : Ee K (tAlt t u) S r S1 := fun c Hf H σ fp ok Q q => .inr (h c Hf H σ fp ok Q q)
def tFrz (td : TE) : TE := fun σ H Q => td σ H fun x H1 => ∃ d u, x = .ref d ∧ H1 d = some u ∧ Mut (some u) ∧ ∀ od, Q x (upd H1 d (.frz od u))
theorem pe_frz {X : Cx} {e : Expr} {t : TE} (h : PE X e t) : PE X e (tFrz t) := by
  refine ⟨fun pins s σ H Q I hw => ?_⟩
  refine thn (h.run pins s σ H _ I hw) fun v s1 ⟨x, H1, I2, r, d, u, e1, e2, mu, q⟩ => ?_
  obtain ⟨od, I3⟩ := I2.lock e2 mu
  exact ⟨x, _, I3, r, q od⟩
/-- a comprehension over the keys of a dict that is one's own, frozen as it comes and gone behind it -/
theorem el_lcKF {K : PySem.W.Frag} {S S1 : SS} {td te : TE} {k x y : Nat} {kv : List (List Int × PyData)} {t : TT} {vs : List Nat} {p : Int → Int → Bool} {f : Int → Int → PyData} (h : Ee K td S (.own k) S1) (ho : S1.ob[k]? = some (.dtt kv)) (hk : ∀ q ∈ kv.map Prod.fst, ∃ a b, q = [a, b]) (hl : kv.length ≤ 1000000)
    (ht : ∀ a b, [a, b] ∈ kv.map Prod.fst → ∀ ob, Et K t ⟨((wipeS S1.sl vs).set x (.dat (.int a))).set y (.dat (.int b)), ob⟩ (p a b) ⟨((wipeS S1.sl vs).set x (.dat (.int a))).set y (.dat (.int b)), ob⟩)
    (he : ∀ a b, [a, b] ∈ kv.map Prod.fst → p a b = true → ∀ ob, Ee K te ⟨((wipeS S1.sl vs).set x (.dat (.int a))).set y (.dat (.int b)), ob⟩ (.dat (f a b)) ⟨((wipeS S1.sl vs).set x (.dat (.int a))).set y (.dat (.int b)), ob⟩)
    (hx : x ∈ vs := by decide) (hy : y ∈ vs := by decide) :
    El K (tLc (iKeys (tFrz td)) (gTup K 2 (gCons (gName x) (gCons (gName y) gNil))) t te vs) S (outK p f (kv.map Prod.fst)) { S1 with ob := S1.ob.set k .gone } := fun c Hf H σ fp ok Q q => h c Hf H σ fp ok _ fun v Hf1 H1 fp1 ok1 g1 r1 => by
  obtain ⟨a, kvs, rfl, h1, h2, h3⟩ := ok1.dtt ho r1
  refine ⟨a, .dT kvs, rfl, h2, trivial, fun od => ⟨a, od, rfl, .inr ⟨kvs, upd_same, fun Dl hD => ?_⟩⟩⟩
  obtain ⟨hdL, gL⟩ := ok1.hd.put (o' := .raw a (.frz od (.dT kvs))) (H' := upd H1 a (.frz od (.dT kvs))) h1 ho (by intro z; cases z) (fun b hb => upd_ne (by simpa using hb)) ⟨rfl, upd_same⟩ (fun b hb => by
      rw [show b = a by simpa using hb]
      exact ⟨_, upd_same⟩) (fun ds z => by cases z)
  have okL : Okk K c Hf1 (upd H1 a (.frz od (.dT kvs))) σ fp1 ⟨S1.sl, S1.ob.set k (.raw a (.frz od (.dT kvs)))⟩ := ⟨hdL, ok1.ln, ok1.sr⟩
  have hraw : (S1.ob.set k (OO.raw a (.frz od (.dT kvs))))[k]? = some (.raw a (.frz od (.dT kvs))) := List.getElem?_set_self (List.getElem?_eq_some_iff.mp ho).1
  have W := walk_keysT (d := a) (o := od) (kvs := kvs)
  have hDa : Dl ≠ a := fun z => by
    rw [z, upd_same] at hD
    cases hD
  have hDH1 : H1 Dl = none := by
    rw [upd_ne hDa] at hD
    exact hD
  have hDH : H Dl = none := none_back g1.th hDH1
  refine ⟨fun j m H' => m = kvs.length - j ∧ j ≤ kvs.length ∧ ∃ acc Hf' fp' xs, Okk K (fun a => c a ∨ a = Dl) Hf' H' σ fp' ⟨S1.sl, S1.ob.set k (.raw a (.frz od (.dT kvs)))⟩ ∧ Gr Hf H fp Hf' H' fp' ∧ H' Dl = some (.lst xs) ∧ RpA K Hf' xs acc ∧ Dl ∉ fp'.flatten ∧ acc.length ≤ j ∧ acc = outK p f ((kv.map Prod.fst).take j),
    ⟨kvs.length, by simp, Nat.zero_le _, [], Hf1, fp1, [], ?_⟩, ?_⟩
  · obtain ⟨ok2, g2, al⟩ := okL.alone (xs := []) (ds := []) hD .nil
    refine ⟨⟨⟨ok2.hd.ex, ok2.hd.fl, ok2.hd.oo, ok2.hd.nd, ok2.hd.al, ok2.hd.nf, fun a z => ?_, fun k p ds' e1 e2 a ha z => ?_⟩, ok2.ln, ok2.sr⟩, (g1.trans gL).trans g2, upd_same, .nil, al.nm, Nat.le_refl _, rfl⟩
    · rcases z with z | rfl
      · exact ok2.hd.pt a z
      · exact ⟨al.hf, _, upd_same⟩
    · rcases z with z | rfl
      · exact ok2.hd.np k p ds' e1 e2 a ha z
      · exact al.nm (mem_fl e1 ha)
  rintro j m H' ⟨rfl, hj, acc, Hf', fp', xs, ok', g', hxd, hr, nm, hacc, hout⟩
  have hG : H' a = some (.frz od (.dT kvs)) := (ok'.raw hraw).2
  by_cases hlt : j < kvs.length
  · refine .inr ⟨W.goes j H' hlt hG, fun H2 => j + 1 ≤ kvs.length ∧ ∃ acc Hf' fp' xs, Okk K (fun a => c a ∨ a = Dl) Hf' H2 σ fp' ⟨S1.sl, S1.ob.set k (.raw a (.frz od (.dT kvs)))⟩ ∧ Gr Hf H fp Hf' H2 fp' ∧ H2 Dl = some (.lst xs) ∧ RpA K Hf' xs acc ∧ Dl ∉ fp'.flatten ∧ acc.length ≤ j + 1 ∧ acc = outK p f ((kv.map Prod.fst).take (j + 1)), fun H2 ⟨a1, a2⟩ => ⟨kvs.length - (j + 1), by omega, rfl, a1, a2⟩, fun z H2 yy => ?_⟩
    obtain ⟨rfl, key, vv, qa, k1, rfl, k2⟩ := W.yields j H' z H2 hlt hG yy
    have k3 : (kvs.map Prod.fst)[j]? = some key := by rw [List.getElem?_map, k1]; rfl
    rw [h3.keys, List.getElem?_map] at k3
    cases hke : (kv.map Prod.fst)[j]? with
    | none =>
      rw [hke] at k3
      cases k3
    | some kk =>
    rw [hke] at k3
    have k4 : kk.map Sum.inl = key := Option.some.inj k3
    have hmem : kk ∈ kv.map Prod.fst := List.mem_of_getElem? hke
    obtain ⟨a1, b1, rfl⟩ := hk kk hmem
    subst k4
    rw [kV_inl] at k2
    have hstep : (kv.map Prod.fst).take (j + 1) = (kv.map Prod.fst).take j ++ [[a1, b1]] := by
      rw [List.take_succ, hke]
      rfl
    have hout2 : outK p f ((kv.map Prod.fst).take (j + 1)) = acc ++ (if p a1 b1 = true then [f a1 b1] else []) := by
      rw [hstep, outK_app fun q hq => hk q (List.mem_of_mem_take hq), ← hout, outK_cons]
      exact congrArg (acc ++ ·) (List.append_nil _)
    refine ⟨qa, [V.int a1, V.int b1], rfl, .inl (.inl k2), rfl, ?_⟩
    have hgs : Egcs K vs (gCons (gName x) (gCons (gName y) gNil)) [.int a1, .int b1] { sl := wipeS S1.sl vs, ob := S1.ob.set k (.raw a (.frz od (.dT kvs))) } _ := egcs_cons (egc_name hx) (egcs_cons (egc_name hy) egcs_nil)
    refine hgs _ Hf' H2 _ fp' (ok'.wiped vs) _ (.cons (.int _) (.cons (.int _) .nil)) _ fun σ3 w3 ok3 => ⟨?_, ?_⟩
    · rw [w3, wipe_wipe σ vs vs fun _ h => h]
    refine ht a1 b1 hmem _ _ Hf' H2 σ3 fp' ok3 _ fun Hf4 H4 fp4 ok4 g4 => ?_
    have hx4 : H4 Dl = some (.lst xs) := g4.fr _ _ hxd nm
    have nm4 : Dl ∉ fp4.flatten := fun m => (g4.nw Dl m).elim nm fun z => by
      rw [hxd] at z
      cases z
    cases hb : p a1 b1 with
    | false =>
      refine iteF ⟨hlt, acc, Hf4, fp4, xs, ok'.heap ok4 g4, g'.trans g4, hx4, hr.mono g4.sm, nm4, by omega, ?_⟩
      rw [hout2, hb, if_neg (by decide), List.append_nil]
    | true =>
      refine iteT ?_
      refine he a1 b1 hmem hb _ _ Hf4 H4 σ3 fp4 ok4 _ fun v5 Hf5 H5 fp5 ok5 g5 r5 => ?_
      have hx5 : H5 Dl = some (.lst xs) := g5.fr _ _ hx4 nm4
      have nm5 : Dl ∉ fp5.flatten := fun m => (g5.nw Dl m).elim nm4 fun z => by
        rw [hx4] at z
        cases z
      have hxl : xs.length = acc.length := hr.len
      have hkl : kvs.length = kv.length := h3.len
      refine ⟨xs, hx5, Nat.lt_of_le_of_lt (show xs.length ≤ 1000000 by omega) (by decide), hlt, acc ++ [f a1 b1], Hf5, fp5, xs ++ [v5], ?_, ?_, upd_same, (hr.mono (g4.sm.trans g5.sm)).append (.cons r5 .nil), nm5, by rw [List.length_append, List.length_singleton]; omega, by rw [hout2, hb, if_pos rfl]⟩
      · have okA := ok'.heap ok5 (g4.trans g5)
        have hfD : Hf5 Dl = none := (ok5.hd.pt Dl (.inr rfl)).1
        refine ⟨⟨fun b o e => ?_, okA.hd.fl, fun k q o e1 e2 => (okA.hd.oo k q o e1 e2).mono (Same.refl _) fun b hb => upd_ne fun z => nm5 (mem_fl e1 (by rw [← z]; exact hb)), okA.hd.nd, fun a ha => ?_, okA.hd.nf, fun a z => ?_, okA.hd.np⟩, okA.ln, okA.sr⟩
        · rw [upd_ne (ne_of_none e hfD)]
          exact okA.hd.ex b o e
        · obtain ⟨o, e⟩ := okA.hd.al a ha
          exact ⟨o, by rw [upd_ne (show a ≠ Dl from fun z => nm5 (by rw [← z]; exact ha))]; exact e⟩
        · obtain ⟨z1, o, z2⟩ := okA.hd.pt a z
          refine ⟨z1, ?_⟩
          by_cases hb : a = Dl
          · rw [hb]
            exact ⟨_, upd_same⟩
          · exact ⟨o, by rw [upd_ne hb]; exact z2⟩
      · have G := (g'.trans g4).trans g5
        refine ⟨G.sm, G.pr, fun a o e n => ?_, G.nw, fun a o e => ?_⟩
        · rw [upd_ne (ne_of_none e hDH)]
          exact G.fr a o e n
        · rw [upd_ne (ne_of_none e hDH)]
          exact G.th a o e
  · have e : j = kvs.length := by omega
    subst e
    refine .inl ⟨W.stops H' hG, ?_⟩
    have hfD := (ok'.hd.pt Dl (.inr rfl)).1
    obtain ⟨r1', r2'⟩ := ok'.raw hraw
    obtain ⟨hdU, gU⟩ := ok'.hd.put (o' := .gone) (H' := H') r1' hraw (by intro z; cases z) (fun b _ => rfl) trivial (fun b hb => by
      rw [show b = a by simpa using hb]
      exact ⟨_, hG⟩) (fun ds z => by cases z)
    have eob : (S1.ob.set k (OO.raw a (.frz od (.dT kvs)))).set k .gone = S1.ob.set k .gone := List.set_set ..
    rw [eob] at hdU
    have okU : Okk K (fun a => c a ∨ a = Dl) Hf' H' σ fp' { S1 with ob := S1.ob.set k .gone } := ⟨hdU, ok'.ln, ok'.sr⟩
    have hall : outK p f ((kv.map Prod.fst).take kvs.length) = outK p f (kv.map Prod.fst) := by
      rw [List.take_of_length_le (by rw [List.length_map, h3.len]; exact Nat.le_refl _)]
    rw [hall] at hout
    subst hout
    refine q Dl Hf' H' fp' (okU.weak fun a z => .inl z) g' hDH ⟨⟨xs, hxd, hr⟩, hfD, nm, fun z => ?_⟩
    obtain ⟨_, o, z2⟩ := ok.hd.pt Dl z
    rw [hDH] at z2
    cases z2
end DL

set_option maxRecDepth 100000
set_option maxHeartbeats 1000000
/-! DLsd: sorted(dict(xs)), xs a list of pairs (key, value), the keys pairs of whole numbers -/
namespace DL
open PySem PySem.Spec PyProof.Rows L2
/-! ### sorted of a dict as it stands -/
theorem sorted_dictP {prog : Program} {w : World} {A : Around} {E : Value → Shared → Prop} {s : Shared} {d : Addr} {es : Array DictEntry} {ep : Nat} {k : Value → Int × Int} {Q : Value → Shared → Prop} (hd : (d == sysModules) = false) (hh : A.handled = none) (hr : s.heap.DictRaw d es ep) (hz : es.size ≤ sizeLine)
    (hk : ∀ e ∈ es.toList, Srt.IsPair s.heap e.key (k e.key).1 (k e.key).2)
    (h : ∀ (h1 h' : Heap) (tk : Nat) (out : List Value), SrtO.Srtd (fun v u => SrtO.lexB (k v) (k u)) out → out.Perm (es.toList.map (·.key)) → (∀ (b : Addr) (o : Obj), s.heap.get? b = some o → h1.get? b = some o) → (∀ (b : Addr) (o : Obj), h1.get? b = some o → h'.get? b = some o) → (∃ n, h'.get? h1.objs.size = some (seqObj "list" out.toArray n)) → Q (.ref h1.objs.size) { s with heap := h', toks := tk }) :
    wpAny (model prog w) A (call (.builtin "sorted") [.ref d]) Q E s := by
  refine Calls.call_function_entry kind_sorted plain_sorted entry_sorted (args_sorted1 _) ?_
  unfold Builtin.«sorted»
  refine wpAny_bind (m := checkCount "sorted" 1 1 _) (wpAny_pure (wpAny_bind (W.kdu_collect (KdlSrc.rawDict hd) hh hr hz fun h' tk acc keep hi => wpAny_bind (wpAny_newList ?_ ?_))))
  · have eacc : acc.toList = es.toList.map (·.key) := by
      obtain ⟨h1, h2⟩ := hi
      refine List.ext_getElem (by rw [Array.length_toList, List.length_map, Array.length_toList, h1]) fun i a b => ?_
      rw [Array.length_toList] at a
      obtain ⟨hi2, e⟩ := h2 i acc[i] (Array.getElem?_eq_getElem a)
      rw [Array.getElem_toList, e, List.getElem_map, Array.getElem_toList]
    have len : acc.toList.length = es.size := by rw [eacc, List.length_map, Array.length_toList]
    generalize acc.toList = vs at eacc len ⊢
    have new : (h'.push (seqObj "list" vs.toArray 0)).get? h'.objs.size = some (seqObj "list" vs.toArray 0) := Heap.get?_push_size _ rfl
    have old : ∀ (b : Addr) (o : Obj), h'.get? b = some o → (h'.push (seqObj "list" vs.toArray 0)).get? b = some o ∧ b < h'.objs.size := fun b o hb => ⟨Heap.get?_push_of_some _ hb, Heap.lt_size hb⟩
    show wpAny _ _ _ _ _ { s with heap := h'.push (seqObj "list" vs.toArray 0), toks := tk }
    have zv : vs.length ≤ sizeLine := by rw [len]; exact hz
    refine wpAny_bind (wpAny_holding (wpAny_call_entry slot_list_sort ⟨_, new, rfl⟩ entry_list_sort (SrtO.list_sort_ord (ltv := fun v u => SrtO.lexB (k v) (k u)) (SrtO.swo_lex k) new zv (fun h2 => ?_) fun out a b => ⟨_, rfl, wpAny_pure ⟨_, rfl, ?_⟩⟩) (args_list_sort _)))
    · refine SrtO.pairs_sortableO (by omega) (fun v hv => ?_) fun o ho => ?_
      · rw [eacc] at hv
        obtain ⟨e, he, rfl⟩ := List.mem_map.mp hv
        obtain ⟨a, o, t, u, n, z1, z2, z3, z4⟩ := hk e he
        exact ⟨a, o, t, u, n, z1, (old a o (keep a o z2)).1, z3, z4⟩
      · rw [new] at ho
        obtain rfl := Option.some.inj ho
        show Value.type "list" ≠ Value.type "tuple"
        intro z
        exact absurd (Value.type.inj z) (by decide)
    · refine h h' _ _ out a (by rw [← eacc]; exact b.perm) keep (fun b o hb => ?_) (PyProof.Rows.sortedHeap_at new)
      obtain ⟨o1, o2⟩ := old b o hb
      rw [PyProof.Rows.sortedHeap_old (Nat.ne_of_lt o2) (by rw [size_push']; exact Nat.lt_succ_of_lt o2)]
      exact o1
  · rw [Array.length_toList, hi.1]
    exact hz

/-! ### dict(xs), the keys pairs -/
def kyP (q : Int × Int) : List L2.Key := [Sum.inl q.1, Sum.inl q.2]
def backP : List L2.Key → Int × Int
  | [Sum.inl i, Sum.inl j] => (i, j)
  | _ => (0, 0)
theorem vals_refs {α : Type} {f : α → Addr} : ∀ {ps : List α} {its : List Value}, Vals (ps.map fun p => V.ref (f p)) its → its = ps.map fun p => Value.ref (f p)
  | [], _, .nil => rfl
  | p :: r, _, .cons h t => by
    rw [vals_refs t, List.map_cons]
    congr 1
def ExD (d : Addr) (ks : List (Addr × Int × Int)) (h : Heap) : Prop := (d == sysModules) = false ∧ ∃ es ep, h.DictRaw d es ep ∧ es.size ≤ sizeLine ∧ es.toList.map (·.key) = ks.map fun q => Value.ref q.1
theorem exD_stay {d : Addr} {ks : List (Addr × Int × Int)} {h1 h2 : Heap} (h : ExD d ks h1) (k : ∀ o, h1.get? d = some o → h2.get? d = some o) : ExD d ks h2 := by
  obtain ⟨a, es, ep, ⟨o, z1, z2, z3⟩, b, c⟩ := h
  exact ⟨a, es, ep, ⟨o, k o z1, z2, z3⟩, b, c⟩
theorem stored_has {K : Type} [DecidableEq K] {xs : List (K × Addr × Value)} {k : K} {a : Addr} {v : Value} : ∀ z, z ∈ (storedH xs k a v).map (·.1) ↔ z ∈ xs.map (·.1) ∨ z = k := fun z => by
  by_cases c : (atKey xs k).isSome = true
  · have e : storedH xs k a v = xs.map (putAt k v) := if_pos c
    have e2 : (xs.map (putAt k v)).map (·.1) = xs.map (·.1) := by
      rw [List.map_map]
      refine List.map_congr_left fun x _ => ?_
      show (putAt k v x).1 = x.1
      unfold putAt
      split <;> rfl
    rw [e, e2]
    refine ⟨.inl, fun h => h.elim id fun h => ?_⟩
    subst h
    unfold atKey at c
    rw [Option.isSome_map] at c
    obtain ⟨y, hy⟩ := Option.isSome_iff_exists.mp c
    have h1 := List.find?_some hy
    have h2 := List.mem_of_find?_eq_some hy
    exact List.mem_map.mpr ⟨y, h2, of_decide_eq_true h1⟩
  · have e : storedH xs k a v = xs ++ [(k, a, v)] := if_neg c
    rw [e, List.map_append, List.mem_append, List.map_cons, List.map_nil, List.mem_singleton]
theorem storedAll_has {K : Type} [DecidableEq K] : ∀ {ps xs : List (K × Addr × Value)} (z), z ∈ (storedAllH xs ps).map (·.1) ↔ z ∈ xs.map (·.1) ∨ z ∈ ps.map (·.1)
  | [], xs, z => by
    show z ∈ xs.map _ ↔ _
    simp
  | p :: ps, xs, z => by
    show z ∈ (storedAllH (storedH xs p.1 p.2.1 p.2.2) ps).map _ ↔ _
    rw [storedAll_has, stored_has, List.map_cons, List.mem_cons]
    constructor
    · rintro ((h | h) | h)
      · exact .inl h
      · exact .inr (.inl h)
      · exact .inr (.inr h)
    · rintro (h | h | h)
      · exact .inl (.inl h)
      · exact .inl (.inr h)
      · exact .inr h
def rDictT (K : PySem.W.Frag) : List V → Hp → VK → Prop := fun xs H Q => ∃ (a : Addr) (v : V) (ps : List (Addr × Addr × Int × Int)), xs = [.ref a] ∧ SqL K H a (ps.map fun p => V.ref p.1) ∧ (∀ p ∈ ps, SqT K H p.1 [.ref p.2.1, v] ∧ SqT K H p.2.1 [.int p.2.2.1, .int p.2.2.2]) ∧
  ∀ (d : Addr) (ks : List (Addr × Int × Int)), (∀ q ∈ ks, ∃ p ∈ ps, p.2 = q) → (ks.map (·.2)).Nodup → (∀ p ∈ ps, p.2.2 ∈ ks.map (·.2)) → H d = none → Q (.ref d) (upd H d (.ext (ExD d ks)))
theorem cr_dictT {X : Cx} (hc : X.calm = true) (hu : X.A.units + 100 < cLine) : CallR X (.type "dict") (rDictT X.K) := fun pins s σ H vs us Q I r h => by
  obtain ⟨a, v, ps, rfl, hs, hx, q⟩ := h
  obtain ⟨its, rv, hl, hz⟩ := I.list hs
  have eits := vals_refs (f := fun p : Addr × Addr × Int × Int => p.1) rv
  rw [Vals.ref1 r]
  -- the pairs as values
  obtain ⟨zs, zlen, zget⟩ : ∃ zs : List (List L2.Key × Addr × Value), zs.length = ps.length ∧ ∀ (j : Nat) (p : Addr × Addr × Int × Int), ps[j]? = some p → ∃ u, zs[j]? = some (kyP p.2.2, p.2.1, u) ∧ s.heap.IsTuple p.1 #[.ref p.2.1, u] ∧ IsTupleKey (mixKind X.prog X.w) s.heap (kyP p.2.2) p.2.1 := by
    have one : ∀ p ∈ ps, ∃ u, s.heap.IsTuple p.1 #[.ref p.2.1, u] ∧ IsTupleKey (mixKind X.prog X.w) s.heap (kyP p.2.2) p.2.1 := fun p hp => by
      obtain ⟨h1, h2⟩ := hx p hp
      obtain ⟨us, k1, k2, _⟩ := I.tuple h1
      obtain ⟨u1, u2, rfl, ri, rj⟩ := vals2 k1
      have ri : u1 = Value.ref p.2.1 := ri
      subst ri
      obtain ⟨ws, m1, ⟨o, ho, hc, n, hd⟩, _⟩ := I.tuple h2
      obtain ⟨w1, w2, rfl, si, sj⟩ := vals2 m1
      obtain ⟨t1, rfl⟩ := si
      obtain ⟨t2, rfl⟩ := sj
      refine ⟨u2, k2, o, _, n, ho, hc, hd, ?_⟩
      exact .cons (by simp [mixKind, keyIs, Value.isInt]) (.cons (by simp [mixKind, keyIs, Value.isInt]) .nil)
    clear hs rv eits q hz hl hx
    induction ps with
    | nil => exact ⟨[], rfl, fun j p z => by cases z⟩
    | cons p ps ih =>
      obtain ⟨zs, e1, e2⟩ := ih fun x hx => one x (List.mem_cons_of_mem _ hx)
      obtain ⟨u, h1, h2⟩ := one p List.mem_cons_self
      refine ⟨(kyP p.2.2, p.2.1, u) :: zs, by rw [List.length_cons, List.length_cons, e1], fun j x hj => ?_⟩
      match j, hj with
      | 0, hj =>
        obtain rfl := Option.some.inj hj
        exact ⟨u, rfl, h1, h2⟩
      | j + 1, hj => exact e2 j x hj
  have zof : ∀ (j : Nat) (z : List L2.Key × Addr × Value), zs[j]? = some z → ∃ p, ps[j]? = some p ∧ z.1 = kyP p.2.2 ∧ z.2.1 = p.2.1 ∧ s.heap.IsTuple p.1 #[.ref p.2.1, z.2.2] ∧ IsTupleKey (mixKind X.prog X.w) s.heap (kyP p.2.2) p.2.1 := fun j z hj => by
    have hl := (List.getElem?_eq_some_iff.mp hj).1
    obtain ⟨u, e1, e2, e3⟩ := zget j _ (List.getElem?_eq_getElem (show j < ps.length by omega))
    rw [hj] at e1
    obtain rfl := Option.some.inj e1
    exact ⟨_, List.getElem?_eq_getElem _, rfl, rfl, e2, e3⟩
  have nsz : (zs.map fun z => (Value.ref z.2.1, z.2.2)).length ≤ sizeLine := by
    rw [List.length_map, zlen]
    rw [List.length_map] at hz
    exact hz
  refine call_dict_pairsH (knd := tupleKind (mixKind X.prog X.w)) (ps := zs) (PairArg.list a its.toArray (fun j => (ps.getD j (0, 0, 0, 0)).1) (zs.map fun z => (Value.ref z.2.1, z.2.2))) (I.ok.hd hc) (by
    show X.A.in1.in1.units < cLine
    show X.A.units + 1 + 1 < cLine
    omega) ⟨hl, ?_, ?_⟩ ⟨by rw [List.length_map], ?_⟩ ?_ nsz fun h' tk hD keep => ?_
  · rw [List.size_toArray, eits, List.length_map, List.length_map, zlen]
  · intro j k u hj
    rw [List.getElem?_map] at hj
    cases hz1 : zs[j]? with
    | none =>
      rw [hz1] at hj
      cases hj
    | some z =>
      rw [hz1] at hj
      obtain ⟨p, hp, e1, e2, e3, e4⟩ := zof j z hz1
      have hj := Option.some.inj hj
      obtain rfl : Value.ref z.2.1 = k := congrArg Prod.fst hj
      obtain rfl : z.2.2 = u := congrArg Prod.snd hj
      refine ⟨?_, .inl ?_⟩
      · rw [List.getElem?_toArray, eits, List.getElem?_map, hp]
        show _ = some (Value.ref (ps.getD j (0, 0, 0, 0)).1)
        rw [List.getD_eq_getElem?_getD, hp]
        rfl
      · show s.heap.IsTuple (ps.getD j (0, 0, 0, 0)).1 _
        rw [List.getD_eq_getElem?_getD, hp, e2]
        exact e3
  · intro i k u hr
    have hr : (zs.map fun z => (Value.ref z.2.1, z.2.2))[i]? = some (k, u) := hr
    rw [List.getElem?_map] at hr
    cases hz1 : zs[i]? with
    | none =>
      rw [hz1] at hr
      cases hr
    | some z =>
      rw [hz1] at hr
      have hr := Option.some.inj hr
      obtain rfl : Value.ref z.2.1 = k := congrArg Prod.fst hr
      obtain rfl : z.2.2 = u := congrArg Prod.snd hr
      exact ⟨z.1, z.2.1, rfl, rfl⟩
  · intro h' keep z hz1
    obtain ⟨j, hj⟩ := List.getElem?_of_mem hz1
    obtain ⟨p, hp, e1, e2, e3, o, items, n, k1, k2⟩ := zof j z hj
    rw [e1, e2]
    exact ⟨o, items, n, keep _ _ (Nat.ne_of_lt (Heap.lt_size k1)) (by intro z; cases z) k1, k2⟩
  · obtain ⟨o, es, ep, d1, d2, d3, d4, d5, d6⟩ := hD
    have kall : ∀ x ∈ storedAllH [] zs, ∃ p ∈ ps, x.1 = kyP p.2.2 ∧ x.2.1 = p.2.1 := storedAllH_keys (P := fun k b => ∃ p ∈ ps, k = kyP p.2.2 ∧ b = p.2.1) (fun x z => by cases z) fun x hx => by
      obtain ⟨j, hj⟩ := List.getElem?_of_mem hx
      obtain ⟨p, hp, e1, e2, _⟩ := zof j x hj
      exact ⟨p, List.mem_of_getElem? hp, e1, e2⟩
    have hall := storedAll_has (ps := zs) (xs := [])
    have slen := storedAllH_length (ps := zs) (xs := [])
    generalize storedAllH [] zs = ss at d4 d5 d6 kall hall slen
    have ekey : es.toList.map (·.key) = (ss.map fun x => (x.2.1, backP x.1)).map fun q => Value.ref q.1 := by
      rw [d4, List.map_map, List.map_map]
      rfl
    have e2 : (ss.map fun x => (x.2.1, backP x.1)).map (·.2) = ss.map fun x => backP x.1 := by
      rw [List.map_map]
      rfl
    refine ⟨.ref _, upd H s.heap.objs.size (.ext (ExD s.heap.objs.size (ss.map fun x => (x.2.1, backP x.1)))), I.laid (t' := tk) (fun b u hb => keep b u (by intro z; cases z) hb) (Nat.le_refl _) ⟨⟨?_, es, ep, ⟨o, d1, d2, d3⟩, ?_, ekey⟩, ⟨o, d1⟩, fun h1 h2 k1 k2 => exD_stay k1 k2⟩, rfl, q _ _ ?_ ?_ ?_ (I.hok.fresh (Nat.le_refl _))⟩
    · exact beq_false_of_ne (Nat.ne_of_gt I.big)
    · rw [← Array.length_toList, d4, List.length_map]
      refine Nat.le_trans slen ?_
      rw [List.length_map] at nsz
      simpa using nsz
    · intro z hz1
      obtain ⟨x, hx1, rfl⟩ := List.mem_map.mp hz1
      obtain ⟨p, hp, e3, e4⟩ := kall x hx1
      refine ⟨p, hp, ?_⟩
      rw [e3, e4]
      rfl
    · rw [e2]
      rw [List.nodup_iff_pairwise_ne, List.pairwise_map] at d6 ⊢
      refine d6.imp_of_mem fun {x y} hx1 hy1 hne he => hne ?_
      obtain ⟨p, _, e3, _⟩ := kall x hx1
      obtain ⟨p2, _, e5, _⟩ := kall y hy1
      rw [e3, e5] at he ⊢
      have he : p.2.2 = p2.2.2 := he
      rw [he]
    · intro p hp
      rw [e2]
      obtain ⟨j, hj⟩ := List.getElem?_of_mem hp
      obtain ⟨u, z1, _⟩ := zget j p hj
      obtain ⟨x, hx1, hx2⟩ := List.mem_map.mp ((hall (kyP p.2.2)).mpr (.inr (List.mem_map.mpr ⟨_, List.mem_of_getElem? z1, rfl⟩)))
      refine List.mem_map.mpr ⟨x, hx1, ?_⟩
      show backP x.1 = _
      rw [hx2]
      rfl
/-! ### sorted(d) -/
def rSortD (K : PySem.W.Frag) : List V → Hp → VK → Prop := fun vs H Q => ∃ (d : Addr) (ks : List (Addr × Int × Int)), vs = [V.ref d] ∧ H d = some (.ext (ExD d ks)) ∧ ks ≠ [] ∧ (∀ p ∈ ks, SqT K H p.1 [.int p.2.1, .int p.2.2]) ∧
  ∀ (kt : List (Addr × Int × Int)) (p : Addr), (kt.map (·.2)).Perm (ks.map (·.2)) → (∀ x ∈ kt, x ∈ ks) → (kt.map (·.2)).Pairwise (fun x y => SrtO.lexB y x = false) → H p = none → Q (.ref p) (upd H p (.lst (kt.map fun q => V.ref q.1)))
theorem cr_sortD {X : Cx} (hc : X.calm = true) : CallR X (.builtin "sorted") (rSortD X.K) := fun pins s σ H vs us Q I r h => by
  obtain ⟨d, ks, rfl, hd, hne, hx, q⟩ := h
  obtain ⟨⟨dm, es, ep, hr, hz, ek⟩, _, _⟩ := I.hok d _ hd
  rw [Vals.ref1 r]
  have key : ∀ p ∈ ks, ∃ o t1 t2 n, s.heap.get? p.1 = some o ∧ o.cls = .type "tuple" ∧ o.data = .seq #[.int p.2.1 t1, .int p.2.2 t2] n := fun p hp => by
    obtain ⟨us, k1, ⟨o, ho, hc, n, hd⟩, _⟩ := I.tuple (hx p hp)
    obtain ⟨u1, u2, rfl, ri, rj⟩ := vals2 k1
    obtain ⟨t1, rfl⟩ := ri
    obtain ⟨t2, rfl⟩ := rj
    exact ⟨o, t1, t2, n, ho, hc, hd⟩
  have kk : ∀ p ∈ ks, kH s.heap (.ref p.1) = p.2 := fun p hp => by
    obtain ⟨o, t1, t2, n, ho, _, hd⟩ := key p hp
    unfold kH
    show (match s.heap.get? p.1 with
      | some o => _
      | none => _) = _
    rw [ho]
    show (match o.data with
      | .seq its _ => _
      | _ => _) = _
    rw [hd]
    rfl
  have elen : es.size = ks.length := by
    have := congrArg List.length ek
    rw [List.length_map, List.length_map, Array.length_toList] at this
    exact this
  have from_ : ∀ v ∈ es.toList.map (·.key), ∃ p ∈ ks, v = Value.ref p.1 := fun v hv => by
    rw [ek] at hv
    obtain ⟨p, hp, e⟩ := List.mem_map.mp hv
    exact ⟨p, hp, e.symm⟩
  refine sorted_dictP (k := kH s.heap) dm (I.ok.hd hc) hr hz (fun e he => ?_) fun h1 h' tk out a hp keep1 keep2 there => ?_
  · obtain ⟨p, hp, e2⟩ := from_ e.key (List.mem_map.mpr ⟨e, he, rfl⟩)
    rw [e2, kk p hp]
    obtain ⟨o, t1, t2, n, ho, hc, hd⟩ := key p hp
    exact ⟨p.1, o, t1, t2, n, rfl, ho, hc, hd⟩
  · have h3 : ∀ u ∈ out, ∃ p ∈ ks, u = Value.ref p.1 := fun u hu => from_ u (hp.mem_iff.mp hu)
    obtain ⟨n, hn⟩ := there
    have I1 := I.kept (t' := tk) keep1
    have em : (out.map fun v => (adrV v, kH s.heap v)).map (fun q => V.ref q.1) = out.map backV := by
      rw [List.map_map]
      refine List.map_congr_left fun v hv => ?_
      obtain ⟨p, _, rfl⟩ := h3 v hv
      rfl
    have e2' : (out.map fun v => (adrV v, kH s.heap v)).map (·.2) = out.map (kH s.heap) := by
      rw [List.map_map]
      rfl
    have vb : ∀ u ∈ out, ∃ a, u = Value.ref a := fun u hu => by
      obtain ⟨p, _, e⟩ := h3 u hu
      exact ⟨p.1, e⟩
    have hlen : out.length ≤ sizeLine := by
      rw [hp.length_eq, List.length_map, Array.length_toList]
      exact hz
    refine ⟨.ref h1.objs.size, upd H h1.objs.size (.lst ((out.map fun v => (adrV v, kH s.heap v)).map fun q => V.ref q.1)), I1.laid (t' := tk) keep2 (Nat.le_refl _) ⟨?_, out, n, ?_, hn⟩, rfl, q _ _ ?_ ?_ ?_ (I1.hok.fresh (Nat.le_refl _))⟩
    · rw [List.length_map, List.length_map]
      exact hlen
    · rw [em]
      exact vals_back vb
    · rw [e2']
      have h4 : (es.toList.map (·.key)).map (kH s.heap) = ks.map (·.2) := by
        rw [ek, List.map_map]
        exact List.map_congr_left fun p hp => kk p hp
      rw [← h4]
      exact hp.map _
    · intro x hx
      obtain ⟨v, hv, rfl⟩ := List.mem_map.mp hx
      obtain ⟨p, hp, rfl⟩ := h3 v hv
      rw [kk p hp]
      exact hp
    · rw [e2', List.pairwise_map]
      exact a
/-! ### sorted(dict(xs)) in the layer -/
theorem prk_of {Kf : PySem.W.Frag} {Hf : Hp} {d : PyData} {v : V} (hv : ∀ u, Rp Kf Hf u d → u = v) : ∀ {xs : List (Int × Int)} {zs : List V}, RpA Kf Hf zs (xs.map fun q => PyData.tuple [prD q, d]) → ∃ ps : List (Addr × Addr × Int × Int), zs = ps.map (fun p => V.ref p.1) ∧ ps.map (fun p => p.2.2) = xs ∧ ∀ p ∈ ps, SqT Kf Hf p.1 [.ref p.2.1, v] ∧ SqT Kf Hf p.2.1 [.int p.2.2.1, .int p.2.2.2]
  | [], _, .nil => ⟨[], rfl, rfl, fun _ z => by cases z⟩
  | x :: xs, _, .cons h t => by
    obtain ⟨ps, e1, e2, e3⟩ := prk_of hv t
    cases h with
    | tup h1 h2 =>
      rename_i a us
      cases h2 with
      | cons g1 t1 =>
        cases t1 with
        | cons g2 t2 =>
          cases t2
          rename_i w u
          have eu := hv u g2
          subst eu
          cases g1 with
          | tup k1 k2 =>
            rename_i b ws
            have := RpA.ints_inv (ns := [x.1, x.2]) k2
            subst this
            refine ⟨(a, b, x) :: ps, by rw [e1]; rfl, by rw [List.map_cons, e2], fun p hp => ?_⟩
            rcases List.mem_cons.mp hp with rfl | hp
            · exact ⟨h1, k1⟩
            · exact e3 p hp
/-- sorted(dict(xs)): ys is what any such list must be -/
theorem el_sortDict {Kf : PySem.W.Frag} {S S1 : SS} {te : TE} {xs ys : List (Int × Int)} {d : PyData} {v : V} (h : Ee Kf te S (.dat (.list (xs.map fun q => PyData.tuple [prD q, d]))) S1) (hv : ∀ Hf u, Rp Kf Hf u d → u = v) (hne : xs ≠ [])
    (hy : ∀ zs : List (Int × Int), zs.Nodup → (∀ z, z ∈ zs ↔ z ∈ xs) → zs.Pairwise (fun x y => SrtO.lexB y x = false) → zs = ys) :
    El Kf (tCB (rSortD Kf) (tCons (tCB (rDictT Kf) (tCons te tNil)) tNil)) S (ys.map prD) S1 := fun c Hf H σ fp ok Q q =>
  h c Hf H σ fp ok _ fun x Hf1 H1 fp1 ok1 g1 r1 => by
    cases r1 with
    | lst h1 h2 =>
      obtain ⟨ps, rfl, e2, e3⟩ := prk_of (hv Hf1) h2
      refine ⟨_, v, ps, rfl, .inl (.inl (ok1.hd.ex _ _ h1)), fun p hp => ⟨sameT ok1.hd.ex (e3 p hp).1, sameT ok1.hd.ex (e3 p hp).2⟩, fun dd ks k1 k2 k3 hdd => ?_⟩
      obtain ⟨ok2, g2⟩ := ok1.laid (.ext (ExD dd ks)) hdd
      have kT : ∀ p ∈ ks, SqT Kf Hf1 p.1 [.int p.2.1, .int p.2.2] := fun p hp => by
        obtain ⟨z, hz, rfl⟩ := k1 p hp
        exact (e3 z hz).2
      have kmem : ∀ z, z ∈ ks.map (·.2) ↔ z ∈ xs := fun z => by
        rw [← e2]
        constructor
        · intro hz
          obtain ⟨p, hp, rfl⟩ := List.mem_map.mp hz
          obtain ⟨y, hy, rfl⟩ := k1 p hp
          exact List.mem_map.mpr ⟨y, hy, rfl⟩
        · intro hz
          obtain ⟨p, hp, rfl⟩ := List.mem_map.mp hz
          exact k3 p hp
      refine ⟨dd, ks, rfl, upd_same, fun z => ?_, fun p hp => sameT ok2.hd.ex (sameT g2.sm (kT p hp)), fun kt p hperm hsub hpw hp => ?_⟩
      · subst z
        obtain ⟨x, hx⟩ := List.exists_mem_of_ne_nil _ hne
        cases (kmem x).mpr hx
      · have ez : kt.map (·.2) = ys := hy _ (hperm.nodup_iff.mpr k2) (fun z => by rw [hperm.mem_iff]; exact kmem z) hpw
        obtain ⟨ok3, g3, al⟩ := ok2.alone (xs := kt.map fun q => V.ref q.1) (ds := ys.map prD) hp (by
          rw [← ez]
          exact rp_prs fun x hx => sameT g2.sm (kT x (hsub x hx)))
        have hp0 : H p = none := by
          cases z : H p with
          | none => rfl
          | some o =>
            obtain ⟨o', e⟩ := (g1.trans g2).th p o z
            rw [hp] at e
            cases e
        exact q p _ _ _ ok3 ((g1.trans g2).trans g3) hp0 al
end DL

set_option maxRecDepth 100000
set_option maxHeartbeats 1000000
/-! DLdk: own dicts whose keys are pairs of whole numbers that come as data -/
namespace DL
open PySem PySem.Spec PyProof.Rows L2
/-- a dict as it stands: its keys, where they lie -/
def ExK (P : Program) (w : World) (d : Addr) (ks : List (Addr × Int × Int)) (h : Heap) : Prop :=
  (d == sysModules) = false ∧ ∃ (xs : List (List L2.Key × Addr × Value)) (o : Obj) (es : Array DictEntry) (ep : Nat), h.get? d = some o ∧ o.ExactDict ∧ o.data = Data.dict es ep ∧ es.toList = xs.map (entryOfKey (tupleKind (mixKind P w))) ∧ xs.length ≤ sizeLine ∧ xs.map (fun x => (x.2.1, x.1)) = ks.map (fun q => (q.1, kyP q.2)) ∧ (ks.map (·.2)).Nodup
theorem exK_stay {P : Program} {w : World} {d : Addr} {ks : List (Addr × Int × Int)} {h1 h2 : Heap} (h : ExK P w d ks h1) (k : ∀ o, h1.get? d = some o → h2.get? d = some o) : ExK P w d ks h2 := by
  obtain ⟨a, xs, o, es, ep, z1, z2⟩ := h
  exact ⟨a, xs, o, es, ep, k o z1, z2⟩
theorem kyP_inj {p q : Int × Int} (h : kyP p = kyP q) : p = q := by
  unfold kyP at h
  injection h with h1 h2
  injection h2 with h2 _
  exact Prod.ext (Sum.inl.inj h1) (Sum.inl.inj h2)
theorem exK_in {P : Program} {w : World} {d : Addr} {ks : List (Addr × Int × Int)} {h : Heap} (hx : ExK P w d ks h) (hk : ∀ p ∈ ks, IsTupleKey (mixKind P w) h (kyP p.2) p.1) :
    ∃ xs, Heap.DictOfH (tupleKind (mixKind P w)) h d xs ∧ xs.length ≤ sizeLine ∧ xs.map (fun x => (x.2.1, x.1)) = ks.map (fun q => (q.1, kyP q.2)) := by
  obtain ⟨_, xs, o, es, ep, h1, h2, h3, h4, h5, h6, h7⟩ := hx
  have ek : xs.map (·.1) = (ks.map (·.2)).map kyP := by
    have := congrArg (List.map Prod.snd) h6
    rw [List.map_map, List.map_map] at this
    rw [List.map_map]
    exact this
  refine ⟨xs, ⟨o, es, ep, h1, h2, h3, h4, fun x hx => ?_, ?_⟩, h5, h6⟩
  · have hm : (x.2.1, x.1) ∈ ks.map (fun q => (q.1, kyP q.2)) := by
      rw [← h6]
      exact List.mem_map.mpr ⟨x, hx, rfl⟩
    obtain ⟨q, hq, e⟩ := List.mem_map.mp hm
    have e1 : q.1 = x.2.1 := congrArg Prod.fst e
    have e2 : kyP q.2 = x.1 := congrArg Prod.snd e
    rw [← e1, ← e2]
    exact hk q hq
  · rw [ek, List.nodup_iff_pairwise_ne, List.pairwise_map]
    exact (List.nodup_iff_pairwise_ne.mp h7).imp fun h e => h (kyP_inj e)
theorem tup_key {X : Cx} {pins : List (Addr × Obj)} {σ : L2.St} {H : Hp} {s : Shared} (I : L2.Inv X pins σ H s) {a : Addr} {q : Int × Int} (h : SqT X.K H a [.int q.1, .int q.2]) : IsTupleKey (mixKind X.prog X.w) s.heap (kyP q) a := by
  obtain ⟨ws, m1, ⟨o, ho, hc, n, hd⟩, _⟩ := I.tuple h
  obtain ⟨w1, w2, rfl, si, sj⟩ := vals2 m1
  obtain ⟨t1, rfl⟩ := si
  obtain ⟨t2, rfl⟩ := sj
  exact ⟨o, _, n, ho, hc, hd, .cons (by simp [mixKind, keyIs, Value.isInt]) (.cons (by simp [mixKind, keyIs, Value.isInt]) .nil)⟩
theorem rel_ref {a : Addr} {v : Value} (h : RelV (.ref a) v) : v = .ref a := h
theorem at_ky {xs : List (List L2.Key × Addr × Value)} {ks : List (Addr × Int × Int)} (h : xs.map (fun x => (x.2.1, x.1)) = ks.map (fun q => (q.1, kyP q.2))) (q : Int × Int) : (atKey xs (kyP q)).isSome = decide (q ∈ ks.map (·.2)) := by
  rw [Bool.eq_iff_iff, decide_eq_true_eq]
  unfold atKey
  rw [Option.isSome_map, List.find?_isSome]
  have ek : xs.map (·.1) = (ks.map (·.2)).map kyP := by
    have := congrArg (List.map Prod.snd) h
    rw [List.map_map, List.map_map] at this
    rw [List.map_map]
    exact this
  constructor
  · rintro ⟨x, hx, e⟩
    have e := of_decide_eq_true e
    have : kyP q ∈ (ks.map (·.2)).map kyP := by
      rw [← ek, ← e]
      exact List.mem_map.mpr ⟨x, hx, rfl⟩
    obtain ⟨z, hz, e2⟩ := List.mem_map.mp this
    rw [← kyP_inj e2]
    exact hz
  · intro hq
    have : kyP q ∈ xs.map (·.1) := by
      rw [ek]
      exact List.mem_map.mpr ⟨q, hq, rfl⟩
    obtain ⟨x, hx, e⟩ := List.mem_map.mp this
    exact ⟨x, hx, decide_eq_true e⟩
/-! ### `(i, j) in d`, `d[(i, j)] = v` -/
def rInE (K : PySem.W.Frag) (P : Program) (w : World) : R2 := fun x y H Q => ∃ (b d : Addr) (q : Int × Int) (ks : List (Addr × Int × Int)), x = .ref b ∧ y = .ref d ∧ SqT K H b [.int q.1, .int q.2] ∧ H d = some (.ext (ExK P w d ks)) ∧ (∀ p ∈ ks, SqT K H p.1 [.int p.2.1, .int p.2.2]) ∧ Q (.bl (decide (q ∈ ks.map (·.2)))) H
theorem op_inE {X : Cx} (hu : X.A.units + 100 < cLine) : OpR X (compareOp .In) (rInE X.K X.prog X.w) := by
  intro pins s σ H x y v u Q I rx ry h
  obtain ⟨b, d, q, ks, rfl, rfl, hb, hd, hk, hq⟩ := h
  obtain rfl := rel_ref rx
  obtain rfl := rel_ref ry
  obtain ⟨ex, _, _⟩ := I.hok d _ hd
  obtain ⟨xs, h1, _, h3⟩ := exK_in ex fun p hp => tup_key I (hk p hp)
  refine wpAny_in_heap (knd := tupleKind (mixKind X.prog X.w)) (k := kyP q) (by show X.A.units + 1 < cLine; omega) (tup_key I hb) ex.1 h1 ?_
  rw [at_ky h3]
  have r : RelV (V.bl (decide (q ∈ List.map (fun x : Addr × Int × Int => x.2) ks))) (Value.bool (decide (q ∈ List.map (fun x : Addr × Int × Int => x.2) ks))) := rfl
  exact ⟨_, H, I.tok _, r, hq⟩
def rSetE (K : PySem.W.Frag) (P : Program) (w : World) : TSet := fun o i v H Q => ∃ (d b : Addr) (q : Int × Int) (ks : List (Addr × Int × Int)), o = .ref d ∧ i = .ref b ∧ SqT K H b [.int q.1, .int q.2] ∧ H d = some (.ext (ExK P w d ks)) ∧ (∀ p ∈ ks, SqT K H p.1 [.int p.2.1, .int p.2.2]) ∧ ks.length < sizeLine ∧ Q (upd H d (.ext (ExK P w d (if q ∈ ks.map (·.2) then ks else ks ++ [(b, q)]))))
theorem putAt_keys {K : Type} [DecidableEq K] {xs : List (K × Addr × Value)} {k : K} {v : Value} : (xs.map (putAt k v)).map (fun x => (x.2.1, x.1)) = xs.map (fun x => (x.2.1, x.1)) := by
  rw [List.map_map]
  refine List.map_congr_left fun x _ => ?_
  show ((putAt k v x).2.1, (putAt k v x).1) = _
  unfold putAt
  split <;> rfl
theorem set_E {X : Cx} (hu : X.A.units + 100 < cLine) : PSet X (rSetE X.K X.prog X.w) := by
  intro pins s σ H o i v ov iv u Q I ro ri rv h
  obtain ⟨d, b, q, ks, rfl, rfl, hb, hd, hk, hz, hq⟩ := h
  obtain rfl := rel_ref ro
  obtain rfl := rel_ref ri
  obtain ⟨ex, _, _⟩ := I.hok d _ hd
  obtain ⟨xs, h1, h2, h3⟩ := exK_in ex fun p hp => tup_key I (hk p hp)
  have nd := ex.2
  obtain ⟨_, _, _, _, _, _, _, _, _, _, nd⟩ := nd
  refine wpAny_setItem_heap (knd := tupleKind (mixKind X.prog X.w)) (k := kyP q) (by show X.A.units + 1 < cLine; omega) (tup_key I hb) h1 (fun h' hD sb => ?_) h2
  obtain ⟨o2, es, ep, d1, d2, d3, d4, d5, d6⟩ := hD
  have hat := at_ky h3 q
  have hl : xs.length = ks.length := by
    have := congrArg List.length h3
    rw [List.length_map, List.length_map] at this
    exact this
  have hxe : ExK X.prog X.w d (if q ∈ ks.map (·.2) then ks else ks ++ [(b, q)]) h' := by
    refine ⟨ex.1, storedH xs (kyP q) b u, o2, es, ep, d1, d2, d3, d4, ?_⟩
    by_cases c : q ∈ ks.map (·.2)
    · rw [if_pos c]
      have e : storedH xs (kyP q) b u = xs.map (putAt (kyP q) u) := if_pos (by rw [hat]; exact decide_eq_true c)
      rw [e]
      exact ⟨by rw [List.length_map]; exact h2, by rw [putAt_keys]; exact h3, nd⟩
    · rw [if_neg c]
      have e : storedH xs (kyP q) b u = xs ++ [(kyP q, b, u)] := if_neg (by rw [hat, decide_eq_false c]; decide)
      rw [e]
      refine ⟨by rw [List.length_append, hl]; show _ + 1 ≤ _; omega, by rw [List.map_append, List.map_append, h3]; rfl, ?_⟩
      rw [List.map_append, List.nodup_append]
      refine ⟨nd, List.nodup_cons.mpr ⟨by simp, List.nodup_nil⟩, fun x hx y hy e => c ?_⟩
      have hy : y = q := by simpa using hy
      rw [← hy, ← e]
      exact hx
  have I2 := I.write (x := d) (e := d) (o := .ext (ExK X.prog X.w d (if q ∈ ks.map (·.2) then ks else ks ++ [(b, q)]))) (h' := h') (t' := s.toks + (tupleKind (mixKind X.prog X.w)).draws (kyP q)) (by rw [hd]; trivial) (.inl rfl) (fun c z hb hc => by rw [sb.2 c hb]; exact hc) ⟨o2, d1⟩ ⟨hxe, ⟨o2, d1⟩, fun h1 h2 k1 k2 => exK_stay k1 k2⟩
  exact ⟨_, I2, hq⟩
/-! ### dict(xs) -/
def rDictK (K : PySem.W.Frag) (P : Program) (w : World) : List V → Hp → VK → Prop := fun xs H Q => ∃ (a : Addr) (v : V) (ps : List (Addr × Addr × Int × Int)), xs = [.ref a] ∧ SqL K H a (ps.map fun p => V.ref p.1) ∧ (∀ p ∈ ps, SqT K H p.1 [.ref p.2.1, v] ∧ SqT K H p.2.1 [.int p.2.2.1, .int p.2.2.2]) ∧
  ∀ (d : Addr) (ks : List (Addr × Int × Int)), (∀ q ∈ ks, ∃ p ∈ ps, p.2 = q) → (ks.map (·.2)).Nodup → (∀ p ∈ ps, p.2.2 ∈ ks.map (·.2)) → ks.length ≤ ps.length → H d = none → Q (.ref d) (upd H d (.ext (ExK P w d ks)))
theorem cr_dictK {X : Cx} (hc : X.calm = true) (hu : X.A.units + 100 < cLine) : CallR X (.type "dict") (rDictK X.K X.prog X.w) := fun pins s σ H vs us Q I r h => by
  obtain ⟨a, v, ps, rfl, hs, hx, q⟩ := h
  obtain ⟨its, rv, hl, hz⟩ := I.list hs
  have eits := vals_refs (f := fun p : Addr × Addr × Int × Int => p.1) rv
  rw [Vals.ref1 r]
  -- the pairs as values
  obtain ⟨zs, zlen, zget⟩ : ∃ zs : List (List L2.Key × Addr × Value), zs.length = ps.length ∧ ∀ (j : Nat) (p : Addr × Addr × Int × Int), ps[j]? = some p → ∃ u, zs[j]? = some (kyP p.2.2, p.2.1, u) ∧ s.heap.IsTuple p.1 #[.ref p.2.1, u] ∧ IsTupleKey (mixKind X.prog X.w) s.heap (kyP p.2.2) p.2.1 := by
    have one : ∀ p ∈ ps, ∃ u, s.heap.IsTuple p.1 #[.ref p.2.1, u] ∧ IsTupleKey (mixKind X.prog X.w) s.heap (kyP p.2.2) p.2.1 := fun p hp => by
      obtain ⟨h1, h2⟩ := hx p hp
      obtain ⟨us, k1, k2, _⟩ := I.tuple h1
      obtain ⟨u1, u2, rfl, ri, rj⟩ := vals2 k1
      have ri : u1 = Value.ref p.2.1 := ri
      subst ri
      obtain ⟨ws, m1, ⟨o, ho, hc, n, hd⟩, _⟩ := I.tuple h2
      obtain ⟨w1, w2, rfl, si, sj⟩ := vals2 m1
      obtain ⟨t1, rfl⟩ := si
      obtain ⟨t2, rfl⟩ := sj
      refine ⟨u2, k2, o, _, n, ho, hc, hd, ?_⟩
      exact .cons (by simp [mixKind, keyIs, Value.isInt]) (.cons (by simp [mixKind, keyIs, Value.isInt]) .nil)
    clear hs rv eits q hz hl hx
    induction ps with
    | nil => exact ⟨[], rfl, fun j p z => by cases z⟩
    | cons p ps ih =>
      obtain ⟨zs, e1, e2⟩ := ih fun x hx => one x (List.mem_cons_of_mem _ hx)
      obtain ⟨u, h1, h2⟩ := one p List.mem_cons_self
      refine ⟨(kyP p.2.2, p.2.1, u) :: zs, by rw [List.length_cons, List.length_cons, e1], fun j x hj => ?_⟩
      match j, hj with
      | 0, hj =>
        obtain rfl := Option.some.inj hj
        exact ⟨u, rfl, h1, h2⟩
      | j + 1, hj => exact e2 j x hj
  have zof : ∀ (j : Nat) (z : List L2.Key × Addr × Value), zs[j]? = some z → ∃ p, ps[j]? = some p ∧ z.1 = kyP p.2.2 ∧ z.2.1 = p.2.1 ∧ s.heap.IsTuple p.1 #[.ref p.2.1, z.2.2] ∧ IsTupleKey (mixKind X.prog X.w) s.heap (kyP p.2.2) p.2.1 := fun j z hj => by
    have hl := (List.getElem?_eq_some_iff.mp hj).1
    obtain ⟨u, e1, e2, e3⟩ := zget j _ (List.getElem?_eq_getElem (show j < ps.length by omega))
    rw [hj] at e1
    obtain rfl := Option.some.inj e1
    exact ⟨_, List.getElem?_eq_getElem _, rfl, rfl, e2, e3⟩
  have nsz : (zs.map fun z => (Value.ref z.2.1, z.2.2)).length ≤ sizeLine := by
    rw [List.length_map, zlen]
    rw [List.length_map] at hz
    exact hz
  refine call_dict_pairsH (knd := tupleKind (mixKind X.prog X.w)) (ps := zs) (PairArg.list a its.toArray (fun j => (ps.getD j (0, 0, 0, 0)).1) (zs.map fun z => (Value.ref z.2.1, z.2.2))) (I.ok.hd hc) (by
    show X.A.in1.in1.units < cLine
    show X.A.units + 1 + 1 < cLine
    omega) ⟨hl, ?_, ?_⟩ ⟨by rw [List.length_map], ?_⟩ ?_ nsz fun h' tk hD keep => ?_
  · rw [List.size_toArray, eits, List.length_map, List.length_map, zlen]
  · intro j k u hj
    rw [List.getElem?_map] at hj
    cases hz1 : zs[j]? with
    | none =>
      rw [hz1] at hj
      cases hj
    | some z =>
      rw [hz1] at hj
      obtain ⟨p, hp, e1, e2, e3, e4⟩ := zof j z hz1
      have hj := Option.some.inj hj
      obtain rfl : Value.ref z.2.1 = k := congrArg Prod.fst hj
      obtain rfl : z.2.2 = u := congrArg Prod.snd hj
      refine ⟨?_, .inl ?_⟩
      · rw [List.getElem?_toArray, eits, List.getElem?_map, hp]
        show _ = some (Value.ref (ps.getD j (0, 0, 0, 0)).1)
        rw [List.getD_eq_getElem?_getD, hp]
        rfl
      · show s.heap.IsTuple (ps.getD j (0, 0, 0, 0)).1 _
        rw [List.getD_eq_getElem?_getD, hp, e2]
        exact e3
  · intro i k u hr
    have hr : (zs.map fun z => (Value.ref z.2.1, z.2.2))[i]? = some (k, u) := hr
    rw [List.getElem?_map] at hr
    cases hz1 : zs[i]? with
    | none =>
      rw [hz1] at hr
      cases hr
    | some z =>
      rw [hz1] at hr
      have hr := Option.some.inj hr
      obtain rfl : Value.ref z.2.1 = k := congrArg Prod.fst hr
      obtain rfl : z.2.2 = u := congrArg Prod.snd hr
      exact ⟨z.1, z.2.1, rfl, rfl⟩
  · intro h' keep z hz1
    obtain ⟨j, hj⟩ := List.getElem?_of_mem hz1
    obtain ⟨p, hp, e1, e2, e3, o, items, n, k1, k2⟩ := zof j z hj
    rw [e1, e2]
    exact ⟨o, items, n, keep _ _ (Nat.ne_of_lt (Heap.lt_size k1)) (by intro z; cases z) k1, k2⟩
  · obtain ⟨o, es, ep, d1, d2, d3, d4, d5, d6⟩ := hD
    have kall : ∀ x ∈ storedAllH [] zs, ∃ p ∈ ps, x.1 = kyP p.2.2 ∧ x.2.1 = p.2.1 := storedAllH_keys (P := fun k b => ∃ p ∈ ps, k = kyP p.2.2 ∧ b = p.2.1) (fun x z => by cases z) fun x hx => by
      obtain ⟨j, hj⟩ := List.getElem?_of_mem hx
      obtain ⟨p, hp, e1, e2, _⟩ := zof j x hj
      exact ⟨p, List.mem_of_getElem? hp, e1, e2⟩
    have hall := storedAll_has (ps := zs) (xs := [])
    have slen := storedAllH_length (ps := zs) (xs := [])
    generalize storedAllH [] zs = ss at d4 d5 d6 kall hall slen
    have e2 : (ss.map fun x => (x.2.1, backP x.1)).map (·.2) = ss.map fun x => backP x.1 := by
      rw [List.map_map]
      rfl
    have ndk : ((ss.map fun x => (x.2.1, backP x.1)).map (·.2)).Nodup := by
      rw [e2]
      rw [List.nodup_iff_pairwise_ne, List.pairwise_map] at d6 ⊢
      refine d6.imp_of_mem fun {x y} hx1 hy1 hne he => hne ?_
      obtain ⟨p, _, e3, _⟩ := kall x hx1
      obtain ⟨p2, _, e5, _⟩ := kall y hy1
      rw [e3, e5] at he ⊢
      have he : p.2.2 = p2.2.2 := he
      rw [he]
    have slz : ss.length ≤ sizeLine := by
      refine Nat.le_trans slen ?_
      rw [List.length_map] at nsz
      simpa using nsz
    have emap : ss.map (fun x => (x.2.1, x.1)) = (ss.map fun x => (x.2.1, backP x.1)).map (fun q => (q.1, kyP q.2)) := by
      rw [List.map_map]
      refine List.map_congr_left fun x hx1 => ?_
      obtain ⟨p, _, e3, _⟩ := kall x hx1
      show (x.2.1, x.1) = (x.2.1, kyP (backP x.1))
      rw [e3]
      rfl
    refine ⟨.ref _, upd H s.heap.objs.size (.ext (ExK X.prog X.w s.heap.objs.size (ss.map fun x => (x.2.1, backP x.1)))), I.laid (t' := tk) (fun b u hb => keep b u (by intro z; cases z) hb) (Nat.le_refl _) ⟨⟨?_, ss, o, es, ep, d1, d2, d3, d4, slz, emap, ndk⟩, ⟨o, d1⟩, fun h1 h2 k1 k2 => exK_stay k1 k2⟩, rfl, q _ _ ?_ ndk ?_ (by rw [List.length_map]; refine Nat.le_trans slen ?_; simp [zlen]) (I.hok.fresh (Nat.le_refl _))⟩
    · exact beq_false_of_ne (Nat.ne_of_gt I.big)
    · intro z hz1
      obtain ⟨x, hx1, rfl⟩ := List.mem_map.mp hz1
      obtain ⟨p, hp, e3, e4⟩ := kall x hx1
      refine ⟨p, hp, ?_⟩
      rw [e3, e4]
      rfl
    · intro p hp
      rw [e2]
      obtain ⟨j, hj⟩ := List.getElem?_of_mem hp
      obtain ⟨u, z1, _⟩ := zget j p hj
      obtain ⟨x, hx1, hx2⟩ := List.mem_map.mp ((hall (kyP p.2.2)).mpr (.inr (List.mem_map.mpr ⟨_, List.mem_of_getElem? z1, rfl⟩)))
      refine List.mem_map.mpr ⟨x, hx1, ?_⟩
      show backP x.1 = _
      rw [hx2]
      rfl
/-! ### sorted(d) -/
def rSortE (K : PySem.W.Frag) (P : Program) (w : World) : List V → Hp → VK → Prop := fun vs H Q => ∃ (d : Addr) (ks : List (Addr × Int × Int)), vs = [V.ref d] ∧ H d = some (.ext (ExK P w d ks)) ∧ (∀ p ∈ ks, SqT K H p.1 [.int p.2.1, .int p.2.2]) ∧
  ∀ (kt : List (Addr × Int × Int)) (p : Addr), (ks.map (·.2)).Nodup → (kt.map (·.2)).Perm (ks.map (·.2)) → (∀ x ∈ kt, x ∈ ks) → (kt.map (·.2)).Pairwise (fun x y => SrtO.lexB y x = false) → H p = none → Q (.ref p) (upd H p (.lst (kt.map fun q => V.ref q.1)))
theorem cr_sortE {X : Cx} (hc : X.calm = true) : CallR X (.builtin "sorted") (rSortE X.K X.prog X.w) := fun pins s σ H vs us Q I r h => by
  obtain ⟨d, ks, rfl, hd, hx, q⟩ := h
  obtain ⟨⟨dm, xs, o, es, ep, x1, x2, x3, x4, x5, x6, x7⟩, _, _⟩ := I.hok d _ hd
  have hr : s.heap.DictRaw d es ep := ⟨o, x1, x2, x3⟩
  have hz : es.size ≤ sizeLine := by
    rw [← Array.length_toList, x4, List.length_map]
    exact x5
  have ek : es.toList.map (·.key) = ks.map fun q => Value.ref q.1 := by
    have e1 : es.toList.map (·.key) = (xs.map fun x => (x.2.1, x.1)).map fun y => Value.ref y.1 := by
      rw [x4, List.map_map, List.map_map]
      rfl
    rw [e1, x6, List.map_map]
    rfl
  rw [Vals.ref1 r]
  have key : ∀ p ∈ ks, ∃ o t1 t2 n, s.heap.get? p.1 = some o ∧ o.cls = .type "tuple" ∧ o.data = .seq #[.int p.2.1 t1, .int p.2.2 t2] n := fun p hp => by
    obtain ⟨us, k1, ⟨o, ho, hc, n, hd⟩, _⟩ := I.tuple (hx p hp)
    obtain ⟨u1, u2, rfl, ri, rj⟩ := vals2 k1
    obtain ⟨t1, rfl⟩ := ri
    obtain ⟨t2, rfl⟩ := rj
    exact ⟨o, t1, t2, n, ho, hc, hd⟩
  have kk : ∀ p ∈ ks, kH s.heap (.ref p.1) = p.2 := fun p hp => by
    obtain ⟨o, t1, t2, n, ho, _, hd⟩ := key p hp
    unfold kH
    show (match s.heap.get? p.1 with
      | some o => _
      | none => _) = _
    rw [ho]
    show (match o.data with
      | .seq its _ => _
      | _ => _) = _
    rw [hd]
    rfl
  have elen : es.size = ks.length := by
    have := congrArg List.length ek
    rw [List.length_map, List.length_map, Array.length_toList] at this
    exact this
  have from_ : ∀ v ∈ es.toList.map (·.key), ∃ p ∈ ks, v = Value.ref p.1 := fun v hv => by
    rw [ek] at hv
    obtain ⟨p, hp, e⟩ := List.mem_map.mp hv
    exact ⟨p, hp, e.symm⟩
  refine sorted_dictP (k := kH s.heap) dm (I.ok.hd hc) hr hz (fun e he => ?_) fun h1 h' tk out a hp keep1 keep2 there => ?_
  · obtain ⟨p, hp, e2⟩ := from_ e.key (List.mem_map.mpr ⟨e, he, rfl⟩)
    rw [e2, kk p hp]
    obtain ⟨o, t1, t2, n, ho, hc, hd⟩ := key p hp
    exact ⟨p.1, o, t1, t2, n, rfl, ho, hc, hd⟩
  · have h3 : ∀ u ∈ out, ∃ p ∈ ks, u = Value.ref p.1 := fun u hu => from_ u (hp.mem_iff.mp hu)
    obtain ⟨n, hn⟩ := there
    have I1 := I.kept (t' := tk) keep1
    have em : (out.map fun v => (adrV v, kH s.heap v)).map (fun q => V.ref q.1) = out.map backV := by
      rw [List.map_map]
      refine List.map_congr_left fun v hv => ?_
      obtain ⟨p, _, rfl⟩ := h3 v hv
      rfl
    have e2' : (out.map fun v => (adrV v, kH s.heap v)).map (·.2) = out.map (kH s.heap) := by
      rw [List.map_map]
      rfl
    have vb : ∀ u ∈ out, ∃ a, u = Value.ref a := fun u hu => by
      obtain ⟨p, _, e⟩ := h3 u hu
      exact ⟨p.1, e⟩
    have hlen : out.length ≤ sizeLine := by
      rw [hp.length_eq, List.length_map, Array.length_toList]
      exact hz
    refine ⟨.ref h1.objs.size, upd H h1.objs.size (.lst ((out.map fun v => (adrV v, kH s.heap v)).map fun q => V.ref q.1)), I1.laid (t' := tk) keep2 (Nat.le_refl _) ⟨?_, out, n, ?_, hn⟩, rfl, q _ _ x7 ?_ ?_ ?_ (I1.hok.fresh (Nat.le_refl _))⟩
    · rw [List.length_map, List.length_map]
      exact hlen
    · rw [em]
      exact vals_back vb
    · rw [e2']
      have h4 : (es.toList.map (·.key)).map (kH s.heap) = ks.map (·.2) := by
        rw [ek, List.map_map]
        exact List.map_congr_left fun p hp => kk p hp
      rw [← h4]
      exact hp.map _
    · intro x hx
      obtain ⟨v, hv, rfl⟩ := List.mem_map.mp hx
      obtain ⟨p, hp, rfl⟩ := h3 v hv
      rw [kk p hp]
      exact hp
    · rw [e2', List.pairwise_map]
      exact a

/-! ### in the layer -/
section
variable {K : PySem.W.Frag} {S S1 S2 S3 : SS} {ta tb te td ty tv : TE} {k i : Nat} {P : Program} {w : World} {ks : List (Int × Int)} {q : Int × Int} {e : Addr → List (Addr × Int × Int) → Heap → Prop}
variable {c : Addr → Prop} {Hf H : Hp} {σ : L2.St} {fp : List (List Addr)}
theorem Okk.dpp (ok : Okk K c Hf H σ fp S) (ho : S.ob[k]? = some (.dpp e ks)) {v : V} (r : SRl K Hf fp (some v) (.own k)) :
    ∃ a ps, v = .ref a ∧ fp[k]? = some [a] ∧ H a = some (.ext (e a ps)) ∧ (∀ z, z ∈ ps.map (·.2) ↔ z ∈ ks) ∧ ps.length ≤ ks.length ∧ ∀ p ∈ ps, SqT K Hf p.1 [.int p.2.1, .int p.2.2] := by
  obtain ⟨a, q, h1, h2⟩ := r
  obtain ⟨a', ps, e, h3, h4, h5, h6⟩ := ok.hd.oo k _ _ h1 ho
  have e2 : a = a' ∧ q = [] := by simpa using e
  obtain ⟨rfl, rfl⟩ := e2
  exact ⟨a, ps, h2, h1, h3, h4, h5, h6⟩
theorem rp_pr {Hf : Hp} {v : V} (h : Rp K Hf v (prD q)) : ∃ b, v = .ref b ∧ SqT K Hf b [.int q.1, .int q.2] := by
  unfold prD at h
  cases h with
  | tup h1 h2 =>
    rename_i b us
    have := RpA.ints_inv (ns := [q.1, q.2]) h2
    subst this
    exact ⟨b, rfl, h1⟩
/-- (i, j) in d -/
theorem ro_inE (ho : S.ob[k]? = some (.dpp (ExK P w) ks)) : Ro K (rInE K P w) (.dat (prD q)) (.own k) S (.dat (.bool (decide (q ∈ ks)))) S := fun c Hf H σ fp ok v u rv ru Q hq => by
  obtain ⟨b, rfl, hb⟩ := rp_pr (show Rp K Hf v (prD q) from rv)
  obtain ⟨a, ps, rfl, _, h2, h3, h4, h5⟩ := ok.dpp ho ru
  refine ⟨b, a, q, ps, rfl, rfl, sameT ok.hd.ex hb, h2, fun p hp => sameT ok.hd.ex (h5 p hp), ?_⟩
  have e : decide (q ∈ ps.map (·.2)) = decide (q ∈ ks) := by
    rw [decide_eq_decide]
    exact h3 q
  rw [e]
  exact hq _ _ _ _ ok Gr.refl (Rp.bl _)
/-- d[(i, j)] = .. -/
theorem egh_subE {d : PyData} (hl : Ee K ta S (.own k) S1) (hi : Ee K tb S1 (.dat (prD q)) S2) (ho : S2.ob[k]? = some (.dpp (ExK P w) ks)) (hz : ks.length < 1000000) : Egh K (gSub ta tb (rSetE K P w)) d S { S2 with ob := S2.ob.set k (.dpp (ExK P w) (q :: ks)) } := fun c Hf H σ fp ok v rv Q hq =>
  hl c Hf H σ fp ok _ fun o Hf1 H1 fp1 ok1 g1 r1 => hi c Hf1 H1 σ fp1 ok1 _ fun u Hf2 H2 fp2 ok2 g2 r2 => by
    obtain ⟨b, rfl, hb⟩ := rp_pr (show Rp K Hf2 u (prD q) from r2)
    obtain ⟨a, ps, rfl, e0, h2, h3, h4, h5⟩ := ok2.dpp ho (r1.mono g2.sm g2.pr)
    obtain ⟨hd3, g4⟩ := ok2.hd.put (o' := .dpp (ExK P w) (q :: ks)) (H' := upd H2 a (.ext (ExK P w a (if q ∈ ps.map (·.2) then ps else ps ++ [(b, q)])))) e0 ho (by intro z; cases z) (fun b hb => upd_ne (by simpa using hb)) ⟨a, _, rfl, upd_same, fun z => by
      by_cases cc : q ∈ ps.map (·.2)
      · rw [if_pos cc, List.mem_cons, h3]
        exact ⟨.inr, fun h => h.elim (fun h => h ▸ (h3 q).mp cc) id⟩
      · rw [if_neg cc, List.map_append, List.mem_append, List.mem_cons, h3]
        constructor
        · rintro (h | h)
          · exact .inr h
          · exact .inl (by simpa using h)
        · rintro (h | h)
          · exact .inr (by simp [h])
          · exact .inl h, by
      split
      · exact Nat.le_succ_of_le h4
      · rw [List.length_append]
        exact Nat.succ_le_succ h4, fun p hp => by
      split at hp
      · exact h5 p hp
      · rcases List.mem_append.mp hp with hp | hp
        · exact h5 p hp
        · rw [List.mem_singleton.mp hp]
          exact hb⟩ (fun b hb => by
      rw [show b = a by simpa using hb]
      exact ⟨_, upd_same⟩) (fun ds z => by cases z)
    exact ⟨a, b, q, ps, rfl, rfl, sameT ok2.hd.ex hb, h2, fun p hp => sameT ok2.hd.ex (h5 p hp), Nat.lt_of_le_of_lt h4 (Nat.lt_of_lt_of_le hz (by decide)), hq _ _ _ _ ⟨hd3, ok2.ln, ok2.sr⟩ ((g1.trans g2).trans g4)⟩
/-- dict(xs) -/
theorem eo_dictK {xs : List (Int × Int)} {d : PyData} {v : V} (h : Ee K te S (.dat (.list (xs.map fun q => PyData.tuple [prD q, d]))) S1) (hv : ∀ Hf u, Rp K Hf u d → u = v) :
    Ee K (tCB (rDictK K P w) (tCons te tNil)) S (.own S1.ob.length) { S1 with ob := S1.ob ++ [.dpp (ExK P w) xs] } := fun c Hf H σ fp ok Q hq =>
  h c Hf H σ fp ok _ fun x Hf1 H1 fp1 ok1 g1 r1 => by
    cases r1 with
    | lst h1 h2 =>
      obtain ⟨ps, rfl, e2, e3⟩ := prk_of (hv Hf1) h2
      refine ⟨_, v, ps, rfl, .inl (.inl (ok1.hd.ex _ _ h1)), fun p hp => ⟨sameT ok1.hd.ex (e3 p hp).1, sameT ok1.hd.ex (e3 p hp).2⟩, fun dd zs k1 k2 k3 k4 hdd => ?_⟩
      obtain ⟨ok2, g2, nm, nc⟩ := ok1.apart (.ext (ExK P w dd zs)) hdd
      have hf := ok1.hd.ex.free hdd
      have kT : ∀ p ∈ zs, SqT K Hf1 p.1 [.int p.2.1, .int p.2.2] := fun p hp => by
        obtain ⟨z, hz, rfl⟩ := k1 p hp
        exact (e3 z hz).2
      have kmem : ∀ z, z ∈ zs.map (·.2) ↔ z ∈ xs := fun z => by
        rw [← e2]
        constructor
        · intro hz
          obtain ⟨p, hp, rfl⟩ := List.mem_map.mp hz
          obtain ⟨y, hy, rfl⟩ := k1 p hp
          exact List.mem_map.mpr ⟨y, hy, rfl⟩
        · intro hz
          obtain ⟨p, hp, rfl⟩ := List.mem_map.mp hz
          exact k3 p hp
      have kl : zs.length ≤ xs.length := by
        rw [← e2, List.length_map]
        exact k4
      refine hq _ Hf1 _ (fp1 ++ [[dd]]) ⟨ok2.hd.ownO ⟨_, upd_same⟩ hf nm ⟨dd, zs, rfl, upd_same, kmem, kl, kT⟩ (fun ds z => by cases z), ok2.ln, fun i d e => ?_⟩ ((g1.trans g2).own ?_) ⟨dd, [], ?_, rfl⟩
      · obtain ⟨x, q1, q2⟩ := ok2.sr i d e
        exact ⟨x, q1, q2.mono (Same.refl _) (List.prefix_append _ _)⟩
      · cases z : H dd with
        | none => rfl
        | some o =>
          obtain ⟨o', e⟩ := g1.th dd o z
          rw [hdd] at e
          cases e
      · rw [← ok1.hd.fl, List.getElem?_concat_length]
/-- sorted(d): ys is what any such list must be -/
theorem el_sortE {ys : List (Int × Int)} (hd : Ee K td S (.own k) S1) (ho : S1.ob[k]? = some (.dpp (ExK P w) ks)) (hy : ∀ zs : List (Int × Int), zs.Nodup → (∀ z, z ∈ zs ↔ z ∈ ks) → zs.Pairwise (fun x y => SrtO.lexB y x = false) → zs = ys) :
    El K (tCB (rSortE K P w) (tCons td tNil)) S (ys.map prD) S1 := fun c Hf H σ fp ok Q hq =>
  hd c Hf H σ fp ok _ fun x Hf1 H1 fp1 ok1 g1 r1 => by
    obtain ⟨a, ps, rfl, e0, h2, h3, h4, h5⟩ := ok1.dpp ho r1
    refine ⟨a, ps, rfl, h2, fun p hp => sameT ok1.hd.ex (h5 p hp), fun kt p hnd hperm hsub hpw hp => ?_⟩
    have ez : kt.map (·.2) = ys := hy _ (hperm.nodup_iff.mpr hnd) (fun z => by rw [hperm.mem_iff]; exact h3 z) hpw
    obtain ⟨ok3, g3, al⟩ := ok1.alone (xs := kt.map fun q => V.ref q.1) (ds := ys.map prD) hp (by
      rw [← ez]
      exact rp_prs fun x hx => h5 x (hsub x hx))
    have hp0 : H p = none := by
      cases z : H p with
      | none => rfl
      | some o =>
        obtain ⟨o', e⟩ := g1.th p o z
        rw [hp] at e
        cases e
    exact hq p _ _ _ ok3 (g1.trans g3) hp0 al
end
end DL

set_option maxRecDepth 100000
set_option maxHeartbeats 4000000
namespace K13
open PySem PySem.Spec PyProof.Rows L2 DL
def topS (i : Nat) : Stmt := PySem.Challenge.pw_tieskept_k13_whole_what_is_sure.main.body.getD i (.Pass ⟨0, 0, 0, 0⟩)
abbrev sword_lanes : Stmt := topS 1
abbrev srun_lanes : Stmt := topS 2
abbrev slet_words : Stmt := topS 4
abbrev slet_rows : Stmt := topS 5
abbrev s_let_keys : Stmt := topS 6
abbrev slive : Stmt := topS 8
abbrev ssure : Stmt := topS 9
abbrev sclosed : Stmt := topS 11
abbrev s_places_above : Stmt := topS 12
abbrev s_pairs : Stmt := topS 13
abbrev s_law_deck : Stmt := topS 15
abbrev s_law_draw : Stmt := topS 16
abbrev s_law_pick : Stmt := topS 17
abbrev s_law_mixed : Stmt := topS 18
abbrev s_law_is_let : Stmt := topS 19
abbrev s_law_rows : Stmt := topS 20
abbrev s_law_some : Stmt := topS 21
abbrev s_law_run : Stmt := topS 22
abbrev s_law_network : Stmt := topS 23
abbrev s_law_order : Stmt := topS 24
abbrev s_law_due : Stmt := topS 25
abbrev s_law_closure : Stmt := topS 26
abbrev s_law_spread : Stmt := topS 27
abbrev s_law_lines : Stmt := topS 28
abbrev s_law_is_wide : Stmt := topS 29
abbrev slaw : Stmt := topS 30
/-- a def of the top, as it stands -/
structure Df (K : PySem.W.Frag) (mg : Str → Option Value) (x : Str) (st : Stmt) (ps : List Str) where
  f : Addr
  fd : FuncData
  F : Fun K x x st f fd
  b : Binds K fd ps []
  m : mg x = some (.ref f)
/-- the built-ins are what they are -/
structure Bi (mg : Str → Option Value) : Prop where
  z_abs : mg "abs" = none
  z_dict : mg "dict" = none
  z_enumerate : mg "enumerate" = none
  z_int : mg "int" = none
  z_len : mg "len" = none
  z_list : mg "list" = none
  z_max : mg "max" = none
  z_range : mg "range" = none
  z_repr : mg "repr" = none
  z_sorted : mg "sorted" = none
  z_tuple : mg "tuple" = none
section
variable {K : PySem.W.Frag}
def isIB : PyData → Bool
  | .int _ => true
  | .bool _ => true
  | _ => false
def isB : PyData → Bool
  | .bool _ => true
  | _ => false
def isI : PyData → Bool
  | .int _ => true
  | _ => false
def isT : PyData → Bool
  | .tuple _ => true
  | _ => false
def isL : PyData → Bool
  | .list _ => true
  | _ => false
def isS : PyData → Bool
  | .str _ => true
  | _ => false
theorem kit_int (d : PyData) : PySem.W.kitOne K (.type (tyD d)) (.type "int") = some (isIB d) := by
  cases d with
  | none => exact kit_ty (a := "NoneType") (b := "int") (r := false) (by decide +kernel)
  | bool x => exact kit_ty (a := "bool") (b := "int") (r := true) (by decide +kernel)
  | int x => exact kit_ty (a := "int") (b := "int") (r := true) (by decide +kernel)
  | str x => exact kit_ty (a := "str") (b := "int") (r := false) (by decide +kernel)
  | list x => exact kit_ty (a := "list") (b := "int") (r := false) (by decide +kernel)
  | tuple x => exact kit_ty (a := "tuple") (b := "int") (r := false) (by decide +kernel)
  | dict x => exact kit_ty (a := "dict") (b := "int") (r := false) (by decide +kernel)
theorem kit_bool (d : PyData) : PySem.W.kitOne K (.type (tyD d)) (.type "bool") = some (isB d) := by
  cases d with
  | none => exact kit_ty (a := "NoneType") (b := "bool") (r := false) (by decide +kernel)
  | bool x => exact kit_ty (a := "bool") (b := "bool") (r := true) (by decide +kernel)
  | int x => exact kit_ty (a := "int") (b := "bool") (r := false) (by decide +kernel)
  | str x => exact kit_ty (a := "str") (b := "bool") (r := false) (by decide +kernel)
  | list x => exact kit_ty (a := "list") (b := "bool") (r := false) (by decide +kernel)
  | tuple x => exact kit_ty (a := "tuple") (b := "bool") (r := false) (by decide +kernel)
  | dict x => exact kit_ty (a := "dict") (b := "bool") (r := false) (by decide +kernel)
theorem kit_tuple (d : PyData) : PySem.W.kitOne K (.type (tyD d)) (.type "tuple") = some (isT d) := by
  cases d with
  | none => exact kit_ty (a := "NoneType") (b := "tuple") (r := false) (by decide +kernel)
  | bool x => exact kit_ty (a := "bool") (b := "tuple") (r := false) (by decide +kernel)
  | int x => exact kit_ty (a := "int") (b := "tuple") (r := false) (by decide +kernel)
  | str x => exact kit_ty (a := "str") (b := "tuple") (r := false) (by decide +kernel)
  | list x => exact kit_ty (a := "list") (b := "tuple") (r := false) (by decide +kernel)
  | tuple x => exact kit_ty (a := "tuple") (b := "tuple") (r := true) (by decide +kernel)
  | dict x => exact kit_ty (a := "dict") (b := "tuple") (r := false) (by decide +kernel)
theorem kit_list (d : PyData) : PySem.W.kitOne K (.type (tyD d)) (.type "list") = some (isL d) := by
  cases d with
  | none => exact kit_ty (a := "NoneType") (b := "list") (r := false) (by decide +kernel)
  | bool x => exact kit_ty (a := "bool") (b := "list") (r := false) (by decide +kernel)
  | int x => exact kit_ty (a := "int") (b := "list") (r := false) (by decide +kernel)
  | str x => exact kit_ty (a := "str") (b := "list") (r := false) (by decide +kernel)
  | list x => exact kit_ty (a := "list") (b := "list") (r := true) (by decide +kernel)
  | tuple x => exact kit_ty (a := "tuple") (b := "list") (r := false) (by decide +kernel)
  | dict x => exact kit_ty (a := "dict") (b := "list") (r := false) (by decide +kernel)
theorem kit_str (d : PyData) : PySem.W.kitOne K (.type (tyD d)) (.type "str") = some (isS d) := by
  cases d with
  | none => exact kit_ty (a := "NoneType") (b := "str") (r := false) (by decide +kernel)
  | bool x => exact kit_ty (a := "bool") (b := "str") (r := false) (by decide +kernel)
  | int x => exact kit_ty (a := "int") (b := "str") (r := false) (by decide +kernel)
  | str x => exact kit_ty (a := "str") (b := "str") (r := true) (by decide +kernel)
  | list x => exact kit_ty (a := "list") (b := "str") (r := false) (by decide +kernel)
  | tuple x => exact kit_ty (a := "tuple") (b := "str") (r := false) (by decide +kernel)
  | dict x => exact kit_ty (a := "dict") (b := "str") (r := false) (by decide +kernel)
theorem isI_eq (d : PyData) : (isIB d && !isB d) = isI d := by cases d <;> rfl
end
theorem huX {k : Nat} {A : Around} (hr : Room k A) : A.units + 100 < cLine := by
  have := hr.un
  omega
end K13

set_option maxRecDepth 100000
set_option maxHeartbeats 4000000
namespace K13
open PySem PySem.Spec PyProof.Rows L2 DL
theorem ix_at {xs : List PyData} {i : Nat} {z : Int} {d : PyData} (h : xs[i]? = some d) (e : z = (i : Int)) : atI xs z = some d := by
  rw [e]
  exact atI_nat h
theorem getD_at {xs : List PyData} {i : Nat} {d : PyData} (h : xs[i]? = some d) : xs.getD i .none = d := by
  rw [List.getD_eq_getElem?_getD, h]
  rfl
def toI : PyData → Int
  | .int i => i
  | _ => 0
/-! ### the well and its draws -/
structure Well where
  deep : List Int
  s : Int
  t : Int
def Well.oo (W : Well) : OO := .well W.deep W.s W.t
def mix1 (s : Int) : Int := (s * 1181783497276652981 + 88172645463325) % 2305843009213693951
def mix2 (o : Int) : Int := (o * o + 374761393 * o + 11) % 2305843009213693921
def draw (m : Int) (W : Well) : Int × Well :=
  if m < 2 then (0, W)
  else match W.deep.getLast? with
    | some x => (x % m, { W with deep := if m ≤ x then W.deep.dropLast ++ [x / m] else W.deep.dropLast })
    | none => (mix2 (mix1 W.s) / 1048576 % m, { W with s := mix1 W.s })
theorem draw_lo (m : Int) (W : Well) : 0 ≤ (draw m W).1 := by
  unfold draw
  by_cases h : m < 2
  · rw [if_pos h]
    exact Int.le_refl 0
  · rw [if_neg h]
    cases W.deep.getLast? with
    | some x => exact Int.emod_nonneg _ (by omega)
    | none => exact Int.emod_nonneg _ (by omega)
theorem draw_hi {m : Int} (W : Well) (hm : 1 ≤ m) : (draw m W).1 < m := by
  unfold draw
  by_cases h : m < 2
  · rw [if_pos h]
    show (0 : Int) < m
    omega
  · rw [if_neg h]
    cases W.deep.getLast? with
    | some x => exact Int.emod_lt_of_pos _ (by omega)
    | none => exact Int.emod_lt_of_pos _ (by omega)
theorem draw_at (m : Int) (W : Well) : ∃ v W', draw m W = (v, W') ∧ 0 ≤ v ∧ (1 ≤ m → v < m) := ⟨(draw m W).1, (draw m W).2, rfl, draw_lo m W, draw_hi W⟩
section
variable {P : Program} {w : World} {K : PySem.W.Frag} {mg : Str → Option Value} {base : Heap}
def R_draw : FR := fun as ob r ob' => ∃ m W v W', as = [.own 0, .dat (.int m)] ∧ m ≤ 2000000000000 ∧ W.deep.length ≤ 100 ∧ ob = [W.oo] ∧ draw m W = (v, W') ∧ r = .dat (.int v) ∧ ob' = [W'.oo]
theorem div_ok {i m : Int} (h : 2 ≤ m) (h2 : m ≤ 2000000000000) : CDivW i m := by
  refine wide_div (b := 41) (by omega) ?_ (by decide) (by decide)
  rw [show (2 : Nat) ^ 41 = 2199023255552 from by decide]
  omega
theorem h1of {A : Around} (h : A.units + 100 < cLine) : A.units + 1 < cLine := by omega
theorem sc_law_draw : FnScope ["deck", "many", "whole", "one", "two"] ["deck", "many"] (defScope s_law_draw) := ⟨rfl, rfl, rfl, by decide +kernel, rfl, by decide +kernel, by decide +kernel⟩
theorem ok_law_draw (D : Df K mg "_law_draw" s_law_draw ["deck", "many"]) (B : Bi mg) : FnG P w K mg base CX0 1 D.f D.fd ["deck", "many"] (spD K 2 R_draw) := by
  refine okG D.F sc_law_draw (fun vs H Q E h => h.1) (fun cdv A outer s H vs Q E hr gd h => ?_)
  have hu := huX hr
  refine ⟨_, (pss_cons (ps_if (pt_cmpR (op_ltU hu) (pv 1) pe_int (nomark _)) (pss_one (ps_ret pe_int)) pss_nil)
      (pss_cons (ps_if (pt_cmpR (op_neU hu) (pe_dget (h1of hu) (pv 0) pe_str (fun _ _ => rfl)) (pe_lst pa_nil) (nomark _)) (pss_cons (ps_set (i := 2) sc_law_draw.nd rfl (Or.inl rfl) (pe_bm0 PySem.F.plainAttrs_list PySem.F.slot_list_pop PySem.F.type_list_pop mt_pop (pe_dget (h1of hu) (pv 0) pe_str (fun _ _ => rfl))))
        (pss_cons (ps_if (pt_cmpR op_geU (pv 2) (pv 1) (nomark _)) (pss_one (ps_expr (pe_bm PySem.F.plainAttrs_list PySem.F.slot_list_append PySem.F.type_list_append mt_append (pe_dget (h1of hu) (pv 0) pe_str (fun _ _ => rfl)) (pa_cons (pe_op op_divU (pv 2) (pv 1)) pa_nil)))) pss_nil)
        (pss_one (ps_ret (pe_op op_modU (pe_callTy cb_int (by rfl) B.z_int (by decide +kernel) (pa_cons (pv 2) pa_nil)) (pv 1)))))) pss_nil)
      (pss_cons (ps_set (i := 3) sc_law_draw.nd rfl (Or.inl rfl) (pe_op op_modU (pe_callTy cb_int (by rfl) B.z_int (by decide +kernel) (pa_cons (pe_op op_plus (pe_op op_mulU (pe_dget (h1of hu) (pv 0) pe_str (fun _ _ => rfl)) pe_int) pe_int) pa_nil)) pe_int))
      (pss_cons (ps_dput (h1of hu) (pv 0) pe_str (pv 3) rfl)
      (pss_cons (ps_set (i := 4) sc_law_draw.nd rfl (Or.inl rfl) (pe_op op_modU (pe_callTy cb_int (by rfl) B.z_int (by decide +kernel) (pa_cons (pe_op op_plus (pe_op op_plus (pe_op op_mulU (pv 3) (pv 3)) (pe_op op_mulU pe_int (pv 3))) pe_int) pa_nil)) pe_int))
      (pss_one (ps_ret (pe_op op_modU (pe_callTy cb_int (by rfl) B.z_int (by decide +kernel) (pa_cons (pe_op op_divU (pv 4) pe_int) pa_nil)) (pv 1))))))))), ?_⟩
  refine body_of h (by decide) fun as ob r ob' hR hl => ?_
  obtain ⟨m, W, v, W', rfl, hm, hd, rfl, hdr, rfl, rfl⟩ := hR
  obtain ⟨deep, s0, t0⟩ := W
  have hd' : deep.length ≤ 100 := hd
  have hS : (entry 5 [SD.own 0, .dat (.int m)] [Well.oo ⟨deep, s0, t0⟩]) = ⟨[.own 0, .dat (.int m), .un, .un, .un], [.well deep s0 t0]⟩ := rfl
  refine ts_seq (ts_if (et_test (ee_op (ee_var rfl) ee_int ro_lt)) (fun hb => ?_) fun hb => ts_next ?_)
  · have hlt : m < 2 := of_decide_eq_true hb
    have e : draw m ⟨deep, s0, t0⟩ = (0, ⟨deep, s0, t0⟩) := by
      unfold draw
      rw [if_pos hlt]
    rw [e] at hdr
    obtain ⟨rfl, rfl⟩ := Prod.mk.inj hdr
    exact ts_ret ee_int ⟨rfl, rfl⟩
  · have hge : ¬ m < 2 := of_decide_eq_false hb
    refine ts_seq (ts_if (et_test (ee_wne (ee_var rfl) rfl)) (fun hc => ?_) fun hc => ts_next ?_)
    · have hne : deep ≠ [] := by
        intro z
        rw [z] at hc
        cases hc
      obtain ⟨ds, x, rfl⟩ : ∃ ds x, deep = ds ++ [x] := ⟨deep.dropLast, deep.getLast hne, (List.dropLast_concat_getLast hne).symm⟩
      have e : draw m ⟨ds ++ [x], s0, t0⟩ = (x % m, ⟨if m ≤ x then ds ++ [x / m] else ds, s0, t0⟩) := by
        unfold draw
        rw [if_neg hge]
        show (match (ds ++ [x]).getLast? with
          | some x_1 => _
          | none => _) = _
        rw [List.getLast?_concat]
        show (x % m, (⟨if m ≤ x then (ds ++ [x]).dropLast ++ [x / m] else (ds ++ [x]).dropLast, s0, t0⟩ : Well)) = _
        rw [List.dropLast_concat]
      rw [e] at hdr
      obtain ⟨rfl, rfl⟩ := Prod.mk.inj hdr
      refine ts_seq (ts_asg (ee_wpop (ee_var rfl) rfl) ?_)
      have fin : ∀ (nx0 : SS → Prop) (es : List Int), (if m ≤ x then ds ++ [x / m] else ds) = es → Ts K (tRet (tOp rMod' (tCB rInt1 (tCons (tVar 2) tNil)) (tVar 1))) ⟨[.own 0, .dat (.int m), .dat (.int x), .un, .un], [.well es s0 t0]⟩
          { nx := nx0, rt := fun y S' => y = .dat (.int (x % m)) ∧ S'.ob = [Well.oo ⟨if m ≤ x then ds ++ [x / m] else ds, s0, t0⟩] } := fun nx0 es he => by
        rw [he]
        exact ts_ret (ee_op (ee_cb (ea_cons (ee_var rfl) ea_nil) rc_intI) (ee_var rfl) (ro_mod (by omega))) ⟨rfl, rfl⟩
      refine ts_seq (ts_if (et_test (ee_op (ee_var rfl) (ee_var rfl) ro_ge)) (fun hx => ts_drop (ee_wapp (ee_var rfl) ⟨_, _, _, rfl⟩ (ee_op (ee_var rfl) (ee_var rfl) (ro_div (div_ok (by omega) hm))) rfl rfl ?_) ?_) fun hx => ts_next ?_)
      · rw [List.length_append] at hd'
        omega
      · exact fin _ _ (by rw [if_pos (of_decide_eq_true hx)])
      · exact fin _ _ (by rw [if_neg (of_decide_eq_false hx)])
    · have hn : deep = [] := by
        cases deep with
        | nil => rfl
        | cons y ys => cases hc
      subst hn
      have e : draw m ⟨[], s0, t0⟩ = (mix2 (mix1 s0) / 1048576 % m, ⟨[], mix1 s0, t0⟩) := by
        unfold draw
        rw [if_neg hge]
        rfl
      rw [e] at hdr
      obtain ⟨rfl, rfl⟩ := Prod.mk.inj hdr
      have bd : ∀ y k : Int, 0 < k → k < 2 ^ 62 → -(2 ^ 64) < y % k ∧ y % k < 2 ^ 64 := fun y k h1 h2 => by
        have := Int.emod_nonneg y (show k ≠ 0 by omega)
        have := Int.emod_lt_of_pos y h1
        omega
      refine ts_seq (ts_asg (ee_op (ee_cb (ea_cons (ee_op (ee_op (ee_wS (ee_var rfl) rfl) ee_int (ro_mulR (by decide))) ee_int ro_add) ea_nil) rc_intI) ee_int (ro_mod (by decide))) ?_)
      refine ts_seq (ts_wstate (ee_var rfl) (ee_var rfl) rfl ?_)
      refine ts_seq (ts_asg (ee_op (ee_cb (ea_cons (ee_op (ee_op (ee_op (ee_var rfl) (ee_var rfl) (ro_mulL (bd _ _ (by decide) (by decide)))) (ee_op ee_int (ee_var rfl) (ro_mulL (by decide))) ro_add) ee_int ro_add) ea_nil) rc_intI) ee_int (ro_mod (by decide))) ?_)
      exact ts_ret (ee_op (ee_cb (ea_cons (ee_op (ee_var rfl) ee_int (ro_div (div_ok (by decide) (by decide)))) ea_nil) rc_intI) (ee_var rfl) (ro_mod (by omega))) ⟨rfl, rfl⟩
end
end K13

set_option maxRecDepth 100000
set_option maxHeartbeats 4000000
namespace K13
open PySem PySem.Spec PyProof.Rows L2 DL
/-! ### the deck of a script -/
def deckStep (D : List Int × Int) (x : Int) : List Int × Int :=
  (if (10 : Int) ^ (18 : Int).toNat ≤ (if x < 0 then -x else x) then (if x < 0 then -x else x) :: D.1 else D.1,
   ((D.2 + 2 * (if x < 0 then -x else x) + (if decide (x < 0) = true then 1 else 0) + 1) * 1181783497276652981 + 521288629) % 2305843009213693951)
def deckF (ns : List Int) (k : Nat) : List Int × Int := (ns.take k).foldl deckStep ([], 1278913 + ((ns.take 63).length : Int))
def wellOf (ns : List Int) : Well := ⟨(deckF (ns.take 63) 63).1, (deckF (ns.take 63) 63).2, 0⟩
theorem foldDeck_len : ∀ (l : List Int) (D : List Int × Int), (l.foldl deckStep D).1.length ≤ D.1.length + l.length
  | [], D => Nat.le_refl _
  | x :: l, D => by
    have := foldDeck_len l (deckStep D x)
    have h2 : (deckStep D x).1.length ≤ D.1.length + 1 := by
      unfold deckStep
      generalize (if x < 0 then -x else x) = ab
      by_cases h : (10 : Int) ^ (18 : Int).toNat ≤ ab
      · show (if (10 : Int) ^ (18 : Int).toNat ≤ ab then ab :: D.1 else D.1).length ≤ _
        rw [if_pos h]
        exact Nat.le_refl _
      · show (if (10 : Int) ^ (18 : Int).toNat ≤ ab then ab :: D.1 else D.1).length ≤ _
        rw [if_neg h]
        omega
    rw [List.foldl_cons, List.length_cons]
    omega
theorem deckF_len (ns : List Int) (k : Nat) : (deckF ns k).1.length ≤ k := by
  have := foldDeck_len (ns.take k) ([], 1278913 + ((ns.take 63).length : Int))
  have h2 : (ns.take k).length ≤ k := by
    rw [List.length_take]
    omega
  unfold deckF
  have h3 : (([], 1278913 + ((ns.take 63).length : Int)) : List Int × Int).1.length = 0 := rfl
  omega
theorem well_small (ns : List Int) : (wellOf ns).deep.length ≤ 100 := by
  have := deckF_len (ns.take 63) 63
  show (deckF (ns.take 63) 63).1.length ≤ 100
  omega
theorem deckF_succ {ns : List Int} {k : Nat} {x : Int} (h : ns[k]? = some x) : deckF ns (k + 1) = deckStep (deckF ns k) x := by
  unfold deckF
  generalize ((ns.take 63).length : Int) = q
  rw [List.take_add_one, h, List.foldl_append]
  rfl
theorem draw_deep (m : Int) (W : Well) (h : W.deep.length ≤ 100) : (draw m W).2.deep.length ≤ 100 := by
  unfold draw
  by_cases h1 : m < 2
  · rw [if_pos h1]
    exact h
  · rw [if_neg h1]
    cases hg : W.deep.getLast? with
    | none => exact h
    | some x =>
      have hne : W.deep ≠ [] := fun z => by
        rw [z] at hg
        cases hg
      have hl : 0 < W.deep.length := List.length_pos_iff.mpr hne
      show (if m ≤ x then W.deep.dropLast ++ [x / m] else W.deep.dropLast).length ≤ 100
      split
      · rw [List.length_append, List.length_dropLast, List.length_singleton]
        omega
      · rw [List.length_dropLast]
        omega
theorem take_snoc {α : Type} {l : List α} {i : Nat} {x : α} (h : l[i]? = some x) : l.take (i + 1) = l.take i ++ [x] := by
  rw [List.take_add_one, h]
  rfl
theorem int_at {ns : List Int} {i : Nat} {d : PyData} (h : (ns.map PyData.int)[i]? = some d) : ∃ x, ns[i]? = some x ∧ d = .int x := by
  rw [List.getElem?_map] at h
  cases e : ns[i]? with
  | none =>
    rw [e] at h
    cases h
  | some x =>
    rw [e] at h
    exact ⟨x, rfl, (Option.some.inj h).symm⟩
section
variable {P : Program} {w : World} {K : PySem.W.Frag} {mg : Str → Option Value} {base : Heap}
def IsScr (d : SD) (ns : List Int) : Prop := d = .scr ns ∨ d = .dat (.list (ns.map PyData.int))
theorem el_slW {K : PySem.W.Frag} {S S1 S2 S3 : SS} {te : TE} {tl th : TO} {lo hi : Option Int} {d : SD} {ns : List Int} (hd : IsScr d ns) (h : Ee K te S d S1) (hl : Eo K tl S1 lo S2) (hh : Eo K th S2 hi S3) : El K (tSl (rSlU K) te tl th) S (cutD (ns.map PyData.int) lo hi) S3 := by
  rcases hd with rfl | rfl
  · exact el_slScr h hl hh
  · exact el_slU h hl hh (.dat _)
theorem rc_lenW {K : PySem.W.Frag} {S : SS} {d : SD} {ns : List Int} (hd : IsScr d ns) : Rc K (DL.rLen K) [d] S (.dat (.int ns.length)) S := by
  rcases hd with rfl | rfl
  · exact rc_lenScr
  · have := rc_lenL (K := K) (S := S) (x := .dat (.list (ns.map PyData.int))) (ds := ns.map PyData.int) (.dat _)
    rw [List.length_map] at this
    exact this
/-- a def that makes the deck -/
theorem body_deck {R : FR} {N : List Str} {np : Nat} {ts : TS} {H : Hp} {vs : List V} {Q : VK} {E : XK} (h : spD K np R vs H Q E) (hN : np ≤ N.length)
    (hb : ∀ as ob r ob', R as ob r ob' → as.length = np → ∃ ds s, ob = [] ∧ r = .own 0 ∧ ob' = [.well ds s 0] ∧
      Ts K ts (entry N.length as []) { nx := fun _ => False, rt := fun (x : SD) (S' : SS) => ∃ (k j : Nat) (a l : Addr), x = SD.own k ∧ S'.ob[k]? = some (OO.raw a (.dK (wellK l s 0))) ∧ S'.ob[j]? = some (OO.raw l (.lst ((ds : List Int).map V.int))) }) : ts { nx := fun _ H' => Q .non H', rt := Q } (L2.start N vs) H := by
  obtain ⟨hl, Hf, fp, as, ob, r, ob', hd, hno, sr, hR, k⟩ := h
  have la : as.length = np := by
    rw [← hl]
    exact (Paired.length sr).symm
  obtain ⟨ds, s, rfl, rfl, rfl, hT⟩ := hb _ _ _ _ hR la
  have ok : Okk K (prot Hf H) Hf H (L2.start N vs) fp (entry N.length as []) := by
    refine ⟨hd, ?_, fun i d e => ?_⟩
    · unfold L2.start entry
      simp only [List.length_append, List.length_map, List.length_replicate]
      omega
    · unfold entry at e
      by_cases hi : i < as.length
      · rw [List.getElem?_append_left hi] at e
        obtain ⟨v, h1, h2⟩ := sr.get e
        refine ⟨some v, ?_, h2⟩
        unfold L2.start
        rw [List.getElem?_append_left (by rw [List.length_map]; omega), List.getElem?_map, h1]
        rfl
      · rw [List.getElem?_append_right (by omega), List.getElem?_replicate] at e
        split at e
        · rename_i hlt
          obtain rfl := Option.some.inj e
          refine ⟨none, ?_, trivial⟩
          unfold L2.start
          rw [List.getElem?_append_right (by rw [List.length_map]; omega), List.getElem?_replicate, if_pos (by rw [List.length_map]; omega)]
        · cases e
  have hfp : fp = [] := List.length_eq_zero_iff.mp hd.fl
  subst hfp
  refine hT _ Hf H _ [] ok _ (fun S' Hf' H' σ' fp' ok' g e => e.elim) (fun x S' v Hf' H' σ' fp' ok' g rv e => ?_) (fun _ _ _ _ _ _ _ z => z.elim) fun _ _ _ _ _ _ _ z => z.elim
  obtain ⟨i, j, a, l, rfl, e1, e2⟩ := e
  obtain ⟨p1, p2⟩ := ok'.raw e1
  obtain ⟨q1, q2⟩ := ok'.raw e2
  obtain rfl := ok'.rawV e1 rv
  have hal : a ≠ l := ne_of p2 q2 (by intro z; cases z)
  have ma : a ∈ fp'.flatten := mem_fl p1 (by simp)
  have ml : l ∈ fp'.flatten := mem_fl q1 (by simp)
  have two : ∀ {b : Addr}, b ∈ [[a, l]].flatten → b = a ∨ b = l := fun h => by simpa using h
  refine k (.ref a) Hf' H' [[a, l]] ⟨ok'.hd.ex, rfl, fun m q o h1 h2 => ?_, by simp [hal], fun b hb => ?_, fun m q o h1 h2 hx b hb => ?_, ok'.hd.pt, fun m q ds' h1 h2 b hb => ?_⟩ ⟨g.sm, List.nil_prefix, fun b o e _ => g.fr b o e (by simp), fun b hb => ?_, g.th⟩ ⟨a, [l], rfl, rfl⟩
  · match m, h1, h2 with
    | 0, h1, h2 =>
      cases h1
      cases h2
      exact ⟨a, l, rfl, p2, q2⟩
  · rcases two hb with rfl | rfl
    · exact ⟨_, p2⟩
    · exact ⟨_, q2⟩
  · match m, h1, h2 with
    | 0, h1, h2 =>
      cases h1
      rcases two (b := b) (by simpa using hb) with rfl | rfl
      · exact ok'.hd.nf i _ _ p1 e1 (by intro z; cases z) b (by simp)
      · exact ok'.hd.nf j _ _ q1 e2 (by intro z; cases z) b (by simp)
  · match m, h1, h2 with
    | 0, h1, h2 => cases h2
  · rcases two hb with rfl | rfl
    · exact (g.nw b ma).elim (fun z => by simp at z) .inr
    · exact (g.nw b ml).elim (fun z => by simp at z) .inr
def R_well : FR := fun as ob r ob' => ∃ d ns, as = [d] ∧ IsScr d ns ∧ ob = [] ∧ r = .own 0 ∧ ob' = [(wellOf ns).oo]
theorem sc_law_deck : FnScope ["script", "deck", "cell", "whole", "state"] ["script"] (defScope s_law_deck) := ⟨rfl, rfl, rfl, by decide +kernel, rfl, by decide +kernel, by decide +kernel⟩
theorem ok_law_deck (D : Df K mg "_law_deck" s_law_deck ["script"]) (B : Bi mg) : FnG P w K mg base CX0 1 D.f D.fd ["script"] (spD K 1 R_well) := by
  refine okG D.F sc_law_deck (fun vs H Q E h => h.1) (fun cdv A outer s H vs Q E hr gd h => ?_)
  have hu := huX hr
  refine ⟨_, (pss_cons (ps_set (i := 1) sc_law_deck.nd rfl (Or.inl rfl) (pe_disp (pps_cons pe_str (pe_lst pa_nil) (pps_cons pe_str (pe_op op_plus pe_int (pe_callB cb_len (by rfl) B.z_len PySem.boot_len (pa_cons (pe_slice sl_any (pv 0) po_none (po_some pe_int)) pa_nil))) pps_nil)) (by rfl) (by rfl) (fun z => by cases z) (by decide)))
      (pss_cons (ps_for PassesOwn.never rfl (pi_list (pe_slice sl_any (pv 0) po_none (po_some pe_int))) (pg_name (i := 2) sc_law_deck.nd rfl (Or.inl rfl))
        (pss_cons (ps_set (i := 3) sc_law_deck.nd rfl (Or.inl rfl) (pe_callB cb_abs (by rfl) B.z_abs (by decide +kernel) (pa_cons (pv 2) pa_nil)))
        (pss_cons (ps_if (pt_cmpR op_geU (pv 3) (pe_op op_powU pe_int pe_int) (nomark _)) (pss_one (ps_dput (h1of hu) (pv 1) pe_str (pe_op op_plus (pe_lst (pa_cons (pv 3) pa_nil)) (pe_dget (h1of hu) (pv 1) pe_str (fun _ _ => rfl))) rfl)) pss_nil)
        (pss_cons (ps_set (i := 4) sc_law_deck.nd rfl (Or.inl rfl) (pe_op op_plus (pe_op op_mulU (pe_op op_plus (pe_op op_plus (pe_op op_plus (pe_dget (h1of hu) (pv 1) pe_str (fun _ _ => rfl)) (pe_op op_mulU pe_int (pv 3))) (pe_callTy cb_int (by rfl) B.z_int (by decide +kernel) (pa_cons (pe_cmpR (op_ltU hu) (pv 2) pe_int (nomark _)) pa_nil))) pe_int) pe_int) pe_int))
        (pss_one (ps_dput (h1of hu) (pv 1) pe_str (pe_op op_modU (pe_callTy cb_int (by rfl) B.z_int (by decide +kernel) (pa_cons (pv 4) pa_nil)) pe_int) rfl))))))
      (pss_one (ps_ret (pv 1))))), ?_⟩
  refine body_deck h (by decide) fun as ob r ob' hR hl => ?_
  obtain ⟨dz, ns, rfl, hdz, rfl, rfl, rfl⟩ := hR
  have hdn : dz ≠ .un := by rcases hdz with rfl | rfl <;> intro z <;> cases z
  refine ⟨_, _, rfl, rfl, rfl, ?_⟩
  have sl63 : ∀ S : SS, S.sl[0]? = some dz → Ee K (tSl (rSlU K) (tVar 0) tNoPart (tPart (tC (.int 63)))) S (.dat (.list ((ns.take 63).map PyData.int))) S := fun S hS => by
    have := ee_of_el (el_slW (K := K) hdz (ee_var (i := 0) (S := S) hS hdn) eo_none (eo_some (ee_int (j := 63))))
    rw [show (63 : Int) = ((63 : Nat) : Int) from rfl, cut_take] at this
    exact this
  refine ts_seq (ts_newdeck (s := 1278913 + ((ns.take 63).length : Int)) (fun ob' => ?_) fun a l => ?_)
  · have := ee_op (K := K) (ee_int (S := { entry 5 [dz] [] with ob := ob' }) (j := 1278913)) (ee_cb (ea_cons (sl63 { entry 5 [dz] [] with ob := ob' } rfl) ea_nil) (rc_lenL (.dat _))) ro_add
    rw [List.length_map] at this
    exact this
  generalize hns : ns.take 63 = cs
  have hcs : cs.length ≤ 63 := by
    rw [← hns, List.length_take]
    omega
  have htk : cs.take 63 = cs := List.take_of_length_le hcs
  refine ts_seq (ts_for (ds := cs.map PyData.int) (S0 := ⟨[dz, .own 0, .un, .un, .un], [.raw a (.dK (wellK l (1278913 + (cs.length : Int)) 0)), .raw l (.lst [])]⟩) (by
    rw [← hns]
    exact ei_list (sl63 _ rfl)) (fun k S => ∃ x y z j l ob, S = ⟨[dz, .own 0, x, y, z], OO.raw a (.dK (wellK l (deckF cs k).2 0)) :: ob⟩ ∧ (OO.raw a (.dK (wellK l (deckF cs k).2 0)) :: ob)[j + 1]? = some (.raw l (.lst ((deckF cs k).1.map V.int)))) ⟨.un, .un, .un, 0, l, [.raw l (.lst [])], ?_, rfl⟩ ?_ ?_)
  · have e : (deckF cs 0).2 = 1278913 + (cs.length : Int) := by
      unfold deckF
      rw [htk]
      rfl
    rw [e]
  · rintro k d S' hd ⟨x, y, z, j, l, ob, rfl, hj⟩
    obtain ⟨v, hv, rfl⟩ := int_at hd
    have hk : k < cs.length := (List.getElem?_eq_some_iff.mp hv).1
    have dl := deckF_len cs k
    rw [deckF_succ hv]
    generalize deckF cs k = D at hj dl ⊢
    obtain ⟨deep, st⟩ := D
    have hj : ob[j]? = some (.raw l (.lst (deep.map V.int))) := hj
    have dl : deep.length ≤ k := dl
    generalize hab : (if v < 0 then -v else v) = ab
    refine ⟨_, eg_name, ts_seq (ts_asg (x := .dat (.int ab)) (S1 := ⟨[dz, .own 0, .dat (.int v), y, z], OO.raw a (.dK (wellK l st 0)) :: ob⟩) (by rw [← hab]; exact ee_cb (ea_cons (ee_var rfl) ea_nil) rc_abs) ?_)⟩
    refine ts_join (fun S => ∃ (j : Nat) (l : Addr) (ob : List OO), S = ⟨[dz, .own 0, .dat (.int v), .dat (.int ab), z], OO.raw a (.dK (wellK l st 0)) :: ob⟩ ∧ ob[j]? = some (OO.raw l (.lst ((if (10 : Int) ^ (18 : Int).toNat ≤ ab then ab :: deep else deep).map V.int)))) (ts_if (b := decide ((10 : Int) ^ (18 : Int).toNat ≤ ab)) (S1 := ⟨[dz, .own 0, .dat (.int v), .dat (.int ab), z], OO.raw a (.dK (wellK l st 0)) :: ob⟩) (et_test (ee_op (ee_var rfl) (ee_op ee_int ee_int ro_pow) ro_ge)) (fun hb => ?_) fun hb => ts_next ?_) ?_
    · refine ts_rdeep (ds := ab :: deep) (k := 0) (a := a) (l := l) (s := st) (t := 0) (el_rcons (j := j + 1) (k := 0) (a := a) (l := l) (s := st) (t := 0) (ee_var rfl) rfl rfl hj (by omega)) rfl rfl fun l' => ⟨ob.length, l', ob ++ [OO.raw l' (.lst ((ab :: deep).map V.int))], rfl, ?_⟩
      rw [if_pos (of_decide_eq_true hb)]
      exact List.getElem?_concat_length
    · refine ⟨j, l, ob, rfl, ?_⟩
      rw [if_neg (of_decide_eq_false hb)]
      exact hj
    · rintro S' ⟨j, l, ob, rfl, hj⟩
      refine ts_seq (ts_asg (ee_op (ee_op (ee_op (ee_op (ee_op (ee_rS (i := 1) (k := 0) (a := a) (l := l) (t := 0) rfl rfl) (ee_op ee_int (ee_var rfl) (ro_mulL (by decide))) ro_add) (ee_cb (ea_cons (ee_op (ee_var rfl) ee_int ro_lt) ea_nil) rc_intB) ro_add) ee_int ro_add) ee_int (ro_mulR (by decide))) ee_int ro_add) ?_)
      refine ts_rstate (k := 0) (a := a) (l := l) (s := st) (t := 0) (ee_op (ee_cb (ea_cons (ee_var rfl) ea_nil) rc_intI) ee_int (ro_mod (by decide))) rfl rfl ?_
      refine ⟨.dat (.int v), .dat (.int ab), .dat (.int ((st + 2 * ab + (if decide (v < 0) = true then 1 else 0) + 1) * 1181783497276652981 + 521288629)), j, l, ob, ?_, ?_⟩
      · unfold deckStep
        rw [hab]
        rfl
      · unfold deckStep
        rw [hab]
        exact hj
  · rintro S' ⟨x, y, z, j, l, ob, rfl, hj⟩
    rw [List.length_map] at hj ⊢
    have e : deckF cs cs.length = deckF cs 63 := by
      unfold deckF
      rw [List.take_of_length_le (Nat.le_refl _), htk]
    rw [e] at hj ⊢
    have e2 : (wellOf ns).deep = (deckF cs 63).1 ∧ (wellOf ns).s = (deckF cs 63).2 := by
      unfold wellOf
      rw [hns]
      exact ⟨rfl, rfl⟩
    rw [e2.1, e2.2]
    exact ts_ret (ee_var rfl) ⟨0, j + 1, a, l, rfl, rfl, hj⟩
/-! ### draws as one step -/
theorem ee_drw {E : XK} {ta : TA} {S S1 : SS} {m v : Int} {W W' : Well} {k : Nat} (ha : Ea K ta S [.own k, .dat (.int m)] S1) (ho : S1.ob[k]? = some W.oo) (hdr : draw m W = (v, W')) (hm : m ≤ 2000000000000) (hd : W.deep.length ≤ 100) :
    Ee K (tCall (spD K 2 R_draw) [] E ta) S (.dat (.int v)) { S1 with ob := S1.ob.set k W'.oo } :=
  ee_call1 (k := k) (as := [.own 0, .dat (.int m)]) (r := .dat (.int v)) (o' := W'.oo) ha rfl (fun a h j e => by
    subst e
    rcases List.mem_cons.mp h with e | e
    · cases e
      rfl
    · rw [List.mem_singleton] at e
      cases e) rfl ho (fun z => by cases z) (fun _ z => by cases z) ⟨m, W, v, W', rfl, hm, hd, rfl, hdr, rfl, rfl⟩
def R_pick : FR := fun as ob r ob' => ∃ W ds v W' d, as = [.own 0, .dat (.list ds)] ∧ ob = [W.oo] ∧ W.deep.length ≤ 100 ∧ ds.length ≤ 1000 ∧ draw ds.length W = (v, W') ∧ ds[v.toNat]? = some d ∧ r = .dat d ∧ ob' = [W'.oo]
theorem sc_law_pick : FnScope ["deck", "items"] ["deck", "items"] (defScope s_law_pick) := ⟨rfl, rfl, rfl, by decide +kernel, rfl, by decide +kernel, by decide +kernel⟩
theorem ok_law_pick (D : Df K mg "_law_pick" s_law_pick ["deck", "items"]) (B : Bi mg) (D_law_draw : Df K mg "_law_draw" s_law_draw ["deck", "many"]) : FnG P w K mg base CX0 2 D.f D.fd ["deck", "items"] (spD K 2 R_pick) := by
  have ok_law_draw : FnG P w K mg base CX0 1 _ _ _ _ := ok_law_draw D_law_draw B
  refine okG D.F sc_law_pick (fun vs H Q E h => h.1) (fun cdv A outer s H vs Q E hr gd h => ?_)
  have hu := huX hr
  refine ⟨_, (pss_one (ps_ret (pe_ix ix_seq (pv 1) (pe_callG (ok_law_draw) (hr.mono (by decide)) gd (by rfl) D_law_draw.m D_law_draw.F.kp D_law_draw.b .nil pass0 (pa_cons (pv 0) (pa_cons (pe_callB cb_len (by rfl) B.z_len PySem.boot_len (pa_cons (pv 1) pa_nil)) pa_nil))) (fun _ _ => rfl)))), ?_⟩
  refine body_of h (by decide) fun as ob r ob' hR hl => ?_
  obtain ⟨W, ds, v, W', d, rfl, rfl, hd, hz, hdr, he, rfl, rfl⟩ := hR
  have h0 : 0 ≤ v := by
    have := draw_lo (ds.length : Int) W
    rw [hdr] at this
    exact this
  refine ts_ret (ee_op (ee_var rfl) (ee_drw (ea_cons (ee_var rfl) (ea_cons (ee_cb (ea_cons (ee_var rfl) ea_nil) (rc_lenL (.dat _))) ea_nil)) rfl hdr (by omega) hd) (ro_ixL (.dat _) ?_)) ⟨rfl, rfl⟩
  exact ix_at he (by omega)
theorem ee_dr {E : XK} {ta : TA} {S S1 : SS} {m : Int} {W : Well} {k : Nat} (ha : Ea K ta S [.own k, .dat (.int m)] S1) (ho : S1.ob[k]? = some W.oo) (hm : m ≤ 2000000000000) (hd : W.deep.length ≤ 100) :
    Ee K (tCall (spD K 2 R_draw) [] E ta) S (.dat (.int (draw m W).1)) { S1 with ob := S1.ob.set k (draw m W).2.oo } := ee_drw ha ho rfl hm hd
end
section
variable {P : Program} {w : World} {K : PySem.W.Frag} {mg : Str → Option Value} {base : Heap}
theorem ee_pck {E : XK} {ta : TA} {S S1 : SS} {ds : List PyData} {v : Int} {d : PyData} {W W' : Well} {k : Nat} (ha : Ea K ta S [.own k, .dat (.list ds)] S1) (ho : S1.ob[k]? = some W.oo) (hdr : draw ds.length W = (v, W')) (he : ds[v.toNat]? = some d) (hm : ds.length ≤ 1000) (hd : W.deep.length ≤ 100) :
    Ee K (tCall (spD K 2 R_pick) [] E ta) S (.dat d) { S1 with ob := S1.ob.set k W'.oo } :=
  ee_call1 (k := k) (as := [.own 0, .dat (.list ds)]) (r := .dat d) (o' := W'.oo) ha rfl (fun a h j e => by
    subst e
    rcases List.mem_cons.mp h with e | e
    · cases e
      rfl
    · rw [List.mem_singleton] at e
      cases e) rfl ho (fun z => by cases z) (fun _ z => by cases z) ⟨W, ds, v, W', d, rfl, rfl, hd, hm, hdr, he, rfl, rfl⟩
theorem ee_w1 {E : XK} {ta : TA} {S S1 : SS} {R : FR} {np k : Nat} {W W' : Well} {d : PyData} (ds : List PyData) (ha : Ea K ta S (.own k :: ds.map SD.dat) S1) (ho : S1.ob[k]? = some W.oo) (hl : ds.length + 1 = np) (hR : R (.own 0 :: ds.map SD.dat) [W.oo] (.dat d) [W'.oo]) :
    Ee K (tCall (spD K np R) [] E ta) S (.dat d) { S1 with ob := S1.ob.set k W'.oo } := by
  refine ee_call1 (k := k) (as := .own 0 :: ds.map SD.dat) (r := .dat d) (o' := W'.oo) ha ?_ (fun a h j e => ?_) ?_ ho (fun z => by cases z) (fun _ z => by cases z) hR
  · rw [List.map_cons, List.map_map]
    rfl
  · subst e
    rcases List.mem_cons.mp h with e | e
    · cases e
      rfl
    · obtain ⟨x, _, e⟩ := List.mem_map.mp e
      cases e
  · rw [List.length_cons, List.length_map]
    exact hl
end
end K13

set_option maxRecDepth 100000
set_option maxHeartbeats 4000000
namespace K13
open PySem PySem.Spec PyProof.Rows L2 DL
/-! ### values whose text is short -/
structure Nc (k b : Nat) (d : PyData) : Prop where
  s : d.showable = true
  t : d.depth ≤ k
  z : d.shown.length ≤ b
theorem Nc.mono {k b k' b' : Nat} {d : PyData} (h : Nc k b d) (h1 : k ≤ k') (h2 : b ≤ b') : Nc k' b' d := ⟨h.s, Nat.le_trans h.t h1, Nat.le_trans h.z h2⟩
theorem piled_le {b : Nat} : ∀ {ts : List Str}, (∀ t ∈ ts, t.length ≤ b) → piled ts ≤ ts.length * (b + 2)
  | [], _ => Nat.zero_le _
  | t :: r, h => by
    rw [piled_cons, List.length_cons, Nat.succ_mul]
    have := h t List.mem_cons_self
    have := piled_le (ts := r) fun x hx => h x (List.mem_cons_of_mem _ hx)
    omega
theorem tupleText_le (ts : List Str) : (tupleText ts).length ≤ piled ts + 3 := by
  unfold tupleText
  rw [strLen_append, strLen_append]
  have e1 : ((("(" : String) : Str)).length = 1 := rfl
  have e3 : (((if ts.length == 1 then ",)" else ")" : String) : Str)).length ≤ 2 := by split <;> decide
  rw [e1]
  by_cases h : ts = []
  · subst h
    have : (Str.join ", " []).length = 0 := rfl
    omega
  · have := join_length_add ts h
    omega
theorem listText_le : ∀ ts : List Str, (listText ts).length ≤ piled ts + 2
  | [] => by decide
  | t :: r => by
    have h := textFrom_length_pos r 1 (("[" : Str) ++ (if (0 : Nat) > 0 then ", " else "" : String) ++ t) (Nat.succ_pos 0)
    have e : ((("[" : Str) ++ (if (0 : Nat) > 0 then ", " else "" : String) ++ t)).length = 1 + t.length := by
      rw [strLen_append, strLen_append]
      rfl
    have hX : (listText (t :: r)).length = (textFrom 0 "[" (t :: r)).length + 1 := by
      show (textFrom 0 "[" (t :: r) ++ "]").length = _
      rw [strLen_append]
      rfl
    have hY : (textFrom 0 "[" (t :: r)).length = (textFrom 1 (("[" : Str) ++ (if (0 : Nat) > 0 then ", " else "" : String) ++ t) r).length := rfl
    rw [piled_cons]
    omega
theorem shownAll_mem {b : Nat} : ∀ {xs : List PyData}, (∀ x ∈ xs, x.shown.length ≤ b) → ∀ t ∈ PyData.shownAll xs, t.length ≤ b
  | [], _, t, h => by
    unfold PyData.shownAll at h
    cases h
  | x :: xs, hx, t, h => by
    unfold PyData.shownAll at h
    rcases List.mem_cons.mp h with rfl | h
    · exact hx x List.mem_cons_self
    · exact shownAll_mem (fun y hy => hx y (List.mem_cons_of_mem _ hy)) t h
theorem shownAll_len : ∀ xs : List PyData, (PyData.shownAll xs).length = xs.length
  | [] => rfl
  | x :: xs => by
    unfold PyData.shownAll
    rw [List.length_cons, List.length_cons, shownAll_len xs]
theorem showableAll_of : ∀ {xs : List PyData}, (∀ x ∈ xs, x.showable = true) → PyData.showableAll xs = true
  | [], _ => rfl
  | x :: xs, h => by
    unfold PyData.showableAll
    rw [h x List.mem_cons_self, showableAll_of fun y hy => h y (List.mem_cons_of_mem _ hy)]
    rfl
theorem depthAll_of {k : Nat} : ∀ {xs : List PyData}, (∀ x ∈ xs, x.depth ≤ k) → PyData.depthAll xs ≤ k
  | [], _ => Nat.zero_le _
  | x :: xs, h => by
    unfold PyData.depthAll
    exact Nat.max_le.mpr ⟨h x List.mem_cons_self, depthAll_of fun y hy => h y (List.mem_cons_of_mem _ hy)⟩
theorem Nc.tup {k b m : Nat} {xs : List PyData} (h : ∀ x ∈ xs, Nc k b x) (hl : xs.length ≤ m) : Nc (k + 1) (m * (b + 2) + 3) (.tuple xs) := by
  refine ⟨by unfold PyData.showable; exact showableAll_of fun x hx => (h x hx).s, by unfold PyData.depth; exact Nat.succ_le_succ (depthAll_of fun x hx => (h x hx).t), ?_⟩
  unfold PyData.shown
  have h1 := tupleText_le (PyData.shownAll xs)
  have h2 := piled_le (b := b) (shownAll_mem fun x hx => (h x hx).z)
  rw [shownAll_len] at h2
  have h3 := Nat.mul_le_mul_right (b + 2) hl
  omega
theorem Nc.lst {k b m : Nat} {xs : List PyData} (h : ∀ x ∈ xs, Nc k b x) (hl : xs.length ≤ m) : Nc (k + 1) (m * (b + 2) + 3) (.list xs) := by
  refine ⟨by unfold PyData.showable; exact showableAll_of fun x hx => (h x hx).s, by unfold PyData.depth; exact Nat.succ_le_succ (depthAll_of fun x hx => (h x hx).t), ?_⟩
  unfold PyData.shown
  have h1 := listText_le (PyData.shownAll xs)
  have h2 := piled_le (b := b) (shownAll_mem fun x hx => (h x hx).z)
  rw [shownAll_len] at h2
  have h3 := Nat.mul_le_mul_right (b + 2) hl
  omega
theorem Nc.int {i : Int} {k : Nat} (h : i.natAbs.log2 < 1900) : Nc k 1901 (.int i) := by
  refine ⟨by unfold PyData.showable; exact decide_eq_true (by omega), Nat.zero_le _, ?_⟩
  unfold PyData.shown
  rw [PySem.ofString_length]
  exact int_text_length_le (by decide) h
theorem Nc.ints {i : Int} {k : Nat} (h : -1000 ≤ i ∧ i ≤ 1000) : Nc k 1901 (.int i) := Nc.int (by
  have h1 : i.natAbs < 2 ^ 10 := by
    rw [show (2 : Nat) ^ 10 = 1024 from rfl]
    omega
  by_cases h0 : i.natAbs = 0
  · rw [h0]
    decide
  · have := (Nat.log2_lt h0).mpr h1
    omega)
theorem Nc.non {k : Nat} : Nc k 1901 .none := ⟨rfl, Nat.zero_le _, by decide⟩
theorem Nc.bl {k : Nat} (b : Bool) : Nc k 1901 (.bool b) := by cases b <;> exact ⟨rfl, Nat.zero_le _, by decide⟩
theorem Nc.str {k : Nat} {x : Str} (h : (reprText x).length ≤ 1901 := by decide +kernel) : Nc k 1901 (.str x) := ⟨rfl, Nat.zero_le _, h⟩
theorem Nc.emp : Nc 1 1901 (.dict []) := ⟨rfl, by decide, by decide⟩
theorem nc_two {k : Nat} {x y : PyData} (h1 : Nc k 1901 x) (h2 : Nc k 1901 y) : Nc (k + 1) 3809 (.tuple [x, y]) := Nc.tup (b := 1901) (m := 2) (fun z hz => by
  rcases List.mem_cons.mp hz with rfl | hz
  · exact h1
  · rw [List.mem_singleton.mp hz]
    exact h2) (Nat.le_refl _)
theorem all_cons {P : PyData → Prop} {x : PyData} {xs : List PyData} (h : P x) (t : ∀ y ∈ xs, P y) : ∀ y ∈ x :: xs, P y := fun y hy => by
  rcases List.mem_cons.mp hy with rfl | hy
  · exact h
  · exact t y hy
theorem all_nil {P : PyData → Prop} : ∀ y ∈ ([] : List PyData), P y := fun _ h => by cases h
theorem rc_rep {K : PySem.W.Frag} {S : SS} {d : PyData} (h : Nc 60 16000000 d) : Rc K (rRepr K) [.dat d] S (.dat (.str d.shown)) S := rc_repr h.s (Nat.le_trans h.t (by decide)) (Nat.le_trans h.z (by decide))
def InKey (x : Int) : Prop := -1000000000000 ≤ x ∧ x ≤ 1000000000000
theorem Nc.key {i : Int} {k : Nat} (h : InKey i) : Nc k 1901 (.int i) := Nc.int (by
  obtain ⟨a, b⟩ := h
  have h1 : i.natAbs < 2 ^ 40 := by
    rw [show (2 : Nat) ^ 40 = 1099511627776 from rfl]
    omega
  by_cases h0 : i.natAbs = 0
  · rw [h0]
    decide
  · have := (Nat.log2_lt h0).mpr h1
    omega)
theorem nc_rowT {ns : List Int} {m : Nat} (h : ∀ x ∈ ns, InKey x) (hl : ns.length ≤ m) : Nc 1 (m * 1903 + 3) (.tuple (ns.map PyData.int)) := Nc.tup (k := 0) (fun x hx => by
  obtain ⟨i, h1, rfl⟩ := List.mem_map.mp hx
  exact Nc.key (h i h1)) (by rw [List.length_map]; exact hl)
theorem nc_rowL {ns : List Int} {m : Nat} (h : ∀ x ∈ ns, InKey x) (hl : ns.length ≤ m) : Nc 1 (m * 1903 + 3) (.list (ns.map PyData.int)) := Nc.lst (k := 0) (fun x hx => by
  obtain ⟨i, h1, rfl⟩ := List.mem_map.mp hx
  exact Nc.key (h i h1)) (by rw [List.length_map]; exact hl)
end K13

set_option maxRecDepth 100000
set_option maxHeartbeats 4000000
namespace K13
open PySem PySem.Spec PyProof.Rows L2 DL
/-! ### networks and rows -/
abbrev Gate := Int × Int
def gD (g : Gate) : PyData := .tuple [.int g.1, .int g.2]
def nD (net : List Gate) : PyData := .tuple (net.map gD)
def rD (row : List Int) : PyData := .tuple (row.map PyData.int)
def NetOk (n : Nat) (net : List Gate) : Prop := ∀ g ∈ net, 0 ≤ g.1 ∧ g.1 < g.2 ∧ g.2 < n
def rngI (n : Nat) : List Int := (List.range n).map fun (i : Nat) => (0 : Int) + (i : Int)
theorem rngI_len (n : Nat) : (rngI n).length = n := by
  unfold rngI
  rw [List.length_map, List.length_range]
theorem rngD_map (n : Nat) : rngD 0 n = (rngI n).map PyData.int := by
  unfold rngD rngI
  rw [List.map_map]
  rfl
theorem rngI_get {n i : Nat} (h : i < n) : (rngI n).getD i 0 = (i : Int) := by
  unfold rngI
  rw [List.getD_eq_getElem?_getD, List.getElem?_map, List.getElem?_range h]
  show (0 : Int) + (i : Int) = i
  omega
theorem at_int {ns : List Int} {i : Int} (h0 : 0 ≤ i) (h : i < ns.length) : atI (ns.map PyData.int) i = some (.int (ns.getD i.toNat 0)) := by
  have hn : i.toNat < ns.length := by omega
  refine ix_at (i := i.toNat) ?_ (by omega)
  rw [List.getElem?_map, List.getElem?_eq_getElem hn, List.getD_eq_getElem?_getD, List.getElem?_eq_getElem hn]
  rfl
def val (row : List Int) (p : Int) : Int := row.getD p.toNat 0
theorem val_at {row : List Int} {i : Nat} {x : Int} (h : row[i]? = some x) : val row (i : Int) = x := by
  unfold val
  rw [Int.toNat_natCast, List.getD_eq_getElem?_getD, h]
  rfl
def swp (pl : List Int) (i j : Nat) : List Int := (pl.set i (pl.getD j 0)).set j (pl.getD i 0)
def stepR (row : List Int) (k : Nat) (g : Gate) (s : List Int × List Int) : List Int × List Int :=
  if val row (s.1.getD g.2.toNat 0) < val row (s.1.getD g.1.toNat 0) then (swp s.1 g.1.toNat g.2.toNat, s.2 ++ [(k : Int)]) else s
def runK (row : List Int) (net : List Gate) : Nat → List Int × List Int
  | 0 => (rngI row.length, [])
  | k + 1 => stepR row k (net.getD k (0, 0)) (runK row net k)
def runP (row : List Int) (net : List Gate) : List Int := (runK row net net.length).1
def runS (row : List Int) (net : List Gate) : List Int := (runK row net net.length).2
def runO (row : List Int) (net : List Gate) : List Int := (runP row net).map (val row)
theorem swp_len (pl : List Int) (i j : Nat) : (swp pl i j).length = pl.length := by
  unfold swp
  rw [List.length_set, List.length_set]
theorem runK_len (row : List Int) (net : List Gate) : ∀ k, (runK row net k).1.length = row.length
  | 0 => rngI_len _
  | k + 1 => by
    show (stepR row k _ (runK row net k)).1.length = _
    unfold stepR
    split
    · rw [swp_len]
      exact runK_len row net k
    · exact runK_len row net k
theorem swp_get (pl : List Int) {i j : Nat} (hi : i < pl.length) (hj : j < pl.length) (m : Nat) : (swp pl i j).getD m 0 = if m = j then pl.getD i 0 else if m = i then pl.getD j 0 else pl.getD m 0 := by
  unfold swp
  rw [List.getD_eq_getElem?_getD, List.getD_eq_getElem?_getD, List.getD_eq_getElem?_getD, List.getD_eq_getElem?_getD, List.getElem?_set, List.getElem?_set, List.length_set]
  by_cases e : j = m
  · rw [if_pos e, if_pos hj, if_pos e.symm]
    rfl
  · rw [if_neg e, if_neg (show ¬ m = j from fun z => e z.symm)]
    by_cases e2 : i = m
    · rw [if_pos e2, if_pos hi, if_pos (show m = i from e2.symm)]
      rfl
    · rw [if_neg e2, if_neg (show ¬ m = i from fun z => e2 z.symm)]
theorem swp_perm (pl : List Int) {i j : Nat} (hi : i < pl.length) (hj : j < pl.length) : (swp pl i j).Perm pl := by
  unfold swp
  rw [List.getD_eq_getElem?_getD, List.getD_eq_getElem?_getD, List.getElem?_eq_getElem hi, List.getElem?_eq_getElem hj]
  exact List.set_set_perm hi hj
theorem gate_at {n : Nat} {net : List Gate} (h : NetOk n net) {k : Nat} (hk : k < net.length) : 0 ≤ (net.getD k (0, 0)).1 ∧ (net.getD k (0, 0)).1 < (net.getD k (0, 0)).2 ∧ (net.getD k (0, 0)).2 < n := by
  rw [List.getD_eq_getElem?_getD, List.getElem?_eq_getElem hk]
  exact h _ (List.getElem_mem hk)
theorem runK_perm {row : List Int} {net : List Gate} (h : NetOk row.length net) : ∀ k, k ≤ net.length → (runK row net k).1.Perm (rngI row.length)
  | 0, _ => List.Perm.refl _
  | k + 1, hk => by
    have ih := runK_perm h k (by omega)
    have g := gate_at h (k := k) (by omega)
    have l := runK_len row net k
    show (stepR row k _ (runK row net k)).1.Perm _
    unfold stepR
    split
    · exact (swp_perm _ (by omega) (by omega)).trans ih
    · exact ih
theorem rngI_mem {n : Nat} {p : Int} (h : p ∈ rngI n) : 0 ≤ p ∧ p < n := by
  unfold rngI at h
  obtain ⟨i, h1, h2⟩ := List.mem_map.mp h
  have := List.mem_range.mp h1
  omega
theorem runK_mem {row : List Int} {net : List Gate} (h : NetOk row.length net) {k : Nat} (hk : k ≤ net.length) {i : Nat} (hi : i < row.length) : 0 ≤ (runK row net k).1.getD i 0 ∧ (runK row net k).1.getD i 0 < row.length := by
  have l := runK_len row net k
  refine rngI_mem ((runK_perm h k hk).subset ?_)
  rw [List.getD_eq_getElem?_getD, List.getElem?_eq_getElem (by omega)]
  exact List.getElem_mem _
theorem spots_len (row : List Int) (net : List Gate) : ∀ k, (runK row net k).2.length ≤ k
  | 0 => Nat.le_refl _
  | k + 1 => by
    have := spots_len row net k
    show (stepR row k _ (runK row net k)).2.length ≤ _
    unfold stepR
    split
    · rw [List.length_append, List.length_singleton]
      omega
    · omega
theorem net_at {net : List Gate} {k : Nat} {d : PyData} (h : (net.map gD)[k]? = some d) : k < net.length ∧ d = .tuple [.int (net.getD k (0, 0)).1, .int (net.getD k (0, 0)).2] := by
  rw [List.getElem?_map] at h
  by_cases hk : k < net.length
  · rw [List.getElem?_eq_getElem hk] at h
    refine ⟨hk, ?_⟩
    rw [List.getD_eq_getElem?_getD, List.getElem?_eq_getElem hk]
    exact (Option.some.inj h).symm
  · rw [List.getElem?_eq_none (by omega)] at h
    cases h
section
variable {P : Program} {w : World} {K : PySem.W.Frag} {mg : Str → Option Value} {base : Heap}
def GoodIn (net : List Gate) (row : List Int) : Prop := NetOk row.length net ∧ net.length ≤ 2000 ∧ row.length ≤ 100
def R_run : FR := fun as ob r ob' => ∃ net row, as = [.dat (nD net), .dat (rD row)] ∧ GoodIn net row ∧ ob = [] ∧ r = .dat (.tuple [.list ((runP row net).map PyData.int), .list ((runS row net).map PyData.int)]) ∧ ob' = []
def R_came : FR := fun as ob r ob' => ∃ net row, as = [.dat (nD net), .dat (rD row)] ∧ GoodIn net row ∧ ob = [] ∧ r = .dat (rD (runP row net)) ∧ ob' = []
def R_exchanged : FR := fun as ob r ob' => ∃ net row, as = [.dat (nD net), .dat (rD row)] ∧ GoodIn net row ∧ ob = [] ∧ r = .dat (rD (runS row net)) ∧ ob' = []
def R_out : FR := fun as ob r ob' => ∃ net row, as = [.dat (nD net), .dat (rD row)] ∧ GoodIn net row ∧ ob = [] ∧ r = .dat (rD (runO row net)) ∧ ob' = []
theorem runP_mem {row : List Int} {net : List Gate} (h : NetOk row.length net) {p : Int} (hp : p ∈ runP row net) : 0 ≤ p ∧ p < row.length := rngI_mem ((runK_perm h _ (Nat.le_refl _)).subset hp)
theorem runP_len (row : List Int) (net : List Gate) : (runP row net).length = row.length := runK_len _ _ _
theorem runO_len (row : List Int) (net : List Gate) : (runO row net).length = row.length := by
  unfold runO
  rw [List.length_map, runP_len]
theorem mapI (f : Int → Int) (ns : List Int) : (ns.map PyData.int).map (fun d => PyData.int (f (toI d))) = (ns.map f).map PyData.int := by
  rw [List.map_map, List.map_map]
  rfl
end
end K13

set_option maxRecDepth 100000
set_option maxHeartbeats 4000000
namespace K13
open PySem PySem.Spec PyProof.Rows L2 DL
theorem getD_mem {p : Int → Prop} {l : List Int} {i : Nat} (h : ∀ x ∈ l, p x) (h0 : p 0) : p (l.getD i 0) := by
  rw [List.getD_eq_getElem?_getD]
  by_cases e : i < l.length
  · rw [List.getElem?_eq_getElem e]
    exact h _ (List.getElem_mem e)
  · rw [List.getElem?_eq_none (by omega)]
    exact h0
end K13

set_option maxRecDepth 100000
set_option maxHeartbeats 4000000
namespace K13
open PySem PySem.Spec PyProof.Rows L2 DL
/-! ### what is asked of runs -/
theorem keys_of {row : List Int} (h : ∀ x ∈ row, InKey x) {p : Int} : InKey (val row p) := by
  unfold val
  exact getD_mem h (by unfold InKey; decide)
theorem runO_key {row : List Int} {net : List Gate} (h : ∀ x ∈ row, InKey x) : ∀ x ∈ runO row net, InKey x := fun x hx => by
  unfold runO at hx
  obtain ⟨p, _, rfl⟩ := List.mem_map.mp hx
  exact keys_of h
theorem runP_key {row : List Int} {net : List Gate} (h : GoodIn net row) : ∀ x ∈ runP row net, InKey x := fun x hx => by
  have := runP_mem h.1 hx
  have := h.2.2
  unfold InKey
  omega
theorem runK_spot {row : List Int} {net : List Gate} : ∀ k, ∀ x ∈ (runK row net k).2, 0 ≤ x ∧ x < k
  | 0, x, hx => by cases hx
  | k + 1, x, hx => by
    have ih := runK_spot (row := row) (net := net) k
    have hx : x ∈ (stepR row k (net.getD k (0, 0)) (runK row net k)).2 := hx
    unfold stepR at hx
    split at hx
    · rcases List.mem_append.mp hx with hx | hx
      · have := ih x hx
        omega
      · have := List.mem_singleton.mp hx
        omega
    · have := ih x hx
      omega
theorem runS_key {row : List Int} {net : List Gate} (h : GoodIn net row) : ∀ x ∈ runS row net, InKey x := fun x hx => by
  have := runK_spot net.length x hx
  have := h.2.1
  unfold InKey
  omega
theorem runS_len (row : List Int) (net : List Gate) : (runS row net).length ≤ net.length := spots_len row net net.length
theorem nc_net {n : Nat} {net : List Gate} (h : NetOk n net) (hn : n ≤ 100) (hl : net.length ≤ 1000) : Nc 2 3811003 (nD net) := (Nc.tup (k := 1) (b := 3809) (m := 1000) (fun x hx => by
  obtain ⟨g, hg, rfl⟩ := List.mem_map.mp hx
  have := h g hg
  exact nc_two (k := 0) (Nc.ints (by omega)) (Nc.ints (by omega))) (by rw [List.length_map]; exact hl)).mono (Nat.le_refl _) (by decide)
theorem nc_both {net : List Gate} {row : List Int} (h : GoodIn net row) (hl : net.length ≤ 1000) (hk : ∀ x ∈ row, InKey x) : Nc 60 16000000 (.list [nD net, rD row]) := (Nc.lst (k := 2) (b := 3811003) (m := 2) (all_cons (nc_net h.1 h.2.2 hl) (all_cons ((nc_rowT hk h.2.2).mono (by decide) (by decide)) all_nil)) (Nat.le_refl _)).mono (by decide) (by decide)
def seenD (net : List Gate) (row : List Int) : PyData := .list [rD (runO row net), rD (runP row net), rD (runS row net)]
theorem nc_seen {net : List Gate} {row : List Int} (h : GoodIn net row) (hl : net.length ≤ 1000) (hk : ∀ x ∈ row, InKey x) : Nc 60 16000000 (seenD net row) := by
  have l1 := runO_len row net
  have l2 := runP_len row net
  have l3 := runS_len row net
  have := h.2.2
  exact (Nc.lst (k := 2) (b := 1903003) (m := 3) (all_cons ((nc_rowT (m := 1000) (runO_key hk) (by omega)).mono (by decide) (by decide)) (all_cons ((nc_rowT (m := 1000) (runP_key h) (by omega)).mono (by decide) (by decide)) (all_cons ((nc_rowT (m := 1000) (runS_key h) (by omega)).mono (by decide) (by decide)) all_nil))) (Nat.le_refl _)).mono (by decide) (by decide)
/-- things with equal keys in the order of their places -/
def Stable (row pl : List Int) : Prop := ∀ a b : Nat, a < b → b < pl.length → val row (pl.getD a 0) = val row (pl.getD b 0) → pl.getD a 0 < pl.getD b 0
theorem near_stable {row : List Int} {net : List Gate} (h : NetOk row.length net) (hn : ∀ g ∈ net, ¬ g.1 + 1 < g.2) : ∀ k, k ≤ net.length → Stable row (runK row net k).1
  | 0, _ => fun a b h1 h2 _ => by
    have e : (runK row net 0).1 = rngI row.length := rfl
    rw [e] at h2 ⊢
    rw [rngI_len] at h2
    rw [rngI_get (by omega), rngI_get h2]
    omega
  | k + 1, hk => by
    have ih := near_stable h hn k (by omega)
    have hg := gate_at h (k := k) (by omega)
    have hm : net.getD k (0, 0) ∈ net := by
      rw [List.getD_eq_getElem?_getD, List.getElem?_eq_getElem (show k < net.length by omega)]
      exact List.getElem_mem _
    have hj := hn _ hm
    have l := runK_len row net k
    show Stable row (stepR row k (net.getD k (0, 0)) (runK row net k)).1
    generalize net.getD k (0, 0) = g at hg hj
    generalize runK row net k = st at ih l
    unfold stepR
    split
    · rename_i hlt
      intro a b hab hb e
      have hb : b < (swp st.1 g.1.toNat g.2.toNat).length := hb
      rw [swp_len] at hb
      have e : val row ((swp st.1 g.1.toNat g.2.toNat).getD a 0) = val row ((swp st.1 g.1.toNat g.2.toNat).getD b 0) := e
      show (swp st.1 g.1.toNat g.2.toNat).getD a 0 < (swp st.1 g.1.toNat g.2.toNat).getD b 0
      have s := swp_get st.1 (i := g.1.toNat) (j := g.2.toNat) (by omega) (by omega)
      rw [s a, s b] at e ⊢
      by_cases a1 : a = g.2.toNat
      · rw [if_pos a1] at e ⊢
        rw [if_neg (show ¬ b = g.2.toNat by omega), if_neg (show ¬ b = g.1.toNat by omega)] at e ⊢
        exact ih _ _ (by omega) hb e
      · rw [if_neg a1] at e ⊢
        by_cases a2 : a = g.1.toNat
        · rw [if_pos a2] at e ⊢
          by_cases b1 : b = g.2.toNat
          · rw [if_pos b1] at e
            omega
          · rw [if_neg b1, if_neg (show ¬ b = g.1.toNat by omega)] at e ⊢
            exact ih _ _ (by omega) hb e
        · rw [if_neg a2] at e ⊢
          by_cases b1 : b = g.2.toNat
          · rw [if_pos b1] at e ⊢
            exact ih _ _ (by omega) (by omega) e
          · rw [if_neg b1] at e ⊢
            by_cases b2 : b = g.1.toNat
            · rw [if_pos b2] at e ⊢
              exact ih _ _ (by omega) (by omega) e
            · rw [if_neg b2] at e ⊢
              exact ih _ _ hab hb e
    · exact ih
theorem calm_run {row : List Int} {net : List Gate} (h : NetOk row.length net) (hr : row.Pairwise (· ≤ ·)) : ∀ k, k ≤ net.length → runK row net k = (rngI row.length, [])
  | 0, _ => rfl
  | k + 1, hk => by
    have hg := gate_at h (k := k) (by omega)
    show stepR row k (net.getD k (0, 0)) (runK row net k) = _
    rw [calm_run h hr k (by omega)]
    generalize net.getD k (0, 0) = g at hg
    refine if_neg ?_
    show ¬ val row ((rngI row.length).getD g.2.toNat 0) < val row ((rngI row.length).getD g.1.toNat 0)
    rw [rngI_get (by omega), rngI_get (by omega)]
    have h1 : g.1.toNat < row.length := by omega
    have h2 : g.2.toNat < row.length := by omega
    rw [val_at (List.getElem?_eq_getElem h1), val_at (List.getElem?_eq_getElem h2)]
    have := List.pairwise_iff_getElem.mp hr g.1.toNat g.2.toNat h1 h2 (by omega)
    omega
theorem rng_val (row : List Int) : (rngI row.length).map (val row) = row := by
  refine List.ext_getElem? fun i => ?_
  rw [List.getElem?_map]
  by_cases h : i < row.length
  · unfold rngI
    rw [List.getElem?_map, List.getElem?_range h, List.getElem?_eq_getElem h]
    show some (val row ((0 : Int) + (i : Int))) = _
    rw [Int.zero_add, val_at (List.getElem?_eq_getElem h)]
  · rw [List.getElem?_eq_none (by rw [rngI_len]; omega), List.getElem?_eq_none (by omega)]
    rfl
theorem calm_seen {row : List Int} {net : List Gate} (h : NetOk row.length net) (hr : row.Pairwise (· ≤ ·)) : seenD net row = .list [rD row, .tuple (rngD 0 row.length), .tuple []] := by
  unfold seenD runO runP runS
  rw [calm_run h hr _ (Nat.le_refl _), rng_val, rngD_map]
  rfl
theorem sort_places {row : List Int} {net : List Gate} (h : NetOk row.length net) : sortI (runP row net) = rngI row.length := by
  refine (sortI_of (runK_perm h net.length (Nat.le_refl _)).symm ?_).symm
  unfold rngI
  rw [List.pairwise_map]
  exact (List.pairwise_lt_range (n := row.length)).imp fun {a b} h => by omega
end K13

set_option maxRecDepth 100000
set_option maxHeartbeats 4000000
namespace K13
open PySem PySem.Spec PyProof.Rows L2 DL
/-! ### keys on the lines, gate by gate -/
def keyK (row : List Int) (net : List Gate) (k : Nat) : List Int := (runK row net k).1.map (val row)
theorem keyK_len (row : List Int) (net : List Gate) (k : Nat) : (keyK row net k).length = row.length := (List.length_map ..).trans (runK_len row net k)
def swaps (row : List Int) (net : List Gate) (k : Nat) : Prop := (keyK row net k).getD (net.getD k (0, 0)).2.toNat 0 < (keyK row net k).getD (net.getD k (0, 0)).1.toNat 0
instance (row : List Int) (net : List Gate) (k : Nat) : Decidable (swaps row net k) := by
  unfold swaps
  infer_instance
theorem mapD (f : Int → Int) (pl : List Int) {m : Nat} (hm : m < pl.length) : (pl.map f).getD m 0 = f (pl.getD m 0) := by
  rw [List.getD_eq_getElem?_getD, List.getD_eq_getElem?_getD, List.getElem?_map, List.getElem?_eq_getElem hm]
  rfl
theorem swp_map (f : Int → Int) (pl : List Int) {i j : Nat} (hi : i < pl.length) (hj : j < pl.length) : (swp pl i j).map f = swp (pl.map f) i j := by
  unfold swp
  rw [List.map_set, List.map_set, mapD f pl hi, mapD f pl hj]
theorem run_step {row : List Int} {net : List Gate} (h : NetOk row.length net) {k : Nat} (hk : k < net.length) :
    keyK row net (k + 1) = (if swaps row net k then swp (keyK row net k) (net.getD k (0, 0)).1.toNat (net.getD k (0, 0)).2.toNat else keyK row net k) ∧ (runK row net (k + 1)).2 = (if swaps row net k then (runK row net k).2 ++ [(k : Int)] else (runK row net k).2) := by
  have hg := gate_at h hk
  have l := runK_len row net k
  have sw : swaps row net k ↔ val row ((runK row net k).1.getD (net.getD k (0, 0)).2.toNat 0) < val row ((runK row net k).1.getD (net.getD k (0, 0)).1.toNat 0) := by
    unfold swaps keyK
    rw [mapD _ _ (by omega), mapD _ _ (by omega)]
  have e : runK row net (k + 1) = stepR row k (net.getD k (0, 0)) (runK row net k) := rfl
  by_cases s : swaps row net k
  · rw [if_pos s, if_pos s]
    unfold keyK
    rw [e]
    unfold stepR
    rw [if_pos (sw.mp s)]
    exact ⟨swp_map _ _ (by omega) (by omega), rfl⟩
  · rw [if_neg s, if_neg s]
    unfold keyK
    rw [e]
    unfold stepR
    rw [if_neg (fun z => s (sw.mpr z))]
    exact ⟨rfl, rfl⟩
theorem keyK0 (row : List Int) (net : List Gate) : keyK row net 0 = row := rng_val row
end K13

set_option maxRecDepth 100000
set_option maxHeartbeats 4000000
namespace K13
open PySem PySem.Spec PyProof.Rows L2 DL
/-! ### far gates -/
def isFar (g : Gate) : Bool := decide (g.1 + 1 < g.2)
def gAt (net : List Gate) (s : Int) : Gate := net.getD s.toNat (0, 0)
def farS (net : List Gate) (sp : List Int) : List Int := sp.filter fun s => isFar (gAt net s)
def firstF (net : List Gate) (sp : List Int) : Int := ((farS net sp).head?).getD (net.length : Int)
theorem gAt_at {net : List Gate} {s : Int} (h0 : 0 ≤ s) (h : s < net.length) : atI (net.map gD) s = some (gD (gAt net s)) := by
  have hs : s.toNat < net.length := by omega
  refine ix_at (i := s.toNat) ?_ (by omega)
  unfold gAt
  rw [List.getElem?_map, List.getElem?_eq_getElem hs, List.getD_eq_getElem?_getD, List.getElem?_eq_getElem hs]
  rfl
theorem firstF_cons (net : List Gate) (s : Int) (sp : List Int) : firstF net (s :: sp) = if isFar (gAt net s) = true then s else firstF net sp := by
  unfold firstF farS
  rw [List.filter_cons]
  split <;> rfl
section
variable {P : Program} {w : World} {K : PySem.W.Frag} {mg : Str → Option Value} {base : Heap}
def R_isfar : FR := fun as ob r ob' => ∃ g : Gate, as = [.dat (gD g)] ∧ ob = [] ∧ r = .dat (.bool (isFar g)) ∧ ob' = []
def R_first : FR := fun as ob r ob' => ∃ (net : List Gate) (sp : List Int), as = [.dat (nD net), .dat (rD sp)] ∧ (∀ s ∈ sp, 0 ≤ s ∧ s < net.length) ∧ ob = [] ∧ r = .dat (.int (firstF net sp)) ∧ ob' = []
end
end K13

set_option maxRecDepth 100000
set_option maxHeartbeats 4000000
namespace K13
open PySem PySem.Spec PyProof.Rows L2 DL
/-! ### the law's own running -/
theorem keyS_zero (row : List Int) (net : List Gate) : (runK row net 0).1.map (val row) = row := rng_val row
def lrunD (net : List Gate) (row : List Int) : PyData := .tuple [rD (runO row net), rD (runP row net), .list ((runS row net).map PyData.int)]
section
variable {P : Program} {w : World} {K : PySem.W.Frag} {mg : Str → Option Value} {base : Heap}
def R_lrun : FR := fun as ob r ob' => ∃ net row, as = [.dat (nD net), .dat (rD row)] ∧ GoodIn net row ∧ ob = [] ∧ r = .dat (lrunD net row) ∧ ob' = []
theorem sc_law_run : FnScope ["network", "row", "keys", "places", "spots", "spot", "i", "j"] ["network", "row"] (defScope s_law_run) := ⟨rfl, rfl, rfl, by decide +kernel, rfl, by decide +kernel, by decide +kernel⟩
theorem ok_law_run (D : Df K mg "_law_run" s_law_run ["network", "row"]) (B : Bi mg) : FnG P w K mg base CX0 1 D.f D.fd ["network", "row"] (spD K 2 R_lrun) := by
  refine okG D.F sc_law_run (fun vs H Q E h => h.1) (fun cdv A outer s H vs Q E hr gd h => ?_)
  have hu := huX hr
  refine ⟨_, (pss_cons (ps_par3 (i := 2) (j := 3) (l := 4) (by rfl) sc_law_run.nd rfl rfl rfl (by decide) (by decide) (by decide) rfl rfl rfl (pa_cons (pe_callTy cb_list (by rfl) B.z_list (by decide +kernel) (pa_cons (pv 1) pa_nil)) (pa_cons (pe_listRg rfl (by rfl) B.z_list (prg_1 (by rfl) B.z_range (pe_callB cb_len (by rfl) B.z_len PySem.boot_len (pa_cons (pv 1) pa_nil)))) (pa_cons (pe_lst pa_nil) pa_nil))) (by rfl))
      (pss_cons (ps_for PassesOwn.never rfl (pi_enumT (by rfl) B.z_enumerate (pa_cons (pv 0) pa_nil)) (pg_tup rfl (pgs_cons (pg_name (i := 5) sc_law_run.nd rfl (Or.inl rfl)) (pgs_cons (pg_tup rfl (pgs_cons (pg_name (i := 6) sc_law_run.nd rfl (Or.inl rfl)) (pgs_cons (pg_name (i := 7) sc_law_run.nd rfl (Or.inl rfl)) pgs_nil))) pgs_nil)))
        (pss_one (ps_if (pt_cmpR (op_gtU hu) (pe_ix ix_seq (pv 2) (pv 6) (fun _ _ => rfl)) (pe_ix ix_seq (pv 2) (pv 7) (fun _ _ => rfl)) (nomark _)) (pss_cons (ps_asg (pe_tup (pa_cons (pe_ix ix_seq (pv 2) (pv 7) (fun _ _ => rfl)) (pa_cons (pe_ix ix_seq (pv 2) (pv 6) (fun _ _ => rfl)) pa_nil))) (pg_tup rfl (pgs_cons (pg_sub (pv 2) (pv 6) set_list) (pgs_cons (pg_sub (pv 2) (pv 7) set_list) pgs_nil))))
          (pss_cons (ps_asg (pe_tup (pa_cons (pe_ix ix_seq (pv 3) (pv 7) (fun _ _ => rfl)) (pa_cons (pe_ix ix_seq (pv 3) (pv 6) (fun _ _ => rfl)) pa_nil))) (pg_tup rfl (pgs_cons (pg_sub (pv 3) (pv 6) set_list) (pgs_cons (pg_sub (pv 3) (pv 7) set_list) pgs_nil))))
          (pss_one (ps_expr (pe_bm PySem.F.plainAttrs_list PySem.F.slot_list_append PySem.F.type_list_append mt_append (pv 4) (pa_cons (pv 5) pa_nil)))))) pss_nil)))
      (pss_one (ps_ret (pe_tup (pa_cons (pe_callTy cb_tuple (by rfl) B.z_tuple (by decide +kernel) (pa_cons (pv 2) pa_nil)) (pa_cons (pe_callTy cb_tuple (by rfl) B.z_tuple (by decide +kernel) (pa_cons (pv 3) pa_nil)) (pa_cons (pv 4) pa_nil)))))))), ?_⟩
  refine body_ofG h (by decide) (fun as ob r ob' hR => ?_) fun as ob r ob' hR hl => ?_
  · obtain ⟨net, row, rfl, _, rfl, rfl, rfl⟩ := hR
    exact ⟨Nat.le_refl _, fun _ z => by cases z⟩
  obtain ⟨net, row, rfl, ⟨hnet, hnl, hrl⟩, rfl, rfl, rfl⟩ := hR
  refine ts_seq (ts_par3 (x := .own 0) (y := .own 1) (z := .own 2) (S1 := ⟨[.dat (nD net), .dat (rD row), .un, .un, .un, .un, .un, .un], [.lst (row.map PyData.int), .lst ((rngI row.length).map PyData.int), .lst []]⟩)
    (ea_cons (S1 := ⟨[.dat (nD net), .dat (rD row), .un, .un, .un, .un, .un, .un], [.lst (row.map PyData.int)]⟩) (eo_of_el (S1 := ⟨[.dat (nD net), .dat (rD row), .un, .un, .un, .un, .un, .un], []⟩) (el_cb (ea_cons (ee_var rfl) ea_nil) rcl_listT))
    (ea_cons (S1 := ⟨[.dat (nD net), .dat (rD row), .un, .un, .un, .un, .un, .un], [.lst (row.map PyData.int), .lst ((rngI row.length).map PyData.int)]⟩) (eo_of_el (S1 := ⟨[.dat (nD net), .dat (rD row), .un, .un, .un, .un, .un, .un], [.lst (row.map PyData.int)]⟩) ?_)
    (ea_cons (eo_of_el (el_lst ed_nil)) ea_nil))) ?_)
  · have := el_rng1 (K := K) (S := ⟨[.dat (nD net), .dat (rD row), .un, .un, .un, .un, .un, .un], [.lst (row.map PyData.int)]⟩) (i := ((row.map PyData.int).length : Int)) (ee_cb (ea_cons (ee_var (i := 1) rfl) ea_nil) rc_lenT) (by rw [List.length_map]; omega)
    rw [List.length_map, Int.toNat_natCast, rngD_map] at this
    exact this
  refine ts_seq (ts_for (ei_enumT (ed_cons (ee_var rfl) ed_nil)) (fun k S => ∃ a b c, S = ⟨[.dat (nD net), .dat (rD row), .own 0, .own 1, .own 2, a, b, c], [.lst (((runK row net k).1.map (val row)).map PyData.int), .lst ((runK row net k).1.map PyData.int), .lst ((runK row net k).2.map PyData.int)]⟩) ⟨.un, .un, .un, by rw [keyS_zero]; rfl⟩ ?_ ?_)
  · rintro k d S' hd ⟨a, b, c, rfl⟩
    obtain ⟨e, he, rfl⟩ := enumD_get hd
    obtain ⟨hk, rfl⟩ := net_at he
    have hg := gate_at hnet hk
    generalize hgg : net.getD k (0, 0) = g at hg
    have l1 := runK_len row net k
    have sl := spots_len row net k
    have hs : runK row net (k + 1) = stepR row k g (runK row net k) := by
      rw [← hgg]
      rfl
    rw [hs]
    generalize runK row net k = st at l1 sl
    obtain ⟨pl, sp⟩ := st
    have l1 : pl.length = row.length := l1
    have sl : sp.length ≤ k := sl
    have v1 : (pl.map (val row)).getD g.1.toNat 0 = val row (pl.getD g.1.toNat 0) := mapD _ _ (by omega)
    have v2 : (pl.map (val row)).getD g.2.toNat 0 = val row (pl.getD g.2.toNat 0) := mapD _ _ (by omega)
    have l2 : (pl.map (val row)).length = row.length := by rw [List.length_map]; exact l1
    have i1 : atI ((pl.map (val row)).map PyData.int) g.1 = some (.int (val row (pl.getD g.1.toNat 0))) := by rw [← v1]; exact at_int (by omega) (by omega)
    have i2 : atI ((pl.map (val row)).map PyData.int) g.2 = some (.int (val row (pl.getD g.2.toNat 0))) := by rw [← v2]; exact at_int (by omega) (by omega)
    have p1 : atI (pl.map PyData.int) g.1 = some (.int (pl.getD g.1.toNat 0)) := at_int (by omega) (by omega)
    have p2 : atI (pl.map PyData.int) g.2 = some (.int (pl.getD g.2.toNat 0)) := at_int (by omega) (by omega)
    have n1 : ∀ ds : List PyData, ds.length = row.length → ixN ds.length g.1 = some g.1.toNat := fun ds e => by
      unfold ixN
      rw [if_pos (by omega), if_pos (by omega)]
    have n2 : ∀ ds : List PyData, ds.length = row.length → ixN ds.length g.2 = some g.2.toNat := fun ds e => by
      unfold ixN
      rw [if_pos (by omega), if_pos (by omega)]
    refine ⟨_, eg_tup (egs_cons eg_name (egs_cons (eg_tup (egs_cons eg_name (egs_cons eg_name egs_nil))) egs_nil)), ?_⟩
    refine ts_if (et_test (ee_op (ee_op (ee_var rfl) (ee_var rfl) (ro_ixL (.own rfl) i1)) (ee_op (ee_var rfl) (ee_var rfl) (ro_ixL (.own rfl) i2)) ro_gt)) (fun hb => ?_) fun hb => ?_
    · refine ts_seq (ts_asgG (ee_tup (ed_cons (ee_op (ee_var rfl) (ee_var rfl) (ro_ixL (.own rfl) i2)) (ed_cons (ee_op (ee_var rfl) (ee_var rfl) (ro_ixL (.own rfl) i1)) ed_nil)))
        (egh_tup (eghs_cons (egh_sub (ee_var rfl) (ee_var rfl) rfl (n1 _ (by rw [List.length_map]; exact l2))) (eghs_cons (egh_sub (ee_var rfl) (ee_var rfl) rfl (n2 _ (by rw [List.length_set, List.length_map]; exact l2))) eghs_nil))) ?_)
      refine ts_seq (ts_asgG (ee_tup (ed_cons (ee_op (ee_var rfl) (ee_var rfl) (ro_ixL (.own rfl) p2)) (ed_cons (ee_op (ee_var rfl) (ee_var rfl) (ro_ixL (.own rfl) p1)) ed_nil)))
        (egh_tup (eghs_cons (egh_sub (ee_var rfl) (ee_var rfl) rfl (n1 _ (by rw [List.length_map]; exact l1))) (eghs_cons (egh_sub (ee_var rfl) (ee_var rfl) rfl (n2 _ (by rw [List.length_set, List.length_map]; exact l1))) eghs_nil))) ?_)
      refine ts_drop (ee_append (ee_var rfl) (ee_var rfl) ⟨_, rfl⟩ rfl (by rw [List.length_map]; omega)) ⟨.dat (.int (k : Int)), .dat (.int g.1), .dat (.int g.2), ?_⟩
      have e : stepR row k g (pl, sp) = (swp pl g.1.toNat g.2.toNat, sp ++ [(k : Int)]) := if_pos (of_decide_eq_true hb)
      rw [e]
      show (⟨_, [.lst ((((pl.map (val row)).map PyData.int).set g.1.toNat (.int (val row (pl.getD g.2.toNat 0)))).set g.2.toNat (.int (val row (pl.getD g.1.toNat 0)))), .lst (((pl.map PyData.int).set _ _).set _ _), .lst _]⟩ : SS) = ⟨_, [.lst (((swp pl g.1.toNat g.2.toNat).map (val row)).map PyData.int), .lst ((swp pl g.1.toNat g.2.toNat).map PyData.int), .lst ((sp ++ [(k : Int)]).map PyData.int)]⟩
      rw [swp_map _ _ (by omega) (by omega), ← v1, ← v2]
      unfold swp
      rw [List.map_set, List.map_set, List.map_set, List.map_set, List.map_append]
      rfl
    · have e : stepR row k g (pl, sp) = (pl, sp) := if_neg (of_decide_eq_false hb)
      rw [e]
      exact ts_next ⟨_, _, _, rfl⟩
  · rintro S' ⟨a, b, c, rfl⟩
    rw [enumD_len, List.length_map]
    refine ts_ghost (i := 4) (k := 2) (ds := (runS row net).map PyData.int) rfl rfl ?_
    exact ts_ret (S1 := ⟨[.dat (nD net), .dat (rD row), .own 0, .own 1, .dat (.list ((runS row net).map PyData.int)), a, b, c], [.lst ((runO row net).map PyData.int), .lst ((runP row net).map PyData.int), .gone]⟩) (ee_tup (ed_cons (d := rD (runO row net)) (ee_cb (ea_cons (ee_var rfl) ea_nil) (rc_tupL (.own rfl))) (ed_cons (d := rD (runP row net)) (ee_cb (ea_cons (ee_var rfl) ea_nil) (rc_tupL (.own rfl))) (ed_cons (d := .list ((runS row net).map PyData.int)) (ee_var rfl) ed_nil)))) ⟨rfl, List.nil_prefix⟩
end
end K13

set_option maxRecDepth 100000
set_option maxHeartbeats 4000000
namespace K13
open PySem PySem.Spec PyProof.Rows L2 DL
/-! ### pairs of places, words -/
abbrev Pr := Nat × Nat
def pD (x : Pr) : PyData := .tuple [.int (x.1 : Int), .int (x.2 : Int)]
def oD (ps : List Pr) : PyData := .tuple (ps.map pD)
/-- an order's pairs -/
def PrOk (n : Nat) (ps : List Pr) : Prop := ∀ x ∈ ps, x.1 < x.2 ∧ x.2 < n
theorem map_at {α : Type} {f : α → PyData} {l : List α} {i : Nat} {d : PyData} (h : (l.map f)[i]? = some d) : ∃ x, l[i]? = some x ∧ d = f x := by
  rw [List.getElem?_map] at h
  cases e : l[i]? with
  | none =>
    rw [e] at h
    cases h
  | some x =>
    rw [e] at h
    exact ⟨x, rfl, (Option.some.inj h).symm⟩
def rowOf : PyData → List Int
  | .tuple zs => zs.map toI
  | _ => []
theorem rowOf_rD (row : List Int) : rowOf (rD row) = row := by
  show (row.map PyData.int).map toI = row
  rw [List.map_map]
  exact List.map_id row
end K13

set_option maxRecDepth 100000
set_option maxHeartbeats 4000000
namespace K13
open PySem PySem.Spec PyProof.Rows L2 DL
/-! ### rows that are let -/
theorem rp_bools {K : PySem.W.Frag} {Hf : Hp} : ∀ {bs : List Bool} {xs : List V}, RpA K Hf xs (bs.map PyData.bool) → xs = bs.map V.bl
  | [], _, .nil => rfl
  | b :: bs, _, .cons h t => by
    cases h
    rw [rp_bools t]
    rfl
theorem rc_all {K : PySem.W.Frag} {S : SS} {bs : List Bool} : Rc K (rAll K) [.dat (.list (bs.map PyData.bool))] S (.dat (.bool (bs.all id))) S := fun c Hf H σ fp ok vs r Q q => by
  obtain ⟨v, rfl, rv⟩ := r.one
  cases rv with
  | lst h1 h2 => exact ⟨_, bs, rfl, .inl (.inl (by rw [← rp_bools h2]; exact ok.hd.ex _ _ h1)), q _ _ _ _ ok Gr.refl (Rp.bl _)⟩
theorem kI_at {row : List Int} {i : Nat} (h : i < row.length) : atI (row.map PyData.int) (i : Int) = some (.int (row.getD i 0)) := atI_nat (by
  rw [List.getElem?_map, List.getElem?_eq_getElem h, List.getD_eq_getElem?_getD, List.getElem?_eq_getElem h]
  rfl)
def letN (row : List Int) (x : Pr) : Bool := decide (row.getD x.1 0 ≤ row.getD x.2 0)
def letsN (ps : List Pr) (row : List Int) : Bool := ps.all (letN row)
section
variable {P : Program} {w : World} {K : PySem.W.Frag} {mg : Str → Option Value} {base : Heap}
def R_lets : FR := fun as ob r ob' => ∃ (ps : List Pr) (row : List Int), as = [.dat (.tuple (ps.map pD)), .dat (.tuple (row.map PyData.int))] ∧ ps.length ≤ 10000 ∧ (∀ x ∈ ps, x.1 < x.2 ∧ x.2 < row.length) ∧ ob = [] ∧ r = .dat (.bool (letsN ps row)) ∧ ob' = []
end
end K13

set_option maxRecDepth 100000
set_option maxHeartbeats 4000000
namespace K13
open PySem PySem.Spec PyProof.Rows L2 DL
/-! ### rows that are let, place by place -/
def belowN (ps : List Pr) (k : Nat) : List Nat := (ps.filter fun x => decide (x.2 = k)).map (·.1)
def leastN (row : List Int) (below : List Nat) : Int := maxDN 0 (below.map fun p => row.getD p 0)
def letKeys (row : List Int) (below : List Nat) (keys : List Int) : List Int := keys.filter fun key => decide (leastN row below ≤ key)
def letStep (ps : List Pr) (k : Nat) (keys : List Int) (found : List (List Int)) : List (List Int) := found.flatMap fun row => ((letKeys row (belowN ps k) keys).filter fun _ => true).map fun key => row ++ [key]
def letRk (ps : List Pr) (ch : List (List Int)) : Nat → List (List Int)
  | 0 => [[]]
  | k + 1 => letStep ps k (ch.getD k []) (letRk ps ch k)
def letR (ps : List Pr) (ch : List (List Int)) : List (List Int) := letRk ps ch ch.length
theorem letRk_row {ps : List Pr} {ch : List (List Int)} : ∀ {k : Nat}, ∀ row ∈ letRk ps ch k, row.length = k
  | 0, row, h => by
    rw [List.mem_singleton.mp h]
    rfl
  | k + 1, row, h => by
    obtain ⟨r, hr, h⟩ := List.mem_flatMap.mp h
    obtain ⟨key, _, rfl⟩ := List.mem_map.mp h
    rw [List.length_append, letRk_row r hr]
    rfl
theorem flat_le2 {α β : Type} {f : α → List β} {b : Nat} : ∀ {l : List α}, (∀ x ∈ l, (f x).length ≤ b) → (l.flatMap f).length ≤ l.length * b
  | [], _ => Nat.zero_le _
  | a :: l, h => by
    rw [List.flatMap_cons, List.length_append, List.length_cons, Nat.succ_mul]
    have := h a List.mem_cons_self
    have := flat_le2 (l := l) fun x hx => h x (List.mem_cons_of_mem _ hx)
    omega
theorem letStep_len {ps : List Pr} {k : Nat} {keys : List Int} {found : List (List Int)} : (letStep ps k keys found).length ≤ found.length * keys.length := flat_le2 fun r _ => by
  rw [List.length_map]
  exact Nat.le_trans (List.length_filter_le _ _) (List.length_filter_le _ _)
/-- how many rows there may be -/
theorem letRk_len {ps : List Pr} {ch : List (List Int)} {b : Nat} (hb : ∀ keys ∈ ch, keys.length ≤ b) : ∀ k, k ≤ ch.length → (letRk ps ch k).length ≤ b ^ k
  | 0, _ => Nat.le_refl _
  | k + 1, h => by
    have ih := letRk_len (ps := ps) hb k (by omega)
    have h1 := letStep_len (ps := ps) (k := k) (keys := ch.getD k []) (found := letRk ps ch k)
    have h2 : (ch.getD k []).length ≤ b := by
      rw [List.getD_eq_getElem?_getD, List.getElem?_eq_getElem (by omega)]
      exact hb _ (List.getElem_mem _)
    rw [Nat.pow_succ]
    exact Nat.le_trans h1 (Nat.mul_le_mul ih h2)
theorem maxD_le {d : Int} {ns : List Int} {z : Int} : (∀ x ∈ ns, x ≤ z) → (ns = [] → d ≤ z) → maxDN d ns ≤ z := fun h h0 => by
  unfold maxDN
  cases ns with
  | nil => exact h0 rfl
  | cons n ns =>
    have : ∀ (l : List Int) (a : Int), a ≤ z → (∀ x ∈ l, x ≤ z) → l.foldl max a ≤ z := by
      intro l
      induction l with
      | nil => intro a ha _; exact ha
      | cons b l ih => intro a ha hl; exact ih (max a b) (by have := hl b List.mem_cons_self; omega) fun x hx => hl x (List.mem_cons_of_mem _ hx)
    exact this _ n (h n List.mem_cons_self) h
theorem maxD_ge {d : Int} {ns : List Int} {x : Int} (hx : x ∈ ns) : x ≤ maxDN d ns := by
  unfold maxDN
  have : ∀ (l : List Int) (a : Int), a ≤ l.foldl max a ∧ ∀ x ∈ l, x ≤ l.foldl max a := by
    intro l
    induction l with
    | nil => intro a; exact ⟨Int.le_refl _, fun _ z => by cases z⟩
    | cons b l ih =>
      intro a
      obtain ⟨h1, h2⟩ := ih (max a b)
      refine ⟨by have : (b :: l).foldl max a = l.foldl max (max a b) := rfl; omega, fun x hx => ?_⟩
      rcases List.mem_cons.mp hx with rfl | hx
      · have : (x :: l).foldl max a = l.foldl max (max a x) := rfl
        omega
      · exact h2 x hx
  exact (this ns _).2 x hx
theorem least_le {row : List Int} {below : List Nat} {z : Int} (hz : 0 ≤ z) : leastN row below ≤ z ↔ ∀ p ∈ below, row.getD p 0 ≤ z := by
  unfold leastN
  constructor
  · intro h p hp
    exact Int.le_trans (maxD_ge (List.mem_map.mpr ⟨p, hp, rfl⟩)) h
  · intro h
    refine maxD_le (fun x hx => ?_) fun _ => hz
    obtain ⟨p, hp, rfl⟩ := List.mem_map.mp hx
    exact h p hp
/-- all rows of so many keys -/
def rowsN (top : Nat) : Nat → List (List Int)
  | 0 => [[]]
  | k + 1 => (rowsN top k).flatMap fun r => (List.range top).map fun (z : Nat) => r ++ [(z : Int)]
theorem rowsN_row {top : Nat} : ∀ {k : Nat}, ∀ row ∈ rowsN top k, row.length = k ∧ ∀ x ∈ row, 0 ≤ x ∧ x < top
  | 0, row, h => by
    rw [List.mem_singleton.mp h]
    exact ⟨rfl, fun _ z => by cases z⟩
  | k + 1, row, h => by
    obtain ⟨r, hr, h⟩ := List.mem_flatMap.mp h
    obtain ⟨z, hz, rfl⟩ := List.mem_map.mp h
    obtain ⟨h1, h2⟩ := rowsN_row r hr
    have := List.mem_range.mp hz
    refine ⟨by rw [List.length_append, h1]; rfl, fun x hx => ?_⟩
    rcases List.mem_append.mp hx with hx | hx
    · exact h2 x hx
    · rw [List.mem_singleton.mp hx]
      omega
theorem rowsN_has {top : Nat} : ∀ {k : Nat} {row : List Int}, row.length = k → (∀ x ∈ row, 0 ≤ x ∧ x < top) → row ∈ rowsN top k
  | 0, row, h, _ => by
    rw [List.length_eq_zero_iff.mp h]
    exact List.mem_singleton.mpr rfl
  | k + 1, row, h, hx => by
    obtain ⟨r, z, rfl⟩ : ∃ r z, row = r ++ [z] := ⟨row.dropLast, row.getLast (by intro e; rw [e] at h; cases h), (List.dropLast_concat_getLast _).symm⟩
    have hz := hx z (List.mem_append_right _ (List.mem_singleton.mpr rfl))
    rw [List.length_append, List.length_singleton] at h
    refine List.mem_flatMap.mpr ⟨r, rowsN_has (by omega) fun x h => hx x (List.mem_append_left _ h), List.mem_map.mpr ⟨z.toNat, List.mem_range.mpr (by omega), ?_⟩⟩
    rw [Int.toNat_of_nonneg hz.1]
theorem rowsN_len (top : Nat) : ∀ k, (rowsN top k).length ≤ top ^ k
  | 0 => Nat.le_refl _
  | k + 1 => by
    rw [Nat.pow_succ]
    refine Nat.le_trans (flat_le2 (b := top) fun r _ => ?_) (Nat.mul_le_mul_right _ (rowsN_len top k))
    rw [List.length_map, List.length_range]
    exact Nat.le_refl _
/-- the pairs that end ahead of a place -/
def letPre (ps : List Pr) (k : Nat) (row : List Int) : Bool := letsN (ps.filter fun x => decide (x.2 < k)) row
theorem letPre_iff {ps : List Pr} {k : Nat} {row : List Int} : letPre ps k row = true ↔ ∀ x ∈ ps, x.2 < k → row.getD x.1 0 ≤ row.getD x.2 0 := by
  unfold letPre letsN
  rw [List.all_eq_true]
  constructor
  · intro h x hx hk
    exact of_decide_eq_true (h x (List.mem_filter.mpr ⟨hx, decide_eq_true hk⟩))
  · intro h x hx
    obtain ⟨h1, h2⟩ := List.mem_filter.mp hx
    exact decide_eq_true (h x h1 (of_decide_eq_true h2))
theorem lets_iff {ps : List Pr} {row : List Int} : letsN ps row = true ↔ ∀ x ∈ ps, row.getD x.1 0 ≤ row.getD x.2 0 := by
  unfold letsN
  rw [List.all_eq_true]
  exact ⟨fun h x hx => of_decide_eq_true (h x hx), fun h x hx => decide_eq_true (h x hx)⟩
theorem getD_left {r : List Int} {z : Int} {i : Nat} (h : i < r.length) : (r ++ [z]).getD i 0 = r.getD i 0 := by
  rw [List.getD_eq_getElem?_getD, List.getD_eq_getElem?_getD, List.getElem?_append_left h]
theorem getD_last {r : List Int} {z : Int} : (r ++ [z]).getD r.length 0 = z := by
  rw [List.getD_eq_getElem?_getD, List.getElem?_concat_length]
  rfl
theorem letPre_succ {ps : List Pr} {n : Nat} (hp : PrOk n ps) {r : List Int} {z : Int} (hz : 0 ≤ z) : letPre ps (r.length + 1) (r ++ [z]) = (letPre ps r.length r && decide (leastN r (belowN ps r.length) ≤ z)) := by
  rw [Bool.eq_iff_iff, Bool.and_eq_true, decide_eq_true_eq, letPre_iff, letPre_iff, least_le hz]
  constructor
  · intro h
    refine ⟨fun x hx hk => ?_, fun p hpb => ?_⟩
    · have := h x hx (by omega)
      have h2 := (hp x hx).1
      rw [getD_left (by omega), getD_left hk] at this
      exact this
    · obtain ⟨x, hx, rfl⟩ := List.mem_map.mp hpb
      obtain ⟨h1, h2⟩ := List.mem_filter.mp hx
      have h3 : x.2 = r.length := of_decide_eq_true h2
      have := h x h1 (by omega)
      have h4 := (hp x h1).1
      rw [getD_left (by omega), h3, getD_last] at this
      exact this
  · rintro ⟨h1, h2⟩ x hx hk
    have h4 := (hp x hx).1
    by_cases e : x.2 = r.length
    · rw [getD_left (by omega), e, getD_last]
      exact h2 x.1 (List.mem_map.mpr ⟨x, List.mem_filter.mpr ⟨hx, decide_eq_true e⟩, rfl⟩)
    · rw [getD_left (by omega), getD_left (by omega)]
      exact h1 x hx (by omega)
theorem filter_flat {α β : Type} (f : α → List β) (p : α → Bool) (q : β → Bool) : ∀ l : List α, (∀ a ∈ l, p a = false → (f a).filter q = []) → (l.flatMap f).filter q = (l.filter p).flatMap fun a => (f a).filter q
  | [], _ => rfl
  | a :: l, h => by
    have ih := filter_flat f p q l fun x hx => h x (List.mem_cons_of_mem _ hx)
    rw [List.flatMap_cons, List.filter_append, ih]
    cases e : p a with
    | false => rw [h a List.mem_cons_self e, List.filter_cons_of_neg (by rw [e]; exact Bool.false_ne_true), List.nil_append]
    | true => rw [List.filter_cons_of_pos e, List.flatMap_cons]
theorem flatMap_congr2 {α β : Type} {f g : α → List β} : ∀ {l : List α}, (∀ x ∈ l, f x = g x) → l.flatMap f = l.flatMap g
  | [], _ => rfl
  | a :: l, h => by
    rw [List.flatMap_cons, List.flatMap_cons, h a List.mem_cons_self, flatMap_congr2 fun x hx => h x (List.mem_cons_of_mem _ hx)]
/-- the rows of so many keys that are let are those of the law's own look -/
theorem letRk_rows {ps : List Pr} {n top : Nat} (hp : PrOk n ps) (m : Nat) : ∀ k, k ≤ m → letRk ps (List.replicate m ((List.range top).map fun (z : Nat) => (z : Int))) k = (rowsN top k).filter (letPre ps k)
  | 0, _ => by
    show [[]] = [[]].filter _
    rw [List.filter_cons_of_pos (letPre_iff.mpr fun x _ h => by omega)]
    rfl
  | k + 1, hk => by
    have ih := letRk_rows hp m k (by omega) (top := top)
    have e : (List.replicate m ((List.range top).map fun (z : Nat) => (z : Int))).getD k [] = (List.range top).map fun (z : Nat) => (z : Int) := by
      rw [List.getD_eq_getElem?_getD, List.getElem?_replicate, if_pos (by omega)]
      rfl
    show letStep ps k _ (letRk ps _ k) = ((rowsN top k).flatMap _).filter _
    have key : ∀ r ∈ rowsN top k, ((List.range top).map fun (z : Nat) => r ++ [(z : Int)]).filter (letPre ps (k + 1)) = if letPre ps k r = true then (letKeys r (belowN ps k) ((List.range top).map fun (z : Nat) => (z : Int))).map (fun key => r ++ [key]) else [] := fun r hr => by
      have l := (rowsN_row r hr).1
      rw [List.filter_map]
      have e2 : ∀ z : Nat, (letPre ps (k + 1) ∘ fun (z : Nat) => r ++ [(z : Int)]) z = (letPre ps k r && decide (leastN r (belowN ps k) ≤ (z : Int))) := fun z => by
        show letPre ps (k + 1) (r ++ [(z : Int)]) = _
        rw [← l]
        exact letPre_succ hp (by omega)
      rw [show (letPre ps (k + 1) ∘ fun (z : Nat) => r ++ [(z : Int)]) = _ from funext e2]
      unfold letKeys
      rw [List.filter_map, List.map_map]
      cases letPre ps k r with
      | true =>
        rw [if_pos rfl]
        rfl
      | false =>
        rw [if_neg (by decide), List.filter_eq_nil_iff.mpr fun _ _ z => by cases z]
        rfl
    rw [filter_flat _ (letPre ps k) _ _ fun r hr h => by rw [key r hr, if_neg (by rw [h]; decide)], ih, e]
    unfold letStep
    refine flatMap_congr2 fun r hr => ?_
    obtain ⟨h1, h2⟩ := List.mem_filter.mp hr
    rw [key r h1, if_pos h2, List.filter_eq_self.mpr fun _ _ => rfl]
theorem letPre_all {ps : List Pr} {n : Nat} (hp : PrOk n ps) (row : List Int) : letPre ps n row = letsN ps row := by
  rw [Bool.eq_iff_iff, letPre_iff, lets_iff]
  exact ⟨fun h x hx => h x hx (hp x hx).2, fun h x hx _ => h x hx⟩
/-- the words that an order lets -/
def wordsN (n : Nat) (ps : List Pr) : List (List Int) := (rowsN 2 n).filter (letsN ps)
theorem let_words {n : Nat} {ps : List Pr} (hp : PrOk n ps) : letR ps (List.replicate n [0, 1]) = wordsN n ps := by
  unfold letR wordsN
  rw [List.length_replicate]
  have := letRk_rows (top := 2) hp n n (Nat.le_refl _)
  rw [show (List.range 2).map (fun (z : Nat) => (z : Int)) = [0, 1] from rfl] at this
  rw [this]
  congr 1
  funext row
  exact letPre_all hp row
theorem words_row {n : Nat} {ps : List Pr} {row : List Int} (h : row ∈ wordsN n ps) : row.length = n ∧ (∀ x ∈ row, 0 ≤ x ∧ x < 2) ∧ letsN ps row = true := by
  obtain ⟨h1, h2⟩ := List.mem_filter.mp h
  obtain ⟨h3, h4⟩ := rowsN_row row h1
  exact ⟨h3, h4, h2⟩
theorem words_has {n : Nat} {ps : List Pr} {row : List Int} (h : row.length = n) (hb : ∀ x ∈ row, 0 ≤ x ∧ x < 2) (hl : letsN ps row = true) : row ∈ wordsN n ps := List.mem_filter.mpr ⟨rowsN_has h hb, hl⟩
theorem words_len (n : Nat) (ps : List Pr) : (wordsN n ps).length ≤ 2 ^ n := Nat.le_trans (List.length_filter_le _ _) (rowsN_len 2 n)
theorem getD_in2 {row : List Int} (h : ∀ x ∈ row, 0 ≤ x ∧ x < 2) (i : Nat) : 0 ≤ row.getD i 0 ∧ row.getD i 0 < 2 := getD_mem (p := fun x => 0 ≤ x ∧ x < 2) h (by decide)
end K13

set_option maxRecDepth 100000
set_option maxHeartbeats 4000000
namespace K13
open PySem PySem.Spec PyProof.Rows L2 DL
section
variable {P : Program} {w : World} {K : PySem.W.Frag} {mg : Str → Option Value} {base : Heap}
theorem nat_row {row : List Int} {p : Nat} (h : p < row.length) : atI (row.map PyData.int) (p : Int) = some (.int (row.getD p 0)) := atI_nat (by
  rw [List.getElem?_map, List.getElem?_eq_getElem h, List.getD_eq_getElem?_getD, List.getElem?_eq_getElem h]
  rfl)
def R_lkeys : FR := fun as ob r ob' => ∃ (row : List Int) (below : List Nat) (keys : List Int), as = [.dat (rD row), .dat (.list (below.map fun (p : Nat) => PyData.int (p : Int))), .dat (rD keys)] ∧ (∀ p ∈ below, p < row.length) ∧ below.length ≤ 10000 ∧ keys.length ≤ 10000 ∧ ob = [] ∧ r = .dat (.list ((letKeys row below keys).map PyData.int)) ∧ ob' = []
theorem sc_let_keys : FnScope ["row", "below", "keys", "p", "least", "key"] ["row", "below", "keys"] (defScope s_let_keys) := ⟨rfl, rfl, rfl, by decide +kernel, rfl, by decide +kernel, by decide +kernel⟩
theorem ok_let_keys (D : Df K mg "_let_keys" s_let_keys ["row", "below", "keys"]) (B : Bi mg) : FnG P w K mg base CX0 1 D.f D.fd ["row", "below", "keys"] (spD K 3 R_lkeys) := by
  refine okG D.F sc_let_keys (fun vs H Q E h => h.1) (fun cdv A outer s H vs Q E hr gd h => ?_)
  have hu := huX hr
  refine ⟨_, (pss_cons (ps_set (i := 4) sc_let_keys.nd rfl (Or.inr rfl) (pe_callBK (call_maxD rfl hu) (by rfl) B.z_max (by decide +kernel) (pa_cons (pe_lc (own := [("p", 3)]) (g := gName 3) (tt := tYes) (by rfl) sc_let_keys.nd (pi_list (pv 1)) (blkOk_by (own := [("p", 3)]) (N := ["row", "below", "keys", "p", "least", "key"]) (sc := defScope s_let_keys) (by decide +kernel)) (fun _ _ _ _ _ => (pg_name (i := 3) sc_let_keys.nd rfl (Or.inl rfl))) (fun _ _ _ _ _ => pts_nil) (fun _ _ _ _ _ => (pe_ix (ixK K (R := rIx) ix_seq rfl) (pv 0) (pv 3) (fun _ _ => rfl)))) pa_nil) (pk_cons pe_int pk_nil)))
      (pss_one (ps_ret (pe_lc (own := [("key", 5)]) (g := gName 5) (by rfl) sc_let_keys.nd (pi_tup (pv 2)) (blkOk_by (own := [("key", 5)]) (N := ["row", "below", "keys", "p", "least", "key"]) (sc := defScope s_let_keys) (by decide +kernel)) (fun _ _ _ _ _ => (pg_name (i := 5) sc_let_keys.nd rfl (Or.inl rfl))) (fun _ _ _ _ _ => (pts_one (pt_cmpR op_geU (pv 5) (pv 4) (nomark _)))) (fun _ _ _ _ _ => (pv 5)))))), ?_⟩
  refine body_of h (by decide) fun as ob r ob' hR hl => ?_
  obtain ⟨row, below, keys, rfl, hb, hz, hk, rfl, rfl, rfl⟩ := hR
  refine ts_seq (ts_asg (x := .dat (.int (leastN row below))) (S1 := ⟨[.dat (rD row), .dat (.list (below.map fun (p : Nat) => PyData.int (p : Int))), .dat (rD keys), .un, .un, .un], []⟩) (ee_maxD (ns := below.map fun p => row.getD p 0) (S1 := ⟨[.dat (rD row), .dat (.list (below.map fun (p : Nat) => PyData.int (p : Int))), .dat (rD keys), .un, .un, .un], []⟩) (ee_of_el ?_) ee_int) ?_)
  · rw [List.map_map]
    exact el_lcmA (dA := fun (p : Nat) => PyData.int (p : Int)) (lst := below) (S0 := ⟨[.dat (rD row), .dat (.list (below.map fun (p : Nat) => PyData.int (p : Int))), .dat (rD keys), .un, .un, .un], []⟩) (ei_list (ee_var rfl)) (by omega) fun p hp => ⟨_, egc_name (by decide), rfl, _, ee_op (ee_var rfl) (ee_var rfl) (ro_ixT (nat_row (hb p hp))), rfl⟩
  · exact ts_ret (ee_of_el (el_lcfA (dA := PyData.int) (lst := keys) (p := fun key => decide (leastN row below ≤ key)) (S0 := ⟨[.dat (rD row), .dat (.list (below.map fun (p : Nat) => PyData.int (p : Int))), .dat (rD keys), .un, .dat (.int (leastN row below)), .un], []⟩) (ei_tup (ee_var rfl)) (by omega) fun key _ => ⟨_, _, egc_name (by decide), et_test (ee_op (ee_var rfl) (ee_var rfl) ro_ge), rfl, fun _ => ⟨_, ee_var rfl, rfl⟩⟩)) ⟨rfl, rfl⟩
def R_lrows : FR := fun as ob r ob' => ∃ (ps : List Pr) (ch : List (List Int)), as = [.dat (oD ps), .dat (.list (ch.map rD))] ∧ PrOk ch.length ps ∧ ps.length ≤ 10000 ∧ (∀ keys ∈ ch, keys.length ≤ 3) ∧ 3 ^ ch.length ≤ 1000000 ∧ ob = [] ∧ r = .dat (.list ((letR ps ch).map rD)) ∧ ob' = []
theorem below_D (ps : List Pr) (k : Nat) : (ps.filter fun x => decide (x.2 = k)).map (fun x => PyData.int (x.1 : Int)) = (belowN ps k).map fun (p : Nat) => PyData.int (p : Int) := by
  unfold belowN
  rw [List.map_map]
  rfl
theorem sclet_rows : FnScope ["order", "choices", "found", "place", "keys", "p", "q", "below", "row", "key"] ["order", "choices"] (defScope slet_rows) := ⟨rfl, rfl, rfl, by decide +kernel, rfl, by decide +kernel, by decide +kernel⟩
theorem oklet_rows (D : Df K mg "let_rows" slet_rows ["order", "choices"]) (B : Bi mg) (D_let_keys : Df K mg "_let_keys" s_let_keys ["row", "below", "keys"]) : FnG P w K mg base CX0 2 D.f D.fd ["order", "choices"] (spD K 2 R_lrows) := by
  have ok_let_keys : FnG P w K mg base CX0 1 _ _ _ _ := ok_let_keys D_let_keys B
  refine okG D.F sclet_rows (fun vs H Q E h => h.1) (fun cdv A outer s H vs Q E hr gd h => ?_)
  have hu := huX hr
  refine ⟨_, (pss_cons (ps_set (i := 2) sclet_rows.nd rfl (Or.inl rfl) (pe_lst (pa_cons (pe_tup pa_nil) pa_nil)))
      (pss_cons (ps_for PassesOwn.never rfl (pi_enum (by rfl) B.z_enumerate (pa_cons (pv 1) pa_nil)) (pg_tup rfl (pgs_cons (pg_name (i := 3) sclet_rows.nd rfl (Or.inr rfl)) (pgs_cons (pg_name (i := 4) sclet_rows.nd rfl (Or.inr rfl)) pgs_nil)))
        (pss_cons (ps_set (i := 7) sclet_rows.nd rfl (Or.inr rfl) (pe_lc (own := [("p", 5), ("q", 6)]) (by rfl) sclet_rows.nd (pi_tup (pv 0)) (blkOk_by (own := [("p", 5), ("q", 6)]) (N := ["order", "choices", "found", "place", "keys", "p", "q", "below", "row", "key"]) (sc := defScope slet_rows) (by decide +kernel)) (fun _ _ _ _ _ => (pg_tupK K (n := 2) rfl rfl (pgs_cons (pg_name (i := 5) sclet_rows.nd rfl (Or.inl rfl)) (pgs_cons (pg_name (i := 6) sclet_rows.nd rfl (Or.inl rfl)) pgs_nil)))) (fun _ _ _ _ _ => (pts_one (pt_cmpR (opK K (R := rEqU) (op_eqU hu) rfl) (pv 6) (pv 3) (nomark _)))) (fun _ _ _ _ _ => (pv 5))))
        (pss_one (ps_setLc2 (i := 2) (own := [("row", 8), ("key", 9)]) (vs1 := [9]) (tt := tYes) (tt1 := tYes) (by rfl) sclet_rows.nd rfl rfl (sw_true rfl rfl rfl (by decide +kernel)) (pi_list (pv 2)) (blkOk_by (own := [("row", 8), ("key", 9)]) (N := ["order", "choices", "found", "place", "keys", "p", "q", "below", "row", "key"]) (sc := defScope slet_rows) (by decide +kernel)) (by decide) (fun _ _ _ _ _ => (pg_name (i := 8) sclet_rows.nd rfl (Or.inl rfl))) (fun _ _ _ _ _ => pts_nil) (fun _ _ _ _ _ => (pi_listK K rfl (pe_callG (ok_let_keys) (hr.mono (by decide)) gd (by rfl) D_let_keys.m D_let_keys.F.kp D_let_keys.b .nil pass0 (pa_cons (pv 8) (pa_cons (pv 7) (pa_cons (pv 4) pa_nil)))))) (fun _ _ _ _ _ => (pg_name (i := 9) sclet_rows.nd rfl (Or.inl rfl))) (fun _ _ _ _ _ => pts_nil) (fun _ _ _ _ _ => (pe_op (opK K (R := rPlus) op_plus rfl) (pv 8) (pe_tup (pa_cons (pv 9) pa_nil))))))))
      (pss_one (ps_ret (pv 2))))), ?_⟩
  refine body_ofG h (by decide) (fun as ob r ob' hR => ?_) fun as ob r ob' hR hl => ?_
  · obtain ⟨ps, ch, rfl, _, _, _, _, rfl, rfl, rfl⟩ := hR
    exact ⟨Nat.le_refl _, fun _ z => by cases z⟩
  obtain ⟨ps, ch, rfl, hp, hz, hc, hs, rfl, rfl, rfl⟩ := hR
  have lk : ∀ k, k ≤ ch.length → (letRk ps ch k).length ≤ 1000000 := fun k hk => Nat.le_trans (letRk_len hc k hk) (Nat.le_trans (Nat.pow_le_pow_right (by decide) hk) hs)
  refine ts_seq (ts_asg (x := .dat (.list ((letRk ps ch 0).map rD))) (S1 := ⟨[.dat (oD ps), .dat (.list (ch.map rD)), .un, .un, .un, .un, .un, .un, .un, .un], []⟩) (ee_lst (ds := [rD []]) (ed_cons (ee_tup (ds := []) ed_nil) ed_nil) (show (1 : Nat) ≤ 1000000 by decide)) ?_)
  refine ts_seq (ts_for (ds := enumD (ch.map rD)) (S0 := ⟨[.dat (oD ps), .dat (.list (ch.map rD)), .dat (.list ((letRk ps ch 0).map rD)), .un, .un, .un, .un, .un, .un, .un], []⟩) (ei_enum (ed_cons (ee_var rfl) ed_nil)) (fun k S => ∃ a b c, S = ⟨[.dat (oD ps), .dat (.list (ch.map rD)), .dat (.list ((letRk ps ch k).map rD)), a, b, .un, .un, c, .un, .un], []⟩) ⟨.un, .un, .un, rfl⟩ ?_ ?_)
  · rintro k d S' hd ⟨a, b, c, rfl⟩
    obtain ⟨e, he, rfl⟩ := enumD_get hd
    obtain ⟨keys, hk, rfl⟩ := map_at he
    have hkl : k < ch.length := (List.getElem?_eq_some_iff.mp hk).1
    have hkeys : ch.getD k [] = keys := by
      rw [List.getD_eq_getElem?_getD, hk]
      rfl
    have hk3 := hc keys (List.mem_of_getElem? hk)
    have nl := lk (k + 1) (by omega)
    have e2 : letRk ps ch (k + 1) = letStep ps k keys (letRk ps ch k) := by
      rw [← hkeys]
      rfl
    rw [e2] at nl ⊢
    have rl : ∀ row ∈ letRk ps ch k, row.length = k := fun row h => letRk_row row h
    generalize letRk ps ch k = found at nl rl ⊢
    have bl : ∀ p ∈ belowN ps k, p < k := fun p hpb => by
      obtain ⟨x, hx, rfl⟩ := List.mem_map.mp hpb
      obtain ⟨h1, h2⟩ := List.mem_filter.mp hx
      have := of_decide_eq_true h2
      have := (hp x h1).1
      omega
    have bz : (belowN ps k).length ≤ 10000 := by
      unfold belowN
      rw [List.length_map]
      exact Nat.le_trans (List.length_filter_le _ _) hz
    refine ⟨_, eg_tup (egs_cons eg_name (egs_cons eg_name egs_nil)), ts_seq (ts_asg (x := .dat (.list ((belowN ps k).map fun (p : Nat) => PyData.int (p : Int)))) (S1 := ⟨[.dat (oD ps), .dat (.list (ch.map rD)), .dat (.list (found.map rD)), .dat (.int (k : Int)), .dat (rD keys), .un, .un, c, .un, .un], []⟩) (ee_of_el ?_) ?_)⟩
    · rw [← below_D]
      exact el_lcfA (dA := pD) (lst := ps) (p := fun x => decide (x.2 = k)) (f := fun x => PyData.int (x.1 : Int)) (S0 := ⟨[.dat (oD ps), .dat (.list (ch.map rD)), .dat (.list (found.map rD)), .dat (.int (k : Int)), .dat (rD keys), .un, .un, c, .un, .un], []⟩) (ei_tup (ee_var rfl)) (by omega) fun x _ => ⟨_, _, egc_tup (egcs_cons (egc_name (by decide)) (egcs_cons (egc_name (by decide)) egcs_nil)), et_eq (et_test (ee_op (ee_var rfl) (ee_var rfl) ro_eqI)) (decide_eq_decide.mpr (by omega)), rfl, fun _ => ⟨_, ee_var rfl, rfl⟩⟩
    have eD : (letStep ps k keys found).map rD = found.flatMap fun row => ((letKeys row (belowN ps k) keys).filter fun _ => true).map fun key => rD (row ++ [key]) := by
      unfold letStep
      rw [List.map_flatMap]
      congr 1
      funext row
      rw [List.map_map]
      rfl
    refine ts_asg (x := .dat (.list ((letStep ps k keys found).map rD))) (S1 := ⟨[.dat (oD ps), .dat (.list (ch.map rD)), .dat (.list (found.map rD)), .dat (.int (k : Int)), .dat (rD keys), .un, .un, .dat (.list ((belowN ps k).map fun (p : Nat) => PyData.int (p : Int))), .un, .un], []⟩) ?_ ⟨_, _, _, rfl⟩
    have nl2 := nl
    rw [← List.length_map (f := rD), eD] at nl2
    rw [eD]
    refine ee_of_el (el_lc2A rowOf toI (dA := rD) (dB := PyData.int) (lst := found) (S0 := ⟨[.dat (oD ps), .dat (.list (ch.map rD)), .dat (.list (found.map rD)), .dat (.int (k : Int)), .dat (rD keys), .un, .un, .dat (.list ((belowN ps k).map fun (p : Nat) => PyData.int (p : Int))), .un, .un], []⟩) (fun row => letKeys row (belowN ps k) keys) (fun _ _ => true) (fun row key => rD (row ++ [key])) rowOf_rD (fun _ => rfl) (ei_list (ee_var rfl)) nl2 fun row hr => ?_)
    have hrl := rl row hr
    refine ⟨_, egc_name (by decide), rfl, ei_list (ee_callD (d := .list ((letKeys row (belowN ps k) keys).map PyData.int)) (ed_cons (ee_var rfl) (ed_cons (ee_var rfl) (ed_cons (ee_var rfl) ed_nil))) rfl ⟨row, belowN ps k, keys, rfl, fun p h => by rw [hrl]; exact bl p h, bz, by omega, rfl, rfl, rfl⟩), fun key _ => ⟨_, _, egc_name (by decide), et_yes, rfl, fun _ => ⟨_, ee_eq (ee_op (ee_var rfl) (ee_tup (ed_cons (ee_var rfl) ed_nil)) (ro_catT (ds := row.map PyData.int) (es := [.int key]) ?_)) ?_, rfl⟩⟩⟩
    · rw [List.length_map, hrl]
      have : k < 3 ^ k := Nat.lt_pow_self (by decide)
      have : 3 ^ k ≤ 3 ^ ch.length := Nat.pow_le_pow_right (by decide) (by omega)
      show k + 1 ≤ _
      omega
    · unfold rD
      rw [List.map_append]
      rfl
  · rintro S' ⟨a, b, c, rfl⟩
    rw [enumD_len, List.length_map]
    exact ts_ret (ee_var rfl) ⟨rfl, List.nil_prefix⟩
theorem rep_D (n : Nat) : repD n [rD [0, 1]] = (List.replicate n [0, 1]).map rD := by
  induction n with
  | zero => rfl
  | succ n ih =>
    show [rD [0, 1]] ++ repD n [rD [0, 1]] = _
    rw [ih]
    rfl
def R_words : FR := fun as ob r ob' => ∃ (n : Nat) (ps : List Pr), as = [.dat (.int (n : Int)), .dat (oD ps)] ∧ PrOk n ps ∧ ps.length ≤ 10000 ∧ n ≤ 10 ∧ ob = [] ∧ r = .dat (.list ((wordsN n ps).map rD)) ∧ ob' = []
theorem sclet_words : FnScope ["n", "order"] ["n", "order"] (defScope slet_words) := ⟨rfl, rfl, rfl, by decide +kernel, rfl, by decide +kernel, by decide +kernel⟩
theorem oklet_words (D : Df K mg "let_words" slet_words ["n", "order"]) (B : Bi mg) (Dlet_rows : Df K mg "let_rows" slet_rows ["order", "choices"]) (D_let_keys : Df K mg "_let_keys" s_let_keys ["row", "below", "keys"]) : FnG P w K mg base CX0 3 D.f D.fd ["n", "order"] (spD K 2 R_words) := by
  have oklet_rows : FnG P w K mg base CX0 2 _ _ _ _ := oklet_rows Dlet_rows B D_let_keys
  refine okG D.F sclet_words (fun vs H Q E h => h.1) (fun cdv A outer s H vs Q E hr gd h => ?_)
  have hu := huX hr
  refine ⟨_, (pss_one (ps_ret (pe_callG (oklet_rows) (hr.mono (by decide)) gd (by rfl) Dlet_rows.m Dlet_rows.F.kp Dlet_rows.b .nil pass0 (pa_cons (pv 1) (pa_cons (pe_op op_mulU (pe_lst (pa_cons (pe_tup (pa_cons pe_int (pa_cons pe_int pa_nil))) pa_nil)) (pv 0)) pa_nil))))), ?_⟩
  refine body_of h (by decide) fun as ob r ob' hR hl => ?_
  obtain ⟨n, ps, rfl, hp, hz, hn, rfl, rfl, rfl⟩ := hR
  have q : R_lrows (([oD ps, .list ((List.replicate n [0, 1]).map rD)] : List PyData).map SD.dat) [] (.dat (.list ((wordsN n ps).map rD))) [] := ⟨ps, List.replicate n [0, 1], rfl, by rw [List.length_replicate]; exact hp, hz, fun keys hk => by rw [List.eq_of_mem_replicate hk]; decide, by rw [List.length_replicate]; exact Nat.le_trans (Nat.pow_le_pow_right (by decide) hn) (by decide), rfl, by rw [let_words hp], rfl⟩
  have rep := rol_rep (K := K) (S := ⟨[.dat (.int (n : Int)), .dat (oD ps)], []⟩) (x := .dat (.list [rD [0, 1]])) (ds := [rD [0, 1]]) (i := (n : Int)) (.dat _) (by omega) (by show 1 * _ ≤ _; omega) (by omega)
  rw [Int.toNat_natCast, rep_D] at rep
  exact ts_ret (ee_callD (ed_cons (ee_var rfl) (ed_cons (ee_of_el (el_op (ee_lst (ds := [rD [0, 1]]) (ed_cons (ee_tup (ds := [.int 0, .int 1]) (ed_cons ee_int (ed_cons ee_int ed_nil))) ed_nil) (show (1 : Nat) ≤ 1000000 by decide)) (ee_var rfl) rep)) ed_nil)) rfl q) ⟨rfl, rfl⟩
/-! ### the law's own look at rows -/
def R_islet : FR := fun as ob r ob' => ∃ (ps : List Pr) (row : List Int), as = [.dat (oD ps), .dat (rD row)] ∧ PrOk row.length ps ∧ ps.length ≤ 10000 ∧ ob = [] ∧ r = .dat (.bool (letsN ps row)) ∧ ob' = []
theorem lets_none (ps : List Pr) (row : List Int) : ((ps.filter fun x => decide (row.getD x.2 0 < row.getD x.1 0)).map fun _ => PyData.int 1).isEmpty = letsN ps row := by
  rw [List.isEmpty_map, Bool.eq_iff_iff, lets_iff, List.isEmpty_iff, List.filter_eq_nil_iff]
  exact ⟨fun h x hx => by have := h x hx; simp at this; exact this, fun h x hx => by have := h x hx; simp; exact this⟩
theorem sc_law_is_let : FnScope ["order", "row", "p", "q"] ["order", "row"] (defScope s_law_is_let) := ⟨rfl, rfl, rfl, by decide +kernel, rfl, by decide +kernel, by decide +kernel⟩
theorem ok_law_is_let (D : Df K mg "_law_is_let" s_law_is_let ["order", "row"]) (B : Bi mg) : FnG P w K mg base CX0 1 D.f D.fd ["order", "row"] (spD K 2 R_islet) := by
  refine okG D.F sc_law_is_let (fun vs H Q E h => h.1) (fun cdv A outer s H vs Q E hr gd h => ?_)
  have hu := huX hr
  refine ⟨_, (pss_one (ps_ret (pe_cmpR (op_eqU hu) (pe_lc (own := [("p", 2), ("q", 3)]) (by rfl) sc_law_is_let.nd (pi_tup (pv 0)) (blkOk_by (own := [("p", 2), ("q", 3)]) (N := ["order", "row", "p", "q"]) (sc := defScope s_law_is_let) (by decide +kernel)) (fun _ _ _ _ _ => (pg_tupK K (n := 2) rfl rfl (pgs_cons (pg_name (i := 2) sc_law_is_let.nd rfl (Or.inl rfl)) (pgs_cons (pg_name (i := 3) sc_law_is_let.nd rfl (Or.inl rfl)) pgs_nil)))) (fun _ _ _ _ _ => (pts_one (pt_cmpR (opK K (R := rGtU) (op_gtU hu) rfl) (pe_ix (ixK K (R := rIx) ix_seq rfl) (pv 1) (pv 2) (fun _ _ => rfl)) (pe_ix (ixK K (R := rIx) ix_seq rfl) (pv 1) (pv 3) (fun _ _ => rfl)) (nomark _)))) (fun _ _ _ _ _ => pe_int)) (pe_lst pa_nil) (nomark _)))), ?_⟩
  refine body_of h (by decide) fun as ob r ob' hR hl => ?_
  obtain ⟨ps, row, rfl, hp, hz, rfl, rfl, rfl⟩ := hR
  rw [← lets_none]
  refine ts_ret (S1 := ⟨[.dat (oD ps), .dat (rD row), .un, .un], []⟩) (ee_op (ee_of_el ?_) (ee_of_el (el_lst ed_nil)) (ro_eqE (.dat _) (.dat _))) ⟨rfl, rfl⟩
  exact el_lcfA (dA := pD) (lst := ps) (p := fun x => decide (row.getD x.2 0 < row.getD x.1 0)) (f := fun _ => PyData.int 1) (S0 := ⟨[.dat (oD ps), .dat (rD row), .un, .un], []⟩) (ei_tup (ee_var rfl)) (by omega) fun x hx => ⟨_, _, egc_tup (egcs_cons (egc_name (by decide)) (egcs_cons (egc_name (by decide)) egcs_nil)), et_test (ee_op (ee_op (ee_var rfl) (ee_var rfl) (ro_ixT (nat_row (by have := hp x hx; omega)))) (ee_op (ee_var rfl) (ee_var rfl) (ro_ixT (nat_row (hp x hx).2))) ro_gt), rfl, fun _ => ⟨_, ee_int, rfl⟩⟩
def R_rows : FR := fun as ob r ob' => ∃ (n top : Nat), as = [.dat (.int (n : Int)), .dat (.int (top : Int))] ∧ top ^ n ≤ 100000 ∧ n ≤ 100 ∧ 1 ≤ top ∧ top ≤ 100 ∧ ob = [] ∧ r = .dat (.list ((rowsN top n).map rD)) ∧ ob' = []
theorem rng_nat (n : Nat) : rngD 0 n = (List.range n).map fun (z : Nat) => PyData.int (z : Int) := by
  unfold rngD
  refine List.map_congr_left fun j _ => ?_
  rw [Int.zero_add]
theorem flat_take2 {α β : Type} {f : α → List β} {l : List α} {i : Nat} {x : α} (h : l[i]? = some x) : (l.take (i + 1)).flatMap f = (l.take i).flatMap f ++ f x := by
  rw [take_snoc h, List.flatMap_append, List.flatMap_singleton]
theorem sc_law_rows : FnScope ["n", "top", "found", "turn", "fresh", "own", "key"] ["n", "top"] (defScope s_law_rows) := ⟨rfl, rfl, rfl, by decide +kernel, rfl, by decide +kernel, by decide +kernel⟩
theorem ok_law_rows (D : Df K mg "_law_rows" s_law_rows ["n", "top"]) (B : Bi mg) : FnG P w K mg base CX0 1 D.f D.fd ["n", "top"] (spD K 2 R_rows) := by
  refine okG D.F sc_law_rows (fun vs H Q E h => h.1) (fun cdv A outer s H vs Q E hr gd h => ?_)
  have hu := huX hr
  refine ⟨_, (pss_cons (ps_set (i := 2) sc_law_rows.nd rfl (Or.inl rfl) (pe_lst (pa_cons (pe_tup pa_nil) pa_nil)))
      (pss_cons (ps_for PassesOwn.never rfl (pi_range1 (by rfl) B.z_range (pa_cons (pv 0) pa_nil)) (pg_name (i := 3) sc_law_rows.nd rfl (Or.inl rfl))
        (pss_cons (ps_set (i := 4) sc_law_rows.nd rfl (Or.inl rfl) (pe_lst pa_nil))
        (pss_cons (ps_for PassesOwn.never rfl (pi_list (pv 2)) (pg_name (i := 5) sc_law_rows.nd rfl (Or.inr rfl))
          (pss_one (ps_set (i := 4) sc_law_rows.nd rfl (Or.inl rfl) (pe_op op_plus (pv 4) (pe_lc (own := [("key", 6)]) (g := gName 6) (tt := tYes) (by rfl) sc_law_rows.nd (pi_range1 (by rfl) B.z_range (pa_cons (pv 1) pa_nil)) (blkOk_by (own := [("key", 6)]) (N := ["n", "top", "found", "turn", "fresh", "own", "key"]) (sc := defScope s_law_rows) (by decide +kernel)) (fun _ _ _ _ _ => (pg_name (i := 6) sc_law_rows.nd rfl (Or.inl rfl))) (fun _ _ _ _ _ => pts_nil) (fun _ _ _ _ _ => (pe_op (opK K (R := rPlus) op_plus rfl) (pv 5) (pe_tup (pa_cons (pv 6) pa_nil)))))))))
        (pss_one (ps_set (i := 2) sc_law_rows.nd rfl (Or.inl rfl) (pv 4))))))
      (pss_one (ps_ret (pv 2))))), ?_⟩
  refine body_of h (by decide) fun as ob r ob' hR hl => ?_
  obtain ⟨n, top, rfl, hz, hn, ht1, ht, rfl, rfl, rfl⟩ := hR
  refine ts_seq (ts_asg (x := .dat (.list ((rowsN top 0).map rD))) (S1 := ⟨[.dat (.int (n : Int)), .dat (.int (top : Int)), .un, .un, .un, .un, .un], []⟩) (ee_lst (ds := [rD []]) (ed_cons (ee_tup (ds := []) ed_nil) ed_nil) (show (1 : Nat) ≤ 1000000 by decide)) ?_)
  refine ts_seq (ts_for (ds := rngD 0 n) (S0 := ⟨[.dat (.int (n : Int)), .dat (.int (top : Int)), .dat (.list ((rowsN top 0).map rD)), .un, .un, .un, .un], []⟩) (by
    have := ei_rng1 (K := K) (S := ⟨[.dat (.int (n : Int)), .dat (.int (top : Int)), .dat (.list ((rowsN top 0).map rD)), .un, .un, .un, .un], []⟩) (n := (n : Int)) (ed_cons (ee_var (i := 0) rfl) ed_nil) (by omega)
    rw [Int.toNat_natCast] at this
    exact this) (fun k S => ∃ a b c, S = ⟨[.dat (.int (n : Int)), .dat (.int (top : Int)), .dat (.list ((rowsN top k).map rD)), a, b, c, .un], []⟩) ⟨.un, .un, .un, rfl⟩ ?_ ?_)
  · rintro k d S' hd ⟨a, b, c, rfl⟩
    obtain ⟨hk, rfl⟩ := rngD_get hd
    generalize hq : SD.dat (.int (0 + (k : Int))) = q
    have nl : (rowsN top (k + 1)).length ≤ 100000 := Nat.le_trans (rowsN_len top (k + 1)) (Nat.le_trans (Nat.pow_le_pow_right ht1 (show k + 1 ≤ n by omega)) hz)
    have rl : ∀ row ∈ rowsN top k, row.length = k := fun row h => (rowsN_row row h).1
    show ∃ S'', _ ∧ Ts K _ S'' _
    have e2 : rowsN top (k + 1) = (rowsN top k).flatMap fun r => (List.range top).map fun (z : Nat) => r ++ [(z : Int)] := rfl
    rw [e2] at nl ⊢
    generalize rowsN top k = found at nl rl ⊢
    have nt : ∀ i, ((found.take i).flatMap fun r => (List.range top).map fun (z : Nat) => r ++ [(z : Int)]).length ≤ 100000 := fun i => by
      refine Nat.le_trans (List.Sublist.length_le ?_) nl
      rw [← List.take_append_drop i found, List.flatMap_append]
      rw [List.take_append_drop]
      exact List.sublist_append_left _ _
    refine ⟨_, eg_name, ts_seq (ts_asg (x := .dat (.list ((((found.take 0).flatMap fun r => (List.range top).map fun (z : Nat) => r ++ [(z : Int)])).map rD))) (S1 := ⟨[.dat (.int (n : Int)), .dat (.int (top : Int)), .dat (.list (found.map rD)), q, b, c, .un], []⟩) (by rw [← hq]; exact ee_of_el (el_lst ed_nil)) ?_)⟩
    refine ts_seq (ts_for (ds := found.map rD) (S0 := ⟨[.dat (.int (n : Int)), .dat (.int (top : Int)), .dat (.list (found.map rD)), q, .dat (.list ((((found.take 0).flatMap fun r => (List.range top).map fun (z : Nat) => r ++ [(z : Int)])).map rD)), c, .un], []⟩) (ei_list (ee_var rfl)) (fun i S => ∃ c, S = ⟨[.dat (.int (n : Int)), .dat (.int (top : Int)), .dat (.list (found.map rD)), q, .dat (.list ((((found.take i).flatMap fun r => (List.range top).map fun (z : Nat) => r ++ [(z : Int)])).map rD)), c, .un], []⟩) ⟨_, rfl⟩ ?_ ?_)
    · rintro i d S' hd ⟨c, rfl⟩
      obtain ⟨row, hrow, rfl⟩ := map_at hd
      have hrl := rl row (List.mem_of_getElem? hrow)
      have n1 := nt (i + 1)
      rw [flat_take2 hrow] at n1 ⊢
      rw [List.map_append]
      generalize (found.take i).flatMap (fun r => (List.range top).map fun (z : Nat) => r ++ [(z : Int)]) = X at n1 ⊢
      refine ⟨_, eg_name, ts_asg (x := .dat (.list (X.map rD ++ ((List.range top).map fun (z : Nat) => row ++ [(z : Int)]).map rD))) (S1 := ⟨[.dat (.int (n : Int)), .dat (.int (top : Int)), .dat (.list (found.map rD)), q, .dat (.list (X.map rD)), .dat (rD row), .un], []⟩) (ee_op (ee_var rfl) (ee_of_el ?_) (ro_cat ?_)) ⟨_, rfl⟩⟩
      · rw [List.map_map]
        refine el_lcmA (dA := fun (z : Nat) => PyData.int (z : Int)) (lst := List.range top) (S0 := ⟨[.dat (.int (n : Int)), .dat (.int (top : Int)), .dat (.list (found.map rD)), q, .dat (.list (X.map rD)), .dat (rD row), .un], []⟩) ?_ (by rw [List.length_range]; omega) fun z _ => ⟨_, egc_name (by decide), rfl, _, ee_eq (ee_op (ee_var rfl) (ee_tup (ed_cons (ee_var rfl) ed_nil)) (ro_catT (ds := row.map PyData.int) (es := [.int (z : Int)]) (by rw [List.length_map, hrl]; show k + 1 ≤ _; omega))) (by
          show SD.dat (.tuple (row.map PyData.int ++ [.int (z : Int)])) = .dat (rD (row ++ [(z : Int)]))
          unfold rD
          rw [List.map_append]
          rfl), rfl⟩
        have := ei_rng1 (K := K) (S := ⟨[.dat (.int (n : Int)), .dat (.int (top : Int)), .dat (.list (found.map rD)), q, .dat (.list (X.map rD)), .dat (rD row), .un], []⟩) (n := (top : Int)) (ed_cons (ee_var (i := 1) rfl) ed_nil) (by omega)
        rw [Int.toNat_natCast, rng_nat] at this
        exact this
      · rw [List.length_append] at n1
        rw [List.length_map, List.length_map]
        omega
    · rintro S' ⟨c, rfl⟩
      rw [List.length_map, List.take_length]
      exact ts_asg (ee_var rfl) ⟨_, _, _, rfl⟩
  · rintro S' ⟨a, b, c, rfl⟩
    rw [rngD_len]
    exact ts_ret (ee_var rfl) ⟨rfl, rfl⟩
def someN (n : Nat) (ps : List Pr) (top : Nat) : List (List Int) := (rowsN top n).filter (letsN ps)
def R_some : FR := fun as ob r ob' => ∃ (n top : Nat) (ps : List Pr), as = [.dat (.int (n : Int)), .dat (oD ps), .dat (.int (top : Int))] ∧ top ^ n ≤ 100000 ∧ n ≤ 100 ∧ 1 ≤ top ∧ top ≤ 100 ∧ PrOk n ps ∧ ps.length ≤ 10000 ∧ ob = [] ∧ r = .dat (.list ((someN n ps top).map rD)) ∧ ob' = []
theorem sc_law_some : FnScope ["n", "order", "top", "row"] ["n", "order", "top"] (defScope s_law_some) := ⟨rfl, rfl, rfl, by decide +kernel, rfl, by decide +kernel, by decide +kernel⟩
theorem ok_law_some (D : Df K mg "_law_some" s_law_some ["n", "order", "top"]) (B : Bi mg) (D_law_is_let : Df K mg "_law_is_let" s_law_is_let ["order", "row"]) (D_law_rows : Df K mg "_law_rows" s_law_rows ["n", "top"]) : FnG P w K mg base CX0 2 D.f D.fd ["n", "order", "top"] (spD K 3 R_some) := by
  have ok_law_is_let : FnG P w K mg base CX0 1 _ _ _ _ := ok_law_is_let D_law_is_let B
  have ok_law_rows : FnG P w K mg base CX0 1 _ _ _ _ := ok_law_rows D_law_rows B
  refine okG D.F sc_law_some (fun vs H Q E h => h.1) (fun cdv A outer s H vs Q E hr gd h => ?_)
  have hu := huX hr
  refine ⟨_, (pss_one (ps_ret (pe_lc (own := [("row", 3)]) (g := gName 3) (by rfl) sc_law_some.nd (pi_list (pe_callG (ok_law_rows) (hr.mono (by decide)) gd (by rfl) D_law_rows.m D_law_rows.F.kp D_law_rows.b .nil pass0 (pa_cons (pv 0) (pa_cons (pv 2) pa_nil)))) (blkOk_by (own := [("row", 3)]) (N := ["n", "order", "top", "row"]) (sc := defScope s_law_some) (by decide +kernel)) (fun _ _ _ _ _ => (pg_name (i := 3) sc_law_some.nd rfl (Or.inl rfl))) (fun _ _ _ _ _ => (pts_one (pt_val (pe_callG (ok_law_is_let) (hr.mono (by decide)) gd (by rfl) D_law_is_let.m D_law_is_let.F.kp D_law_is_let.b .nil pass0 (pa_cons (pv 1) (pa_cons (pv 3) pa_nil)))))) (fun _ _ _ _ _ => (pv 3))))), ?_⟩
  refine body_of h (by decide) fun as ob r ob' hR hl => ?_
  obtain ⟨n, top, ps, rfl, hz, hn, ht1, ht, hp, hps, rfl, rfl, rfl⟩ := hR
  refine ts_ret (ee_of_el (el_lcfA (dA := rD) (lst := rowsN top n) (p := letsN ps) (f := rD) (S0 := ⟨[.dat (.int (n : Int)), .dat (oD ps), .dat (.int (top : Int)), .un], []⟩) (ei_list (ee_callD (d := .list ((rowsN top n).map rD)) (ed_cons (ee_var rfl) (ed_cons (ee_var rfl) ed_nil)) rfl ⟨n, top, rfl, hz, hn, ht1, ht, rfl, rfl, rfl⟩)) (Nat.le_trans (rowsN_len top n) (by omega)) fun row hr => ?_)) ⟨rfl, rfl⟩
  have hrl := (rowsN_row row hr).1
  exact ⟨_, _, egc_name (by decide), et_B (ee_callD (d := .bool (letsN ps row)) (ed_cons (ee_var rfl) (ed_cons (ee_var rfl) ed_nil)) rfl ⟨ps, row, rfl, by rw [hrl]; exact hp, hps, rfl, rfl, rfl⟩), rfl, fun _ => ⟨_, ee_var rfl, rfl⟩⟩
end
end K13

set_option maxRecDepth 100000
set_option maxHeartbeats 4000000
namespace K13
open PySem PySem.Spec PyProof.Rows L2 DL
/-! ### lanes: all words at once -/
def wordBit (ws : List (List Int)) (k line : Nat) : Bool := match ws[k]? with
  | some w => decide (w.getD line 0 ≠ 0)
  | none => false
def laneK (ws : List (List Int)) (line : Nat) : Nat → Nat
  | 0 => 0
  | k + 1 => if wordBit ws k line = true then laneK ws line k ||| 2 ^ k else laneK ws line k
theorem lane_bit (ws : List (List Int)) (line i : Nat) : ∀ k, (laneK ws line k).testBit i = (decide (i < k) && wordBit ws i line)
  | 0 => by
    show (0 : Nat).testBit i = _
    rw [Nat.zero_testBit]
    rfl
  | k + 1 => by
    have ih := lane_bit ws line i k
    show (if wordBit ws k line = true then laneK ws line k ||| 2 ^ k else laneK ws line k).testBit i = _
    by_cases e : i = k
    · subst e
      by_cases h : wordBit ws i line = true
      · rw [if_pos h, Nat.testBit_or, Nat.testBit_two_pow_self, h]
        simp
      · rw [if_neg h, ih]
        have : wordBit ws i line = false := by simpa using h
        rw [this]
        simp
    · have h1 : decide (i < k + 1) = decide (i < k) := decide_eq_decide.mpr (by omega)
      rw [h1]
      by_cases h : wordBit ws k line = true
      · rw [if_pos h, Nat.testBit_or, ih, Nat.testBit_two_pow, decide_eq_false (show ¬ k = i from fun z => e z.symm), Bool.or_false]
      · rw [if_neg h, ih]
def lanesN (n : Nat) (ws : List (List Int)) : List Nat := (List.range n).map fun line => laneK ws line ws.length
theorem wordBit_out {ws : List (List Int)} {k line : Nat} (h : ¬ k < ws.length) : wordBit ws k line = false := by
  unfold wordBit
  rw [List.getElem?_eq_none (by omega)]
def laneStep (g : Gate) (now : List Nat) : List Nat := (now.set g.1.toNat (now.getD g.1.toNat 0 &&& now.getD g.2.toNat 0)).set g.2.toNat (now.getD g.1.toNat 0 ||| now.getD g.2.toNat 0)
def laneRun (net : List Gate) (lanes : List Nat) : Nat → List Nat
  | 0 => lanes
  | t + 1 => laneStep (net.getD t (0, 0)) (laneRun net lanes t)
def exchN (net : List Gate) (lanes : List Nat) (t : Nat) : Nat := dropN ((laneRun net lanes t).getD (net.getD t (0, 0)).1.toNat 0) ((laneRun net lanes t).getD (net.getD t (0, 0)).2.toNat 0)
theorem laneRun_len (net : List Gate) (lanes : List Nat) : ∀ t, (laneRun net lanes t).length = lanes.length
  | 0 => rfl
  | t + 1 => by
    show (laneStep _ (laneRun net lanes t)).length = _
    unfold laneStep
    rw [List.length_set, List.length_set, laneRun_len net lanes t]
theorem setD_get {l : List Nat} {i j : Nat} {v : Nat} (hi : i < l.length) : (l.set i v).getD j 0 = if j = i then v else l.getD j 0 := by
  rw [List.getD_eq_getElem?_getD, List.getD_eq_getElem?_getD, List.getElem?_set]
  by_cases e : i = j
  · rw [if_pos e, if_pos hi, if_pos e.symm]
    rfl
  · rw [if_neg e, if_neg (fun z => e z.symm)]
theorem laneStep_get {g : Gate} {now : List Nat} (h1 : g.1.toNat < now.length) (h2 : g.2.toNat < now.length) (m : Nat) : (laneStep g now).getD m 0 = if m = g.2.toNat then now.getD g.1.toNat 0 ||| now.getD g.2.toNat 0 else if m = g.1.toNat then now.getD g.1.toNat 0 &&& now.getD g.2.toNat 0 else now.getD m 0 := by
  unfold laneStep
  rw [setD_get (by rw [List.length_set]; exact h2), setD_get h1]
/-- words of noughts and ones -/
def Bits (ws : List (List Int)) (n : Nat) : Prop := ∀ w ∈ ws, w.length = n ∧ ∀ x ∈ w, 0 ≤ x ∧ x < 2
theorem keyK_bit {w : List Int} {net : List Gate} (hb : ∀ x ∈ w, 0 ≤ x ∧ x < 2) (t l : Nat) : 0 ≤ (keyK w net t).getD l 0 ∧ (keyK w net t).getD l 0 < 2 := by
  have hv : ∀ p, 0 ≤ val w p ∧ val w p < 2 := fun p => getD_mem (p := fun x => 0 ≤ x ∧ x < 2) hb (by decide)
  unfold keyK
  refine getD_mem (p := fun x => 0 ≤ x ∧ x < 2) (fun x hx => ?_) (by decide)
  obtain ⟨p, _, rfl⟩ := List.mem_map.mp hx
  exact hv p
def runBit (ws : List (List Int)) (net : List Gate) (k t line : Nat) : Bool := match ws[k]? with
  | some w => decide ((keyK w net t).getD line 0 ≠ 0)
  | none => false
theorem lanes_run {n : Nat} {ws : List (List Int)} {net : List Gate} (hw : Bits ws n) (h : NetOk n net) (k : Nat) : ∀ t, t ≤ net.length → ∀ line, line < n → ((laneRun net (lanesN n ws) t).getD line 0).testBit k = runBit ws net k t line
  | 0, _, line, hl => by
    show ((lanesN n ws).getD line 0).testBit k = _
    unfold lanesN
    rw [List.getD_eq_getElem?_getD, List.getElem?_map, List.getElem?_range hl]
    show (laneK ws line ws.length).testBit k = _
    rw [lane_bit]
    unfold runBit
    by_cases hk : k < ws.length
    · rw [decide_eq_true hk, Bool.true_and, List.getElem?_eq_getElem hk]
      show wordBit ws k line = _
      unfold wordBit
      rw [List.getElem?_eq_getElem hk]
      show decide _ = decide _
      rw [keyK0]
    · rw [wordBit_out hk, Bool.and_false, List.getElem?_eq_none (by omega)]
  | t + 1, ht, line, hl => by
    have ih := lanes_run hw h k t (by omega)
    have g := gate_at h (k := t) (by omega)
    have ll := laneRun_len net (lanesN n ws) t
    have ln : (lanesN n ws).length = n := by
      unfold lanesN
      rw [List.length_map, List.length_range]
    have i1 := ih (net.getD t (0, 0)).1.toNat (by omega)
    have i2 := ih (net.getD t (0, 0)).2.toNat (by omega)
    show ((laneStep (net.getD t (0, 0)) (laneRun net (lanesN n ws) t)).getD line 0).testBit k = _
    rw [laneStep_get (by omega) (by omega)]
    unfold runBit at *
    by_cases hk : k < ws.length
    · have hm := hw _ (List.getElem_mem hk)
      have e := (run_step (row := ws[k]) (net := net) (by rw [hm.1]; exact h) (show t < net.length by omega)).1
      have kl := keyK_len ws[k] net t
      have kb := fun l => keyK_bit (net := net) hm.2 t l
      rw [List.getElem?_eq_getElem hk] at *
      show _ = decide ((keyK ws[k] net (t + 1)).getD line 0 ≠ 0)
      have i1 : ((laneRun net (lanesN n ws) t).getD (net.getD t (0, 0)).1.toNat 0).testBit k = decide ((keyK ws[k] net t).getD (net.getD t (0, 0)).1.toNat 0 ≠ 0) := i1
      have i2 : ((laneRun net (lanesN n ws) t).getD (net.getD t (0, 0)).2.toNat 0).testBit k = decide ((keyK ws[k] net t).getD (net.getD t (0, 0)).2.toNat 0 ≠ 0) := i2
      have i3 : ((laneRun net (lanesN n ws) t).getD line 0).testBit k = decide ((keyK ws[k] net t).getD line 0 ≠ 0) := ih line hl
      have b1 := kb (net.getD t (0, 0)).1.toNat
      have b2 := kb (net.getD t (0, 0)).2.toNat
      rw [e]
      by_cases s : swaps ws[k] net t
      · rw [if_pos s, swp_get _ (by omega) (by omega)]
        have s' : (keyK ws[k] net t).getD (net.getD t (0, 0)).2.toNat 0 < (keyK ws[k] net t).getD (net.getD t (0, 0)).1.toNat 0 := s
        by_cases l2 : line = (net.getD t (0, 0)).2.toNat
        · rw [if_pos l2, if_pos l2, Nat.testBit_or, i1, i2, decide_eq_true (show (keyK ws[k] net t).getD (net.getD t (0, 0)).1.toNat 0 ≠ 0 by omega), Bool.true_or]
        · rw [if_neg l2, if_neg l2]
          by_cases l1 : line = (net.getD t (0, 0)).1.toNat
          · rw [if_pos l1, if_pos l1, Nat.testBit_and, i1, i2, decide_eq_false (show ¬ (keyK ws[k] net t).getD (net.getD t (0, 0)).2.toNat 0 ≠ 0 by omega), Bool.and_false]
          · rw [if_neg l1, if_neg l1]
            exact i3
      · rw [if_neg s]
        have s' : ¬ (keyK ws[k] net t).getD (net.getD t (0, 0)).2.toNat 0 < (keyK ws[k] net t).getD (net.getD t (0, 0)).1.toNat 0 := s
        by_cases l2 : line = (net.getD t (0, 0)).2.toNat
        · rw [if_pos l2, Nat.testBit_or, i1, i2, l2]
          by_cases z : (keyK ws[k] net t).getD (net.getD t (0, 0)).1.toNat 0 = 0
          · rw [decide_eq_false (fun q => q z), Bool.false_or]
          · rw [decide_eq_true z, Bool.true_or, decide_eq_true (show (keyK ws[k] net t).getD (net.getD t (0, 0)).2.toNat 0 ≠ 0 by omega)]
        · rw [if_neg l2]
          by_cases l1 : line = (net.getD t (0, 0)).1.toNat
          · rw [if_pos l1, Nat.testBit_and, i1, i2, l1]
            by_cases z : (keyK ws[k] net t).getD (net.getD t (0, 0)).1.toNat 0 = 0
            · rw [decide_eq_false (fun q => q z), Bool.false_and]
            · rw [decide_eq_true z, Bool.true_and, decide_eq_true (show (keyK ws[k] net t).getD (net.getD t (0, 0)).2.toNat 0 ≠ 0 by omega)]
          · rw [if_neg l1]
            exact i3
    · rw [List.getElem?_eq_none (by omega)] at *
      have i1 : ((laneRun net (lanesN n ws) t).getD (net.getD t (0, 0)).1.toNat 0).testBit k = false := i1
      have i2 : ((laneRun net (lanesN n ws) t).getD (net.getD t (0, 0)).2.toNat 0).testBit k = false := i2
      have i3 : ((laneRun net (lanesN n ws) t).getD line 0).testBit k = false := ih line hl
      show _ = false
      split
      · rw [Nat.testBit_or, i1, i2]
        rfl
      split
      · rw [Nat.testBit_and, i1]
        rfl
      · exact i3
theorem exch_bit {n : Nat} {ws : List (List Int)} {net : List Gate} (hw : Bits ws n) (h : NetOk n net) (k : Nat) {t : Nat} (ht : t < net.length) : (exchN net (lanesN n ws) t).testBit k = match ws[k]? with
    | some w => decide (swaps w net t)
    | none => false := by
  have g := gate_at h ht
  unfold exchN
  rw [drop_bit, lanes_run hw h k t (by omega) _ (by omega), lanes_run hw h k t (by omega) _ (by omega)]
  unfold runBit
  by_cases hk : k < ws.length
  · rw [List.getElem?_eq_getElem hk]
    have hm := hw _ (List.getElem_mem hk)
    have b1 := keyK_bit (net := net) hm.2 t (net.getD t (0, 0)).1.toNat
    have b2 := keyK_bit (net := net) hm.2 t (net.getD t (0, 0)).2.toNat
    show (decide _ && !decide _) = decide _
    rw [Bool.eq_iff_iff, Bool.and_eq_true, decide_eq_true_eq, Bool.not_eq_true', decide_eq_false_iff_not, decide_eq_true_eq]
    unfold swaps
    omega
  · rw [List.getElem?_eq_none (by omega)]
    rfl
def liveB (ws : List (List Int)) (net : List Gate) (t : Nat) : Bool := ws.any fun w => decide (swaps w net t)
theorem exch_ne {n : Nat} {ws : List (List Int)} {net : List Gate} (hw : Bits ws n) (h : NetOk n net) {t : Nat} (ht : t < net.length) : ((exchN net (lanesN n ws) t : Int) != 0) = liveB ws net t := by
  rw [Bool.eq_iff_iff]
  unfold liveB
  rw [List.any_eq_true]
  constructor
  · intro hne
    have h0 : exchN net (lanesN n ws) t ≠ 0 := fun z => by rw [z] at hne; exact absurd hne (by decide)
    obtain ⟨k, hk⟩ := Nat.exists_testBit_of_ne_zero h0
    rw [exch_bit hw h k ht] at hk
    cases e : ws[k]? with
    | none =>
      rw [e] at hk
      cases hk
    | some w =>
      rw [e] at hk
      exact ⟨w, List.mem_of_getElem? e, hk⟩
  · rintro ⟨w, hm, hs⟩
    obtain ⟨k, hk, rfl⟩ := List.mem_iff_getElem.mp hm
    have e := exch_bit hw h k ht
    rw [List.getElem?_eq_getElem hk] at e
    have e2 : (exchN net (lanesN n ws) t).testBit k = true := e.trans hs
    rw [bne_iff_ne]
    intro z
    have z0 : exchN net (lanesN n ws) t = 0 := by omega
    rw [z0, Nat.zero_testBit] at e2
    cases e2
def liveN (ws : List (List Int)) (net : List Gate) : List Nat := (List.range net.length).filter (liveB ws net)
def natL (l : List Nat) : List Int := l.map fun (p : Nat) => (p : Int)
theorem words_bits (n : Nat) (ps : List Pr) : Bits (wordsN n ps) n := fun w hw => ⟨(words_row hw).1, (words_row hw).2.1⟩
/-- the spots of one row -/
theorem runS_spots {row : List Int} {net : List Gate} (h : NetOk row.length net) : ∀ t, t ≤ net.length → (runK row net t).2 = natL ((List.range t).filter fun t => decide (swaps row net t))
  | 0, _ => rfl
  | t + 1, ht => by
    rw [(run_step h (show t < net.length by omega)).2, List.range_succ, List.filter_append, runS_spots h t (by omega)]
    unfold natL
    by_cases s : swaps row net t
    · have e : [t].filter (fun t => decide (swaps row net t)) = [t] := List.filter_cons_of_pos (decide_eq_true s)
      rw [if_pos s, e, List.map_append]
      rfl
    · have e : [t].filter (fun t => decide (swaps row net t)) = [] := List.filter_cons_of_neg (by rw [decide_eq_false s]; decide)
      rw [if_neg s, e, List.append_nil]
/-- the spots of many rows, as they are met -/
def metK (net : List Gate) (rows : List (List Int)) : List Int := rows.foldl (fun ks row => (runS row net).foldl addS ks) []
theorem addS_mem {ks : List Int} {z x : Int} : x ∈ addS ks z ↔ x ∈ ks ∨ x = z := by
  unfold addS
  split
  · rename_i h
    exact ⟨.inl, fun q => q.elim id fun e => e ▸ h⟩
  · rw [List.mem_append, List.mem_singleton]
theorem addS_nodup {ks : List Int} {z : Int} (h : ks.Nodup) : (addS ks z).Nodup := by
  unfold addS
  split
  · exact h
  · rename_i hz
    rw [List.nodup_append]
    exact ⟨h, by simp, fun a ha b hb e => hz (by rw [List.mem_singleton] at hb; rw [← hb, ← e]; exact ha)⟩
theorem addAll_mem {x : Int} : ∀ {zs ks : List Int}, x ∈ zs.foldl addS ks ↔ x ∈ ks ∨ x ∈ zs
  | [], ks => by simp
  | z :: zs, ks => by
    rw [List.foldl_cons, addAll_mem, addS_mem, List.mem_cons]
    exact ⟨fun h => by rcases h with (h | h) | h <;> simp [h], fun h => by rcases h with h | h | h <;> simp [h]⟩
theorem addAll_nodup : ∀ {zs ks : List Int}, ks.Nodup → (zs.foldl addS ks).Nodup
  | [], _, h => h
  | z :: zs, ks, h => addAll_nodup (zs := zs) (addS_nodup h)
theorem met_mem {net : List Gate} {x : Int} : ∀ {rows : List (List Int)} {ks : List Int}, x ∈ rows.foldl (fun ks row => (runS row net).foldl addS ks) ks ↔ x ∈ ks ∨ ∃ row ∈ rows, x ∈ runS row net
  | [], ks => by simp
  | row :: rows, ks => by
    rw [List.foldl_cons, met_mem, addAll_mem]
    exact ⟨fun h => by
      rcases h with (h | h) | ⟨r, h1, h2⟩
      · exact .inl h
      · exact .inr ⟨row, List.mem_cons_self, h⟩
      · exact .inr ⟨r, List.mem_cons_of_mem _ h1, h2⟩, fun h => by
      rcases h with h | ⟨r, h1, h2⟩
      · exact .inl (.inl h)
      · rcases List.mem_cons.mp h1 with rfl | h1
        · exact .inl (.inr h2)
        · exact .inr ⟨r, h1, h2⟩⟩
theorem met_nodup {net : List Gate} : ∀ {rows : List (List Int)} {ks : List Int}, ks.Nodup → (rows.foldl (fun ks row => (runS row net).foldl addS ks) ks).Nodup
  | [], _, h => h
  | row :: rows, ks, h => met_nodup (rows := rows) (addAll_nodup h)
theorem natL_up {n : Nat} (p : Nat → Bool) : (natL ((List.range n).filter p)).Pairwise (· < ·) := by
  unfold natL
  rw [List.pairwise_map]
  refine List.Pairwise.imp (fun {a b} h => ?_) (List.pairwise_lt_range.filter p)
  have : a < b := h
  show (a : Int) < (b : Int)
  omega
theorem live_perm {n : Nat} {rows : List (List Int)} {net : List Gate} (hr : ∀ row ∈ rows, row.length = n) (h : NetOk n net) : (natL (liveN rows net)).Perm (metK net rows) := by
  refine (List.perm_ext_iff_of_nodup ?_ (met_nodup List.nodup_nil)).mpr fun x => ?_
  · exact (natL_up (liveB rows net)).imp fun h e => by
      rw [e] at h
      exact Int.lt_irrefl _ h
  · rw [met_mem]
    have key : ∀ row ∈ rows, x ∈ runS row net ↔ ∃ t : Nat, t < net.length ∧ swaps row net t ∧ x = (t : Int) := fun row hm => by
      have e : runS row net = _ := runS_spots (row := row) (by rw [hr row hm]; exact h) net.length (Nat.le_refl _)
      rw [e]
      unfold natL
      rw [List.mem_map]
      exact ⟨fun ⟨t, ht, e⟩ => by
        obtain ⟨a, b⟩ := List.mem_filter.mp ht
        exact ⟨t, List.mem_range.mp a, of_decide_eq_true b, e.symm⟩, fun ⟨t, a, b, e⟩ => ⟨t, List.mem_filter.mpr ⟨List.mem_range.mpr a, decide_eq_true b⟩, e.symm⟩⟩
    constructor
    · intro hx
      obtain ⟨t, ht, rfl⟩ := List.mem_map.mp hx
      obtain ⟨a, b⟩ := List.mem_filter.mp ht
      obtain ⟨row, hm, hs⟩ := List.any_eq_true.mp b
      exact .inr ⟨row, hm, (key row hm).mpr ⟨t, List.mem_range.mp a, of_decide_eq_true hs, rfl⟩⟩
    · rintro (h | ⟨row, hm, hx⟩)
      · cases h
      · obtain ⟨t, ht, hs, rfl⟩ := (key row hm).mp hx
        exact List.mem_map.mpr ⟨t, List.mem_filter.mpr ⟨List.mem_range.mpr ht, List.any_eq_true.mpr ⟨row, hm, decide_eq_true hs⟩⟩, rfl⟩
end K13

set_option maxRecDepth 100000
set_option maxHeartbeats 4000000
namespace K13
open PySem PySem.Spec PyProof.Rows L2 DL
section
variable {P : Program} {w : World} {K : PySem.W.Frag} {mg : Str → Option Value} {base : Heap}
/-! ### the program's lanes -/
def zD (x : Nat) : PyData := .int (x : Int)
theorem zD_at {l : List Nat} {i : Nat} (h : i < l.length) : (l.map zD)[i]? = some (zD (l.getD i 0)) := by
  rw [List.getElem?_map, List.getElem?_eq_getElem h, List.getD_eq_getElem?_getD, List.getElem?_eq_getElem h]
  rfl
theorem zI_at {l : List Nat} {i : Int} (h0 : 0 ≤ i) (h : i < l.length) : atI (l.map zD) i = some (.int ((l.getD i.toNat 0 : Nat) : Int)) := ix_at (zD_at (i := i.toNat) (by omega)) (by omega)
theorem ixN_ok {n : Nat} {i : Int} (h0 : 0 ≤ i) (h : i < n) : ixN n i = some i.toNat := by
  unfold ixN
  rw [if_pos h0, if_pos h]
theorem cpow_ok {b : Nat} (h : b ≤ 100000) : CPow 1 (b : Int) := ⟨by omega, by omega, by omega⟩
def R_wlanes : FR := fun as ob r ob' => ∃ (n : Nat) (ws : List (List Int)), as = [.dat (.int (n : Int)), .dat (.list (ws.map rD))] ∧ (∀ w ∈ ws, w.length = n) ∧ n ≤ 100 ∧ ws.length ≤ 2200 ∧ ob = [] ∧ r = .dat (.list ((lanesN n ws).map zD)) ∧ ob' = []
def laneP (n : Nat) (ws : List (List Int)) (k l : Nat) : List Nat := (List.range n).map fun m => if m < l then laneK ws m (k + 1) else laneK ws m k
theorem laneP_len (n : Nat) (ws : List (List Int)) (k l : Nat) : (laneP n ws k l).length = n := by
  unfold laneP
  rw [List.length_map, List.length_range]
theorem laneP_get {n : Nat} {ws : List (List Int)} {k l m : Nat} (h : m < n) : (laneP n ws k l)[m]? = some (if m < l then laneK ws m (k + 1) else laneK ws m k) := by
  unfold laneP
  rw [List.getElem?_map, List.getElem?_range h]
  rfl
theorem laneP_step {n : Nat} {ws : List (List Int)} {k l : Nat} (h : l < n) : laneP n ws k (l + 1) = (laneP n ws k l).set l (laneK ws l (k + 1)) := by
  refine List.ext_getElem? fun m => ?_
  rw [List.getElem?_set]
  by_cases hm : m < n
  · rw [laneP_get hm, laneP_get hm, laneP_len]
    by_cases e : l = m
    · subst e
      rw [if_pos rfl, if_pos hm, if_pos (by omega)]
    · rw [if_neg e]
      congr 1
      by_cases h2 : m < l
      · rw [if_pos h2, if_pos (by omega)]
      · rw [if_neg h2, if_neg (by omega)]
  · rw [List.getElem?_eq_none (by rw [laneP_len]; omega), List.getElem?_eq_none (by rw [laneP_len]; omega), laneP_len, if_neg (show ¬ l = m by omega)]
theorem laneP_end (n : Nat) (ws : List (List Int)) (k : Nat) : laneP n ws k n = laneP n ws (k + 1) 0 := by
  unfold laneP
  refine List.map_congr_left fun m hm => ?_
  rw [if_pos (List.mem_range.mp hm), if_neg (by omega)]
theorem rep0_D (n : Nat) : repD n [PyData.int 0] = (laneP n [] 0 0).map zD := by
  unfold laneP
  rw [List.map_map]
  refine List.ext_getElem? fun m => ?_
  rw [List.getElem?_map]
  by_cases hm : m < n
  · rw [List.getElem?_range hm]
    have : repD n [PyData.int 0] = List.replicate n (PyData.int 0) := by
      clear hm
      induction n with
      | zero => rfl
      | succ n ih => rw [repD_succ, ih]; rfl
    rw [this, List.getElem?_replicate, if_pos hm]
    rfl
  · rw [List.getElem?_eq_none (by rw [repD_len]; show n * 1 ≤ m; omega), List.getElem?_eq_none (by rw [List.length_range]; omega)]
    rfl
theorem scword_lanes : FnScope ["n", "words", "lanes", "k", "word", "line"] ["n", "words"] (defScope sword_lanes) := ⟨rfl, rfl, rfl, by decide +kernel, rfl, by decide +kernel, by decide +kernel⟩
theorem okword_lanes (D : Df K mg "word_lanes" sword_lanes ["n", "words"]) (B : Bi mg) : FnG P w K mg base CX0 1 D.f D.fd ["n", "words"] (spD K 2 R_wlanes) := by
  refine okG D.F scword_lanes (fun vs H Q E h => h.1) (fun cdv A outer s H vs Q E hr gd h => ?_)
  have hu := huX hr
  refine ⟨_, (pss_cons (ps_set (i := 2) scword_lanes.nd rfl (Or.inl rfl) (pe_op op_mulU (pe_lst (pa_cons pe_int pa_nil)) (pv 0)))
      (pss_cons (ps_for PassesOwn.never rfl (pi_enum (by rfl) B.z_enumerate (pa_cons (pv 1) pa_nil)) (pg_tup rfl (pgs_cons (pg_name (i := 3) scword_lanes.nd rfl (Or.inl rfl)) (pgs_cons (pg_name (i := 4) scword_lanes.nd rfl (Or.inl rfl)) pgs_nil)))
        (pss_one (ps_for PassesOwn.never rfl (pi_range1 (by rfl) B.z_range (pa_cons (pv 0) pa_nil)) (pg_name (i := 5) scword_lanes.nd rfl (Or.inl rfl))
          (pss_one (ps_if (pt_tru (pe_ix ix_seq (pv 4) (pv 5) (fun _ _ => rfl))) (pss_one (ps_augS (pv 2) (pv 5) get_list (pe_op op_shl pe_int (pv 3)) ip_or set_list)) pss_nil)))))
      (pss_one (ps_ret (pv 2))))), ?_⟩
  refine body_ofG h (by decide) (fun as ob r ob' hR => ?_) fun as ob r ob' hR hl => ?_
  · obtain ⟨n, ws, rfl, _, _, _, rfl, rfl, rfl⟩ := hR
    exact ⟨Nat.le_refl _, fun _ z => by cases z⟩
  obtain ⟨n, ws, rfl, hw, hn, hz, rfl, rfl, rfl⟩ := hR
  have rep := rol_rep (K := K) (S := ⟨[.dat (.int (n : Int)), .dat (.list (ws.map rD)), .un, .un, .un, .un], []⟩) (x := .dat (.list [PyData.int 0])) (ds := [PyData.int 0]) (i := (n : Int)) (.dat _) (by omega) (by show 1 * _ ≤ _; omega) (by omega)
  rw [Int.toNat_natCast, rep0_D] at rep
  refine ts_seq (ts_asg (x := .own 0) (S1 := ⟨[.dat (.int (n : Int)), .dat (.list (ws.map rD)), .un, .un, .un, .un], [.lst ((laneP n ws 0 0).map zD)]⟩) (eo_of_el (S1 := ⟨[.dat (.int (n : Int)), .dat (.list (ws.map rD)), .un, .un, .un, .un], []⟩) (el_op (ee_lst (ds := [.int 0]) (ed_cons ee_int ed_nil) (show (1 : Nat) ≤ 1000000 by decide)) (ee_var rfl) rep)) ?_)
  refine ts_seq (ts_for (ds := enumD (ws.map rD)) (S0 := ⟨[.dat (.int (n : Int)), .dat (.list (ws.map rD)), .own 0, .un, .un, .un], [.lst ((laneP n ws 0 0).map zD)]⟩) (ei_enum (ed_cons (ee_var rfl) ed_nil)) (fun k S => ∃ a b c, S = ⟨[.dat (.int (n : Int)), .dat (.list (ws.map rD)), .own 0, a, b, c], [.lst ((laneP n ws k 0).map zD)]⟩) ⟨.un, .un, .un, rfl⟩ ?_ ?_)
  · rintro k d S' hd ⟨a, b, c, rfl⟩
    obtain ⟨e, he, rfl⟩ := enumD_get hd
    obtain ⟨wd, hk, rfl⟩ := map_at he
    have hkl : k < ws.length := (List.getElem?_eq_some_iff.mp hk).1
    have hwl := hw wd (List.mem_of_getElem? hk)
    refine ⟨_, eg_tup (egs_cons eg_name (egs_cons eg_name egs_nil)), ts_for (ds := rngD 0 n) (S0 := ⟨[.dat (.int (n : Int)), .dat (.list (ws.map rD)), .own 0, .dat (.int (k : Int)), .dat (rD wd), c], [.lst ((laneP n ws k 0).map zD)]⟩) ?_ (fun l S => ∃ c, S = ⟨[.dat (.int (n : Int)), .dat (.list (ws.map rD)), .own 0, .dat (.int (k : Int)), .dat (rD wd), c], [.lst ((laneP n ws k l).map zD)]⟩) ⟨c, rfl⟩ ?_ ?_⟩
    · have := ei_rng1 (K := K) (S := ⟨[.dat (.int (n : Int)), .dat (.list (ws.map rD)), .own 0, .dat (.int (k : Int)), .dat (rD wd), c], [.lst ((laneP n ws k 0).map zD)]⟩) (n := (n : Int)) (ed_cons (ee_var (i := 0) rfl) ed_nil) (by omega)
      rw [Int.toNat_natCast] at this
      exact this
    · rintro l d S' hd ⟨c, rfl⟩
      obtain ⟨hl, rfl⟩ := rngD_get hd
      rw [show (0 : Int) + (l : Int) = (l : Int) by omega]
      have e1 : wordBit ws k l = (wd.getD l 0 != 0) := by
        unfold wordBit
        rw [hk]
        show decide (wd.getD l 0 ≠ 0) = _
        rw [Bool.eq_iff_iff, decide_eq_true_eq, bne_iff_ne]
      have gl : (laneP n ws k l).getD l 0 = laneK ws l k := by
        rw [List.getD_eq_getElem?_getD, laneP_get hl, if_neg (by omega)]
        rfl
      refine ⟨_, eg_name, ts_if (b := wd.getD l 0 != 0) (S1 := ⟨[.dat (.int (n : Int)), .dat (.list (ws.map rD)), .own 0, .dat (.int (k : Int)), .dat (rD wd), .dat (.int (l : Int))], [.lst ((laneP n ws k l).map zD)]⟩) (et_truI (ee_op (ee_var rfl) (ee_var rfl) (ro_ixT (nat_row (by omega))))) (fun hb => ?_) fun hb => ts_next ⟨.dat (.int (l : Int)), ?_⟩⟩
      · refine ts_augSI (k := 0) (ds := (laneP n ws k l).map zD) (n := l) (j := ((laneK ws l k : Nat) : Int)) (l := ((2 ^ k : Nat) : Int)) (ee_var rfl) (ee_var rfl) (ee_op ee_int (ee_var rfl) (ro_shl1 (cpow_ok (by omega)))) rfl ?_ ?_ ⟨.dat (.int (l : Int)), ?_⟩
        · rw [List.length_map, laneP_len]
          have := ixN_ok (n := n) (i := (l : Int)) (by omega) (by omega)
          rw [Int.toNat_natCast] at this
          exact this
        · rw [zD_at (by rw [laneP_len]; exact hl), gl]
          rfl
        · rw [bor_nat, laneP_step hl]
          have : laneK ws l (k + 1) = laneK ws l k ||| 2 ^ k := if_pos (e1.trans hb)
          rw [this, List.map_set]
          rfl
      · have : laneK ws l (k + 1) = laneK ws l k := if_neg (by rw [e1, hb]; decide)
        have e : laneP n ws k (l + 1) = laneP n ws k l := by
          rw [laneP_step hl, this]
          refine List.ext_getElem? fun m => ?_
          rw [List.getElem?_set]
          by_cases em : l = m
          · subst em
            rw [if_pos rfl, laneP_len, if_pos hl, laneP_get hl, if_neg (by omega)]
          · rw [if_neg em]
        rw [e]
    · rintro S' ⟨c, rfl⟩
      rw [rngD_len, laneP_end]
      exact ⟨_, _, _, rfl⟩
  · rintro S' ⟨a, b, c, rfl⟩
    rw [enumD_len, List.length_map]
    have e : laneP n ws ws.length 0 = lanesN n ws := by
      unfold laneP lanesN
      refine List.map_congr_left fun m _ => ?_
      rw [if_neg (by omega)]
    rw [e]
    exact ts_ret (ee_frz (ee_var rfl) rfl) ⟨rfl, List.nil_prefix⟩
def R_rlanes : FR := fun as ob r ob' => ∃ (net : List Gate) (lanes : List Nat), as = [.dat (nD net), .dat (.list (lanes.map zD))] ∧ NetOk lanes.length net ∧ net.length ≤ 2000 ∧ lanes.length ≤ 100 ∧ ob = [] ∧ r = .dat (.tuple [.list (((List.range net.length).map (exchN net lanes)).map zD), .list ((laneRun net lanes net.length).map zD)]) ∧ ob' = []
theorem scrun_lanes : FnScope ["network", "lanes", "now", "exchanging", "i", "j"] ["network", "lanes"] (defScope srun_lanes) := ⟨rfl, rfl, rfl, by decide +kernel, rfl, by decide +kernel, by decide +kernel⟩
theorem okrun_lanes (D : Df K mg "run_lanes" srun_lanes ["network", "lanes"]) (B : Bi mg) : FnG P w K mg base CX0 1 D.f D.fd ["network", "lanes"] (spD K 2 R_rlanes) := by
  refine okG D.F scrun_lanes (fun vs H Q E h => h.1) (fun cdv A outer s H vs Q E hr gd h => ?_)
  have hu := huX hr
  refine ⟨_, (pss_cons (ps_set (i := 2) scrun_lanes.nd rfl (Or.inl rfl) (pe_callTy cb_list (by rfl) B.z_list (by decide +kernel) (pa_cons (pv 1) pa_nil)))
      (pss_cons (ps_set (i := 3) scrun_lanes.nd rfl (Or.inl rfl) (pe_lst pa_nil))
      (pss_cons (ps_for PassesOwn.never rfl (pi_tup (pv 0)) (pg_tup rfl (pgs_cons (pg_name (i := 4) scrun_lanes.nd rfl (Or.inl rfl)) (pgs_cons (pg_name (i := 5) scrun_lanes.nd rfl (Or.inl rfl)) pgs_nil)))
        (pss_cons (ps_expr (pe_bm PySem.F.plainAttrs_list PySem.F.slot_list_append PySem.F.type_list_append mt_append (pv 3) (pa_cons (pe_op op_and (pe_ix ix_seq (pv 2) (pv 4) (fun _ _ => rfl)) (pe_un un_inv (pe_ix ix_seq (pv 2) (pv 5) (fun _ _ => rfl)))) pa_nil)))
        (pss_one (ps_asg (pe_tup (pa_cons (pe_op op_and (pe_ix ix_seq (pv 2) (pv 4) (fun _ _ => rfl)) (pe_ix ix_seq (pv 2) (pv 5) (fun _ _ => rfl))) (pa_cons (pe_op op_or (pe_ix ix_seq (pv 2) (pv 4) (fun _ _ => rfl)) (pe_ix ix_seq (pv 2) (pv 5) (fun _ _ => rfl))) pa_nil))) (pg_tup rfl (pgs_cons (pg_sub (pv 2) (pv 4) set_list) (pgs_cons (pg_sub (pv 2) (pv 5) set_list) pgs_nil)))))))
      (pss_one (ps_ret (pe_tup (pa_cons (pv 3) (pa_cons (pv 2) pa_nil)))))))), ?_⟩
  refine body_ofG h (by decide) (fun as ob r ob' hR => ?_) fun as ob r ob' hR hl => ?_
  · obtain ⟨net, lanes, rfl, _, _, _, rfl, rfl, rfl⟩ := hR
    exact ⟨Nat.le_refl _, fun _ z => by cases z⟩
  obtain ⟨net, lanes, rfl, hk, hz, hn, rfl, rfl, rfl⟩ := hR
  refine ts_seq (ts_asg (x := .own 0) (S1 := ⟨[.dat (nD net), .dat (.list (lanes.map zD)), .un, .un, .un, .un], [.lst (lanes.map zD)]⟩) (eo_of_el (S1 := ⟨[.dat (nD net), .dat (.list (lanes.map zD)), .un, .un, .un, .un], []⟩) (el_cb (ea_cons (ee_var rfl) ea_nil) (rcl_listL (.dat _)))) ?_)
  refine ts_seq (ts_asg (x := .own 1) (S1 := ⟨[.dat (nD net), .dat (.list (lanes.map zD)), .own 0, .un, .un, .un], [.lst (lanes.map zD), .lst []]⟩) (eo_of_el (S1 := ⟨[.dat (nD net), .dat (.list (lanes.map zD)), .own 0, .un, .un, .un], [.lst (lanes.map zD)]⟩) (el_lst ed_nil)) ?_)
  refine ts_seq (ts_for (ds := net.map gD) (S0 := ⟨[.dat (nD net), .dat (.list (lanes.map zD)), .own 0, .own 1, .un, .un], [.lst (lanes.map zD), .lst []]⟩) (ei_tup (ee_var rfl)) (fun t S => ∃ a b, S = ⟨[.dat (nD net), .dat (.list (lanes.map zD)), .own 0, .own 1, a, b], [.lst ((laneRun net lanes t).map zD), .lst (((List.range t).map (exchN net lanes)).map zD)]⟩) ⟨.un, .un, rfl⟩ ?_ ?_)
  · rintro t d S' hd ⟨a, b, rfl⟩
    obtain ⟨ht, rfl⟩ := net_at hd
    have hg := gate_at hk ht
    have ll := laneRun_len net lanes t
    rw [List.range_succ, List.map_append, List.map_append]
    show ∃ S'', _ ∧ Ts K _ S'' _
    have e1 : laneRun net lanes (t + 1) = laneStep (net.getD t (0, 0)) (laneRun net lanes t) := rfl
    have e2 : exchN net lanes t = dropN ((laneRun net lanes t).getD (net.getD t (0, 0)).1.toNat 0) ((laneRun net lanes t).getD (net.getD t (0, 0)).2.toNat 0) := rfl
    have l3 : (((List.range t).map (exchN net lanes)).map zD).length = t := by rw [List.length_map, List.length_map, List.length_range]
    rw [e1]
    show ∃ S'', _ ∧ Ts K _ S'' { nx := fun S => ∃ a b, S = ⟨[.dat (nD net), .dat (.list (lanes.map zD)), .own 0, .own 1, a, b], [.lst ((laneStep (net.getD t (0, 0)) (laneRun net lanes t)).map zD), .lst (((List.range t).map (exchN net lanes)).map zD ++ [zD (exchN net lanes t)])]⟩, rt := _, bk := _, ct := _ }
    rw [e2]
    generalize ((List.range t).map (exchN net lanes)).map zD = X at l3 ⊢
    generalize laneRun net lanes t = now at ll ⊢
    generalize net.getD t (0, 0) = g at hg ⊢
    have i1 : atI (now.map zD) g.1 = some (.int ((now.getD g.1.toNat 0 : Nat) : Int)) := zI_at (by omega) (by omega)
    have i2 : atI (now.map zD) g.2 = some (.int ((now.getD g.2.toNat 0 : Nat) : Int)) := zI_at (by omega) (by omega)
    refine ⟨_, eg_tup (egs_cons eg_name (egs_cons eg_name egs_nil)), ts_seq (ts_drop (ee_append (k := 1) (ds := X) (d := zD (dropN (now.getD g.1.toNat 0) (now.getD g.2.toNat 0))) (S1 := ⟨[.dat (nD net), .dat (.list (lanes.map zD)), .own 0, .own 1, .dat (.int g.1), .dat (.int g.2)], [.lst (now.map zD), .lst X]⟩) (ee_var rfl) (ee_op (ee_op (ee_var rfl) (ee_var rfl) (ro_ixL (.own rfl) i1)) (ee_un (ee_op (ee_var rfl) (ee_var rfl) (ro_ixL (.own rfl) i2)) ru_inv) ro_bdrop) ⟨_, rfl⟩ rfl (by omega)) ?_)⟩
    refine ts_asgG (ee_tup (ed_cons (ee_op (ee_op (ee_var rfl) (ee_var rfl) (ro_ixL (.own rfl) i1)) (ee_op (ee_var rfl) (ee_var rfl) (ro_ixL (.own rfl) i2)) ro_band) (ed_cons (ee_op (ee_op (ee_var rfl) (ee_var rfl) (ro_ixL (.own rfl) i1)) (ee_op (ee_var rfl) (ee_var rfl) (ro_ixL (.own rfl) i2)) ro_bor) ed_nil)))
        (egh_tup (eghs_cons (egh_sub (ee_var rfl) (ee_var rfl) rfl (by rw [List.length_map]; exact ixN_ok (by omega) (by omega))) (eghs_cons (egh_sub (ee_var rfl) (ee_var rfl) rfl (by rw [List.length_set, List.length_map]; exact ixN_ok (by omega) (by omega))) eghs_nil))) ⟨.dat (.int g.1), .dat (.int g.2), ?_⟩
    unfold laneStep
    rw [List.map_set, List.map_set]
    rfl
  · rintro S' ⟨a, b, rfl⟩
    rw [List.length_map]
    refine ts_ghost (i := 2) (k := 0) (ds := (laneRun net lanes net.length).map zD) rfl rfl ?_
    refine ts_ghost (i := 3) (k := 1) (ds := ((List.range net.length).map (exchN net lanes)).map zD) rfl rfl ?_
    exact ts_ret (S1 := ⟨[.dat (nD net), .dat (.list (lanes.map zD)), .dat (.list ((laneRun net lanes net.length).map zD)), .dat (.list (((List.range net.length).map (exchN net lanes)).map zD)), a, b], [.gone, .gone]⟩) (ee_tup (ed_cons (ee_var rfl) (ed_cons (ee_var rfl) ed_nil))) ⟨rfl, List.nil_prefix⟩
theorem lanesN_len (n : Nat) (ws : List (List Int)) : (lanesN n ws).length = n := by
  unfold lanesN
  rw [List.length_map, List.length_range]
/-- what a network of at most ten lines is asked about -/
structure AskIn (n : Nat) (ps : List Pr) (net : List Gate) : Prop where
  hk : NetOk n net
  len : net.length ≤ 2000
  n10 : n ≤ 10
  hp : PrOk n ps
  pl : ps.length ≤ 10000
theorem words_2100 {n : Nat} (ps : List Pr) (h : n ≤ 10) : (wordsN n ps).length ≤ 2200 := Nat.le_trans (words_len n ps) (Nat.le_trans (Nat.pow_le_pow_right (by decide) h) (by decide))
def R_live : FR := fun as ob r ob' => ∃ (n : Nat) (ps : List Pr) (net : List Gate), as = [.dat (.int (n : Int)), .dat (oD ps), .dat (nD net)] ∧ AskIn n ps net ∧ ob = [] ∧ r = .dat (rD (natL (liveN (wordsN n ps) net))) ∧ ob' = []
theorem enum_spots {net : List Gate} {lanes : List Nat} : ∀ m : Nat, enumD (((List.range m).map (exchN net lanes)).map zD) = (List.range m).map fun (t : Nat) => PyData.tuple [.int (t : Int), zD (exchN net lanes t)] := fun m => by
  unfold enumD
  rw [List.length_map, List.length_map, List.length_range]
  refine List.map_congr_left fun t ht => ?_
  have h := List.mem_range.mp ht
  rw [List.getD_eq_getElem?_getD, List.getElem?_map, List.getElem?_map, List.getElem?_range h]
  rfl
theorem sclive : FnScope ["n", "order", "network", "exchanging", "_", "spot", "told"] ["n", "order", "network"] (defScope slive) := ⟨rfl, rfl, rfl, by decide +kernel, rfl, by decide +kernel, by decide +kernel⟩
theorem oklive (D : Df K mg "live" slive ["n", "order", "network"]) (B : Bi mg) (Dword_lanes : Df K mg "word_lanes" sword_lanes ["n", "words"]) (Drun_lanes : Df K mg "run_lanes" srun_lanes ["network", "lanes"]) (Dlet_words : Df K mg "let_words" slet_words ["n", "order"]) (Dlet_rows : Df K mg "let_rows" slet_rows ["order", "choices"]) (D_let_keys : Df K mg "_let_keys" s_let_keys ["row", "below", "keys"]) : FnG P w K mg base CX0 4 D.f D.fd ["n", "order", "network"] (spD K 3 R_live) := by
  have okword_lanes : FnG P w K mg base CX0 1 _ _ _ _ := okword_lanes Dword_lanes B
  have okrun_lanes : FnG P w K mg base CX0 1 _ _ _ _ := okrun_lanes Drun_lanes B
  have oklet_words : FnG P w K mg base CX0 3 _ _ _ _ := oklet_words Dlet_words B Dlet_rows D_let_keys
  refine okG D.F sclive (fun vs H Q E h => h.1) (fun cdv A outer s H vs Q E hr gd h => ?_)
  have hu := huX hr
  refine ⟨_, (pss_cons (ps_asg (pe_callG (okrun_lanes) (hr.mono (by decide)) gd (by rfl) Drun_lanes.m Drun_lanes.F.kp Drun_lanes.b .nil pass0 (pa_cons (pv 2) (pa_cons (pe_callG (okword_lanes) (hr.mono (by decide)) gd (by rfl) Dword_lanes.m Dword_lanes.F.kp Dword_lanes.b .nil pass0 (pa_cons (pv 0) (pa_cons (pe_callG (oklet_words) (hr.mono (by decide)) gd (by rfl) Dlet_words.m Dlet_words.F.kp Dlet_words.b .nil pass0 (pa_cons (pv 0) (pa_cons (pv 1) pa_nil))) pa_nil))) pa_nil))) (pg_tup rfl (pgs_cons (pg_name (i := 3) sclive.nd rfl (Or.inl rfl)) (pgs_cons (pg_name (i := 4) sclive.nd rfl (Or.inl rfl)) pgs_nil))))
      (pss_one (ps_ret (pe_callTy cb_tuple (by rfl) B.z_tuple (by decide +kernel) (pa_cons (pe_lc (own := [("spot", 5), ("told", 6)]) (by rfl) sclive.nd (pi_enum (by rfl) B.z_enumerate (pa_cons (pv 3) pa_nil)) (blkOk_by (own := [("spot", 5), ("told", 6)]) (N := ["n", "order", "network", "exchanging", "_", "spot", "told"]) (sc := defScope slive) (by decide +kernel)) (fun _ _ _ _ _ => (pg_tupK K (n := 2) rfl rfl (pgs_cons (pg_name (i := 5) sclive.nd rfl (Or.inl rfl)) (pgs_cons (pg_name (i := 6) sclive.nd rfl (Or.inl rfl)) pgs_nil)))) (fun _ _ _ _ _ => (pts_one (pt_truK K rfl (pv 6)))) (fun _ _ _ _ _ => (pv 5))) pa_nil))))), ?_⟩
  refine body_of h (by decide) fun as ob r ob' hR hl => ?_
  obtain ⟨n, ps, net, rfl, hi, rfl, rfl, rfl⟩ := hR
  have hz := hi.len
  have hb := words_bits n ps
  refine ts_seq (ts_asgG (d := .tuple [.list (((List.range net.length).map (exchN net (lanesN n (wordsN n ps)))).map zD), .list ((laneRun net (lanesN n (wordsN n ps)) net.length).map zD)]) (ee_callD (ed_cons (ee_var rfl) (ed_cons (ee_callD (d := .list ((lanesN n (wordsN n ps)).map zD)) (ed_cons (ee_var rfl) (ed_cons (ee_callD (d := .list ((wordsN n ps).map rD)) (ed_cons (ee_var rfl) (ed_cons (ee_var rfl) ed_nil)) rfl ⟨n, ps, rfl, hi.hp, hi.pl, hi.n10, rfl, rfl, rfl⟩) ed_nil)) rfl ⟨n, wordsN n ps, rfl, fun w hw => (hb w hw).1, by have := hi.n10; omega, words_2100 ps hi.n10, rfl, rfl, rfl⟩) ed_nil)) rfl ⟨net, lanesN n (wordsN n ps), rfl, by rw [lanesN_len]; exact hi.hk, hi.len, by rw [lanesN_len]; have := hi.n10; omega, rfl, rfl, rfl⟩) (egh_of (eg_tup (egs_cons eg_name (egs_cons eg_name egs_nil)))) ?_)
  have eR : rD (natL (liveN (wordsN n ps) net)) = .tuple (((List.range net.length).filter (liveB (wordsN n ps) net)).map fun (t : Nat) => PyData.int (t : Int)) := by
    unfold rD natL liveN
    rw [List.map_map]
    rfl
  rw [eR]
  refine ts_ret (ee_cb (ea_cons (x := .dat (.list (((List.range net.length).filter (liveB (wordsN n ps) net)).map fun (t : Nat) => PyData.int (t : Int)))) (ee_of_el (el_lcfA (dA := fun (t : Nat) => PyData.tuple [.int (t : Int), zD (exchN net (lanesN n (wordsN n ps)) t)]) (lst := List.range net.length) (p := liveB (wordsN n ps) net) (f := fun (t : Nat) => PyData.int (t : Int)) (S0 := ⟨[.dat (.int (n : Int)), .dat (oD ps), .dat (nD net), .dat (.list (((List.range net.length).map (exchN net (lanesN n (wordsN n ps)))).map zD)), .dat (.list ((laneRun net (lanesN n (wordsN n ps)) net.length).map zD)), .un, .un], []⟩) (by
    rw [← enum_spots]
    exact ei_enum (ed_cons (ee_var rfl) ed_nil)) (by rw [List.length_range]; omega) fun t ht => ⟨_, _, egc_tup (egcs_cons (egc_name (by decide)) (egcs_cons (egc_name (by decide)) egcs_nil)), et_eq (et_truI (ee_var rfl)) (exch_ne hb hi.hk (List.mem_range.mp ht)), rfl, fun _ => ⟨_, ee_var rfl, rfl⟩⟩)) ea_nil) (rc_tupL (.dat _))) ⟨rfl, rfl⟩
def keptN (n : Nat) (ps : List Pr) (net : List Gate) : Int := firstF net (natL (liveN (wordsN n ps) net))
/-! ### the law's own spots -/
end
end K13

set_option maxRecDepth 100000
set_option maxHeartbeats 4000000
namespace K13
open PySem PySem.Spec PyProof.Rows L2 DL
/-! ### things mixed by draws -/
def mixedOf {α : Type} (z : α) : Nat → List α → Well → List α × Well
  | 0, _, W => ([], W)
  | k + 1, xs, W => (xs.getD (draw xs.length W).1.toNat z :: (mixedOf z k (xs.eraseIdx (draw xs.length W).1.toNat) (draw xs.length W).2).1, (mixedOf z k (xs.eraseIdx (draw xs.length W).1.toNat) (draw xs.length W).2).2)
theorem erase_map {α β : Type} (f : α → β) : ∀ (xs : List α) (i : Nat), (xs.map f).eraseIdx i = (xs.eraseIdx i).map f
  | [], _ => rfl
  | _ :: _, 0 => rfl
  | x :: xs, i + 1 => congrArg (f x :: ·) (erase_map f xs i)
theorem mixed_map {α β : Type} (z : α) (f : α → β) : ∀ (k : Nat) (xs : List α) (W : Well), mixedOf (f z) k (xs.map f) W = ((mixedOf z k xs W).1.map f, (mixedOf z k xs W).2)
  | 0, _, _ => rfl
  | k + 1, xs, W => by
    have e : ∀ i, (xs.map f).getD i (f z) = f (xs.getD i z) := fun i => by
      rw [List.getD_eq_getElem?_getD, List.getD_eq_getElem?_getD, List.getElem?_map]
      cases xs[i]? <;> rfl
    have e2 : ∀ i, (xs.map f).eraseIdx i = (xs.eraseIdx i).map f := fun i => erase_map f xs i
    show (_ :: _, _) = (f _ :: _, _)
    rw [List.length_map, e, e2, mixed_map z f k]
    rfl
theorem mixed_deep {α : Type} (z : α) : ∀ (k : Nat) (xs : List α) (W : Well), W.deep.length ≤ 100 → (mixedOf z k xs W).2.deep.length ≤ 100
  | 0, _, _, h => h
  | k + 1, xs, W, h => mixed_deep z k _ _ (draw_deep _ _ h)
theorem draw_nat {n : Nat} (W : Well) (h : 0 < n) : (draw (n : Int) W).1.toNat < n := by
  have h1 := draw_lo (n : Int) W
  have h2 := draw_hi (m := (n : Int)) W (by omega)
  omega
theorem perm_erase {α : Type} (z : α) : ∀ {xs : List α} {i : Nat}, i < xs.length → (xs.getD i z :: xs.eraseIdx i).Perm xs
  | x :: xs, 0, _ => List.Perm.refl _
  | x :: xs, i + 1, h => by
    have ih := perm_erase z (xs := xs) (i := i) (by simpa using h)
    show (xs.getD i z :: x :: xs.eraseIdx i).Perm (x :: xs)
    exact (List.Perm.swap x (xs.getD i z) _).trans (ih.cons x)
theorem erase_len {α : Type} {xs : List α} {i : Nat} (h : i < xs.length) : (xs.eraseIdx i).length = xs.length - 1 := List.length_eraseIdx_of_lt h
theorem mixed_perm {α : Type} (z : α) : ∀ (k : Nat) (xs : List α) (W : Well), xs.length = k → (mixedOf z k xs W).1.Perm xs
  | 0, xs, _, h => by
    rw [List.length_eq_zero_iff.mp h]
    exact List.Perm.refl _
  | k + 1, xs, W, h => by
    have hi := draw_nat (n := xs.length) W (by omega)
    exact ((mixed_perm z k _ _ (by rw [erase_len hi, h]; rfl)).cons _).trans (perm_erase z hi)
section
variable {P : Program} {w : World} {K : PySem.W.Frag} {mg : Str → Option Value} {base : Heap}
def R_mixed : FR := fun as ob r ob' => ∃ W ds z, as = [.own 0, .dat (.list ds)] ∧ ob = [W.oo] ∧ W.deep.length ≤ 100 ∧ ds.length ≤ 1000 ∧ (∀ x ∈ ds, Fl 5 x) ∧ r = .dat (.list (mixedOf z ds.length ds W).1) ∧ ob' = [(mixedOf z ds.length ds W).2.oo]
theorem sc_law_mixed : FnScope ["deck", "items", "left", "found"] ["deck", "items"] (defScope s_law_mixed) := ⟨rfl, rfl, rfl, by decide +kernel, rfl, by decide +kernel, by decide +kernel⟩
theorem ok_law_mixed (D : Df K mg "_law_mixed" s_law_mixed ["deck", "items"]) (B : Bi mg) (D_law_draw : Df K mg "_law_draw" s_law_draw ["deck", "many"]) : FnG P w K mg base CX0 2 D.f D.fd ["deck", "items"] (spD K 2 R_mixed) := by
  have ok_law_draw : FnG P w K mg base CX0 1 _ _ _ _ := ok_law_draw D_law_draw B
  refine okG D.F sc_law_mixed (fun vs H Q E h => h.1) (fun cdv A outer s H vs Q E hr gd h => ?_)
  have hu := huX hr
  refine ⟨_, (pss_cons (ps_par (i := 2) (j := 3) (by rfl) sc_law_mixed.nd rfl rfl (by decide) rfl rfl (pa_cons (pe_callTy cb_list (by rfl) B.z_list (by decide +kernel) (pa_cons (pv 1) pa_nil)) (pa_cons (pe_lst pa_nil) pa_nil)) (by rfl))
      (pss_cons (ps_while PassesOwn.never (pt_cmpR (op_neU hu) (pv 2) (pe_lst pa_nil) (nomark _))
        (pss_one (ps_expr (pe_bm PySem.F.plainAttrs_list PySem.F.slot_list_append PySem.F.type_list_append mt_append (pv 3) (pa_cons (pe_bm PySem.F.plainAttrs_list PySem.F.slot_list_pop PySem.F.type_list_pop mt_popAt (pv 2) (pa_cons (pe_callG (ok_law_draw) (hr.mono (by decide)) gd (by rfl) D_law_draw.m D_law_draw.F.kp D_law_draw.b .nil pass0 (pa_cons (pv 0) (pa_cons (pe_callB cb_len (by rfl) B.z_len PySem.boot_len (pa_cons (pv 2) pa_nil)) pa_nil))) pa_nil)) pa_nil)))))
      (pss_one (ps_ret (pv 3))))), ?_⟩
  refine body_ofG h (by decide) (fun as ob r ob' hR => ?_) fun as ob r ob' hR hl => ?_
  · obtain ⟨W, ds, z, rfl, rfl, _, _, _, rfl, rfl⟩ := hR
    exact ⟨Nat.le_refl _, fun _ z => by cases z⟩
  obtain ⟨W, ds, z, rfl, rfl, hd, hz, hfl, rfl, rfl⟩ := hR
  refine ts_seq (ts_par (x := .own 1) (y := .own 2) (ea_cons (eo_of_el (el_cb (ea_cons (ee_var rfl) ea_nil) (rcl_listL (.dat _)))) (ea_cons (eo_of_el (el_lst ed_nil)) ea_nil)) ?_)
  refine ts_seq (ts_while (fun m S => ∃ rest found W', S = ⟨[.own 0, .dat (.list ds), .own 1, .own 2], [Well.oo W', .lst rest, .lst found]⟩ ∧ rest.length = m ∧ W'.deep.length ≤ 100 ∧ found.length + m ≤ 1000 ∧ (∀ x ∈ rest, Fl 5 x) ∧ found ++ (mixedOf z m rest W').1 = (mixedOf z ds.length ds W).1 ∧ (mixedOf z m rest W').2 = (mixedOf z ds.length ds W).2) ds.length ⟨ds, [], W, rfl, rfl, hd, by rw [List.length_nil]; omega, hfl, rfl, rfl⟩ ?_)
  rintro m S' ⟨rest, found, W', rfl, rfl, hd', hz', hfl', e1, e2⟩
  refine ⟨!rest.isEmpty, _, et_test (ee_op (ee_var rfl) (ee_of_el (el_lst ed_nil)) (ro_neNil (.own rfl) (.dat _) hfl')), fun hb => ?_, fun hb => ?_⟩
  · obtain ⟨k, hk⟩ : ∃ k, rest.length = k + 1 := by
      cases rest with
      | nil => cases hb
      | cons a b => exact ⟨b.length, rfl⟩
    have hi := draw_nat (n := rest.length) W' (by omega)
    have hlo := draw_lo (rest.length : Int) W'
    have hx : rest[(draw (rest.length : Int) W').1.toNat]? = some (rest.getD (draw (rest.length : Int) W').1.toNat z) := by
      rw [List.getD_eq_getElem?_getD, List.getElem?_eq_getElem hi]
      rfl
    have ee : mixedOf z rest.length rest W' = (rest.getD (draw rest.length W').1.toNat z :: (mixedOf z k (rest.eraseIdx (draw rest.length W').1.toNat) (draw rest.length W').2).1, (mixedOf z k (rest.eraseIdx (draw rest.length W').1.toNat) (draw rest.length W').2).2) := by
      conv => lhs; rw [hk]
      rfl
    rw [ee] at e1 e2
    have el := erase_len hi
    have d' := draw_deep (rest.length : Int) W' hd'
    refine ts_drop (ee_append (ds := found) (k := 2) (ee_var rfl) (ee_popAt (k := 1) (ds := rest) (n := (draw (rest.length : Int) W').1.toNat) (ee_var rfl) (ee_dr (W := W') (ea_cons (ee_var rfl) (ea_cons (ee_cb (ea_cons (ee_var rfl) ea_nil) (rc_lenL (.own rfl))) ea_nil)) rfl (by omega) hd') ⟨_, rfl⟩ rfl ?_ hx (by omega)) ⟨_, rfl⟩ rfl (by omega)) ⟨k, by omega, rest.eraseIdx (draw (rest.length : Int) W').1.toNat, found ++ [rest.getD (draw (rest.length : Int) W').1.toNat z], (draw (rest.length : Int) W').2, rfl, by omega, d', ?_, fun x hx => hfl' x (List.mem_of_mem_eraseIdx hx), ?_, e2⟩
    · unfold ixN
      rw [if_pos (by omega), if_pos (by omega)]
    · rw [List.length_append, List.length_singleton]
      omega
    · rw [List.append_assoc]
      exact e1
  · have hn : rest = [] := by
      cases rest with
      | nil => rfl
      | cons a b => cases hb
    subst hn
    rw [← e1, ← e2]
    refine ts_ret (ee_frz (ee_var rfl) rfl) ⟨?_, [.lst [], .gone], rfl⟩
    rw [show (mixedOf z ([] : List PyData).length [] W').1 = [] from rfl, List.append_nil]
end
end K13

set_option maxRecDepth 100000
set_option maxHeartbeats 4000000
namespace K13
open PySem PySem.Spec PyProof.Rows L2 DL
/-! ### lists of draws -/
def mapS (g : Well → Int × Well) : Nat → Well → List Int × Well
  | 0, W => ([], W)
  | k + 1, W => ((mapS g k W).1 ++ [(g (mapS g k W).2).1], (g (mapS g k W).2).2)
theorem mapS_len (g : Well → Int × Well) (W : Well) : ∀ k, (mapS g k W).1.length = k
  | 0 => rfl
  | k + 1 => by
    show ((mapS g k W).1 ++ [_]).length = _
    rw [List.length_append, mapS_len g W k]
    rfl
theorem mapS_deep {g : Well → Int × Well} (hg : ∀ W, W.deep.length ≤ 100 → (g W).2.deep.length ≤ 100) {W : Well} (h : W.deep.length ≤ 100) : ∀ k, (mapS g k W).2.deep.length ≤ 100
  | 0 => h
  | k + 1 => hg _ (mapS_deep hg h k)
theorem mapS_all {g : Well → Int × Well} {p : Int → Prop} (hg : ∀ W, p (g W).1) (W : Well) : ∀ k, ∀ x ∈ (mapS g k W).1, p x
  | 0, x, h => by cases h
  | k + 1, x, h => by
    rcases List.mem_append.mp h with h | h
    · exact mapS_all hg W k x h
    · rw [List.mem_singleton.mp h]
      exact hg _
theorem el_mapS {K : PySem.W.Frag} {wi : TI} {tg : TG} {te : TE} {vs : List Nat} {S S0 : SS} {g : Well → Int × Well} {n : Nat} {W : Well} (h : Ei K wi S (rngD 0 n) S0) (ho : S0.ob = [W.oo]) (hn : n ≤ 1000) (hd : W.deep.length ≤ 100) (hg : ∀ W, W.deep.length ≤ 100 → (g W).2.deep.length ≤ 100)
    (hs : ∀ (i : Nat) (W' : Well), i < n → W'.deep.length ≤ 100 → ∃ Sg, Egc K vs tg (.int (0 + (i : Int))) { S0 with ob := [W'.oo], sl := wipeS S0.sl vs } Sg ∧ ∃ S3, Ee K te Sg (.dat (.int (g W').1)) S3 ∧ S3.ob = [(g W').2.oo]) : El K (tLc wi tg tYes te vs) S ((mapS g n W).1.map PyData.int) { S0 with ob := [(mapS g n W).2.oo] } := by
  refine el_lc h (fun i acc ob => acc = (mapS g i W).1.map PyData.int ∧ ob = [(mapS g i W).2.oo]) ⟨rfl, ho⟩ ?_ (by rw [rngD_len]; omega) ?_
  · rintro i d acc ob hdd ⟨rfl, rfl⟩
    obtain ⟨hi, rfl⟩ := rngD_get hdd
    obtain ⟨Sg, a1, S3, a2, a3⟩ := hs i _ hi (mapS_deep hg hd i)
    refine ⟨Sg, true, Sg, a1, et_yes, (fun z => by cases z), fun _ => ⟨_, S3, a2, ?_, a3⟩⟩
    show _ = ((mapS g i W).1 ++ [_]).map PyData.int
    rw [List.map_append]
    rfl
  · rintro acc ob ⟨rfl, rfl⟩
    rw [rngD_len]
    exact ⟨rfl, rfl⟩
end K13

set_option maxRecDepth 100000
set_option maxHeartbeats 4000000
namespace K13
open PySem PySem.Spec PyProof.Rows L2 DL
/-! ### orders as pairs of numbers -/
theorem pD_inj {x y : Pr} (h : pD x = pD y) : x = y := by
  unfold pD at h
  obtain ⟨a, b⟩ := x
  obtain ⟨c, d⟩ := y
  simp at h
  ext <;> simp <;> omega
def Lx (x y : Pr) : Prop := x.1 < y.1 ∨ (x.1 = y.1 ∧ x.2 < y.2)
instance (x y : Pr) : Decidable (Lx x y) := by unfold Lx; infer_instance
structure Ord (n : Nat) (ps : List Pr) : Prop where
  up : ps.Pairwise Lx
  ok : ∀ x ∈ ps, x.1 < x.2 ∧ x.2 < n
theorem Ord.sub {n : Nat} {ps qs : List Pr} (h : Ord n ps) (s : qs.Sublist ps) : Ord n qs := ⟨h.up.sublist s, fun x hx => h.ok x (s.subset hx)⟩
theorem Ord.tail {n : Nat} {x : Pr} {ps : List Pr} (h : Ord n (x :: ps)) : Ord n ps := h.sub (List.sublist_cons_self _ _)
def rowP (n p : Nat) : List Pr := (List.range (n - (p + 1))).map fun j => (p, p + 1 + j)
def pairsN (n k : Nat) : List Pr := (List.range k).flatMap (rowP n)
theorem pairsN_succ (n k : Nat) : pairsN n (k + 1) = pairsN n k ++ rowP n k := by
  unfold pairsN
  rw [List.range_succ, List.flatMap_append, List.flatMap_singleton]
theorem rowP_mem {n p : Nat} {x : Pr} (h : x ∈ rowP n p) : x.1 = p ∧ p < x.2 ∧ x.2 < n := by
  unfold rowP at h
  obtain ⟨j, hj, rfl⟩ := List.mem_map.mp h
  have := List.mem_range.mp hj
  exact ⟨rfl, by show p < p + 1 + j; omega, by show p + 1 + j < n; omega⟩
theorem rowP_len (n p : Nat) : (rowP n p).length = n - (p + 1) := by
  unfold rowP
  rw [List.length_map, List.length_range]
theorem rowP_up (n p : Nat) : (rowP n p).Pairwise Lx := by
  unfold rowP
  rw [List.pairwise_map]
  refine List.Pairwise.imp ?_ List.pairwise_lt_range
  intro a b h
  exact .inr ⟨rfl, by show p + 1 + a < p + 1 + b; omega⟩
theorem pairsN_mem {n k : Nat} {x : Pr} (h : x ∈ pairsN n k) : x.1 < k ∧ x.1 < x.2 ∧ x.2 < n := by
  unfold pairsN at h
  obtain ⟨p, hp, hx⟩ := List.mem_flatMap.mp h
  have := List.mem_range.mp hp
  have := rowP_mem hx
  omega
theorem pairsN_has {n k : Nat} {x : Pr} (h1 : x.1 < k) (h2 : x.1 < x.2) (h3 : x.2 < n) : x ∈ pairsN n k := by
  unfold pairsN
  refine List.mem_flatMap.mpr ⟨x.1, List.mem_range.mpr h1, ?_⟩
  unfold rowP
  exact List.mem_map.mpr ⟨x.2 - (x.1 + 1), List.mem_range.mpr (by omega), by ext <;> simp; omega⟩
theorem pairsN_up (n : Nat) : ∀ k, (pairsN n k).Pairwise Lx
  | 0 => .nil
  | k + 1 => by
    rw [pairsN_succ, List.pairwise_append]
    refine ⟨pairsN_up n k, rowP_up n k, fun a ha b hb => .inl ?_⟩
    have := pairsN_mem ha
    have := rowP_mem hb
    omega
theorem pairsN_ord (n k : Nat) : Ord n (pairsN n k) := ⟨pairsN_up n k, fun x hx => by
  have := pairsN_mem hx
  omega⟩
theorem pairsN_len (n : Nat) : ∀ k, (pairsN n k).length ≤ k * n
  | 0 => Nat.zero_le _
  | k + 1 => by
    rw [pairsN_succ, List.length_append, rowP_len, Nat.succ_mul]
    have := pairsN_len n k
    omega
theorem rowP_D (n p : Nat) : (rngD ((p : Int) + 1) (n - (p + 1))).map (fun q => PyData.tuple [.int (p : Int), q]) = (rowP n p).map pD := by
  unfold rngD rowP
  rw [List.map_map, List.map_map]
  refine List.map_congr_left fun j _ => ?_
  show PyData.tuple [_, .int (((p : Int) + 1) + (j : Int))] = PyData.tuple [_, .int ((p + 1 + j : Nat) : Int)]
  rw [show ((p + 1 + j : Nat) : Int) = (p : Int) + 1 + (j : Int) by omega]
theorem pD_succ (x : Nat) : SD.dat (.tuple [.int (x : Int), .int ((x : Int) + 1)]) = .dat (pD (x, x + 1)) := by
  show _ = SD.dat (.tuple [.int (x : Int), .int ((x + 1 : Nat) : Int)])
  rw [show ((x + 1 : Nat) : Int) = (x : Int) + 1 by omega]
theorem rngD_nD (n : Nat) : rngD 0 n = (List.range n).map zD := by
  unfold rngD
  refine List.map_congr_left fun j _ => ?_
  show PyData.int (0 + (j : Int)) = PyData.int (j : Int)
  rw [Int.zero_add]
theorem pD_at {ps : List Pr} {i : Nat} {d : PyData} (h : (ps.map pD)[i]? = some d) : ∃ x, ps[i]? = some x ∧ d = pD x := by
  rw [List.getElem?_map] at h
  cases e : ps[i]? with
  | none =>
    rw [e] at h
    cases h
  | some x =>
    rw [e] at h
    exact ⟨x, rfl, (Option.some.inj h).symm⟩
/-! ### items that are drawn or not -/
section
variable {α β : Type}
def selS (m : Int) (t : Int → Bool) (f : α → β) (s : List β × Well) (x : α) : List β × Well := ((if t (draw m s.2).1 = true then s.1 ++ [f x] else s.1), (draw m s.2).2)
theorem sel_deep (m : Int) (t : Int → Bool) (f : α → β) : ∀ (l : List α) (s : List β × Well), s.2.deep.length ≤ 100 → (l.foldl (selS m t f) s).2.deep.length ≤ 100
  | [], _, h => h
  | x :: l, s, h => sel_deep m t f l _ (draw_deep m s.2 h)
theorem sel_step {m : Int} {t : Int → Bool} {f : α → β} {l : List α} {s : List β × Well} {i : Nat} {d : α} (h : l[i]? = some d) : (l.take (i + 1)).foldl (selS m t f) s = selS m t f ((l.take i).foldl (selS m t f) s) d := by
  rw [take_snoc h, List.foldl_append]
  rfl
theorem sel_sub (m : Int) (t : Int → Bool) (f : α → β) : ∀ (l : List α) (s : List β × Well), ∃ r, (l.foldl (selS m t f) s).1 = s.1 ++ r ∧ r.Sublist (l.map f)
  | [], s => ⟨[], (List.append_nil _).symm, .slnil⟩
  | x :: l, s => by
    obtain ⟨r, h1, h2⟩ := sel_sub m t f l (selS m t f s x)
    by_cases e : t (draw m s.2).1 = true
    · refine ⟨f x :: r, ?_, h2.cons_cons _⟩
      show (l.foldl (selS m t f) (selS m t f s x)).1 = _
      rw [h1]
      show (if t (draw m s.2).1 = true then s.1 ++ [f x] else s.1) ++ r = _
      rw [if_pos e, List.append_assoc]
      rfl
    · refine ⟨r, ?_, h2.cons _⟩
      show (l.foldl (selS m t f) (selS m t f s x)).1 = _
      rw [h1]
      show (if t (draw m s.2).1 = true then s.1 ++ [f x] else s.1) ++ r = _
      rw [if_neg e]
theorem el_sel {K : PySem.W.Frag} {wi : TI} {g : TG} {tt : TT} {te : TE} {vs : List Nat} {S S0 : SS} {W : Well} {m : Int} {t : Int → Bool} {f : α → β} {dA : α → PyData} {dB : β → PyData} {l : List α} (h : Ei K wi S (l.map dA) S0) (ho : S0.ob = [W.oo]) (hl : l.length ≤ 1000000) (hd : W.deep.length ≤ 100)
    (hs : ∀ (x : α) (W' : Well), W'.deep.length ≤ 100 → ∃ Sg S2, Egc K vs g (dA x) { S0 with ob := [W'.oo], sl := wipeS S0.sl vs } Sg ∧ Et K tt Sg (t (draw m W').1) S2 ∧ S2.ob = [(draw m W').2.oo] ∧ ∃ S3, Ee K te S2 (.dat (dB (f x))) S3 ∧ S3.ob = [(draw m W').2.oo]) :
    El K (tLc wi g tt te vs) S ((l.foldl (selS m t f) ([], W)).1.map dB) { S0 with ob := [(l.foldl (selS m t f) ([], W)).2.oo] } := by
  refine el_lc h (fun i acc ob => acc = ((l.take i).foldl (selS m t f) ([], W)).1.map dB ∧ ob = [((l.take i).foldl (selS m t f) ([], W)).2.oo]) ⟨rfl, ho⟩ ?_ (by rw [List.length_map]; exact hl) ?_
  · rintro i d acc ob hd' ⟨rfl, rfl⟩
    obtain ⟨x, hx, rfl⟩ := map_at hd'
    rw [sel_step hx]
    generalize hs0 : (l.take i).foldl (selS m t f) ([], W) = s0
    have ds0 : s0.2.deep.length ≤ 100 := by
      rw [← hs0]
      exact sel_deep _ _ _ _ _ hd
    obtain ⟨Sg, S2, a1, a2, a3, S3, a4, a5⟩ := hs x s0.2 ds0
    refine ⟨Sg, t (draw m s0.2).1, S2, a1, a2, fun hb => ⟨?_, a3⟩, fun hb => ⟨dB (f x), S3, a4, ?_, a5⟩⟩
    · show _ = (if t (draw m s0.2).1 = true then s0.1 ++ [f x] else s0.1).map dB
      rw [if_neg (by rw [hb]; exact Bool.false_ne_true)]
    · show _ = (if t (draw m s0.2).1 = true then s0.1 ++ [f x] else s0.1).map dB
      rw [if_pos hb, List.map_append]
      rfl
  · rintro acc ob ⟨rfl, rfl⟩
    rw [List.length_map, List.take_of_length_le (Nat.le_refl _)]
    exact ⟨rfl, rfl⟩
end
section
theorem pick_at {l : List Int} {W : Well} (h : 0 < l.length) : (l.map PyData.int)[(draw (((l.map PyData.int).length : Nat) : Int) W).1.toNat]? = some (.int (l.getD (draw (((l.map PyData.int).length : Nat) : Int) W).1.toNat 0)) := by
  have h1 := draw_lo (((l.map PyData.int).length : Nat) : Int) W
  have h2 := draw_hi (m := (((l.map PyData.int).length : Nat) : Int)) W (by rw [List.length_map]; omega)
  have hi : (draw (((l.map PyData.int).length : Nat) : Int) W).1.toNat < l.length := by
    rw [List.length_map] at h2 h1 ⊢
    omega
  rw [List.length_map] at hi ⊢
  rw [List.getElem?_map, List.getElem?_eq_getElem hi, List.getD_eq_getElem?_getD, List.getElem?_eq_getElem hi]
  rfl
end
def thrI : List Int := [3, 6, 9]
def runsP (n : Nat) (split : Int) : List Pr := ((List.range (n - 1)).filter fun (p : Nat) => !decide ((p : Int) = split)).map fun p => (p, p + 1)
def orderN (n : Nat) (W : Well) : List Pr × Well :=
  if (draw 5 W).1 = 0 then ([], (draw 5 W).2)
  else if (draw 5 W).1 = 1 then (runsP n (draw n (draw 5 W).2).1, (draw n (draw 5 W).2).2)
  else (pairsN n n).foldl (selS (thrI.getD ((draw 5 W).1 - 2).toNat 0) (fun v => decide (v = 0)) id) ([], (draw 5 W).2)
theorem orderN_deep (n : Nat) (W : Well) (h : W.deep.length ≤ 100) : (orderN n W).2.deep.length ≤ 100 := by
  unfold orderN
  split
  · exact draw_deep _ _ h
  split
  · exact draw_deep _ _ (draw_deep _ _ h)
  · exact sel_deep _ _ _ _ _ (draw_deep _ _ h)
theorem runsP_ord (n : Nat) (split : Int) : Ord n (runsP n split) := by
  unfold runsP
  refine ⟨?_, fun x hx => ?_⟩
  · rw [List.pairwise_map]
    exact List.Pairwise.imp (fun h => .inl h) (List.pairwise_lt_range.filter _)
  · obtain ⟨p, hp, rfl⟩ := List.mem_map.mp hx
    have := List.mem_range.mp (List.mem_filter.mp hp).1
    exact ⟨Nat.lt_succ_self _, by show p + 1 < n; omega⟩
theorem orderN_ord (n : Nat) (W : Well) : Ord n (orderN n W).1 := by
  unfold orderN
  split
  · exact ⟨.nil, fun x h => by cases h⟩
  split
  · exact runsP_ord n _
  · obtain ⟨r, h1, h2⟩ := sel_sub (thrI.getD ((draw 5 W).1 - 2).toNat 0) (fun v => decide (v = 0)) id (pairsN n n) ([], (draw 5 W).2)
    rw [h1]
    refine (pairsN_ord n n).sub ?_
    rw [List.map_id] at h2
    exact h2
theorem Ord.pr {n : Nat} {ps : List Pr} (h : Ord n ps) : PrOk n ps := h.ok
/-- not so many pairs -/
theorem Ord.few {n : Nat} {ps : List Pr} (h : Ord n ps) : ps.length ≤ n * n := by
  have h1 : ps.Nodup := h.up.imp fun {a b} l e => by
    rw [e] at l
    rcases l with l | l
    · exact Nat.lt_irrefl _ l
    · exact Nat.lt_irrefl _ l.2
  have h2 : ps ⊆ pairsN n n := fun x hx => by
    have := h.ok x hx
    exact pairsN_has (by omega) this.1 this.2
  exact Nat.le_trans (List.Nodup.length_le_of_subset h1 h2) (pairsN_len n n)
theorem pairs_45 : ∀ n : Nat, n ≤ 10 → (pairsN n n).length ≤ 45 := by decide
theorem Ord.nodup {n : Nat} {ps : List Pr} (h : Ord n ps) : ps.Nodup := h.up.imp fun {a b} l e => by
  rw [e] at l
  rcases l with l | l
  · exact Nat.lt_irrefl _ l
  · exact Nat.lt_irrefl _ l.2
theorem Ord.l45 {n : Nat} (hn : n ≤ 10) {ps : List Pr} (h : Ord n ps) : ps.length ≤ 45 := by
  refine Nat.le_trans (List.Nodup.length_le_of_subset h.nodup (l₂ := pairsN n n) fun x hx => ?_) (pairs_45 n hn)
  have := h.ok x hx
  exact pairsN_has (by omega) this.1 this.2
section
variable {P : Program} {w : World} {K : PySem.W.Frag} {mg : Str → Option Value} {base : Heap}
def R_order : FR := fun as ob r ob' => ∃ W, ∃ n : Nat, as = [.own 0, .dat (.int (n : Int))] ∧ ob = [W.oo] ∧ W.deep.length ≤ 100 ∧ 1 ≤ n ∧ n ≤ 100 ∧ r = .dat (oD (orderN n W).1) ∧ ob' = [(orderN n W).2.oo]
abbrev Sr (n : Nat) (W : Well) (a b c d e f : SD) : SS := ⟨[.own 0, .dat (.int (n : Int)), a, b, c, d, e, f], [W.oo]⟩
theorem sc_law_order : FnScope ["deck", "n", "sort", "pairs", "p", "q", "split", "pair"] ["deck", "n"] (defScope s_law_order) := ⟨rfl, rfl, rfl, by decide +kernel, rfl, by decide +kernel, by decide +kernel⟩
theorem ok_law_order (D : Df K mg "_law_order" s_law_order ["deck", "n"]) (B : Bi mg) (D_law_draw : Df K mg "_law_draw" s_law_draw ["deck", "many"]) : FnG P w K mg base CX0 2 D.f D.fd ["deck", "n"] (spD K 2 R_order) := by
  have ok_law_draw : FnG P w K mg base CX0 1 _ _ _ _ := ok_law_draw D_law_draw B
  refine okG D.F sc_law_order (fun vs H Q E h => h.1) (fun cdv A outer s H vs Q E hr gd h => ?_)
  have hu := huX hr
  refine ⟨_, (pss_cons (ps_asg (pe_tup (pa_cons (pe_callG (ok_law_draw) (hr.mono (by decide)) gd (by rfl) D_law_draw.m D_law_draw.F.kp D_law_draw.b .nil pass0 (pa_cons (pv 0) (pa_cons pe_int pa_nil))) (pa_cons (pe_lst pa_nil) pa_nil))) (pg_tup rfl (pgs_cons (pg_name (i := 2) sc_law_order.nd rfl (Or.inr rfl)) (pgs_cons (pg_name (i := 3) sc_law_order.nd rfl (Or.inl rfl)) pgs_nil))))
      (pss_cons (ps_for PassesOwn.never rfl (pi_range1 (by rfl) B.z_range (pa_cons (pv 1) pa_nil)) (pg_name (i := 4) sc_law_order.nd rfl (Or.inr rfl))
        (pss_one (ps_set (i := 3) sc_law_order.nd rfl (Or.inl rfl) (pe_op op_plus (pv 3) (pe_lc (own := [("q", 5)]) (g := gName 5) (tt := tYes) (by rfl) sc_law_order.nd (pi_range2 (by rfl) B.z_range (pa_cons (pe_op op_plus (pv 4) pe_int) (pa_cons (pv 1) pa_nil))) (blkOk_by (own := [("q", 5)]) (N := ["deck", "n", "sort", "pairs", "p", "q", "split", "pair"]) (sc := defScope s_law_order) (by decide +kernel)) (fun _ _ _ _ _ => (pg_name (i := 5) sc_law_order.nd rfl (Or.inl rfl))) (fun _ _ _ _ _ => pts_nil) (fun _ _ _ _ _ => (pe_tup (pa_cons (pv 4) (pa_cons (pv 5) pa_nil)))))))))
      (pss_cons (ps_if (pt_cmpR (op_eqU hu) (pv 2) pe_int (nomark _)) (pss_one (ps_ret (pe_tup pa_nil))) pss_nil)
      (pss_cons (ps_if (pt_cmpR (op_eqU hu) (pv 2) pe_int (nomark _)) (pss_cons (ps_set (i := 6) sc_law_order.nd rfl (Or.inr rfl) (pe_callG (ok_law_draw) (hr.mono (by decide)) gd (by rfl) D_law_draw.m D_law_draw.F.kp D_law_draw.b .nil pass0 (pa_cons (pv 0) (pa_cons (pv 1) pa_nil))))
        (pss_one (ps_ret (pe_callTy cb_tuple (by rfl) B.z_tuple (by decide +kernel) (pa_cons (pe_lc (own := [("p", 4)]) (g := gName 4) (by rfl) sc_law_order.nd (pi_range1 (by rfl) B.z_range (pa_cons (pe_op op_subU (pv 1) pe_int) pa_nil)) (blkOk_by (own := [("p", 4)]) (N := ["deck", "n", "sort", "pairs", "p", "q", "split", "pair"]) (sc := defScope s_law_order) (by decide +kernel)) (fun _ _ _ _ _ => (pg_name (i := 4) sc_law_order.nd rfl (Or.inl rfl))) (fun _ _ _ _ _ => (pts_one (pt_cmpR (opK K (R := rNeU) (op_neU hu) rfl) (pv 4) (pv 6) (nomark _)))) (fun _ _ _ _ _ => (pe_tup (pa_cons (pv 4) (pa_cons (pe_op (opK K (R := rPlus) op_plus rfl) (pv 4) pe_int) pa_nil))))) pa_nil))))) pss_nil)
      (pss_one (ps_ret (pe_callTy cb_tuple (by rfl) B.z_tuple (by decide +kernel) (pa_cons (pe_lc (own := [("pair", 7)]) (g := gName 7) (by rfl) sc_law_order.nd (pi_list (pv 3)) (blkOk_by (own := [("pair", 7)]) (N := ["deck", "n", "sort", "pairs", "p", "q", "split", "pair"]) (sc := defScope s_law_order) (by decide +kernel)) (fun _ _ _ _ _ => (pg_name (i := 7) sc_law_order.nd rfl (Or.inl rfl))) (fun _ _ _ _ _ => (pts_one (pt_cmpR (opK K (R := rEqU) (op_eqU hu) rfl) (pe_callG (ok_law_draw) (hr.mono (by decide)) gd (by rfl) D_law_draw.m D_law_draw.F.kp D_law_draw.b .nil pass0 (pa_cons (pv 0) (pa_cons (pe_ix (ixK K (R := rIx) ix_seq rfl) (pe_lst (pa_cons pe_int (pa_cons pe_int (pa_cons pe_int pa_nil)))) (pe_op op_subU (pv 2) pe_int) (fun _ _ => rfl)) pa_nil))) pe_int (nomark _)))) (fun _ _ _ _ _ => (pv 7))) pa_nil)))))))), ?_⟩
  refine body_of h (by decide) fun as ob r ob' hR hl => ?_
  obtain ⟨W, n, rfl, rfl, hd, hn0, hn, rfl, rfl⟩ := hR
  have d1 := draw_deep 5 W hd
  have plen : ∀ i, i ≤ n → (pairsN n i).length ≤ 10000 := fun i hi => by
    have h1 := pairsN_len n i
    have h2 : i * n ≤ 100 * 100 := Nat.mul_le_mul (by omega) hn
    omega
  refine ts_seq (ts_asgG (d := .tuple [.int (draw 5 W).1, .list ((pairsN n 0).map pD)]) (S1 := Sr n (draw 5 W).2 .un .un .un .un .un .un) (ee_tup (ed_cons (ee_dr (W := W) (k := 0) (S1 := Sr n W .un .un .un .un .un .un) (ea_cons (ee_var rfl) (ea_cons ee_int ea_nil)) rfl (by decide) hd) (ed_cons (ee_of_el (el_lst (ds := ([] : List PyData)) ed_nil (Nat.zero_le _))) ed_nil))) (egh_of (eg_tup (egs_cons eg_name (egs_cons eg_name egs_nil)))) ?_)
  show Ts K _ (Sr n (draw 5 W).2 (.dat (.int (draw 5 W).1)) (.dat (.list ((pairsN n 0).map pD))) .un .un .un .un) _
  have hlo := draw_lo 5 W
  have hhi := draw_hi (m := 5) W (by decide)
  unfold orderN
  generalize (draw 5 W).2 = W1 at d1 ⊢
  generalize (draw 5 W).1 = sort at hlo hhi ⊢
  refine ts_seq (ts_for (ds := rngD 0 n) (S0 := Sr n W1 (.dat (.int sort)) (.dat (.list ((pairsN n 0).map pD))) .un .un .un .un) (by
    have := ei_rng1 (K := K) (S := Sr n W1 (.dat (.int sort)) (.dat (.list ((pairsN n 0).map pD))) .un .un .un .un) (n := (n : Int)) (ed_cons (ee_var (i := 1) rfl) ed_nil) (by omega)
    rw [Int.toNat_natCast] at this
    exact this) (fun i S => ∃ a, S = Sr n W1 (.dat (.int sort)) (.dat (.list ((pairsN n i).map pD))) a .un .un .un) ⟨.un, rfl⟩ ?_ ?_)
  · rintro i d S' hd ⟨a, rfl⟩
    obtain ⟨hi, rfl⟩ := rngD_get hd
    have hi1 : i < n := hi
    have p1 := plen i (by omega)
    have e0 : (0 : Int) + (i : Int) = (i : Int) := by omega
    rw [e0, pairsN_succ, List.map_append]
    refine ⟨_, eg_name, ts_asg (x := .dat (.list ((pairsN n i).map pD ++ (rowP n i).map pD))) (S1 := Sr n W1 (.dat (.int sort)) (.dat (.list ((pairsN n i).map pD))) (.dat (.int (i : Int))) .un .un .un) (ee_op (ee_var rfl) (ee_of_el ?_) (ro_cat ?_)) ⟨_, rfl⟩⟩
    · rw [← rowP_D]
      refine el_lcm (S0 := Sr n W1 (.dat (.int sort)) (.dat (.list ((pairsN n i).map pD))) (.dat (.int (i : Int))) .un .un .un) (ds := rngD ((i : Int) + 1) (n - (i + 1))) ?_ (by rw [rngD_len]; omega) fun j d hd => ⟨_, egc_name (by decide), _, ee_tup (ed_cons (ee_var rfl) (ed_cons (ee_var rfl) ed_nil)), rfl, rfl⟩
      have := ei_rng2 (K := K) (S := Sr n W1 (.dat (.int sort)) (.dat (.list ((pairsN n i).map pD))) (.dat (.int (i : Int))) .un .un .un) (lo := (i : Int) + 1) (n := (n : Int)) (ed_cons (ee_op (ee_var (i := 4) rfl) ee_int ro_add) (ed_cons (ee_var (i := 1) rfl) ed_nil)) (by omega)
      rw [show ((n : Int) - ((i : Int) + 1)).toNat = n - (i + 1) by omega] at this
      exact this
    · rw [List.length_map, List.length_map, rowP_len]
      omega
  rintro S' ⟨a, rfl⟩
  rw [rngD_len]
  have pl := plen n (Nat.le_refl _)
  refine ts_seq (ts_if (b := decide (sort = 0)) (S1 := Sr n W1 (.dat (.int sort)) (.dat (.list ((pairsN n n).map pD))) a .un .un .un) (et_test (ee_op (ee_var rfl) ee_int ro_eqI)) (fun hb => ?_) fun hb => ts_next ?_)
  · rw [if_pos (of_decide_eq_true hb)]
    exact ts_ret (ee_tup (ds := []) ed_nil) ⟨rfl, rfl⟩
  rw [if_neg (of_decide_eq_false hb)]
  have hne := of_decide_eq_false hb
  refine ts_seq (ts_if (b := decide (sort = 1)) (S1 := Sr n W1 (.dat (.int sort)) (.dat (.list ((pairsN n n).map pD))) a .un .un .un) (et_test (ee_op (ee_var rfl) ee_int ro_eqI)) (fun hb2 => ?_) fun hb2 => ts_next ?_)
  · rw [if_pos (of_decide_eq_true hb2)]
    refine ts_seq (ts_asg (x := .dat (.int (draw n W1).1)) (S1 := Sr n (draw n W1).2 (.dat (.int sort)) (.dat (.list ((pairsN n n).map pD))) a .un .un .un) (ee_dr (W := W1) (k := 0) (S1 := Sr n W1 (.dat (.int sort)) (.dat (.list ((pairsN n n).map pD))) a .un .un .un) (ea_cons (ee_var rfl) (ea_cons (ee_var rfl) ea_nil)) rfl (by omega) d1) ?_)
    generalize (draw n W1).2 = W2
    generalize (draw n W1).1 = split
    refine ts_ret (S1 := Sr n W2 (.dat (.int sort)) (.dat (.list ((pairsN n n).map pD))) a .un (.dat (.int split)) .un) (ee_cb (ea_cons (x := .dat (.list ((runsP n split).map pD))) (ee_of_el ?_) ea_nil) (rc_tupL (.dat _))) ⟨rfl, rfl⟩
    unfold runsP
    rw [List.map_map]
    refine el_lcfA (dA := zD) (lst := List.range (n - 1)) (p := fun (p : Nat) => !decide ((p : Int) = split)) (f := pD ∘ fun p => (p, p + 1)) (S0 := Sr n W2 (.dat (.int sort)) (.dat (.list ((pairsN n n).map pD))) a .un (.dat (.int split)) .un) ?_ (by rw [List.length_range]; omega) fun p hp => ⟨_, _, egc_name (by decide), et_test (ee_op (ee_var rfl) (ee_var rfl) ro_neI), rfl, fun _ => ⟨_, ee_eq (ee_tup (ed_cons (ee_var rfl) (ed_cons (ee_op (ee_var rfl) ee_int ro_add) ed_nil))) (pD_succ p), rfl⟩⟩
    rw [← rngD_nD]
    have := ei_rng1 (K := K) (S := Sr n W2 (.dat (.int sort)) (.dat (.list ((pairsN n n).map pD))) a .un (.dat (.int split)) .un) (n := (n : Int) - 1) (ed_cons (ee_op (ee_var (i := 1) rfl) ee_int ro_sub) ed_nil) (by omega)
    rw [show ((n : Int) - 1).toNat = n - 1 by omega] at this
    exact this
  rw [if_neg (of_decide_eq_false hb2)]
  have hne2 := of_decide_eq_false hb2
  obtain ⟨q, hq, hq3⟩ : ∃ q : Nat, sort - 2 = (q : Int) ∧ q < 3 := ⟨(sort - 2).toNat, by omega, by omega⟩
  have hth : atI (thrI.map PyData.int) (sort - 2) = some (.int (thrI.getD (sort - 2).toNat 0)) := at_int (by omega) (by show _ < (3 : Int); omega)
  have hm : thrI.getD (sort - 2).toNat 0 ≤ 2000000000000 := by
    rw [hq, Int.toNat_natCast]
    match q, hq3 with
    | 0, _ => decide
    | 1, _ => decide
    | 2, _ => decide
  generalize thrI.getD (sort - 2).toNat 0 = m at hth hm ⊢
  refine ts_ret (ee_cb (ea_cons (x := .dat (.list (((pairsN n n).foldl (selS m (fun v => decide (v = 0)) id) ([], W1)).1.map pD))) (ee_of_el (el_sel (dA := pD) (dB := pD) (m := m) (t := fun v => decide (v = 0)) (f := id) (l := pairsN n n) (W := W1) (S0 := Sr n W1 (.dat (.int sort)) (.dat (.list ((pairsN n n).map pD))) a .un .un .un) (ei_list (ee_var rfl)) rfl (by omega) d1 fun x W' hd' => ⟨_, Sr n (draw m W').2 (.dat (.int sort)) (.dat (.list ((pairsN n n).map pD))) a .un .un (.dat (pD x)), egc_name (by decide), et_test (ee_op (ee_dr (W := W') (k := 0) (S1 := Sr n W' (.dat (.int sort)) (.dat (.list ((pairsN n n).map pD))) a .un .un (.dat (pD x))) (ea_cons (ee_var rfl) (ea_cons (ee_op (ee_lst (ds := thrI.map PyData.int) (ed_cons ee_int (ed_cons ee_int (ed_cons ee_int ed_nil))) (show (3 : Nat) ≤ 1000000 by decide)) (ee_op (ee_var rfl) ee_int ro_sub) (ro_ixL (.dat _) hth)) ea_nil)) rfl hm hd') ee_int ro_eqI), rfl, _, ee_var rfl, rfl⟩)) ea_nil) (rc_tupL (.dat _))) ⟨rfl, rfl⟩
end
end K13

set_option maxRecDepth 100000
set_option maxHeartbeats 4000000
namespace K13
open PySem PySem.Spec PyProof.Rows L2 DL
/-! ### drawn networks -/
theorem Fl.gD (g : Gate) : Fl 5 (gD g) := by
  refine (Fl.tup (k := 0) (fun x hx => ?_)).mono (by decide)
  rcases List.mem_cons.mp hx with rfl | hx
  · exact Fl.int
  · rw [List.mem_singleton.mp hx]
    exact Fl.int
def ngJ (n sort i : Int) (W : Well) : Int × Well :=
  if 2 < sort then (i + 1 + (draw (n - 1 - i) W).1, (draw (n - 1 - i) W).2)
  else if sort = 2 then (if (draw 4 W).1 = 0 then (i + 1 + (draw (n - 1 - i) (draw 4 W).2).1, (draw (n - 1 - i) (draw 4 W).2).2) else (i + 1, (draw 4 W).2))
  else (i + 1, W)
def ngG (n sort : Int) (turn : Nat) (i j : Int) : Gate := if sort = 1 then ((turn : Int) % (n - 1), (turn : Int) % (n - 1) + 1) else (i, j)
def ngAdd (found : List Gate) (g : Gate) (W : Well) : List Gate × Well :=
  if found = [] then (found ++ [g], W) else (found ++ [if (draw 12 W).1 = 0 then found.getLast?.getD (0, 0) else g], (draw 12 W).2)
def ngStep (n sort : Int) (turn : Nat) (s : List Gate × Well) : List Gate × Well :=
  ngAdd s.1 (ngG n sort turn (draw (n - 1) s.2).1 (ngJ n sort (draw (n - 1) s.2).1 (draw (n - 1) s.2).2).1) (ngJ n sort (draw (n - 1) s.2).1 (draw (n - 1) s.2).2).2
def ngK (n sort : Int) (W : Well) : Nat → List Gate × Well
  | 0 => ([], W)
  | k + 1 => ngStep n sort k (ngK n sort W k)
def ngN (n : Int) (W : Well) (many : Nat) : List Gate × Well := ngK n (draw 6 W).1 (draw 6 W).2 many
theorem ngJ_ok {n sort i : Int} {W : Well} (h0 : 0 ≤ i) (h : i < n - 1) (hd : W.deep.length ≤ 100) : i < (ngJ n sort i W).1 ∧ (ngJ n sort i W).1 < n ∧ (ngJ n sort i W).2.deep.length ≤ 100 := by
  have key : ∀ W : Well, W.deep.length ≤ 100 → i < i + 1 + (draw (n - 1 - i) W).1 ∧ i + 1 + (draw (n - 1 - i) W).1 < n ∧ (draw (n - 1 - i) W).2.deep.length ≤ 100 := fun W hW => by
    have h1 := draw_lo (n - 1 - i) W
    have h2 := draw_hi (m := n - 1 - i) W (by omega)
    exact ⟨by omega, by omega, draw_deep _ _ hW⟩
  unfold ngJ
  split
  · exact key W hd
  split
  · split
    · exact key _ (draw_deep _ _ hd)
    · exact ⟨by show i < i + 1; omega, by show i + 1 < n; omega, draw_deep _ _ hd⟩
  · exact ⟨by show i < i + 1; omega, by show i + 1 < n; omega, hd⟩
theorem ngAdd_ok {n : Nat} {found : List Gate} {g : Gate} {W : Well} (h : NetOk n found) (hg : 0 ≤ g.1 ∧ g.1 < g.2 ∧ g.2 < n) (hd : W.deep.length ≤ 100) : NetOk n (ngAdd found g W).1 ∧ (ngAdd found g W).1.length = found.length + 1 ∧ (ngAdd found g W).2.deep.length ≤ 100 := by
  have snoc : ∀ g : Gate, (0 ≤ g.1 ∧ g.1 < g.2 ∧ g.2 < n) → NetOk n (found ++ [g]) := fun g hg x hx => by
    rcases List.mem_append.mp hx with hx | hx
    · exact h x hx
    · rw [List.mem_singleton.mp hx]
      exact hg
  unfold ngAdd
  split
  · exact ⟨snoc g hg, by rw [List.length_append]; rfl, hd⟩
  · rename_i hne
    refine ⟨snoc _ ?_, by rw [List.length_append]; rfl, draw_deep _ _ hd⟩
    split
    · rw [List.getLast?_eq_some_getLast hne]
      exact h _ (List.getLast_mem hne)
    · exact hg
theorem ngK_ok {n : Nat} (hn : 2 ≤ n) {sort : Int} {W : Well} (hd : W.deep.length ≤ 100) : ∀ k, NetOk n (ngK n sort W k).1 ∧ (ngK n sort W k).1.length = k ∧ (ngK n sort W k).2.deep.length ≤ 100
  | 0 => ⟨(fun _ z => by cases z), rfl, hd⟩
  | k + 1 => by
    obtain ⟨h1, h2, h3⟩ := ngK_ok hn hd k (sort := sort)
    have i1 := draw_lo ((n : Int) - 1) (ngK n sort W k).2
    have i2 := draw_hi (m := (n : Int) - 1) (ngK n sort W k).2 (by omega)
    have J := ngJ_ok (n := n) (sort := sort) i1 i2 (draw_deep ((n : Int) - 1) _ h3)
    have hg : ∀ j : Int, (draw ((n : Int) - 1) (ngK n sort W k).2).1 < j → j < n → 0 ≤ (ngG n sort k (draw ((n : Int) - 1) (ngK n sort W k).2).1 j).1 ∧ (ngG n sort k (draw ((n : Int) - 1) (ngK n sort W k).2).1 j).1 < (ngG n sort k (draw ((n : Int) - 1) (ngK n sort W k).2).1 j).2 ∧ (ngG n sort k (draw ((n : Int) - 1) (ngK n sort W k).2).1 j).2 < n := fun j ha hb => by
      unfold ngG
      split
      · have := Int.emod_nonneg (k : Int) (show (n : Int) - 1 ≠ 0 by omega)
        have := Int.emod_lt_of_pos (k : Int) (show 0 < (n : Int) - 1 by omega)
        exact ⟨by assumption, by show (_ : Int) < _ + 1; omega, by show (_ : Int) + 1 < _; omega⟩
      · exact ⟨i1, ha, hb⟩
    obtain ⟨a1, a2, a3⟩ := ngAdd_ok h1 (hg _ J.1 J.2.1) J.2.2
    exact ⟨a1, a2.trans (by rw [h2]), a3⟩
theorem ngN_ok {n : Nat} (hn : 2 ≤ n) {W : Well} (hd : W.deep.length ≤ 100) (many : Nat) : NetOk n (ngN n W many).1 ∧ (ngN n W many).1.length = many ∧ (ngN n W many).2.deep.length ≤ 100 := ngK_ok hn (draw_deep 6 W hd) many
section
variable {P : Program} {w : World} {K : PySem.W.Frag} {mg : Str → Option Value} {base : Heap}
def R_network : FR := fun as ob r ob' => ∃ W, ∃ n many : Nat, as = [.own 0, .dat (.int (n : Int)), .dat (.int (many : Int))] ∧ ob = [W.oo] ∧ W.deep.length ≤ 100 ∧ 2 ≤ n ∧ n ≤ 100 ∧ many ≤ 2000 ∧ r = .dat (nD (ngN n W many).1) ∧ ob' = [(ngN n W many).2.oo]
abbrev Sn (n many : Nat) (sort : Int) (W : Well) (found : List Gate) (a b c : SD) : SS := ⟨[.own 0, .dat (.int (n : Int)), .dat (.int (many : Int)), .dat (.int sort), .own 1, a, b, c], [W.oo, .lst (found.map gD)]⟩
theorem sc_law_network : FnScope ["deck", "n", "many", "sort", "found", "turn", "i", "j"] ["deck", "n", "many"] (defScope s_law_network) := ⟨rfl, rfl, rfl, by decide +kernel, rfl, by decide +kernel, by decide +kernel⟩
theorem ok_law_network (D : Df K mg "_law_network" s_law_network ["deck", "n", "many"]) (B : Bi mg) (D_law_draw : Df K mg "_law_draw" s_law_draw ["deck", "many"]) : FnG P w K mg base CX0 2 D.f D.fd ["deck", "n", "many"] (spD K 3 R_network) := by
  have ok_law_draw : FnG P w K mg base CX0 1 _ _ _ _ := ok_law_draw D_law_draw B
  refine okG D.F sc_law_network (fun vs H Q E h => h.1) (fun cdv A outer s H vs Q E hr gd h => ?_)
  have hu := huX hr
  refine ⟨_, (pss_cons (ps_par (i := 3) (j := 4) (by rfl) sc_law_network.nd rfl rfl (by decide) rfl rfl (pa_cons (pe_callG (ok_law_draw) (hr.mono (by decide)) gd (by rfl) D_law_draw.m D_law_draw.F.kp D_law_draw.b .nil pass0 (pa_cons (pv 0) (pa_cons pe_int pa_nil))) (pa_cons (pe_lst pa_nil) pa_nil)) (by rfl))
      (pss_cons (ps_for PassesOwn.never rfl (pi_range1 (by rfl) B.z_range (pa_cons (pv 2) pa_nil)) (pg_name (i := 5) sc_law_network.nd rfl (Or.inl rfl))
        (pss_cons (ps_set (i := 6) sc_law_network.nd rfl (Or.inl rfl) (pe_callG (ok_law_draw) (hr.mono (by decide)) gd (by rfl) D_law_draw.m D_law_draw.F.kp D_law_draw.b .nil pass0 (pa_cons (pv 0) (pa_cons (pe_op op_subU (pv 1) pe_int) pa_nil))))
        (pss_cons (ps_set (i := 7) sc_law_network.nd rfl (Or.inl rfl) (pe_op op_plus (pv 6) pe_int))
        (pss_cons (ps_if (PW.pt (pw_or (pt_cmpR (op_gtU hu) (pv 3) pe_int (nomark _)) (pw_or1 (PW.pt (pw_and (pt_cmpR (op_eqU hu) (pv 3) pe_int (nomark _)) (pw_and1 (pt_cmpR (op_eqU hu) (pe_callG (ok_law_draw) (hr.mono (by decide)) gd (by rfl) D_law_draw.m D_law_draw.F.kp D_law_draw.b .nil pass0 (pa_cons (pv 0) (pa_cons pe_int pa_nil))) pe_int (nomark _)))))))) (pss_one (ps_set (i := 7) sc_law_network.nd rfl (Or.inl rfl) (pe_op op_plus (pe_op op_plus (pv 6) pe_int) (pe_callG (ok_law_draw) (hr.mono (by decide)) gd (by rfl) D_law_draw.m D_law_draw.F.kp D_law_draw.b .nil pass0 (pa_cons (pv 0) (pa_cons (pe_op op_subU (pe_op op_subU (pv 1) pe_int) (pv 6)) pa_nil)))))) pss_nil)
        (pss_cons (ps_if (pt_cmpR (op_eqU hu) (pv 3) pe_int (nomark _)) (pss_one (ps_par (i := 6) (j := 7) (by rfl) sc_law_network.nd rfl rfl (by decide) rfl rfl (pa_cons (pe_op op_modU (pe_callTy cb_int (by rfl) B.z_int (by decide +kernel) (pa_cons (pv 5) pa_nil)) (pe_op op_subU (pv 1) pe_int)) (pa_cons (pe_op op_plus (pe_op op_modU (pe_callTy cb_int (by rfl) B.z_int (by decide +kernel) (pa_cons (pv 5) pa_nil)) (pe_op op_subU (pv 1) pe_int)) pe_int) pa_nil)) (by rfl))) pss_nil)
        (pss_one (ps_expr (pe_bm PySem.F.plainAttrs_list PySem.F.slot_list_append PySem.F.type_list_append mt_append (pv 4) (pa_cons (pe_ifExp (PW.pt (pw_and (pt_cmpR (op_neU hu) (pv 4) (pe_lst pa_nil) (nomark _)) (pw_and1 (pt_cmpR (op_eqU hu) (pe_callG (ok_law_draw) (hr.mono (by decide)) gd (by rfl) D_law_draw.m D_law_draw.F.kp D_law_draw.b .nil pass0 (pa_cons (pv 0) (pa_cons pe_int pa_nil))) pe_int (nomark _))))) (pe_ix ix_seq (pv 4) (pe_un un_negU pe_int) (fun _ _ => rfl)) (pe_tup (pa_cons (pv 6) (pa_cons (pv 7) pa_nil)))) pa_nil)))))))))
      (pss_one (ps_ret (pe_callTy cb_tuple (by rfl) B.z_tuple (by decide +kernel) (pa_cons (pv 4) pa_nil)))))), ?_⟩
  refine body_ofG h (by decide) (fun as ob r ob' hR => ?_) fun as ob r ob' hR hl => ?_
  · obtain ⟨W, n, many, rfl, rfl, _, _, _, _, rfl, rfl⟩ := hR
    exact ⟨Nat.le_refl _, fun _ z => by cases z⟩
  obtain ⟨W, n, many, rfl, rfl, hd, hn2, hn, hm, rfl, rfl⟩ := hR
  have d0 := draw_deep 6 W hd
  refine ts_seq (ts_par (x := .dat (.int (draw 6 W).1)) (y := .own 1) (S1 := ⟨[.own 0, .dat (.int (n : Int)), .dat (.int (many : Int)), .un, .un, .un, .un, .un], [(draw 6 W).2.oo, .lst []]⟩) (ea_cons (S1 := ⟨[.own 0, .dat (.int (n : Int)), .dat (.int (many : Int)), .un, .un, .un, .un, .un], [(draw 6 W).2.oo]⟩) (ee_dr (W := W) (k := 0) (S1 := ⟨[.own 0, .dat (.int (n : Int)), .dat (.int (many : Int)), .un, .un, .un, .un, .un], [W.oo]⟩) (ea_cons (ee_var rfl) (ea_cons ee_int ea_nil)) rfl (by decide) hd) (ea_cons (eo_of_el (el_lst ed_nil)) ea_nil)) ?_)
  show Ts K _ (Sn n many (draw 6 W).1 (draw 6 W).2 [] .un .un .un) _
  unfold ngN
  generalize (draw 6 W).2 = W0 at d0 ⊢
  generalize (draw 6 W).1 = sort
  refine ts_seq (ts_for (ds := rngD 0 many) (S0 := Sn n many sort W0 [] .un .un .un) (by
    have := ei_rng1 (K := K) (S := Sn n many sort W0 [] .un .un .un) (n := (many : Int)) (ed_cons (ee_var (i := 2) rfl) ed_nil) (by omega)
    rw [Int.toNat_natCast] at this
    exact this) (fun k S => ∃ a b c, S = Sn n many sort (ngK n sort W0 k).2 (ngK n sort W0 k).1 a b c) ⟨.un, .un, .un, rfl⟩ ?_ ?_)
  · rintro k d S' hd' ⟨a, b, c, rfl⟩
    obtain ⟨hk, rfl⟩ := rngD_get hd'
    have e0 : (0 : Int) + (k : Int) = (k : Int) := by omega
    rw [e0]
    obtain ⟨o1, o2, o3⟩ := ngK_ok hn2 d0 (sort := sort) k
    show ∃ S'', _ ∧ Ts K _ S'' { nx := fun S => ∃ a b c, S = Sn n many sort (ngStep n sort k (ngK n sort W0 k)).2 (ngStep n sort k (ngK n sort W0 k)).1 a b c, rt := _, bk := _, ct := _ }
    unfold ngStep
    generalize (ngK n sort W0 k).1 = found at o1 o2 ⊢
    generalize (ngK n sort W0 k).2 = W1 at o3 ⊢
    have i1 := draw_lo ((n : Int) - 1) W1
    have i2 := draw_hi (m := (n : Int) - 1) W1 (by omega)
    have d1 := draw_deep ((n : Int) - 1) W1 o3
    refine ⟨_, eg_name, ts_seq (ts_asg (x := .dat (.int (draw ((n : Int) - 1) W1).1)) (S1 := Sn n many sort (draw ((n : Int) - 1) W1).2 found (.dat (.int (k : Int))) b c) (ee_dr (W := W1) (k := 0) (S1 := Sn n many sort W1 found (.dat (.int (k : Int))) b c) (ea_cons (ee_var rfl) (ea_cons (ee_op (ee_var rfl) ee_int ro_sub) ea_nil)) rfl (by omega) o3) ?_)⟩
    generalize (draw ((n : Int) - 1) W1).2 = W2 at d1 ⊢
    generalize (draw ((n : Int) - 1) W1).1 = i at i1 i2 ⊢
    refine ts_seq (ts_asg (x := .dat (.int (i + 1))) (S1 := Sn n many sort W2 found (.dat (.int (k : Int))) (.dat (.int i)) c) (ee_op (ee_var rfl) ee_int ro_add) ?_)
    show Ts K _ (Sn n many sort W2 found (.dat (.int (k : Int))) (.dat (.int i)) (.dat (.int (i + 1)))) _
    have J := ngJ_ok (n := n) (sort := sort) i1 i2 d1
    refine ts_join (fun S => S = Sn n many sort (ngJ n sort i W2).2 found (.dat (.int (k : Int))) (.dat (.int i)) (.dat (.int (ngJ n sort i W2).1))) ?_ ?_
    · by_cases s1 : 2 < sort
      · have e : ngJ n sort i W2 = (i + 1 + (draw (n - 1 - i) W2).1, (draw (n - 1 - i) W2).2) := if_pos s1
        rw [e]
        refine ts_if (b := true) (S1 := Sn n many sort W2 found (.dat (.int (k : Int))) (.dat (.int i)) (.dat (.int (i + 1)))) (et_eq (et_or (b := false) (et_test (ee_op (ee_var rfl) ee_int ro_gt)) (fun z => absurd s1 (of_decide_eq_false z))) (by rw [decide_eq_true s1]; rfl)) (fun _ => ?_) (fun z => by cases z)
        exact ts_asg (x := .dat (.int (i + 1 + (draw (n - 1 - i) W2).1))) (S1 := Sn n many sort (draw (n - 1 - i) W2).2 found (.dat (.int (k : Int))) (.dat (.int i)) (.dat (.int (i + 1)))) (ee_op (S1 := Sn n many sort W2 found (.dat (.int (k : Int))) (.dat (.int i)) (.dat (.int (i + 1)))) (S2 := Sn n many sort (draw (n - 1 - i) W2).2 found (.dat (.int (k : Int))) (.dat (.int i)) (.dat (.int (i + 1)))) (ee_op (ee_var rfl) ee_int ro_add) (ee_dr (W := W2) (k := 0) (S1 := Sn n many sort W2 found (.dat (.int (k : Int))) (.dat (.int i)) (.dat (.int (i + 1)))) (ea_cons (ee_var rfl) (ea_cons (ee_op (ee_op (ee_var rfl) ee_int ro_sub) (ee_var rfl) ro_sub) ea_nil)) rfl (by omega) d1) ro_add) rfl
      by_cases s2 : sort = 2
      · have d4 := draw_deep 4 W2 d1
        have tst : Et K _ (Sn n many sort W2 found (.dat (.int (k : Int))) (.dat (.int i)) (.dat (.int (i + 1)))) (decide ((draw 4 W2).1 = 0)) (Sn n many sort (draw 4 W2).2 found (.dat (.int (k : Int))) (.dat (.int i)) (.dat (.int (i + 1)))) := et_orF (S1 := Sn n many sort W2 found (.dat (.int (k : Int))) (.dat (.int i)) (.dat (.int (i + 1)))) (et_eq (et_test (ee_op (ee_var (i := 3) rfl) (ee_int (j := 2)) ro_gt)) (decide_eq_false s1)) (et_andT (S1 := Sn n many sort W2 found (.dat (.int (k : Int))) (.dat (.int i)) (.dat (.int (i + 1)))) (et_eq (et_test (ee_op (ee_var (i := 3) rfl) (ee_int (j := 2)) ro_eqI)) (decide_eq_true s2)) (et_test (ee_op (ee_dr (E := E0) (W := W2) (k := 0) (S1 := Sn n many sort W2 found (.dat (.int (k : Int))) (.dat (.int i)) (.dat (.int (i + 1)))) (ea_cons (ee_var (i := 0) rfl) (ea_cons (ee_int (j := 4)) ea_nil)) rfl (by decide) d1) (ee_int (j := 0)) ro_eqI)))
        refine ts_if (b := decide ((draw 4 W2).1 = 0)) (S1 := Sn n many sort (draw 4 W2).2 found (.dat (.int (k : Int))) (.dat (.int i)) (.dat (.int (i + 1)))) tst (fun hb => ?_) (fun hb => ts_next ?_)
        · have e : ngJ n sort i W2 = (i + 1 + (draw (n - 1 - i) (draw 4 W2).2).1, (draw (n - 1 - i) (draw 4 W2).2).2) := by
            unfold ngJ
            rw [if_neg s1, if_pos s2, if_pos (of_decide_eq_true hb)]
          rw [e]
          generalize (draw 4 W2).2 = W3 at d4
          exact ts_asg (x := .dat (.int (i + 1 + (draw (n - 1 - i) W3).1))) (S1 := Sn n many sort (draw (n - 1 - i) W3).2 found (.dat (.int (k : Int))) (.dat (.int i)) (.dat (.int (i + 1)))) (ee_op (S1 := Sn n many sort W3 found (.dat (.int (k : Int))) (.dat (.int i)) (.dat (.int (i + 1)))) (S2 := Sn n many sort (draw (n - 1 - i) W3).2 found (.dat (.int (k : Int))) (.dat (.int i)) (.dat (.int (i + 1)))) (ee_op (ee_var rfl) ee_int ro_add) (ee_dr (W := W3) (k := 0) (S1 := Sn n many sort W3 found (.dat (.int (k : Int))) (.dat (.int i)) (.dat (.int (i + 1)))) (ea_cons (ee_var rfl) (ea_cons (ee_op (ee_op (ee_var rfl) ee_int ro_sub) (ee_var rfl) ro_sub) ea_nil)) rfl (by omega) d4) ro_add) rfl
        · have e : ngJ n sort i W2 = (i + 1, (draw 4 W2).2) := by
            unfold ngJ
            rw [if_neg s1, if_pos s2, if_neg (of_decide_eq_false hb)]
          rw [e]
      · have e : ngJ n sort i W2 = (i + 1, W2) := by
          unfold ngJ
          rw [if_neg s1, if_neg s2]
        rw [e]
        exact ts_if (b := false) (S1 := Sn n many sort W2 found (.dat (.int (k : Int))) (.dat (.int i)) (.dat (.int (i + 1)))) (et_orF (S1 := Sn n many sort W2 found (.dat (.int (k : Int))) (.dat (.int i)) (.dat (.int (i + 1)))) (et_eq (et_test (ee_op (ee_var rfl) ee_int ro_gt)) (decide_eq_false s1)) (et_eq (et_and (b := false) (et_test (ee_op (ee_var rfl) ee_int ro_eqI)) (fun z => absurd (of_decide_eq_true z) s2)) (by rw [decide_eq_false s2]; rfl))) (fun z => by cases z) fun _ => ts_next rfl
    rintro S' rfl
    obtain ⟨j1, j2, j3⟩ := J
    generalize (ngJ n sort i W2).2 = W3 at j3 ⊢
    generalize (ngJ n sort i W2).1 = j at j1 j2 ⊢
    refine ts_join (fun S => S = Sn n many sort W3 found (.dat (.int (k : Int))) (.dat (.int (ngG n sort k i j).1)) (.dat (.int (ngG n sort k i j).2))) (ts_if (b := decide (sort = 1)) (S1 := Sn n many sort W3 found (.dat (.int (k : Int))) (.dat (.int i)) (.dat (.int j))) (et_test (ee_op (ee_var rfl) ee_int ro_eqI)) (fun hb => ?_) (fun hb => ts_next ?_)) ?_
    · have e : ngG n sort k i j = ((k : Int) % ((n : Int) - 1), (k : Int) % ((n : Int) - 1) + 1) := if_pos (of_decide_eq_true hb)
      rw [e]
      exact ts_par (x := .dat (.int ((k : Int) % ((n : Int) - 1)))) (y := .dat (.int ((k : Int) % ((n : Int) - 1) + 1))) (S1 := Sn n many sort W3 found (.dat (.int (k : Int))) (.dat (.int i)) (.dat (.int j))) (ea_cons (ee_op (ee_cb (ea_cons (ee_var rfl) ea_nil) rc_intI) (ee_op (ee_var rfl) ee_int ro_sub) (ro_mod (by omega))) (ea_cons (ee_op (ee_op (ee_cb (ea_cons (ee_var rfl) ea_nil) rc_intI) (ee_op (ee_var rfl) ee_int ro_sub) (ro_mod (by omega))) ee_int ro_add) ea_nil)) rfl
    · have e : ngG n sort k i j = (i, j) := if_neg (of_decide_eq_false hb)
      rw [e]
    rintro S' rfl
    generalize ngG n sort k i j = g
    obtain ⟨ga, gb⟩ := g
    have fl : ∀ x ∈ found.map gD, Fl 5 x := fun x hx => by
      obtain ⟨g, _, rfl⟩ := List.mem_map.mp hx
      exact Fl.gD g
    unfold ngAdd
    by_cases hf : found = []
    · subst hf
      rw [if_pos rfl]
      exact ts_drop (ee_append (k := 1) (ds := ([] : List Gate).map gD) (d := gD (ga, gb)) (S1 := Sn n many sort W3 [] (.dat (.int (k : Int))) (.dat (.int ga)) (.dat (.int gb))) (S2 := Sn n many sort W3 [] (.dat (.int (k : Int))) (.dat (.int ga)) (.dat (.int gb))) (ee_var rfl) (ee_if (b := false) (S1 := Sn n many sort W3 [] (.dat (.int (k : Int))) (.dat (.int ga)) (.dat (.int gb))) (et_eq (et_and (b := false) (et_test (ee_op (ee_var rfl) (ee_of_el (el_lst ed_nil)) (ro_neNil (.own rfl) (.dat _) fl))) (fun z => by cases z)) rfl) (fun z => by cases z) fun _ => ee_tup (ed_cons (ee_var rfl) (ed_cons (ee_var rfl) ed_nil))) ⟨_, rfl⟩ rfl (by show (0 : Nat) < 1000000; decide)) ⟨_, _, _, rfl⟩
    · rw [if_neg hf]
      have d5 := draw_deep 12 W3 j3
      have hl : 0 < found.length := List.length_pos_iff.mpr hf
      have el : atI (found.map gD) (-1) = some (gD (found.getLast?.getD (0, 0))) := by
        rw [List.getLast?_eq_getElem?]
        unfold atI ixN
        rw [if_neg (by decide), if_pos (by rw [List.length_map]; omega)]
        show (found.map gD)[((-1 : Int) + ((found.map gD).length : Int)).toNat]? = _
        rw [List.length_map, show ((-1 : Int) + (found.length : Int)).toNat = found.length - 1 by omega, List.getElem?_map, List.getElem?_eq_getElem (by omega)]
        rfl
      have eF : (found.map gD).isEmpty = false := by
        rw [List.isEmpty_map]
        cases found with
        | nil => exact absurd rfl hf
        | cons a b => rfl
      refine ts_drop (ee_append (k := 1) (ds := found.map gD) (d := gD (if (draw 12 W3).1 = 0 then found.getLast?.getD (0, 0) else (ga, gb))) (S1 := Sn n many sort W3 found (.dat (.int (k : Int))) (.dat (.int ga)) (.dat (.int gb))) (S2 := Sn n many sort (draw 12 W3).2 found (.dat (.int (k : Int))) (.dat (.int ga)) (.dat (.int gb))) (ee_var rfl) (ee_if (b := decide ((draw 12 W3).1 = 0)) (S1 := Sn n many sort (draw 12 W3).2 found (.dat (.int (k : Int))) (.dat (.int ga)) (.dat (.int gb))) (et_andT (S1 := Sn n many sort W3 found (.dat (.int (k : Int))) (.dat (.int ga)) (.dat (.int gb))) (et_eq (et_test (ee_op (ee_var rfl) (ee_of_el (el_lst ed_nil)) (ro_neNil (.own rfl) (.dat _) fl))) (by rw [eF]; rfl)) (et_test (ee_op (ee_dr (W := W3) (k := 0) (S1 := Sn n many sort W3 found (.dat (.int (k : Int))) (.dat (.int ga)) (.dat (.int gb))) (ea_cons (ee_var rfl) (ea_cons ee_int ea_nil)) rfl (by decide) j3) ee_int ro_eqI))) (fun hb => ?_) fun hb => ?_) ⟨_, rfl⟩ rfl (by rw [List.length_map, o2]; omega)) ⟨.dat (.int (k : Int)), .dat (.int ga), .dat (.int gb), ?_⟩
      · rw [if_pos (of_decide_eq_true hb)]
        exact ee_op (ee_var rfl) (ee_un ee_int ru_neg) (ro_ixL (.own rfl) el)
      · rw [if_neg (of_decide_eq_false hb)]
        exact ee_tup (ed_cons (ee_var rfl) (ed_cons (ee_var rfl) ed_nil))
      · show (⟨_, [_, .lst (found.map gD ++ [_])]⟩ : SS) = ⟨_, [_, .lst ((found ++ [_]).map gD)]⟩
        rw [List.map_append]
        rfl
  · rintro S' ⟨a, b, c, rfl⟩
    rw [rngD_len]
    exact ts_ret (ee_cb (ea_cons (ee_var rfl) ea_nil) (rc_tupL (.own rfl))) ⟨rfl, _, rfl⟩
end
end K13

set_option maxRecDepth 100000
set_option maxHeartbeats 4000000
namespace K13
open PySem PySem.Spec PyProof.Rows L2 DL
/-! ### cuts go along -/
def cutB (key x : Int) : Int := if key < x then 1 else 0
def cutI (row : List Int) (key : Int) : List Int := row.map (cutB key)
theorem cutI_len (row : List Int) (key : Int) : (cutI row key).length = row.length := List.length_map ..
theorem cutI_key (row : List Int) (key : Int) : ∀ x ∈ cutI row key, InKey x := fun x hx => by
  unfold cutI at hx
  obtain ⟨y, _, rfl⟩ := List.mem_map.mp hx
  unfold cutB InKey
  split <;> decide
theorem cut_lt {key a b : Int} (h : cutB key a < cutB key b) : a < b := by
  unfold cutB at h
  split at h <;> split at h <;> omega
theorem cut_le {key a b : Int} (h : a ≤ b) : cutB key a ≤ cutB key b := by
  unfold cutB
  split <;> split <;> omega
theorem swp_same {l : List Int} {i j : Nat} (hi : i < l.length) (hj : j < l.length) (h : l.getD i 0 = l.getD j 0) : swp l i j = l := by
  refine List.ext_getElem? fun m => ?_
  by_cases hm : m < l.length
  · have e := swp_get l hi hj m
    rw [List.getD_eq_getElem?_getD, List.getElem?_eq_getElem (by rw [swp_len]; exact hm)] at e
    rw [List.getElem?_eq_getElem (by rw [swp_len]; exact hm), List.getElem?_eq_getElem hm]
    congr 1
    have e2 : l.getD m 0 = l[m] := by
      rw [List.getD_eq_getElem?_getD, List.getElem?_eq_getElem hm]
      rfl
    have e : (swp l i j)[m]'(by rw [swp_len]; exact hm) = if m = j then l.getD i 0 else if m = i then l.getD j 0 else l.getD m 0 := e
    rw [e]
    split
    · rename_i q
      rw [← e2, q, h]
    split
    · rename_i q
      rw [← e2, q, h]
    · exact e2
  · rw [List.getElem?_eq_none (by rw [swp_len]; omega), List.getElem?_eq_none (by omega)]
theorem cut_swaps {row : List Int} {net : List Gate} (h : NetOk row.length net) {key : Int} {k : Nat} (hk : k < net.length) (e : keyK (cutI row key) net k = cutI (keyK row net k) key) :
    swaps (cutI row key) net k ↔ cutB key ((keyK row net k).getD (net.getD k (0, 0)).2.toNat 0) < cutB key ((keyK row net k).getD (net.getD k (0, 0)).1.toNat 0) := by
  have hg := gate_at h hk
  have l := keyK_len row net k
  unfold swaps
  rw [e]
  unfold cutI
  rw [mapD _ _ (by omega), mapD _ _ (by omega)]
theorem cut_run {row : List Int} {net : List Gate} (h : NetOk row.length net) (key : Int) : ∀ k, k ≤ net.length → keyK (cutI row key) net k = cutI (keyK row net k) key
  | 0, _ => by
    unfold keyK
    show (rngI (cutI row key).length).map (val (cutI row key)) = cutI ((rngI row.length).map (val row)) key
    rw [rng_val, rng_val]
  | k + 1, hk => by
    have ih := cut_run h key k (by omega)
    have hg := gate_at h (k := k) (by omega)
    have l := keyK_len row net k
    have hc : NetOk (cutI row key).length net := by
      rw [cutI_len]
      exact h
    rw [(run_step hc (by omega)).1, (run_step h (by omega)).1]
    have cs := cut_swaps h (key := key) (k := k) (by omega) ih
    by_cases s : swaps row net k
    · rw [if_pos s]
      by_cases t : swaps (cutI row key) net k
      · rw [if_pos t, ih]
        unfold cutI
        rw [swp_map _ _ (by omega) (by omega)]
      · rw [if_neg t, ih]
        unfold cutI
        rw [swp_map _ _ (by omega) (by omega)]
        refine (swp_same (by rw [List.length_map]; omega) (by rw [List.length_map]; omega) ?_).symm
        rw [mapD _ _ (by omega), mapD _ _ (by omega)]
        have h1 : cutB key ((keyK row net k).getD (net.getD k (0, 0)).2.toNat 0) ≤ cutB key ((keyK row net k).getD (net.getD k (0, 0)).1.toNat 0) := cut_le (key := key) (Int.le_of_lt s)
        have h2 := Int.not_lt.mp fun z => t (cs.mpr z)
        omega
    · have t : ¬ swaps (cutI row key) net k := fun z => s (cut_lt (cs.mp z))
      rw [if_neg s, if_neg t, ih]
theorem cut_out {row : List Int} {net : List Gate} (h : NetOk row.length net) (key : Int) : runO (cutI row key) net = cutI (runO row net) key := cut_run h key net.length (Nat.le_refl _)
theorem spots_iff {row : List Int} {net : List Gate} (h : NetOk row.length net) : ∀ k, k ≤ net.length → ∀ x, x ∈ (runK row net k).2 ↔ ∃ m : Nat, x = (m : Int) ∧ m < k ∧ swaps row net m
  | 0, _, x => ⟨(fun z => by cases z), fun ⟨m, _, z, _⟩ => absurd z (Nat.not_lt_zero m)⟩
  | k + 1, hk, x => by
    have ih := spots_iff h k (by omega) x
    rw [(run_step h (by omega)).2]
    by_cases s : swaps row net k
    · rw [if_pos s, List.mem_append, ih, List.mem_singleton]
      constructor
      · rintro (⟨m, a, b, c⟩ | rfl)
        · exact ⟨m, a, by omega, c⟩
        · exact ⟨k, rfl, Nat.lt_succ_self k, s⟩
      · rintro ⟨m, a, b, c⟩
        by_cases e : m = k
        · subst e
          exact .inr a
        · exact .inl ⟨m, a, by omega, c⟩
    · rw [if_neg s, ih]
      constructor
      · rintro ⟨m, a, b, c⟩
        exact ⟨m, a, by omega, c⟩
      · rintro ⟨m, a, b, c⟩
        by_cases e : m = k
        · subst e
          exact absurd c s
        · exact ⟨m, a, by omega, c⟩
theorem spot_iff {row : List Int} {net : List Gate} (h : NetOk row.length net) (x : Int) : x ∈ runS row net ↔ ∃ m : Nat, x = (m : Int) ∧ m < net.length ∧ swaps row net m := spots_iff h net.length (Nat.le_refl _) x
theorem spots_up {row : List Int} {net : List Gate} : ∀ k, (runK row net k).2.Pairwise (· < ·)
  | 0 => .nil
  | k + 1 => by
    have ih := spots_up (row := row) (net := net) k
    show (stepR row k (net.getD k (0, 0)) (runK row net k)).2.Pairwise (· < ·)
    unfold stepR
    split
    · rw [List.pairwise_append]
      refine ⟨ih, List.pairwise_singleton _ _, fun a ha b hb => ?_⟩
      rw [List.mem_singleton.mp hb]
      exact (runK_spot k a ha).2
    · exact ih
theorem cut_spot {row : List Int} {net : List Gate} (h : NetOk row.length net) {key x : Int} (hx : x ∈ runS (cutI row key) net) : x ∈ runS row net := by
  obtain ⟨m, rfl, hm, s⟩ := (spot_iff (by rw [cutI_len]; exact h) x).mp hx
  exact (spot_iff h _).mpr ⟨m, rfl, hm, cut_lt ((cut_swaps h hm (cut_run h key m (by omega))).mp s)⟩
theorem lesser_cut {row : List Int} {net : List Gate} (h : NetOk row.length net) {m : Nat} (hm : m < net.length) (s : swaps row net m) : (m : Int) ∈ runS (cutI row ((keyK row net m).getD (net.getD m (0, 0)).2.toNat 0)) net := by
  refine (spot_iff (by rw [cutI_len]; exact h) _).mpr ⟨m, rfl, hm, (cut_swaps h hm (cut_run h _ m (by omega))).mpr ?_⟩
  unfold cutB
  rw [if_neg (Int.lt_irrefl _), if_pos (show _ < _ from s)]
  decide
end K13

set_option maxRecDepth 100000
set_option maxHeartbeats 4000000
namespace K13
open PySem PySem.Spec PyProof.Rows L2 DL
/-! ### rows that are let, and their words -/
theorem cut_let {n : Nat} {ps : List Pr} (hp : PrOk n ps) {row : List Int} (hr : row.length = n) (hl : letsN ps row = true) (key : Int) : cutI row key ∈ wordsN n ps := by
  refine words_has (by rw [cutI_len]; exact hr) (fun x hx => ?_) (lets_iff.mpr fun x hx => ?_)
  · obtain ⟨y, _, rfl⟩ := List.mem_map.mp hx
    unfold cutB
    split <;> decide
  · have h2 := hp x hx
    have := lets_iff.mp hl x hx
    unfold cutI
    rw [mapD _ _ (by omega), mapD _ _ (by omega)]
    exact cut_le this
/-- an exchange on a row that is let is one on a word that is let -/
theorem row_live {n : Nat} {ps : List Pr} (hp : PrOk n ps) {net : List Gate} (h : NetOk n net) {row : List Int} (hr : row.length = n) (hl : letsN ps row = true) {t : Nat} (ht : t < net.length) (s : swaps row net t) : ∃ w ∈ wordsN n ps, swaps w net t := by
  have hk : NetOk row.length net := by rw [hr]; exact h
  have := lesser_cut hk ht s
  refine ⟨cutI row ((keyK row net t).getD (net.getD t (0, 0)).2.toNat 0), cut_let hp hr hl _, ?_⟩
  obtain ⟨m, e, _, hs⟩ := (spot_iff (by rw [cutI_len]; exact hk) _).mp this
  obtain rfl : t = m := by omega
  exact hs
/-- rows that are let, all words among them -/
structure RowsOf (n : Nat) (ps : List Pr) (rows : List (List Int)) : Prop where
  row : ∀ row ∈ rows, row.length = n ∧ letsN ps row = true
  word : ∀ w ∈ wordsN n ps, w ∈ rows
theorem rows_words (n : Nat) (ps : List Pr) : RowsOf n ps (wordsN n ps) := ⟨fun w hw => ⟨(words_row hw).1, (words_row hw).2.2⟩, fun _ h => h⟩
theorem rows_some {n top : Nat} (ps : List Pr) (ht : 2 ≤ top) : RowsOf n ps (someN n ps top) := ⟨fun w hw => by
  obtain ⟨h1, h2⟩ := List.mem_filter.mp hw
  exact ⟨(rowsN_row w h1).1, h2⟩, fun w hw => by
  obtain ⟨h1, h2, h3⟩ := words_row hw
  exact List.mem_filter.mpr ⟨rowsN_has h1 fun x hx => by have := h2 x hx; omega, h3⟩⟩
theorem liveB_iff {ws : List (List Int)} {net : List Gate} {t : Nat} : liveB ws net t = true ↔ ∃ w ∈ ws, swaps w net t := by
  unfold liveB
  rw [List.any_eq_true]
  exact ⟨fun ⟨w, a, b⟩ => ⟨w, a, of_decide_eq_true b⟩, fun ⟨w, a, b⟩ => ⟨w, a, decide_eq_true b⟩⟩
end K13

set_option maxRecDepth 100000
set_option maxHeartbeats 4000000
namespace K13
open PySem PySem.Spec PyProof.Rows L2 DL
/-! ### the first live far gate -/
def firstP (p : Nat → Bool) (len : Nat) : Nat := ((List.range len).find? p).getD len
theorem firstP_is {p : Nat → Bool} {len f : Nat} (h1 : f ≤ len) (h2 : ∀ t, t < f → p t = false) (h3 : f < len → p f = true) : firstP p len = f := by
  unfold firstP
  by_cases e : f = len
  · subst e
    rw [List.find?_eq_none.mpr fun t ht => by rw [h2 t (List.mem_range.mp ht)]; exact Bool.false_ne_true]
    rfl
  · have : (List.range len).find? p = some f := by
      rw [List.find?_range_eq_some]
      exact ⟨h3 (by omega), List.mem_range.mpr (by omega), fun t ht => by rw [h2 t ht]; rfl⟩
    rw [this]
    rfl
theorem firstP_all (p : Nat → Bool) (len : Nat) : firstP p len ≤ len ∧ (∀ t, t < firstP p len → p t = false) ∧ (firstP p len < len → p (firstP p len) = true) := by
  unfold firstP
  cases e : (List.range len).find? p with
  | none =>
    refine ⟨Nat.le_refl _, fun t ht => ?_, fun z => absurd z (Nat.lt_irrefl _)⟩
    have := List.find?_eq_none.mp e t (List.mem_range.mpr ht)
    simpa using this
  | some f =>
    obtain ⟨h1, h2, h3⟩ := List.find?_range_eq_some.mp e
    have h2 := List.mem_range.mp h2
    refine ⟨by show f ≤ len; omega, fun t ht => ?_, fun _ => h1⟩
    have := h3 t ht
    simpa using this
def farLive (ws : List (List Int)) (net : List Gate) (t : Nat) : Bool := liveB ws net t && isFar (net.getD t (0, 0))
theorem firstF_P (ws : List (List Int)) (net : List Gate) : firstF net (natL (liveN ws net)) = (firstP (farLive ws net) net.length : Int) := by
  have e : farS net (natL (liveN ws net)) = natL ((List.range net.length).filter (farLive ws net)) := by
    unfold farS natL liveN
    rw [List.filter_map, List.filter_filter]
    congr 1
    refine List.filter_congr fun t _ => ?_
    show (isFar (gAt net (t : Int)) && liveB ws net t) = _
    unfold farLive gAt
    rw [Int.toNat_natCast, Bool.and_comm]
  unfold firstF firstP
  rw [e]
  unfold natL
  rw [List.head?_map, List.head?_filter]
  cases (List.range net.length).find? (farLive ws net) <;> rfl
/-- so many first gates run as they do among all -/
theorem runK_take (row : List Int) (net : List Gate) {m : Nat} : ∀ t, t ≤ m → runK row (net.take m) t = runK row net t
  | 0, _ => rfl
  | t + 1, h => by
    have e : (net.take m).getD t (0, 0) = net.getD t (0, 0) := by
      rw [List.getD_eq_getElem?_getD, List.getD_eq_getElem?_getD, List.getElem?_take, if_pos (by omega)]
    show stepR row t ((net.take m).getD t (0, 0)) (runK row (net.take m) t) = stepR row t (net.getD t (0, 0)) (runK row net t)
    rw [e, runK_take row net t (by omega)]
theorem swaps_take (row : List Int) (net : List Gate) {m t : Nat} (h : t < m) : swaps row (net.take m) t ↔ swaps row net t := by
  have e : (net.take m).getD t (0, 0) = net.getD t (0, 0) := by
    rw [List.getD_eq_getElem?_getD, List.getD_eq_getElem?_getD, List.getElem?_take, if_pos h]
  unfold swaps keyK
  rw [e, runK_take row net t (by omega)]
theorem farLive_take (ws : List (List Int)) (net : List Gate) {m t : Nat} (h : t < m) : farLive ws (net.take m) t = farLive ws net t := by
  have e : (net.take m).getD t (0, 0) = net.getD t (0, 0) := by
    rw [List.getD_eq_getElem?_getD, List.getD_eq_getElem?_getD, List.getElem?_take, if_pos h]
  unfold farLive liveB
  rw [e]
  congr 1
  refine List.any_congr rfl fun w => ?_
  exact decide_eq_decide.mpr (swaps_take w net h)
theorem keptP (n : Nat) (ps : List Pr) (net : List Gate) : keptN n ps net = (firstP (farLive (wordsN n ps) net) net.length : Int) := firstF_P _ _
theorem first_take (ws : List (List Int)) (net : List Gate) {m : Nat} (h : m ≤ net.length) : firstP (farLive ws (net.take m)) m = min (firstP (farLive ws net) net.length) m := by
  obtain ⟨h1, h2, h3⟩ := firstP_all (farLive ws net) net.length
  refine firstP_is (by omega) (fun t ht => ?_) fun hlt => ?_
  · rw [farLive_take ws net (by omega)]
    exact h2 t (by omega)
  · rw [farLive_take ws net hlt, show min (firstP (farLive ws net) net.length) m = firstP (farLive ws net) net.length by omega]
    exact h3 (by omega)
theorem kept_take (n : Nat) (ps : List Pr) (net : List Gate) {m : Nat} (h : m ≤ net.length) : keptN n ps (net.take m) = min (keptN n ps net) (m : Int) := by
  rw [keptP, keptP, List.length_take, show min m net.length = m by omega, first_take _ net h]
  omega
theorem kept_le (n : Nat) (ps : List Pr) (net : List Gate) : 0 ≤ keptN n ps net ∧ keptN n ps net ≤ (net.length : Int) := by
  rw [keptP]
  have := (firstP_all (farLive (wordsN n ps) net) net.length).1
  omega
/-- a near gate more -/
theorem kept_near (n : Nat) (ps : List Pr) (net : List Gate) {g : Gate} (hg : isFar g = false) : decide (keptN n ps (net ++ [g]) = ((net ++ [g]).length : Int)) = decide (keptN n ps net = (net.length : Int)) := by
  have e : (net ++ [g]).take net.length = net := List.take_left' rfl
  have k := kept_take n ps (net ++ [g]) (m := net.length) (by rw [List.length_append]; omega)
  rw [e] at k
  have l := kept_le n ps (net ++ [g])
  rw [List.length_append, List.length_singleton] at l ⊢
  refine decide_eq_decide.mpr ⟨fun h => by omega, fun h => ?_⟩
  have eF := keptP n ps (net ++ [g])
  obtain ⟨_, _, h3⟩ := firstP_all (farLive (wordsN n ps) (net ++ [g])) (net ++ [g]).length
  by_cases q : firstP (farLive (wordsN n ps) (net ++ [g])) (net ++ [g]).length = net.length
  · have := h3 (by rw [q, List.length_append, List.length_singleton]; omega)
    rw [q] at this
    unfold farLive at this
    rw [List.getD_eq_getElem?_getD, List.getElem?_concat_length] at this
    rw [show ((some g).getD (0, 0) : Gate) = g from rfl, hg, Bool.and_false] at this
    cases this
  · omega
/-- with more pairs told no gate comes to live -/
theorem kept_more {n : Nat} {ps qs : List Pr} (h : ∀ x ∈ ps, x ∈ qs) (net : List Gate) : keptN n ps net ≤ keptN n qs net := by
  rw [keptP, keptP]
  obtain ⟨a1, a2, a3⟩ := firstP_all (farLive (wordsN n ps) net) net.length
  obtain ⟨b1, b2, b3⟩ := firstP_all (farLive (wordsN n qs) net) net.length
  have : ∀ t, farLive (wordsN n qs) net t = true → farLive (wordsN n ps) net t = true := fun t ht => by
    unfold farLive at ht ⊢
    rw [Bool.and_eq_true] at ht ⊢
    refine ⟨?_, ht.2⟩
    obtain ⟨w, hw, hs⟩ := List.any_eq_true.mp ht.1
    obtain ⟨w1, w2, w3⟩ := words_row hw
    exact List.any_eq_true.mpr ⟨w, words_has w1 w2 (lets_iff.mpr fun x hx => lets_iff.mp w3 x (h x hx)), hs⟩
  by_cases q : firstP (farLive (wordsN n qs) net) net.length < firstP (farLive (wordsN n ps) net) net.length
  · have c1 := this _ (b3 (by omega))
    rw [a2 _ q] at c1
    cases c1
  · omega
theorem far_one {i : Int} : isFar (i, i + 1) = false := decide_eq_false (by show ¬ (i + 1 < i + 1); omega)
end K13

set_option maxRecDepth 100000
set_option maxHeartbeats 4000000
namespace K13
open PySem PySem.Spec PyProof.Rows L2 DL
def toldD (ws : List (List Int)) (a : Nat) : PyData := if a = 0 then .none else rD (ws.getD (firstP (fun k => a.testBit k) ws.length) [])
theorem told_at {ws : List (List Int)} {a : Nat} (h : ∀ k, a.testBit k = true → k < ws.length) (h0 : a ≠ 0) : firstP (fun k => a.testBit k) ws.length < ws.length ∧ a.testBit (firstP (fun k => a.testBit k) ws.length) = true ∧ ∀ i, i < firstP (fun k => a.testBit k) ws.length → a.testBit i = false := by
  obtain ⟨h1, h2, h3⟩ := firstP_all (fun k => a.testBit k) ws.length
  have lt : firstP (fun k => a.testBit k) ws.length < ws.length := by
    obtain ⟨k, hk⟩ := Nat.exists_testBit_of_ne_zero h0
    have := h k hk
    by_cases q : firstP (fun k => a.testBit k) ws.length < ws.length
    · exact q
    · have := h2 k (by omega)
      rw [hk] at this
      cases this
  exact ⟨lt, h3 lt, h2⟩
end K13

set_option maxRecDepth 100000
set_option maxHeartbeats 4000000
namespace K13
open PySem PySem.Spec PyProof.Rows L2 DL
/-! ### what is sure, words that come out falling, words of which unlike words come out -/
def outL2 (n : Nat) (ps : List Pr) (net : List Gate) : List Nat := laneRun net (lanesN n (wordsN n ps)) net.length
theorem outL2_len (n : Nat) (ps : List Pr) (net : List Gate) : (outL2 n ps net).length = n := by
  unfold outL2
  rw [laneRun_len]
  unfold lanesN
  rw [List.length_map, List.length_range]
theorem outL2_bit {n : Nat} {ps : List Pr} {net : List Gate} (h : NetOk n net) (k : Nat) {l : Nat} (hl : l < n) : ((outL2 n ps net).getD l 0).testBit k = runBit (wordsN n ps) net k net.length l := lanes_run (words_bits n ps) h k net.length (Nat.le_refl _) l hl
/-- a bit tells a word, and what it brings on a line -/
theorem runBit_iff {ws : List (List Int)} {net : List Gate} {k l : Nat} : runBit ws net k net.length l = true ↔ ∃ w, ws[k]? = some w ∧ (runO w net).getD l 0 ≠ 0 := by
  unfold runBit
  by_cases hk : k < ws.length
  · rw [List.getElem?_eq_getElem hk]
    show decide _ = true ↔ _
    rw [decide_eq_true_eq]
    exact ⟨fun h => ⟨_, rfl, h⟩, fun ⟨w, e, h⟩ => by
      rw [Option.some.inj e]
      exact h⟩
  · rw [List.getElem?_eq_none (by omega)]
    exact ⟨(fun h => by cases h), fun ⟨w, e, _⟩ => by cases e⟩
theorem out_bit {w : List Int} {net : List Gate} (hb : ∀ x ∈ w, 0 ≤ x ∧ x < 2) (l : Nat) : (runO w net).getD l 0 = 0 ∨ (runO w net).getD l 0 = 1 := by
  have := keyK_bit (net := net) hb net.length l
  have e : keyK w net net.length = runO w net := rfl
  rw [e] at this
  omega
def upTo (n i : Nat) : List Nat := (List.range (n - (i + 1))).map fun k => i + 1 + k
theorem upTo_mem {n i j : Nat} : j ∈ upTo n i ↔ i < j ∧ j < n := by
  unfold upTo
  constructor
  · intro h
    obtain ⟨k, hk, rfl⟩ := List.mem_map.mp h
    have := List.mem_range.mp hk
    omega
  · rintro ⟨h1, h2⟩
    exact List.mem_map.mpr ⟨j - (i + 1), List.mem_range.mpr (by omega), by omega⟩
def sureB (L : List Nat) (i j : Nat) : Bool := decide (dropN (L.getD i 0) (L.getD j 0) = 0)
def sureN (n : Nat) (ps : List Pr) (net : List Gate) : List Pr := (List.range n).flatMap fun i => ((upTo n i).filter (sureB (outL2 n ps net) i)).map fun j => (i, j)
/-- a pair is sure just if no let word brings a 1 on the first line and a 0 on the second one -/
theorem sureB_iff {n : Nat} {ps : List Pr} {net : List Gate} (h : NetOk n net) {i j : Nat} (hi : i < n) (hj : j < n) : sureB (outL2 n ps net) i j = true ↔ ∀ w ∈ wordsN n ps, (runO w net).getD i 0 ≤ (runO w net).getD j 0 := by
  unfold sureB
  rw [decide_eq_true_eq]
  constructor
  · intro e w hw
    obtain ⟨k, hk⟩ := List.mem_iff_getElem?.mp hw
    have hb := (words_row hw).2.1
    have z : (dropN ((outL2 n ps net).getD i 0) ((outL2 n ps net).getD j 0)).testBit k = false := by rw [e, Nat.zero_testBit]
    rw [drop_bit, outL2_bit h k hi, outL2_bit h k hj] at z
    have b1 := runBit_iff (ws := wordsN n ps) (net := net) (k := k) (l := i)
    have b2 := runBit_iff (ws := wordsN n ps) (net := net) (k := k) (l := j)
    rcases out_bit (net := net) hb i with p | p <;> rcases out_bit (net := net) hb j with q | q <;> try omega
    have t1 := b1.mpr ⟨w, hk, by omega⟩
    rw [t1, Bool.true_and] at z
    have t2 : runBit (wordsN n ps) net k net.length j = true := by simpa using z
    obtain ⟨w', e', ne⟩ := b2.mp t2
    rw [hk] at e'
    rw [← Option.some.inj e'] at ne
    exact absurd q ne
  · intro hall
    refine Nat.eq_of_testBit_eq fun k => ?_
    rw [Nat.zero_testBit, drop_bit, outL2_bit h k hi, outL2_bit h k hj]
    cases t1 : runBit (wordsN n ps) net k net.length i with
    | false => rfl
    | true =>
      obtain ⟨w, hk, ne⟩ := runBit_iff.mp t1
      have hw := List.mem_of_getElem? hk
      have := hall w hw
      have b := out_bit (net := net) (words_row hw).2.1 i
      have t2 := runBit_iff.mpr ⟨w, hk, show (runO w net).getD j 0 ≠ 0 by omega⟩
      rw [t2]
      rfl
theorem sureN_mem {n : Nat} {ps : List Pr} {net : List Gate} (h : NetOk n net) {x : Pr} : x ∈ sureN n ps net ↔ x.1 < x.2 ∧ x.2 < n ∧ ∀ w ∈ wordsN n ps, (runO w net).getD x.1 0 ≤ (runO w net).getD x.2 0 := by
  unfold sureN
  constructor
  · intro hx
    obtain ⟨i, hi, hx⟩ := List.mem_flatMap.mp hx
    obtain ⟨j, hj, rfl⟩ := List.mem_map.mp hx
    obtain ⟨h1, h2⟩ := List.mem_filter.mp hj
    have u := upTo_mem.mp h1
    exact ⟨u.1, u.2, (sureB_iff h (List.mem_range.mp hi) u.2).mp h2⟩
  · rintro ⟨h1, h2, h3⟩
    exact List.mem_flatMap.mpr ⟨x.1, List.mem_range.mpr (by omega), List.mem_map.mpr ⟨x.2, List.mem_filter.mpr ⟨upTo_mem.mpr ⟨h1, h2⟩, (sureB_iff h (by omega) h2).mpr h3⟩, rfl⟩⟩
theorem sureN_ord {n : Nat} {ps : List Pr} {net : List Gate} (h : NetOk n net) : Ord n (sureN n ps net) := by
  refine ⟨?_, fun x hx => ⟨((sureN_mem h).mp hx).1, ((sureN_mem h).mp hx).2.1⟩⟩
  unfold sureN
  generalize sureB (outL2 n ps net) = p
  have : ∀ m, ((List.range m).flatMap fun i => ((upTo n i).filter (p i)).map fun j => (i, j)).Pairwise Lx := fun m => by
    induction m with
    | zero => exact .nil
    | succ m ih =>
      rw [List.range_succ, List.flatMap_append, List.flatMap_singleton]
      refine List.pairwise_append.mpr ⟨ih, ?_, fun a ha b hb => ?_⟩
      · rw [List.pairwise_map]
        unfold upTo
        refine List.Pairwise.filter _ ?_
        rw [List.pairwise_map]
        exact (List.pairwise_lt_range (n := n - (m + 1))).imp fun h => .inr ⟨rfl, by show m + 1 + _ < m + 1 + _; omega⟩
      · obtain ⟨i, hi, ha⟩ := List.mem_flatMap.mp ha
        obtain ⟨j, hj, rfl⟩ := List.mem_map.mp ha
        obtain ⟨j', hj', rfl⟩ := List.mem_map.mp hb
        exact .inl (List.mem_range.mp hi)
  exact this n
end K13

set_option maxRecDepth 100000
set_option maxHeartbeats 4000000
namespace K13
open PySem PySem.Spec PyProof.Rows L2 DL
/-! ### sure, unsorted_word, unlike_word -/
def fallN (L : List Nat) : Nat → Nat
  | 0 => 0
  | k + 1 => fallN L k ||| dropN (L.getD k 0) (L.getD (k + 1) 0)
theorem fallN_bit (L : List Nat) (k : Nat) : ∀ m, (fallN L m).testBit k = true ↔ ∃ l, l < m ∧ (L.getD l 0).testBit k = true ∧ (L.getD (l + 1) 0).testBit k = false
  | 0 => ⟨(fun h => by
    rw [show fallN L 0 = 0 from rfl, Nat.zero_testBit] at h
    cases h), fun ⟨l, h, _⟩ => absurd h (Nat.not_lt_zero _)⟩
  | m + 1 => by
    show ((fallN L m) ||| dropN (L.getD m 0) (L.getD (m + 1) 0)).testBit k = true ↔ _
    rw [Nat.testBit_or, drop_bit, Bool.or_eq_true, fallN_bit L k m, Bool.and_eq_true, Bool.not_eq_true']
    constructor
    · rintro (⟨l, h, a⟩ | a)
      · exact ⟨l, by omega, a⟩
      · exact ⟨m, Nat.lt_succ_self _, a⟩
    · rintro ⟨l, h, a⟩
      by_cases e : l = m
      · subst e
        exact .inr a
      · exact .inl ⟨l, by omega, a⟩
def unlN (L M : List Nat) : Nat → Nat
  | 0 => 0
  | k + 1 => unlN L M k ||| (L.getD k 0 ^^^ M.getD k 0)
theorem unlN_bit (L M : List Nat) (k : Nat) : ∀ m, (unlN L M m).testBit k = true ↔ ∃ l, l < m ∧ (L.getD l 0).testBit k ≠ (M.getD l 0).testBit k
  | 0 => ⟨(fun h => by
    rw [show unlN L M 0 = 0 from rfl, Nat.zero_testBit] at h
    cases h), fun ⟨l, h, _⟩ => absurd h (Nat.not_lt_zero _)⟩
  | m + 1 => by
    show ((unlN L M m) ||| (L.getD m 0 ^^^ M.getD m 0)).testBit k = true ↔ _
    rw [Nat.testBit_or, Nat.testBit_xor, Bool.or_eq_true, unlN_bit L M k m]
    have x : (((L.getD m 0).testBit k ^^ (M.getD m 0).testBit k) = true) ↔ (L.getD m 0).testBit k ≠ (M.getD m 0).testBit k := by
      cases (L.getD m 0).testBit k <;> cases (M.getD m 0).testBit k <;> decide
    rw [x]
    constructor
    · rintro (⟨l, h, a⟩ | a)
      · exact ⟨l, by omega, a⟩
      · exact ⟨m, Nat.lt_succ_self _, a⟩
    · rintro ⟨l, h, a⟩
      by_cases e : l = m
      · subst e
        exact .inr a
      · exact .inl ⟨l, by omega, a⟩
theorem or_xor_and (a b : Nat) : (a ||| b) = (a ^^^ b) + (a &&& b) := by
  by_cases h : a = 0
  · rw [h, Nat.zero_or, Nat.zero_xor, Nat.zero_and]
    rfl
  · have ih := or_xor_and (a / 2) (b / 2)
    have e1 : (a ||| b) / 2 = a / 2 ||| b / 2 := Nat.or_div_two
    have e2 : (a ^^^ b) / 2 = a / 2 ^^^ b / 2 := Nat.xor_div_two
    have e3 : (a &&& b) / 2 = a / 2 &&& b / 2 := Nat.and_div_two
    have m1 := @Nat.or_mod_two_eq_one a b
    have m2 := @Nat.xor_mod_two_eq_one a b
    have m3 := @Nat.and_mod_two_eq_one a b
    rw [← e1, ← e2, ← e3] at ih
    generalize (a ||| b) = x at *
    generalize (a ^^^ b) = y at *
    generalize (a &&& b) = z at *
    rcases Nat.mod_two_eq_zero_or_one a with p | p <;> rcases Nat.mod_two_eq_zero_or_one b with q | q <;> rw [p, q] at m1 m2 m3 <;> simp at m1 m2 m3 <;> omega
termination_by a
decreasing_by omega
theorem xor_nat (a b : Nat) : Builtin.bitXor (a : Int) (b : Int) = ((a ^^^ b : Nat) : Int) := by
  have e : Builtin.bitAnd (a : Int) (b : Int) = ((a &&& b : Nat) : Int) := by
    unfold Builtin.bitAnd
    rw [decide_eq_true (show (0 : Int) ≤ (a : Int) by omega), decide_eq_true (show (0 : Int) ≤ (b : Int) by omega)]
    show (((a : Int).toNat &&& (b : Int).toNat : Nat) : Int) = _
    rw [Int.toNat_natCast, Int.toNat_natCast]
  unfold Builtin.bitXor
  rw [bor_nat, e, or_xor_and]
  omega
def unsW (n : Nat) (ps : List Pr) (net : List Gate) : Nat := fallN (outL2 n ps net) (n - 1)
def unlW (n : Nat) (ps : List Pr) (one two : List Gate) : Nat := unlN (outL2 n ps one) (outL2 n ps two) n
theorem unsW_iff {n : Nat} {ps : List Pr} {net : List Gate} (h : NetOk n net) (k : Nat) : (unsW n ps net).testBit k = true ↔ ∃ w, (wordsN n ps)[k]? = some w ∧ ∃ l, l + 1 < n ∧ (runO w net).getD (l + 1) 0 < (runO w net).getD l 0 := by
  unfold unsW
  rw [fallN_bit]
  constructor
  · rintro ⟨l, hl, a, b⟩
    rw [outL2_bit h k (by omega)] at a b
    obtain ⟨w, hw, ne⟩ := runBit_iff.mp a
    have hb := (words_row (List.mem_of_getElem? hw)).2.1
    have o1 := out_bit (net := net) hb l
    have o2 := out_bit (net := net) hb (l + 1)
    refine ⟨w, hw, l, by omega, ?_⟩
    rcases o2 with z | z
    · omega
    · have := (runBit_iff (l := l + 1)).mpr ⟨w, hw, show (runO w net).getD (l + 1) 0 ≠ 0 by omega⟩
      rw [this] at b
      cases b
  · rintro ⟨w, hw, l, hl, lt⟩
    have hb := (words_row (List.mem_of_getElem? hw)).2.1
    have o1 := out_bit (net := net) hb l
    have o2 := out_bit (net := net) hb (l + 1)
    refine ⟨l, by omega, ?_, ?_⟩
    · rw [outL2_bit h k (by omega)]
      exact runBit_iff.mpr ⟨w, hw, by omega⟩
    · rw [outL2_bit h k (by omega)]
      cases q : runBit (wordsN n ps) net k net.length (l + 1) with
      | false => rfl
      | true =>
        obtain ⟨w', hw', ne⟩ := runBit_iff.mp q
        rw [hw] at hw'
        rw [← Option.some.inj hw'] at ne
        omega
theorem unlW_iff {n : Nat} {ps : List Pr} {one two : List Gate} (h1 : NetOk n one) (h2 : NetOk n two) (k : Nat) : (unlW n ps one two).testBit k = true ↔ ∃ w, (wordsN n ps)[k]? = some w ∧ ∃ l, l < n ∧ (runO w one).getD l 0 ≠ (runO w two).getD l 0 := by
  unfold unlW
  rw [unlN_bit]
  have key : ∀ {w}, (wordsN n ps)[k]? = some w → ∀ l, l < n → ∀ net, NetOk n net → (((outL2 n ps net).getD l 0).testBit k = decide ((runO w net).getD l 0 ≠ 0)) := fun hw l hl net h => by
    rw [outL2_bit h k hl]
    unfold runBit
    rw [hw]
    rfl
  constructor
  · rintro ⟨l, hl, ne⟩
    by_cases hk : k < (wordsN n ps).length
    · refine ⟨_, List.getElem?_eq_getElem hk, l, hl, fun e => ne ?_⟩
      rw [key (List.getElem?_eq_getElem hk) l hl one h1, key (List.getElem?_eq_getElem hk) l hl two h2, e]
    · refine absurd ?_ ne
      rw [outL2_bit h1 k hl, outL2_bit h2 k hl]
      unfold runBit
      rw [List.getElem?_eq_none (by omega)]
  · rintro ⟨w, hw, l, hl, ne⟩
    have hb := (words_row (List.mem_of_getElem? hw)).2.1
    have o1 := out_bit (net := one) hb l
    have o2 := out_bit (net := two) hb l
    refine ⟨l, hl, fun e => ne ?_⟩
    rw [key hw l hl one h1, key hw l hl two h2] at e
    have := decide_eq_decide.mp e
    omega
theorem unsW_bit {n : Nat} {ps : List Pr} {net : List Gate} (h : NetOk n net) (k : Nat) : (unsW n ps net).testBit k = true → k < (wordsN n ps).length := fun hk => by
  obtain ⟨w, e, _⟩ := (unsW_iff h k).mp hk
  exact (List.getElem?_eq_some_iff.mp e).1
theorem unlW_bit {n : Nat} {ps : List Pr} {one two : List Gate} (h1 : NetOk n one) (h2 : NetOk n two) (k : Nat) : (unlW n ps one two).testBit k = true → k < (wordsN n ps).length := fun hk => by
  obtain ⟨w, e, _⟩ := (unlW_iff h1 h2 k).mp hk
  exact (List.getElem?_eq_some_iff.mp e).1
section
variable {P : Program} {w : World} {K : PySem.W.Frag} {mg : Str → Option Value} {base : Heap}
theorem lane_at2 {lanes : List Nat} {i : Nat} (h : i < lanes.length) : atI (lanes.map zD) (i : Int) = some (.int ((lanes.getD i 0 : Nat) : Int)) := by
  refine atI_nat ?_
  rw [List.getElem?_map, List.getElem?_eq_getElem h, List.getD_eq_getElem?_getD, List.getElem?_eq_getElem h]
  rfl
theorem rl_of {n : Nat} {ps : List Pr} {net : List Gate} (hi : AskIn n ps net) : R_rlanes (([nD net, .list ((lanesN n (wordsN n ps)).map zD)] : List PyData).map SD.dat) [] (.dat (.tuple [.list (((List.range net.length).map (exchN net (lanesN n (wordsN n ps)))).map zD), .list ((outL2 n ps net).map zD)])) [] := ⟨net, _, rfl, by
  have ln : (lanesN n (wordsN n ps)).length = n := by
    unfold lanesN
    rw [List.length_map, List.length_range]
  rw [ln]
  exact hi.hk, hi.len, by
  unfold lanesN
  rw [List.length_map, List.length_range]
  have := hi.n10
  omega, rfl, rfl, rfl⟩
def R_sure : FR := fun as ob r ob' => ∃ (n : Nat) (ps : List Pr) (net : List Gate), as = [.dat (.int (n : Int)), .dat (oD ps), .dat (nD net)] ∧ AskIn n ps net ∧ ob = [] ∧ r = .dat (oD (sureN n ps net)) ∧ ob' = []
theorem scsure : FnScope ["n", "order", "network", "_", "lanes", "i", "j"] ["n", "order", "network"] (defScope ssure) := ⟨rfl, rfl, rfl, by decide +kernel, rfl, by decide +kernel, by decide +kernel⟩
theorem oksure (D : Df K mg "sure" ssure ["n", "order", "network"]) (B : Bi mg) (Dword_lanes : Df K mg "word_lanes" sword_lanes ["n", "words"]) (Drun_lanes : Df K mg "run_lanes" srun_lanes ["network", "lanes"]) (Dlet_words : Df K mg "let_words" slet_words ["n", "order"]) (Dlet_rows : Df K mg "let_rows" slet_rows ["order", "choices"]) (D_let_keys : Df K mg "_let_keys" s_let_keys ["row", "below", "keys"]) : FnG P w K mg base CX0 4 D.f D.fd ["n", "order", "network"] (spD K 3 R_sure) := by
  have okword_lanes : FnG P w K mg base CX0 1 _ _ _ _ := okword_lanes Dword_lanes B
  have okrun_lanes : FnG P w K mg base CX0 1 _ _ _ _ := okrun_lanes Drun_lanes B
  have oklet_words : FnG P w K mg base CX0 3 _ _ _ _ := oklet_words Dlet_words B Dlet_rows D_let_keys
  refine okG D.F scsure (fun vs H Q E h => h.1) (fun cdv A outer s H vs Q E hr gd h => ?_)
  have hu := huX hr
  refine ⟨_, (pss_cons (ps_asg (pe_callG (okrun_lanes) (hr.mono (by decide)) gd (by rfl) Drun_lanes.m Drun_lanes.F.kp Drun_lanes.b .nil pass0 (pa_cons (pv 2) (pa_cons (pe_callG (okword_lanes) (hr.mono (by decide)) gd (by rfl) Dword_lanes.m Dword_lanes.F.kp Dword_lanes.b .nil pass0 (pa_cons (pv 0) (pa_cons (pe_callG (oklet_words) (hr.mono (by decide)) gd (by rfl) Dlet_words.m Dlet_words.F.kp Dlet_words.b .nil pass0 (pa_cons (pv 0) (pa_cons (pv 1) pa_nil))) pa_nil))) pa_nil))) (pg_tup rfl (pgs_cons (pg_name (i := 3) scsure.nd rfl (Or.inl rfl)) (pgs_cons (pg_name (i := 4) scsure.nd rfl (Or.inr rfl)) pgs_nil))))
      (pss_one (ps_ret (pe_callTy cb_tuple (by rfl) B.z_tuple (by decide +kernel) (pa_cons (pe_lc2 (own := [("i", 5), ("j", 6)]) (vs1 := [6]) (tt := tYes) (by rfl) scsure.nd (pi_range1 (by rfl) B.z_range (pa_cons (pv 0) pa_nil)) (blkOk_by (own := [("i", 5), ("j", 6)]) (N := ["n", "order", "network", "_", "lanes", "i", "j"]) (sc := defScope ssure) (by decide +kernel)) (by decide) (fun _ _ _ _ _ => (pg_name (i := 5) scsure.nd rfl (Or.inl rfl))) (fun _ _ _ _ _ => pts_nil) (fun _ _ _ _ _ => (pi_range2 (by rfl) B.z_range (pa_cons (pe_op (opK K (R := rPlus) op_plus rfl) (pv 5) pe_int) (pa_cons (pv 0) pa_nil)))) (fun _ _ _ _ _ => (pg_name (i := 6) scsure.nd rfl (Or.inl rfl))) (fun _ _ _ _ _ => (pts_one (pt_not (pt_truK K rfl (pe_op op_and (pe_ix (ixK K (R := rIx) ix_seq rfl) (pv 4) (pv 5) (fun _ _ => rfl)) (pe_un un_inv (pe_ix (ixK K (R := rIx) ix_seq rfl) (pv 4) (pv 6) (fun _ _ => rfl)))))))) (fun _ _ _ _ _ => (pe_tup (pa_cons (pv 5) (pa_cons (pv 6) pa_nil))))) pa_nil))))), ?_⟩
  refine body_of h (by decide) fun as ob r ob' hR hl => ?_
  obtain ⟨n, ps, net, rfl, hi, rfl, rfl, rfl⟩ := hR
  have h10 := hi.n10
  have oL := outL2_len n ps net
  have so := sureN_ord hi.hk (ps := ps)
  have l45 := so.l45 h10
  have RL := rl_of hi
  generalize (PyData.list (((List.range net.length).map (exchN net (lanesN n (wordsN n ps)))).map zD)) = x1 at RL
  refine ts_seq (ts_asgG (d := .tuple [x1, .list ((outL2 n ps net).map zD)]) (S1 := ⟨[.dat (.int (n : Int)), .dat (oD ps), .dat (nD net), .un, .un, .un, .un], []⟩) (ee_callD (ed_cons (ee_var rfl) (ed_cons (ee_callD (d := .list ((lanesN n (wordsN n ps)).map zD)) (ed_cons (ee_var rfl) (ed_cons (ee_callD (d := .list ((wordsN n ps).map rD)) (ed_cons (ee_var rfl) (ed_cons (ee_var rfl) ed_nil)) rfl ⟨n, ps, rfl, hi.hp, hi.pl, hi.n10, rfl, rfl, rfl⟩) ed_nil)) rfl ⟨n, wordsN n ps, rfl, fun w h => (words_row h).1, by omega, words_2100 ps hi.n10, rfl, rfl, rfl⟩) ed_nil)) rfl RL) (egh_of (eg_tup (egs_cons eg_name (egs_cons eg_name egs_nil)))) ?_)
  have eF : oD (sureN n ps net) = .tuple ((List.range n).flatMap fun i => ((upTo n i).filter (sureB (outL2 n ps net) i)).map fun j => pD (i, j)) := by
    unfold oD sureN
    rw [List.map_flatMap]
    congr 1
    congr 1
    funext i
    rw [List.map_map]
    rfl
  have lF : ((List.range n).flatMap fun i => ((upTo n i).filter (sureB (outL2 n ps net) i)).map fun j => pD (i, j)).length ≤ 1000000 := by
    have e : ((List.range n).flatMap fun i => ((upTo n i).filter (sureB (outL2 n ps net) i)).map fun j => pD (i, j)) = (sureN n ps net).map pD := by
      have := eF
      unfold oD at this
      injection this with this
      exact this.symm
    rw [e, List.length_map]
    omega
  rw [eF]
  generalize outL2 n ps net = L at *
  have uA : ∀ a : Nat, (fun d => (toI d).toNat) (zD a) = a := fun a => Int.toNat_natCast a
  refine ts_ret (S1 := ⟨[.dat (.int (n : Int)), .dat (oD ps), .dat (nD net), .dat x1, .dat (.list (L.map zD)), .un, .un], []⟩) (ee_cb (ea_cons (x := .dat (.list ((List.range n).flatMap fun i => ((upTo n i).filter (sureB L i)).map fun j => pD (i, j)))) (ee_of_el ?_) ea_nil) (rc_tupL (.dat _))) ⟨rfl, rfl⟩
  refine el_lc2A (fun d => (toI d).toNat) (fun d => (toI d).toNat) (dA := zD) (dB := zD) (lst := List.range n) (S0 := ⟨[.dat (.int (n : Int)), .dat (oD ps), .dat (nD net), .dat x1, .dat (.list (L.map zD)), .un, .un], []⟩) (upTo n) (sureB L) (fun i j => pD (i, j)) uA uA ?_ lF fun i hi => ?_
  · rw [← rngD_nD]
    exact ei_rng1n (n := n) (ed_cons (ee_var rfl) ed_nil) (by omega)
  have hi := List.mem_range.mp hi
  refine ⟨_, egc_name (by decide), rfl, ?_, fun j hj => ?_⟩
  · have eU : (upTo n i).map zD = rngD ((i : Int) + 1) ((n : Int) - ((i : Int) + 1)).toNat := by
      rw [show ((n : Int) - ((i : Int) + 1)).toNat = n - (i + 1) by omega]
      unfold upTo rngD
      rw [List.map_map]
      refine List.map_congr_left fun k _ => ?_
      show PyData.int ((i + 1 + k : Nat) : Int) = PyData.int ((i : Int) + 1 + (k : Int))
      rw [show ((i + 1 + k : Nat) : Int) = (i : Int) + 1 + (k : Int) by omega]
    rw [eU]
    exact ei_rng2 (ed_cons (ee_op (ee_var rfl) ee_int ro_add) (ed_cons (ee_var rfl) ed_nil)) (by omega)
  · have hj := upTo_mem.mp hj
    refine ⟨_, _, egc_name (by decide), et_eq (et_not (et_truI (ee_op (ee_op (ee_var rfl) (ee_var rfl) (ro_ixL (.dat _) (lane_at2 (i := i) (by omega)))) (ee_un (ee_op (ee_var rfl) (ee_var rfl) (ro_ixL (.dat _) (lane_at2 (i := j) (by omega)))) ru_inv) ro_bdrop))) ?_, rfl, fun _ => ⟨_, ee_tup (ds := [.int (i : Int), .int (j : Int)]) (ed_cons (ee_var rfl) (ed_cons (ee_var rfl) ed_nil)), rfl⟩⟩
    unfold sureB
    by_cases q : dropN (L.getD i 0) (L.getD j 0) = 0
    · rw [q]
      rfl
    · have z : (((dropN (L.getD i 0) (L.getD j 0) : Nat) : Int) != 0) = true := bne_iff_ne.mpr (by omega)
      rw [decide_eq_false q, z]
      rfl
def R_uns : FR := fun as ob r ob' => ∃ (n : Nat) (ps : List Pr) (net : List Gate), as = [.dat (.int (n : Int)), .dat (oD ps), .dat (nD net)] ∧ AskIn n ps net ∧ 1 ≤ n ∧ ob = [] ∧ r = .dat (toldD (wordsN n ps) (unsW n ps net)) ∧ ob' = []
def R_unl : FR := fun as ob r ob' => ∃ (n : Nat) (ps : List Pr) (one two : List Gate), as = [.dat (.int (n : Int)), .dat (oD ps), .dat (nD one), .dat (nD two)] ∧ AskIn n ps one ∧ AskIn n ps two ∧ ob = [] ∧ r = .dat (toldD (wordsN n ps) (unlW n ps one two)) ∧ ob' = []
end
end K13

set_option maxRecDepth 100000
set_option maxHeartbeats 4000000
namespace K13
open PySem PySem.Spec PyProof.Rows L2 DL
/-! ### a network of few lines on some lines of more -/
def spreadG (L : List Int) (net : List Gate) : List Gate := net.map fun g => (val L g.1, val L g.2)
def UpL (n : Nat) (L : List Int) : Prop := L.Pairwise (· < ·) ∧ ∀ x ∈ L, 0 ≤ x ∧ x < n
theorem UpL.at {n : Nat} {L : List Int} (h : UpL n L) {i j : Nat} (hij : i < j) (hj : j < L.length) : L.getD i 0 < L.getD j 0 := by
  have := List.pairwise_iff_getElem.mp h.1 i j (by omega) hj hij
  rw [List.getD_eq_getElem?_getD, List.getD_eq_getElem?_getD, List.getElem?_eq_getElem (by omega), List.getElem?_eq_getElem hj]
  exact this
theorem UpL.in {n : Nat} {L : List Int} (h : UpL n L) {i : Nat} (hi : i < L.length) : 0 ≤ L.getD i 0 ∧ L.getD i 0 < n := by
  rw [List.getD_eq_getElem?_getD, List.getElem?_eq_getElem hi]
  exact h.2 _ (List.getElem_mem hi)
theorem UpL.inj {n : Nat} {L : List Int} (h : UpL n L) {i j : Nat} (hi : i < L.length) (hj : j < L.length) (e : L.getD i 0 = L.getD j 0) : i = j := by
  rcases Nat.lt_trichotomy i j with l | l | l
  · have := h.at l hj
    omega
  · exact l
  · have := h.at l hi
    omega
theorem spread_ok {n : Nat} {L : List Int} (h : UpL n L) {net : List Gate} (hk : NetOk L.length net) : NetOk n (spreadG L net) := fun g hg => by
  obtain ⟨x, hx, rfl⟩ := List.mem_map.mp hg
  have q := hk x hx
  have a := h.in (i := x.1.toNat) (by omega)
  have b := h.in (i := x.2.toNat) (by omega)
  have c := h.at (i := x.1.toNat) (j := x.2.toNat) (by omega) (by omega)
  exact ⟨a.1, c, b.2⟩
theorem spread_len (L : List Int) (net : List Gate) : (spreadG L net).length = net.length := List.length_map ..
theorem spread_at {L : List Int} {net : List Gate} {t : Nat} (h : t < net.length) : (spreadG L net).getD t (0, 0) = (val L (net.getD t (0, 0)).1, val L (net.getD t (0, 0)).2) := by
  unfold spreadG
  rw [List.getD_eq_getElem?_getD, List.getD_eq_getElem?_getD, List.getElem?_map, List.getElem?_eq_getElem h]
  rfl
/-- on the few lines both run alike -/
theorem spread_run {n : Nat} {L : List Int} (h : UpL n L) {net : List Gate} (hk : NetOk L.length net) {w v : List Int} (hw : w.length = n) (hv : v.length = L.length) (e : ∀ i, i < L.length → w.getD (L.getD i 0).toNat 0 = v.getD i 0) :
    ∀ t, t ≤ net.length → ∀ i, i < L.length → (keyK w (spreadG L net) t).getD (L.getD i 0).toNat 0 = (keyK v net t).getD i 0
  | 0, _, i, hi => by
    rw [keyK0, keyK0]
    exact e i hi
  | t + 1, ht, i, hi => by
    have ih := spread_run h hk hw hv e t (by omega)
    have hs := spread_ok h hk
    have g := gate_at hk (show t < net.length by omega)
    have e1 := (run_step (row := w) (net := spreadG L net) (by rw [hw]; exact hs) (k := t) (by rw [spread_len]; omega)).1
    have e2 := (run_step (row := v) (net := net) (by rw [hv]; exact hk) (k := t) (by omega)).1
    have i1 := ih (net.getD t (0, 0)).1.toNat (by omega)
    have i2 := ih (net.getD t (0, 0)).2.toNat (by omega)
    have sw : swaps w (spreadG L net) t ↔ swaps v net t := by
      unfold swaps
      rw [spread_at (by omega)]
      show (keyK w (spreadG L net) t).getD (val L (net.getD t (0, 0)).2).toNat 0 < (keyK w (spreadG L net) t).getD (val L (net.getD t (0, 0)).1).toNat 0 ↔ _
      unfold val
      rw [i1, i2]
    rw [e1, e2]
    have kl := keyK_len w (spreadG L net) t
    have kl2 := keyK_len v net t
    by_cases s : swaps v net t
    · rw [if_pos (sw.mpr s), if_pos s, spread_at (by omega)]
      have a1 := h.in (i := (net.getD t (0, 0)).1.toNat) (by omega)
      have a2 := h.in (i := (net.getD t (0, 0)).2.toNat) (by omega)
      have a3 := h.in hi
      show (swp _ (val L (net.getD t (0, 0)).1).toNat (val L (net.getD t (0, 0)).2).toNat).getD _ 0 = _
      unfold val
      rw [swp_get _ (by omega) (by omega), swp_get _ (by omega) (by omega)]
      by_cases l2 : i = (net.getD t (0, 0)).2.toNat
      · rw [if_pos l2, if_pos (by rw [l2]), i1]
      · rw [if_neg l2, if_neg (fun z => l2 (h.inj hi (by omega) (by omega)))]
        by_cases l1 : i = (net.getD t (0, 0)).1.toNat
        · rw [if_pos l1, if_pos (by rw [l1]), i2]
        · rw [if_neg l1, if_neg (fun z => l1 (h.inj hi (by omega) (by omega)))]
          exact ih i hi
    · rw [if_neg (fun z => s (sw.mp z)), if_neg s]
      exact ih i hi
theorem spread_swaps {n : Nat} {L : List Int} (h : UpL n L) {net : List Gate} (hk : NetOk L.length net) {w v : List Int} (hw : w.length = n) (hv : v.length = L.length) (e : ∀ i, i < L.length → w.getD (L.getD i 0).toNat 0 = v.getD i 0) {t : Nat} (ht : t < net.length) : swaps w (spreadG L net) t ↔ swaps v net t := by
  have g := gate_at hk ht
  have ih := spread_run h hk hw hv e t (by omega)
  have i1 := ih (net.getD t (0, 0)).1.toNat (by omega)
  have i2 := ih (net.getD t (0, 0)).2.toNat (by omega)
  unfold swaps
  rw [spread_at ht]
  show (keyK w (spreadG L net) t).getD (val L (net.getD t (0, 0)).2).toNat 0 < (keyK w (spreadG L net) t).getD (val L (net.getD t (0, 0)).1).toNat 0 ↔ _
  unfold val
  rw [i1, i2]
theorem lets_nil (row : List Int) : letsN [] row = true := rfl
/-- without told pairs just the same gates live -/
theorem spread_live {n : Nat} {L : List Int} (h : UpL n L) {net : List Gate} (hk : NetOk L.length net) {t : Nat} (ht : t < net.length) : liveB (wordsN n []) (spreadG L net) t = liveB (wordsN L.length []) net t := by
  rw [Bool.eq_iff_iff]
  unfold liveB
  rw [List.any_eq_true, List.any_eq_true]
  constructor
  · rintro ⟨w, hw, hs⟩
    obtain ⟨w1, w2, _⟩ := words_row hw
    have hv : (L.map fun x => w.getD x.toNat 0).length = L.length := List.length_map ..
    have e : ∀ i, i < L.length → w.getD (L.getD i 0).toNat 0 = (L.map fun x => w.getD x.toNat 0).getD i 0 := fun i hi => (mapD (fun x => w.getD x.toNat 0) L hi).symm
    refine ⟨L.map fun x => w.getD x.toNat 0, words_has hv (fun x hx => ?_) (lets_nil _), decide_eq_true ((spread_swaps h hk w1 hv e ht).mp (of_decide_eq_true hs))⟩
    obtain ⟨y, _, rfl⟩ := List.mem_map.mp hx
    exact getD_in2 w2 _
  · rintro ⟨v, hv, hs⟩
    obtain ⟨v1, v2, _⟩ := words_row hv
    have hl : ((List.range n).map fun (p : Nat) => v.getD (L.idxOf (p : Int)) 0).length = n := by rw [List.length_map, List.length_range]
    have e : ∀ i, i < L.length → ((List.range n).map fun (p : Nat) => v.getD (L.idxOf (p : Int)) 0).getD (L.getD i 0).toNat 0 = v.getD i 0 := fun i hi => by
      have a := h.in hi
      rw [List.getD_eq_getElem?_getD, List.getElem?_map, List.getElem?_range (by omega)]
      show v.getD (L.idxOf ((L.getD i 0).toNat : Int)) 0 = _
      rw [Int.toNat_of_nonneg a.1]
      congr 1
      have hm : L.getD i 0 ∈ L := by
        rw [List.getD_eq_getElem?_getD, List.getElem?_eq_getElem hi]
        exact List.getElem_mem hi
      have hx := List.idxOf_lt_length_of_mem hm
      refine h.inj hx hi ?_
      rw [List.getD_eq_getElem?_getD (i := L.idxOf (L.getD i 0)), List.getElem?_eq_getElem hx]
      exact List.getElem_idxOf hx
    refine ⟨_, words_has hl (fun x hx => ?_) (lets_nil _), decide_eq_true ((spread_swaps h hk hl v1 e ht).mpr (of_decide_eq_true hs))⟩
    obtain ⟨y, _, rfl⟩ := List.mem_map.mp hx
    exact getD_in2 v2 _
theorem spread_liveN {n : Nat} {L : List Int} (h : UpL n L) {net : List Gate} (hk : NetOk L.length net) : liveN (wordsN n []) (spreadG L net) = liveN (wordsN L.length []) net := by
  unfold liveN
  rw [spread_len]
  refine List.filter_congr fun t ht => ?_
  exact spread_live h hk (List.mem_range.mp ht)
/-! ### the lines that are drawn -/
def pickL (lo n : Int) (W : Well) (k : Nat) : List Int := sortI ((mixedOf 0 (n - lo).toNat ((List.range (n - lo).toNat).map fun (i : Nat) => lo + (i : Int)) W).1.take k)
def pickW (lo n : Int) (W : Well) : Well := (mixedOf 0 (n - lo).toNat ((List.range (n - lo).toNat).map fun (i : Nat) => lo + (i : Int)) W).2
theorem pickL_ok {lo : Nat} {n : Nat} {W : Well} {k : Nat} (hk : k ≤ n - lo) : (pickL lo n W k).Pairwise (· < ·) ∧ (∀ x ∈ pickL lo n W k, (lo : Int) ≤ x ∧ x < n) ∧ (pickL lo n W k).length = k := by
  have hn : ((n : Int) - (lo : Int)).toNat = n - lo := by omega
  unfold pickL
  rw [hn]
  have src : ((List.range (n - lo)).map fun (i : Nat) => (lo : Int) + (i : Int)).Pairwise (· < ·) := by
    rw [List.pairwise_map]
    exact (List.pairwise_lt_range (n := n - lo)).imp fun {a b} h => by omega
  have pm := mixed_perm 0 (n - lo) ((List.range (n - lo)).map fun (i : Nat) => (lo : Int) + (i : Int)) W (by rw [List.length_map, List.length_range])
  generalize (mixedOf 0 (n - lo) ((List.range (n - lo)).map fun (i : Nat) => (lo : Int) + (i : Int)) W).1 = X at pm ⊢
  have nd : X.Nodup := pm.nodup_iff.mpr (src.imp fun h e => by rw [e] at h; exact Int.lt_irrefl _ h)
  have nd2 : (sortI (X.take k)).Nodup := (sortI_perm _).nodup_iff.mpr (nd.sublist (List.take_sublist k X))
  refine ⟨?_, fun x hx => ?_, ?_⟩
  · refine List.Pairwise.imp₂ (fun a b h1 h2 => Int.lt_iff_le_and_ne.mpr ⟨h1, h2⟩) (sortI_sorted _) nd2
  · have h1 := (sortI_perm _).mem_iff.mp hx
    have h2 := pm.mem_iff.mp (List.mem_of_mem_take h1)
    obtain ⟨i, hi, rfl⟩ := List.mem_map.mp h2
    have := List.mem_range.mp hi
    omega
  · rw [(sortI_perm _).length_eq, List.length_take, pm.length_eq, List.length_map, List.length_range]
    omega
/-- lines, a network on so few, and what is left of the draws -/
theorem pickW_deep {lo n : Int} {W : Well} (h : W.deep.length ≤ 100) : (pickW lo n W).deep.length ≤ 100 := mixed_deep _ _ _ _ h
section
variable {P : Program} {w : World} {K : PySem.W.Frag} {mg : Str → Option Value} {base : Heap}
def LI (L : List Int) : PyData := .list (L.map PyData.int)
def R_spread : FR := fun as ob r ob' => ∃ (L : List Int) (net : List Gate), as = [.dat (LI L), .dat (nD net)] ∧ NetOk L.length net ∧ net.length ≤ 2000 ∧ ob = [] ∧ r = .dat (nD (spreadG L net)) ∧ ob' = []
theorem sc_law_spread : FnScope ["lines", "network", "i", "j"] ["lines", "network"] (defScope s_law_spread) := ⟨rfl, rfl, rfl, by decide +kernel, rfl, by decide +kernel, by decide +kernel⟩
theorem ok_law_spread (D : Df K mg "_law_spread" s_law_spread ["lines", "network"]) (B : Bi mg) : FnG P w K mg base CX0 1 D.f D.fd ["lines", "network"] (spD K 2 R_spread) := by
  refine okG D.F sc_law_spread (fun vs H Q E h => h.1) (fun cdv A outer s H vs Q E hr gd h => ?_)
  have hu := huX hr
  refine ⟨_, (pss_one (ps_ret (pe_callTy cb_tuple (by rfl) B.z_tuple (by decide +kernel) (pa_cons (pe_lc (own := [("i", 2), ("j", 3)]) (tt := tYes) (by rfl) sc_law_spread.nd (pi_tup (pv 1)) (blkOk_by (own := [("i", 2), ("j", 3)]) (N := ["lines", "network", "i", "j"]) (sc := defScope s_law_spread) (by decide +kernel)) (fun _ _ _ _ _ => (pg_tupK K (n := 2) rfl rfl (pgs_cons (pg_name (i := 2) sc_law_spread.nd rfl (Or.inl rfl)) (pgs_cons (pg_name (i := 3) sc_law_spread.nd rfl (Or.inl rfl)) pgs_nil)))) (fun _ _ _ _ _ => pts_nil) (fun _ _ _ _ _ => (pe_tup (pa_cons (pe_ix (ixK K (R := rIx) ix_seq rfl) (pv 0) (pv 2) (fun _ _ => rfl)) (pa_cons (pe_ix (ixK K (R := rIx) ix_seq rfl) (pv 0) (pv 3) (fun _ _ => rfl)) pa_nil))))) pa_nil)))), ?_⟩
  refine body_of h (by decide) fun as ob r ob' hR hl => ?_
  obtain ⟨L, net, rfl, hk, hz, rfl, rfl, rfl⟩ := hR
  refine ts_ret (S1 := ⟨[.dat (LI L), .dat (nD net), .un, .un], []⟩) (ee_cb (ea_cons (x := .dat (.list ((spreadG L net).map gD))) (ee_of_el ?_) ea_nil) (rc_tupL (.dat _))) ⟨rfl, rfl⟩
  unfold spreadG
  rw [List.map_map]
  refine el_lcmA (dA := gD) (lst := net) (S0 := ⟨[.dat (LI L), .dat (nD net), .un, .un], []⟩) (ei_tup (ee_var rfl)) (by omega) fun g hg => ?_
  have q := hk g hg
  exact ⟨_, egc_tup (egcs_cons (egc_name (by decide)) (egcs_cons (egc_name (by decide)) egcs_nil)), rfl, _, ee_tup (ed_cons (ee_op (ee_var rfl) (ee_var rfl) (ro_ixL (.dat _) (at_int (by omega) (by omega)))) (ed_cons (ee_op (ee_var rfl) (ee_var rfl) (ro_ixL (.dat _) (at_int (by omega) (by omega)))) ed_nil)), rfl⟩
theorem pick_map {lo n : Int} {W : Well} : mixedOf (PyData.int 0) (n - lo).toNat (rngD lo (n - lo).toNat) W = ((mixedOf 0 (n - lo).toNat ((List.range (n - lo).toNat).map fun (i : Nat) => lo + (i : Int)) W).1.map PyData.int, pickW lo n W) := by
  have e : rngD lo (n - lo).toNat = ((List.range (n - lo).toNat).map fun (i : Nat) => lo + (i : Int)).map PyData.int := by
    unfold rngD
    rw [List.map_map]
    rfl
  rw [e, mixed_map]
  rfl
theorem mixed_fl {lo : Int} {k : Nat} : ∀ x ∈ rngD lo k, Fl 5 x := fun x hx => by
  obtain ⟨i, _, rfl⟩ := List.mem_map.mp hx
  exact Fl.int
end
end K13

set_option maxRecDepth 100000
set_option maxHeartbeats 4000000
namespace K13
open PySem PySem.Spec PyProof.Rows L2 DL
/-! ### ways by pairs, and numbers that tell them by their bits -/
inductive Pth (ps : List Pr) : Nat → Nat → Prop
  | one {a b : Nat} (h : (a, b) ∈ ps) : Pth ps a b
  | more {a b c : Nat} (h : (a, b) ∈ ps) (t : Pth ps b c) : Pth ps a c
theorem Pth.trans {ps : List Pr} {a b c : Nat} (h : Pth ps a b) (k : Pth ps b c) : Pth ps a c := by
  induction h with
  | one h => exact .more h k
  | more h _ ih => exact .more h (ih k)
theorem Pth.mono {ps qs : List Pr} (m : ∀ x ∈ ps, x ∈ qs) {a b : Nat} (h : Pth ps a b) : Pth qs a b := by
  induction h with
  | one h => exact .one (m _ h)
  | more h _ ih => exact .more (m _ h) ih
theorem Pth.lt {n : Nat} {ps : List Pr} (o : ∀ x ∈ ps, x.1 < x.2 ∧ x.2 < n) {a b : Nat} (h : Pth ps a b) : a < b ∧ b < n := by
  induction h with
  | one h => exact o _ h
  | more h _ ih =>
    have := o _ h
    dsimp only at this
    omega
def stepA (ab : List Nat) (x : Pr) : List Nat := ab.set x.1 (ab.getD x.1 0 ||| (2 ^ x.2 ||| ab.getD x.2 0))
def aboveN (n : Nat) (ps : List Pr) : List Nat := ps.foldr (fun x ab => stepA ab x) (List.replicate n 0)
def bt (n : Nat) (ps : List Pr) (p q : Nat) : Bool := ((aboveN n ps).getD p 0).testBit q
theorem stepA_len (ab : List Nat) (x : Pr) : (stepA ab x).length = ab.length := List.length_set
theorem aboveN_len (n : Nat) : ∀ ps, (aboveN n ps).length = n
  | [] => List.length_replicate
  | x :: ps => by
    show (stepA (aboveN n ps) x).length = n
    rw [stepA_len, aboveN_len n ps]
theorem set_getD {l : List Nat} {i j v : Nat} (h : i < l.length) : (l.set i v).getD j 0 = if i = j then v else l.getD j 0 := by
  rw [List.getD_eq_getElem?_getD, List.getD_eq_getElem?_getD]
  by_cases e : i = j
  · rw [if_pos e, ← e, List.getElem?_set_self h]
    rfl
  · rw [if_neg e, List.getElem?_set_ne e]
theorem Pth.head {x : Pr} {ps : List Pr} (hx : x.1 < x.2) (hu : ∀ y ∈ ps, x.1 ≤ y.1 ∧ y.1 < y.2) {a c : Nat} (h : Pth (x :: ps) a c) : Pth ps a c ∨ (a = x.1 ∧ (c = x.2 ∨ Pth ps x.2 c)) := by
  induction h with
  | one h =>
    rcases List.mem_cons.mp h with h | h
    · subst h
      exact .inr ⟨rfl, .inl rfl⟩
    · exact .inl (.one h)
  | @more a b c h t ih =>
    rcases List.mem_cons.mp h with h | h
    · subst h
      rcases ih with ih | ⟨ih, _⟩
      · exact .inr ⟨rfl, .inr ih⟩
      · dsimp only at ih hx
        omega
    · have := hu _ h
      dsimp only at this
      rcases ih with ih | ⟨ih, _⟩
      · exact .inl (.more h ih)
      · omega
theorem bt_pth {n : Nat} : ∀ {ps : List Pr}, Ord n ps → ∀ {p q : Nat}, p < n → (bt n ps p q = true ↔ Pth ps p q)
  | [], _, p, q, hp => by
    unfold bt aboveN
    rw [List.foldr_nil, List.getD_eq_getElem?_getD, List.getElem?_replicate, if_pos hp]
    show (0 : Nat).testBit q = true ↔ _
    rw [Nat.zero_testBit]
    refine ⟨fun h => (by cases h), fun h => ?_⟩
    cases h with
    | one h => cases h
    | more h _ => cases h
  | x :: ps, o, p, q, hp => by
    have hx := o.ok x List.mem_cons_self
    have hu : ∀ y ∈ ps, x.1 ≤ y.1 ∧ y.1 < y.2 := fun y hy => by
      have h1 := List.rel_of_pairwise_cons o.up hy
      have h2 := (o.ok y (List.mem_cons_of_mem _ hy)).1
      unfold Lx at h1
      omega
    have ih : ∀ {p q : Nat}, p < n → (bt n ps p q = true ↔ Pth ps p q) := fun h => bt_pth o.tail h
    have e : bt n (x :: ps) p q = if x.1 = p then (bt n ps x.1 q || (decide (x.2 = q) || bt n ps x.2 q)) else bt n ps p q := by
      unfold bt
      show ((stepA (aboveN n ps) x).getD p 0).testBit q = _
      unfold stepA
      rw [set_getD (by rw [aboveN_len]; omega)]
      split
      · rw [Nat.testBit_or, Nat.testBit_or, Nat.testBit_two_pow]
      · rfl
    rw [e]
    constructor
    · intro h
      split at h
      · rename_i hpx
        subst hpx
        rw [Bool.or_eq_true, Bool.or_eq_true, ih (by omega), ih (by omega)] at h
        rcases h with h | h | h
        · exact h.mono fun _ m => List.mem_cons_of_mem _ m
        · rw [← of_decide_eq_true h]
          exact .one List.mem_cons_self
        · exact .more (b := x.2) List.mem_cons_self (h.mono fun _ m => List.mem_cons_of_mem _ m)
      · rw [ih hp] at h
        exact h.mono fun _ m => List.mem_cons_of_mem _ m
    · intro h
      rcases h.head hx.1 hu with h | ⟨rfl, hh⟩
      · split
        · rename_i hpx
          subst hpx
          rw [(ih (by omega)).mpr h]
          rfl
        · exact (ih hp).mpr h
      · rw [if_pos rfl, Bool.or_eq_true, Bool.or_eq_true]
        rcases hh with hh | hh
        · exact .inr (.inl (decide_eq_true hh.symm))
        · exact .inr (.inr ((ih hx.2).mpr hh))
/-- all pairs that a test takes -/
def prs (n : Nat) (B : Nat → Nat → Bool) : List Pr := (List.range n).flatMap fun p => ((List.range n).filter (B p)).map fun q => (p, q)
theorem prs_mem {n : Nat} {B : Nat → Nat → Bool} {a b : Nat} : (a, b) ∈ prs n B ↔ a < n ∧ b < n ∧ B a b = true := by
  unfold prs
  constructor
  · intro h
    obtain ⟨p, hp, h⟩ := List.mem_flatMap.mp h
    obtain ⟨q, hq, h⟩ := List.mem_map.mp h
    obtain ⟨h1, h2⟩ := List.mem_filter.mp hq
    obtain ⟨rfl, rfl⟩ := Prod.mk.inj h
    exact ⟨List.mem_range.mp hp, List.mem_range.mp h1, h2⟩
  · rintro ⟨h1, h2, h3⟩
    exact List.mem_flatMap.mpr ⟨a, List.mem_range.mpr h1, List.mem_map.mpr ⟨b, List.mem_filter.mpr ⟨List.mem_range.mpr h2, h3⟩, rfl⟩⟩
theorem prs_congr {n : Nat} {B C : Nat → Nat → Bool} (h : ∀ a b, a < n → b < n → B a b = C a b) : prs n B = prs n C := by
  unfold prs
  have e : ∀ l : List Nat, (∀ p ∈ l, p < n) → (l.flatMap fun p => ((List.range n).filter (B p)).map fun q => (p, q)) = l.flatMap fun p => ((List.range n).filter (C p)).map fun q => (p, q) := fun l => by
    induction l with
    | nil => intro _; rfl
    | cons a l ih =>
      intro hl
      rw [List.flatMap_cons, List.flatMap_cons, ih fun p hp => hl p (List.mem_cons_of_mem _ hp)]
      rw [List.filter_congr fun q hq => h a q (hl a List.mem_cons_self) (List.mem_range.mp hq)]
  exact e _ fun p hp => List.mem_range.mp hp
theorem flat_up {α : Type} {R : α → α → Prop} {f : Nat → List α} (h1 : ∀ a, (f a).Pairwise R) (h2 : ∀ a b x y, a < b → x ∈ f a → y ∈ f b → R x y) : ∀ k, ((List.range k).flatMap f).Pairwise R
  | 0 => .nil
  | k + 1 => by
    rw [List.range_succ, List.flatMap_append, List.flatMap_singleton, List.pairwise_append]
    refine ⟨flat_up h1 h2 k, h1 k, fun a ha b hb => ?_⟩
    obtain ⟨p, hp, ha⟩ := List.mem_flatMap.mp ha
    exact h2 p k a b (List.mem_range.mp hp) ha hb
theorem prs_ord {n : Nat} {B : Nat → Nat → Bool} (h : ∀ a b, a < n → B a b = true → a < b) : Ord n (prs n B) := by
  refine ⟨flat_up (fun p => ?_) (fun a b x y hab hx hy => ?_) n, fun x hx => ?_⟩
  · rw [List.pairwise_map]
    exact List.Pairwise.imp (fun h => .inr ⟨rfl, h⟩) (List.Pairwise.filter _ List.pairwise_lt_range)
  · obtain ⟨q, _, rfl⟩ := List.mem_map.mp hx
    obtain ⟨q, _, rfl⟩ := List.mem_map.mp hy
    exact .inl hab
  · obtain ⟨a, b⟩ := x
    obtain ⟨h1, h2, h3⟩ := prs_mem.mp hx
    exact ⟨h a b h1 h3, h2⟩
theorem prs_len (n : Nat) (B : Nat → Nat → Bool) : (prs n B).length ≤ n * n := by
  unfold prs
  have e : ∀ l : List Nat, (l.flatMap fun p => ((List.range n).filter (B p)).map fun q => (p, q)).length ≤ l.length * n := fun l => by
    induction l with
    | nil => exact Nat.zero_le _
    | cons a l ih =>
      rw [List.flatMap_cons, List.length_append, List.length_map, List.length_cons, Nat.succ_mul]
      have := List.length_filter_le (B a) (List.range n)
      rw [List.length_range] at this
      omega
  have := e (List.range n)
  rw [List.length_range] at this
  exact this
/-- whether a third place parts p and q -/
def parts (n : Nat) (ps : List Pr) (p q : Nat) : Bool := (List.range n).any fun r => bt n ps p r && bt n ps r q
def cloN (n : Nat) (ps : List Pr) : List Pr := prs n (bt n ps)
def lstN (n : Nat) (ps : List Pr) : List Pr := prs n fun p q => bt n ps p q && !parts n ps p q
theorem bt_lt {n : Nat} {ps : List Pr} (o : Ord n ps) {p q : Nat} (hp : p < n) (h : bt n ps p q = true) : p < q ∧ q < n := ((bt_pth o hp).mp h).lt o.ok
theorem cloN_ord {n : Nat} {ps : List Pr} (o : Ord n ps) : Ord n (cloN n ps) := prs_ord fun _ _ h1 h2 => (bt_lt o h1 h2).1
theorem lstN_ord {n : Nat} {ps : List Pr} (o : Ord n ps) : Ord n (lstN n ps) := prs_ord fun _ _ h1 h2 => (bt_lt o h1 (Bool.and_eq_true_iff.mp h2).1).1
theorem parts_iff {n : Nat} {ps : List Pr} (o : Ord n ps) {p q : Nat} (hp : p < n) : parts n ps p q = true ↔ ∃ r, Pth ps p r ∧ Pth ps r q := by
  unfold parts
  rw [List.any_eq_true]
  constructor
  · rintro ⟨r, hr, h⟩
    obtain ⟨h1, h2⟩ := Bool.and_eq_true_iff.mp h
    exact ⟨r, (bt_pth o hp).mp h1, (bt_pth o (List.mem_range.mp hr)).mp h2⟩
  · rintro ⟨r, h1, h2⟩
    have := (h1.lt o.ok).2
    exact ⟨r, List.mem_range.mpr this, Bool.and_eq_true_iff.mpr ⟨(bt_pth o hp).mpr h1, (bt_pth o this).mpr h2⟩⟩
theorem clo_mem {n : Nat} {ps : List Pr} (o : Ord n ps) {a b : Nat} : (a, b) ∈ cloN n ps ↔ Pth ps a b := by
  unfold cloN
  rw [prs_mem]
  constructor
  · rintro ⟨h1, h2, h3⟩
    exact (bt_pth o h1).mp h3
  · intro h
    have := h.lt o.ok
    exact ⟨by omega, this.2, (bt_pth o (by omega)).mpr h⟩
theorem lst_mem {n : Nat} {ps : List Pr} (o : Ord n ps) {a b : Nat} : (a, b) ∈ lstN n ps ↔ Pth ps a b ∧ ¬ ∃ r, Pth ps a r ∧ Pth ps r b := by
  unfold lstN
  rw [prs_mem]
  constructor
  · rintro ⟨h1, h2, h3⟩
    obtain ⟨h4, h5⟩ := Bool.and_eq_true_iff.mp h3
    refine ⟨(bt_pth o h1).mp h4, fun h => ?_⟩
    rw [(parts_iff o h1).mpr h] at h5
    cases h5
  · rintro ⟨h, hn⟩
    have := h.lt o.ok
    refine ⟨by omega, this.2, Bool.and_eq_true_iff.mpr ⟨(bt_pth o (by omega)).mpr h, ?_⟩⟩
    cases e : parts n ps a b with
    | false => rfl
    | true => exact absurd ((parts_iff o (by omega)).mp e) hn
theorem clo_pth {n : Nat} {ps : List Pr} (o : Ord n ps) {a b : Nat} : Pth (cloN n ps) a b ↔ Pth ps a b := by
  constructor
  · intro h
    induction h with
    | one h => exact (clo_mem o).mp h
    | more h _ ih => exact ((clo_mem o).mp h).trans ih
  · intro h
    exact .one ((clo_mem o).mpr h)
theorem lst_pth {n : Nat} {ps : List Pr} (o : Ord n ps) {a b : Nat} : Pth (lstN n ps) a b ↔ Pth ps a b := by
  constructor
  · intro h
    induction h with
    | one h => exact ((lst_mem o).mp h).1
    | more h _ ih => exact ((lst_mem o).mp h).1.trans ih
  · have key : ∀ k a b, b - a ≤ k → Pth ps a b → Pth (lstN n ps) a b := fun k => by
      induction k with
      | zero =>
        intro a b hk h
        have := h.lt o.ok
        omega
      | succ k ih =>
        intro a b hk h
        by_cases e : ∃ r, Pth ps a r ∧ Pth ps r b
        · obtain ⟨r, h1, h2⟩ := e
          have l1 := h1.lt o.ok
          have l2 := h2.lt o.ok
          exact (ih a r (by omega) h1).trans (ih r b (by omega) h2)
        · exact .one ((lst_mem o).mpr ⟨h, e⟩)
    exact key _ a b (Nat.le_refl _)
theorem bt_same {n : Nat} {ps qs : List Pr} (o1 : Ord n ps) (o2 : Ord n qs) (h : ∀ a b, Pth ps a b ↔ Pth qs a b) {a b : Nat} (ha : a < n) : bt n ps a b = bt n qs a b := by
  rw [Bool.eq_iff_iff, bt_pth o1 ha, bt_pth o2 ha]
  exact h a b
theorem clo_same {n : Nat} {ps qs : List Pr} (o1 : Ord n ps) (o2 : Ord n qs) (h : ∀ a b, Pth ps a b ↔ Pth qs a b) : cloN n ps = cloN n qs := prs_congr fun a b ha _ => bt_same o1 o2 h ha
theorem parts_same {n : Nat} {ps qs : List Pr} (o1 : Ord n ps) (o2 : Ord n qs) (h : ∀ a b, Pth ps a b ↔ Pth qs a b) {a b : Nat} (ha : a < n) : parts n ps a b = parts n qs a b := by
  rw [Bool.eq_iff_iff, parts_iff o1 ha, parts_iff o2 ha]
  exact exists_congr fun r => and_congr (h a r) (h r b)
theorem lst_same {n : Nat} {ps qs : List Pr} (o1 : Ord n ps) (o2 : Ord n qs) (h : ∀ a b, Pth ps a b ↔ Pth qs a b) : lstN n ps = lstN n qs := prs_congr fun a b ha _ => by rw [bt_same o1 o2 h ha, parts_same o1 o2 h ha]
end K13

set_option maxRecDepth 100000
set_option maxHeartbeats 4000000
namespace K13
open PySem PySem.Spec PyProof.Rows L2 DL
/-! ### closed and least_order of the program -/
theorem ixN_nat {n i : Nat} (h : i < n) : ixN n (i : Int) = some i := by
  unfold ixN
  rw [if_pos (by omega), if_pos (by omega)]
  rfl
theorem zD_get5 {L : List Nat} {i : Nat} (h : i < L.length) : (L.map zD)[i]? = some (.int ((L.getD i 0 : Nat) : Int)) := by
  rw [List.getElem?_map, List.getElem?_eq_getElem h, List.getD_eq_getElem?_getD, List.getElem?_eq_getElem h]
  rfl
theorem zD_at5 {L : List Nat} {i : Nat} (h : i < L.length) : atI (L.map zD) (i : Int) = some (.int ((L.getD i 0 : Nat) : Int)) := atI_nat (zD_get5 h)
theorem pow_ok {b : Nat} (h : b ≤ 100) : CPow 1 (b : Int) := ⟨by omega, by omega, by omega⟩
theorem repD_zD (n : Nat) : repD ((n : Int)).toNat [.int 0] = (List.replicate n 0).map zD := by
  rw [Int.toNat_natCast]
  induction n with
  | zero => rfl
  | succ n ih =>
    rw [repD_succ, ih]
    rfl
section
variable {P : Program} {w : World} {K : PySem.W.Frag} {mg : Str → Option Value} {base : Heap}
def R_above : FR := fun as ob r ob' => ∃ (n : Nat) (ps : List Pr), as = [.dat (.int (n : Int)), .dat (.tuple (ps.map pD))] ∧ n ≤ 100 ∧ ps.length ≤ 10000 ∧ (∀ x ∈ ps, x.1 < x.2 ∧ x.2 < n) ∧ ob = [] ∧ r = .dat (.list ((aboveN n ps).map zD)) ∧ ob' = []
theorem above_fold (n : Nat) (ps : List Pr) : aboveN n ps = ps.reverse.foldl stepA (List.replicate n 0) := by
  unfold aboveN
  rw [List.foldl_reverse]
theorem fold_len (n : Nat) : ∀ (ps : List Pr) (ab : List Nat), (ps.foldl stepA ab).length = ab.length
  | [], _ => rfl
  | x :: ps, ab => by
    rw [List.foldl_cons, fold_len n ps, stepA_len]
theorem sc_places_above : FnScope ["n", "order", "above", "p", "q"] ["n", "order"] (defScope s_places_above) := ⟨rfl, rfl, rfl, by decide +kernel, rfl, by decide +kernel, by decide +kernel⟩
theorem ok_places_above (D : Df K mg "_places_above" s_places_above ["n", "order"]) (B : Bi mg) : FnG P w K mg base CX0 1 D.f D.fd ["n", "order"] (spD K 2 R_above) := by
  refine okG D.F sc_places_above (fun vs H Q E h => h.1) (fun cdv A outer s H vs Q E hr gd h => ?_)
  have hu := huX hr
  refine ⟨_, (pss_cons (ps_set (i := 2) sc_places_above.nd rfl (Or.inl rfl) (pe_op op_mulU (pe_lst (pa_cons pe_int pa_nil)) (pv 0)))
      (pss_cons (ps_for PassesOwn.never rfl (pi_tup (pe_revT (pv 1))) (pg_tup rfl (pgs_cons (pg_name (i := 3) sc_places_above.nd rfl (Or.inl rfl)) (pgs_cons (pg_name (i := 4) sc_places_above.nd rfl (Or.inl rfl)) pgs_nil)))
        (pss_one (ps_asg (pe_op op_or (pe_op op_or (pe_ix ix_seq (pv 2) (pv 3) (fun _ _ => rfl)) (pe_op op_shl pe_int (pv 4))) (pe_ix ix_seq (pv 2) (pv 4) (fun _ _ => rfl))) (pg_sub (pv 2) (pv 3) set_list))))
      (pss_one (ps_ret (pv 2))))), ?_⟩
  refine body_ofG h (by decide) (fun as ob r ob' hR => ?_) fun as ob r ob' hR hl => ?_
  · obtain ⟨n, ps, rfl, _, _, _, rfl, rfl, rfl⟩ := hR
    exact ⟨Nat.le_refl _, fun _ z => by cases z⟩
  obtain ⟨n, ps, rfl, hn, hz, hok, rfl, rfl, rfl⟩ := hR
  refine ts_seq (ts_asg (eo_of_el (S1 := ⟨[.dat (.int (n : Int)), .dat (.tuple (ps.map pD)), .un, .un, .un], []⟩) (ds := (List.replicate n 0).map zD) ?_) ?_)
  · rw [← repD_zD]
    exact el_op (ee_of_el (el_lst (ed_cons ee_int ed_nil))) (ee_var rfl) (rol_rep (.dat _) (by omega) (by rw [Int.toNat_natCast]; show 1 * n ≤ 1000000; omega) (by omega))
  refine ts_seq (ts_for (ds := (ps.reverse).map pD) (S0 := ⟨[.dat (.int (n : Int)), .dat (.tuple (ps.map pD)), .own 0, .un, .un], [.lst ((List.replicate n 0).map zD)]⟩) ?_ (fun i S => ∃ a b, S = ⟨[.dat (.int (n : Int)), .dat (.tuple (ps.map pD)), .own 0, a, b], [.lst (((ps.reverse.take i).foldl stepA (List.replicate n 0)).map zD)]⟩) ⟨.un, .un, rfl⟩ ?_ ?_)
  · rw [List.map_reverse]
    first | exact ei_tup (ee_revT (ee_var rfl)) | exact ei_back (ee_var rfl)
  · rintro i d S' hd ⟨a, b, rfl⟩
    obtain ⟨x, hx, rfl⟩ := pD_at hd
    have hxm := hok x (List.mem_reverse.mp (List.mem_of_getElem? hx))
    have hlen : ((ps.reverse.take i).foldl stepA (List.replicate n 0)).length = n := by
      rw [fold_len n, List.length_replicate]
    rw [take_snoc hx, List.foldl_append]
    generalize (ps.reverse.take i).foldl stepA (List.replicate n 0) = L at hlen
    refine ⟨_, eg_tup (egs_cons eg_name (egs_cons eg_name egs_nil)), ts_asgG (d := .int ((L.getD x.1 0 ||| 2 ^ x.2 ||| L.getD x.2 0 : Nat) : Int)) (S1 := ⟨[.dat (.int (n : Int)), .dat (.tuple (ps.map pD)), .own 0, .dat (.int (x.1 : Int)), .dat (.int (x.2 : Int))], [.lst (L.map zD)]⟩) (ee_op (ee_op (ee_op (ee_var rfl) (ee_var rfl) (ro_ixL (.own rfl) (zD_at5 (by omega)))) (ee_op ee_int (ee_var rfl) (ro_shl1 (pow_ok (by omega)))) ro_bor) (ee_op (ee_var rfl) (ee_var rfl) (ro_ixL (.own rfl) (zD_at5 (by omega)))) ro_bor) (egh_sub (k := 0) (ds := L.map zD) (n := x.1) (ee_var rfl) (ee_var rfl) rfl ?_) ⟨.dat (.int (x.1 : Int)), .dat (.int (x.2 : Int)), ?_⟩⟩
    · rw [List.length_map]
      exact ixN_nat (by omega)
    · show (⟨_, [.lst ((L.map zD).set x.1 (.int ((L.getD x.1 0 ||| 2 ^ x.2 ||| L.getD x.2 0 : Nat) : Int)))]⟩ : SS) = _
      rw [Nat.or_assoc, show (PyData.int ((L.getD x.1 0 ||| (2 ^ x.2 ||| L.getD x.2 0) : Nat) : Int)) = zD (L.getD x.1 0 ||| (2 ^ x.2 ||| L.getD x.2 0)) from rfl, ← List.map_set]
      rfl
  · rintro S' ⟨a, b, rfl⟩
    rw [List.length_map, List.take_length, ← above_fold]
    exact ts_ret (ee_frz (ee_var rfl) rfl) ⟨rfl, List.nil_prefix⟩
/-! ### pairs by bits -/
def R_prs : FR := fun as ob r ob' => ∃ L : List Nat, as = [.dat (.list (L.map zD))] ∧ L.length ≤ 100 ∧ ob = [] ∧ r = .dat (.tuple ((prs L.length fun p q => (L.getD p 0).testBit q).map pD)) ∧ ob' = []
theorem outL_prs {n : Nat} {B : Nat → Nat → Bool} {p : PyData → PyData → Bool} (h : ∀ a b, a < n → b < n → p (zD a) (zD b) = B a b) : outL (fun _ => rngD 0 n) p (fun d e => .tuple [d, e]) (rngD 0 n) = (prs n B).map pD := by
  unfold outL prs
  rw [rngD_nD]
  have e : ∀ l : List Nat, (∀ a ∈ l, a < n) → ((l.map zD).flatMap fun d => (((List.range n).map zD).filter (p d)).map fun e => PyData.tuple [d, e]) = (l.flatMap fun a => ((List.range n).filter (B a)).map fun q => (a, q)).map pD := fun l => by
    induction l with
    | nil => intro _; rfl
    | cons a l ih =>
      intro hl
      rw [List.map_cons, List.flatMap_cons, List.flatMap_cons, List.map_append, ih fun x hx => hl x (List.mem_cons_of_mem _ hx)]
      rw [List.filter_map, List.filter_congr (p := p (zD a) ∘ zD) (q := B a) fun q hq => h a q (hl a List.mem_cons_self) (List.mem_range.mp hq), List.map_map, List.map_map]
      rfl
  exact e _ fun a ha => List.mem_range.mp ha
def tI (d : PyData) : Nat := (toI d).toNat
theorem tI_zD (a : Nat) : tI (zD a) = a := Int.toNat_natCast a
theorem sc_pairs : FnScope ["above", "places", "p", "q"] ["above"] (defScope s_pairs) := ⟨rfl, rfl, rfl, by decide +kernel, rfl, by decide +kernel, by decide +kernel⟩
theorem ok_pairs (D : Df K mg "_pairs" s_pairs ["above"]) (B : Bi mg) : FnG P w K mg base CX0 1 D.f D.fd ["above"] (spD K 1 R_prs) := by
  refine okG D.F sc_pairs (fun vs H Q E h => h.1) (fun cdv A outer s H vs Q E hr gd h => ?_)
  have hu := huX hr
  refine ⟨_, (pss_cons (ps_set (i := 1) sc_pairs.nd rfl (Or.inr rfl) (pe_callTy cr_range1 (by rfl) B.z_range (by decide +kernel) (pa_cons (pe_callB cb_len (by rfl) B.z_len PySem.boot_len (pa_cons (pv 0) pa_nil)) pa_nil)))
      (pss_one (ps_ret (pe_callTy cb_tuple (by rfl) B.z_tuple (by decide +kernel) (pa_cons (pe_lc2 (own := [("p", 2), ("q", 3)]) (vs1 := [3]) (tt := tYes) (by rfl) sc_pairs.nd (pi_rngV (pv 1)) (blkOk_by (own := [("p", 2), ("q", 3)]) (N := ["above", "places", "p", "q"]) (sc := defScope s_pairs) (by decide +kernel)) (by decide) (fun _ _ _ _ _ => (pg_name (i := 2) sc_pairs.nd rfl (Or.inl rfl))) (fun _ _ _ _ _ => pts_nil) (fun _ _ _ _ _ => (pi_rngV (pv 1))) (fun _ _ _ _ _ => (pg_name (i := 3) sc_pairs.nd rfl (Or.inl rfl))) (fun _ _ _ _ _ => (pts_one (pt_truK K rfl (pe_op op_and (pe_op op_shr (pe_ix (ixK K (R := rIx) ix_seq rfl) (pv 0) (pv 2) (fun _ _ => rfl)) (pv 3)) pe_int)))) (fun _ _ _ _ _ => (pe_tup (pa_cons (pv 2) (pa_cons (pv 3) pa_nil))))) pa_nil))))), ?_⟩
  refine body_of h (by decide) fun as ob r ob' hR hl => ?_
  obtain ⟨L, rfl, hn, rfl, rfl, rfl⟩ := hR
  refine ts_seq (ts_asg (ee_cb (ea_cons (ee_cb (ea_cons (ee_var rfl) ea_nil) (rc_lenL (.dat _))) ea_nil) rc_rng1) ?_)
  rw [List.length_map]
  refine ts_ret (S1 := ⟨[.dat (.list (L.map zD)), .rng 0 (L.length : Int), .un, .un], []⟩) (ee_cb (ea_cons (ee_of_el ?_) ea_nil) (rc_tupL (.dat _))) ⟨rfl, rfl⟩
  rw [← outL_prs (p := fun d e => (L.getD (tI d) 0).testBit (tI e)) fun a b ha hb => by rw [tI_zD, tI_zD]]
  refine el_lc2 (S0 := ⟨[.dat (.list (L.map zD)), .rng 0 (L.length : Int), .un, .un], []⟩) (ds := rngD 0 L.length) (fun _ => rngD 0 L.length) _ _ (ei_rngV (lo := 0) (hi := (L.length : Int)) (ee_var rfl) (by omega)) ?_ fun i d hd => ?_
  · rw [outL_prs (B := fun p q => (L.getD p 0).testBit q) fun a b ha hb => by rw [tI_zD, tI_zD], List.length_map]
    have h1 := prs_len L.length fun p q => (L.getD p 0).testBit q
    have h2 : L.length * L.length ≤ 100 * 100 := Nat.mul_le_mul hn hn
    omega
  · rw [rngD_nD] at hd
    obtain ⟨a, ha, rfl⟩ := map_at hd
    have ha' := List.mem_range.mp (List.mem_of_getElem? ha)
    refine ⟨_, egc_name (by decide), rfl, ei_rngV (lo := 0) (hi := (L.length : Int)) (ee_var rfl) (by omega), fun j e he => ?_⟩
    rw [rngD_nD] at he
    obtain ⟨b, hb, rfl⟩ := map_at he
    have hb' := List.mem_range.mp (List.mem_of_getElem? hb)
    refine ⟨_, _, egc_name (by decide), et_eq (et_truI (ee_op (ee_op (ee_op (ee_var rfl) (ee_var rfl) (ro_ixL (.dat _) (zD_at5 ha'))) (ee_var rfl) ro_shr) ee_int (ro_band (b := 1)))) ?_, rfl, fun _ => ⟨_, ee_tup (ed_cons (ee_var rfl) (ed_cons (ee_var rfl) ed_nil)), rfl⟩⟩
    show ((((L.getD a 0) >>> b &&& 1 : Nat) : Int) != 0) = _
    rw [bit_of, tI_zD, tI_zD]
def R_closed : FR := fun as ob r ob' => ∃ (n : Nat) (ps : List Pr), as = [.dat (.int (n : Int)), .dat (.tuple (ps.map pD))] ∧ n ≤ 100 ∧ ps.length ≤ 10000 ∧ (∀ x ∈ ps, x.1 < x.2 ∧ x.2 < n) ∧ ob = [] ∧ r = .dat (.tuple ((cloN n ps).map pD)) ∧ ob' = []
theorem scclosed : FnScope ["n", "order"] ["n", "order"] (defScope sclosed) := ⟨rfl, rfl, rfl, by decide +kernel, rfl, by decide +kernel, by decide +kernel⟩
theorem okclosed (D : Df K mg "closed" sclosed ["n", "order"]) (B : Bi mg) (D_places_above : Df K mg "_places_above" s_places_above ["n", "order"]) (D_pairs : Df K mg "_pairs" s_pairs ["above"]) : FnG P w K mg base CX0 2 D.f D.fd ["n", "order"] (spD K 2 R_closed) := by
  have ok_places_above : FnG P w K mg base CX0 1 _ _ _ _ := ok_places_above D_places_above B
  have ok_pairs : FnG P w K mg base CX0 1 _ _ _ _ := ok_pairs D_pairs B
  refine okG D.F scclosed (fun vs H Q E h => h.1) (fun cdv A outer s H vs Q E hr gd h => ?_)
  have hu := huX hr
  refine ⟨_, (pss_one (ps_ret (pe_callG (ok_pairs) (hr.mono (by decide)) gd (by rfl) D_pairs.m D_pairs.F.kp D_pairs.b .nil pass0 (pa_cons (pe_callG (ok_places_above) (hr.mono (by decide)) gd (by rfl) D_places_above.m D_places_above.F.kp D_places_above.b .nil pass0 (pa_cons (pv 0) (pa_cons (pv 1) pa_nil))) pa_nil)))), ?_⟩
  refine body_of h (by decide) fun as ob r ob' hR hl => ?_
  obtain ⟨n, ps, rfl, hn, hz, hok, rfl, rfl, rfl⟩ := hR
  have ho := aboveN_len n ps
  refine ts_ret (ee_callD (ed_cons (ee_callD (ed_cons (ee_var rfl) (ed_cons (ee_var rfl) ed_nil)) rfl ⟨n, ps, rfl, hn, hz, hok, rfl, rfl, rfl⟩) ed_nil) rfl ⟨aboveN n ps, rfl, by omega, rfl, ?_, rfl⟩) ⟨rfl, rfl⟩
  rw [ho]
  rfl
end
end K13

set_option maxRecDepth 100000
set_option maxHeartbeats 4000000
namespace K13
open PySem PySem.Spec PyProof.Rows L2 DL
/-! ### what is sure of no gate -/
theorem lets_pth {ps : List Pr} {row : List Int} : letsN ps row = true ↔ ∀ a b, Pth ps a b → row.getD a 0 ≤ row.getD b 0 := by
  rw [lets_iff]
  constructor
  · intro h a b p
    induction p with
    | one hx => exact h _ hx
    | more hx _ ih => exact Int.le_trans (h _ hx) ih
  · intro h x hx
    exact h _ _ (.one hx)
theorem sure_pth {n : Nat} {ps : List Pr} (o : Ord n ps) {p q : Nat} (hpq : p < q) (hq : q < n) : (∀ w ∈ wordsN n ps, letN w (p, q) = true) ↔ Pth ps p q := by
  constructor
  · intro h
    refine Classical.byContradiction fun no => ?_
    have at_ : ∀ u, u < n → ((List.range n).map fun (u : Nat) => if (decide (u = p) || bt n ps p u) = true then (1 : Int) else 0).getD u 0 = if (decide (u = p) || bt n ps p u) = true then 1 else 0 := fun u hu => by
      rw [List.getD_eq_getElem?_getD, List.getElem?_map, List.getElem?_range hu]
      rfl
    have hw : ((List.range n).map fun (u : Nat) => if (decide (u = p) || bt n ps p u) = true then (1 : Int) else 0) ∈ wordsN n ps := by
      refine words_has (by rw [List.length_map, List.length_range]) (fun x hx => ?_) (lets_iff.mpr fun x hx => ?_)
      · obtain ⟨u, _, rfl⟩ := List.mem_map.mp hx
        split <;> decide
      · have ok := o.ok x hx
        rw [at_ _ (by omega), at_ _ ok.2]
        by_cases a : (decide (x.1 = p) || bt n ps p x.1) = true
        · rw [if_pos a, if_pos]
          · exact Int.le_refl _
          rw [Bool.or_eq_true, decide_eq_true_iff] at a ⊢
          right
          rcases a with a | a
          · exact (bt_pth o (by omega)).mpr (.one (by rw [← a]; exact hx))
          · exact (bt_pth o (by omega)).mpr (Pth.trans ((bt_pth o (by omega)).mp a) (.one hx))
        · rw [if_neg a]
          split <;> decide
    have := of_decide_eq_true (h _ hw)
    rw [at_ p (by omega), at_ q hq, if_pos (by rw [decide_eq_true rfl]; rfl), if_neg] at this
    · omega
    · rw [Bool.or_eq_true, decide_eq_true_iff]
      rintro (z | z)
      · omega
      · exact no ((bt_pth o (by omega)).mp z)
  · intro h w hw
    exact decide_eq_true (lets_pth.mp (words_row hw).2.2 p q h)
end K13

set_option maxRecDepth 100000
set_option maxHeartbeats 4000000
namespace K13
open PySem PySem.Spec PyProof.Rows L2 DL
/-! ### pairs on which no row comes out falling -/
def upB (net : List Gate) (rows : List (List Int)) (i j : Nat) : Bool := rows.all fun row => decide ((runO row net).getD i 0 ≤ (runO row net).getD j 0)
def dueN (n : Nat) (net : List Gate) (rows : List (List Int)) : List Pr := (List.range n).flatMap fun i => ((upTo n i).filter (upB net rows i)).map fun j => (i, j)
theorem upB_iff {net : List Gate} {rows : List (List Int)} {i j : Nat} : upB net rows i j = true ↔ ∀ row ∈ rows, (runO row net).getD i 0 ≤ (runO row net).getD j 0 := by
  unfold upB
  rw [List.all_eq_true]
  exact ⟨fun h w hw => of_decide_eq_true (h w hw), fun h w hw => decide_eq_true (h w hw)⟩
theorem flat_congrP {n : Nat} {B C : Nat → Nat → Bool} (h : ∀ i j, i < j → j < n → B i j = C i j) : ((List.range n).flatMap fun i => ((upTo n i).filter (B i)).map fun j => (i, j)) = (List.range n).flatMap fun i => ((upTo n i).filter (C i)).map fun j => (i, j) := by
  have hf : ∀ i, (upTo n i).filter (B i) = (upTo n i).filter (C i) := fun i => List.filter_congr fun j hj => by
    have := upTo_mem.mp hj
    exact h i j this.1 this.2
  congr 1
  funext i
  rw [hf i]
theorem due_words {n : Nat} {ps : List Pr} {net : List Gate} (h : NetOk n net) : dueN n net (wordsN n ps) = sureN n ps net :=
  flat_congrP fun i j hij hj => by
    rw [Bool.eq_iff_iff, upB_iff, sureB_iff h (by omega) hj]
theorem due_rows {n : Nat} {ps : List Pr} (hp : PrOk n ps) {net : List Gate} (h : NetOk n net) {rows : List (List Int)} (R : RowsOf n ps rows) : dueN n net rows = sureN n ps net := by
  rw [← due_words h]
  refine flat_congrP fun i j hij hj => ?_
  rw [Bool.eq_iff_iff, upB_iff, upB_iff]
  constructor
  · intro hr w hw
    exact hr w (R.word w hw)
  · intro hw row hrow
    obtain ⟨r1, r2⟩ := R.row row hrow
    have kr : NetOk row.length net := by rw [r1]; exact h
    have c := hw _ (cut_let hp r1 r2 ((runO row net).getD j 0))
    have ol : (runO row net).length = n := by
      unfold runO
      rw [List.length_map, runP_len, r1]
    rw [cut_out kr] at c
    unfold cutI at c
    rw [mapD _ _ (by omega), mapD _ _ (by omega)] at c
    by_cases hlt : (runO row net).getD j 0 < (runO row net).getD i 0
    · unfold cutB at c
      rw [if_pos hlt, if_neg (Int.lt_irrefl _)] at c
      exact absurd c (by decide)
    · omega
theorem ord_ext : ∀ {a b : List Pr}, a.Pairwise Lx → b.Pairwise Lx → (∀ x, x ∈ a ↔ x ∈ b) → a = b
  | [], [], _, _, _ => rfl
  | [], y :: b, _, _, h => by cases (h y).mpr List.mem_cons_self
  | x :: a, [], _, _, h => by cases (h x).mp List.mem_cons_self
  | x :: a, y :: b, ha, hb, h => by
    obtain ⟨a1, a2⟩ := List.pairwise_cons.mp ha
    obtain ⟨b1, b2⟩ := List.pairwise_cons.mp hb
    have irr : ∀ u v : Pr, Lx u v → Lx v u → False := fun u v h1 h2 => by
      unfold Lx at h1 h2
      omega
    have ir2 : ∀ u : Pr, ¬ Lx u u := fun u h => irr u u h h
    have e : x = y := by
      rcases List.mem_cons.mp ((h x).mp List.mem_cons_self) with e | e
      · exact e
      · rcases List.mem_cons.mp ((h y).mpr List.mem_cons_self) with e2 | e2
        · exact e2.symm
        · exact (irr _ _ (b1 x e) (a1 y e2)).elim
    subst e
    refine congrArg _ (ord_ext a2 b2 fun z => ⟨fun hz => ?_, fun hz => ?_⟩)
    · rcases List.mem_cons.mp ((h z).mp (List.mem_cons_of_mem _ hz)) with e | e
      · subst e
        exact (ir2 _ (a1 z hz)).elim
      · exact e
    · rcases List.mem_cons.mp ((h z).mpr (List.mem_cons_of_mem _ hz)) with e | e
      · subst e
        exact (ir2 _ (b1 z hz)).elim
      · exact e
/-! ### of no gate just what follows of the order is sure; what is sure is closed -/
theorem runO_nil {row : List Int} {i : Nat} (h : i < row.length) : (runO row []).getD i 0 = row.getD i 0 := by
  have e : runO row [] = (rngI row.length).map (val row) := rfl
  rw [e, mapD _ _ (by rw [rngI_len]; exact h), rngI_get h]
  unfold val
  rw [Int.toNat_natCast]
theorem sure_clo {n : Nat} {ps : List Pr} (o : Ord n ps) : sureN n ps [] = cloN n ps := by
  have k0 : NetOk n ([] : List Gate) := fun _ z => by cases z
  refine ord_ext (sureN_ord k0).up (cloN_ord o).up fun x => ?_
  obtain ⟨a, b⟩ := x
  rw [sureN_mem k0, clo_mem o]
  constructor
  · rintro ⟨h1, h2, h3⟩
    refine (sure_pth o h1 h2).mp fun w hw => ?_
    have z := h3 w hw
    have hl := (words_row hw).1
    dsimp only at z h1 h2
    rw [runO_nil (by omega), runO_nil (by omega)] at z
    exact decide_eq_true z
  · intro hp
    have hlt := hp.lt o.ok
    refine ⟨hlt.1, hlt.2, fun w hw => ?_⟩
    have z := of_decide_eq_true ((sure_pth o hlt.1 hlt.2).mpr hp w hw)
    have hl := (words_row hw).1
    dsimp only at z ⊢
    rw [runO_nil (by omega), runO_nil (by omega)]
    exact z
theorem sure_closed {n : Nat} {ps : List Pr} {net : List Gate} (h : NetOk n net) : cloN n (sureN n ps net) = sureN n ps net := by
  have o := sureN_ord h (ps := ps)
  refine ord_ext (cloN_ord o).up o.up fun x => ?_
  obtain ⟨a, b⟩ := x
  rw [clo_mem o]
  constructor
  · intro hp
    have hlt := hp.lt o.ok
    refine (sureN_mem h).mpr ⟨hlt.1, hlt.2, fun w hw => ?_⟩
    clear hlt
    induction hp with
    | one h1 => exact ((sureN_mem h).mp h1).2.2 w hw
    | more h1 _ ih =>
      have := ((sureN_mem h).mp h1).2.2 w hw
      dsimp only at this ih ⊢
      omega
  · intro hx
    exact .one hx
/-! ### the last gate; a gate behind -/
theorem keyK_app (row : List Int) (A B : List Gate) : ∀ k, k ≤ A.length → runK row (A ++ B) k = runK row A k
  | 0, _ => rfl
  | k + 1, hk => by
    have ih := keyK_app row A B k (by omega)
    have e : (A ++ B).getD k (0, 0) = A.getD k (0, 0) := by
      rw [List.getD_eq_getElem?_getD, List.getElem?_append_left (by omega), List.getD_eq_getElem?_getD]
    have e1 : runK row (A ++ B) (k + 1) = stepR row k ((A ++ B).getD k (0, 0)) (runK row (A ++ B) k) := rfl
    have e2 : runK row A (k + 1) = stepR row k (A.getD k (0, 0)) (runK row A k) := rfl
    rw [e1, e2, ih, e]
theorem behind_live {n : Nat} {ps : List Pr} {net : List Gate} (h : NetOk n net) {i j : Nat} (hij : i < j) (hj : j < n) : ((net.length : Int) ∈ natL (liveN (wordsN n ps) (net ++ [((i : Int), (j : Int))]))) ↔ (i, j) ∉ sureN n ps net := by
  have e1 : ((net.length : Int) ∈ natL (liveN (wordsN n ps) (net ++ [((i : Int), (j : Int))]))) ↔ liveB (wordsN n ps) (net ++ [((i : Int), (j : Int))]) net.length = true := by
    unfold natL liveN
    rw [List.mem_map]
    constructor
    · rintro ⟨t, ht, e⟩
      have : t = net.length := by omega
      rw [this] at ht
      exact (List.mem_filter.mp ht).2
    · intro hl
      exact ⟨net.length, List.mem_filter.mpr ⟨List.mem_range.mpr (by rw [List.length_append]; exact Nat.lt_succ_self _), hl⟩, rfl⟩
  have e2 : (net ++ [((i : Int), (j : Int))]).getD net.length (0, 0) = ((i : Int), (j : Int)) := by
    rw [List.getD_eq_getElem?_getD, List.getElem?_append_right (Nat.le_refl _), Nat.sub_self]
    rfl
  rw [e1, liveB_iff, sureN_mem h]
  have e3 : ∀ w, keyK w (net ++ [((i : Int), (j : Int))]) net.length = runO w net := fun w => by
    unfold keyK
    rw [keyK_app w net _ net.length (Nat.le_refl _)]
    rfl
  constructor
  · rintro ⟨w, hw, s⟩ ⟨_, _, h3⟩
    unfold swaps at s
    rw [e2, e3] at s
    have := h3 w hw
    dsimp only at s this
    rw [Int.toNat_natCast, Int.toNat_natCast] at s
    omega
  · intro hno
    by_cases c : ∃ w ∈ wordsN n ps, (runO w net).getD j 0 < (runO w net).getD i 0
    · obtain ⟨w, hw, hlt⟩ := c
      refine ⟨w, hw, ?_⟩
      unfold swaps
      rw [e2, e3]
      dsimp only
      rw [Int.toNat_natCast, Int.toNat_natCast]
      exact hlt
    · refine absurd ⟨hij, hj, fun w hw => ?_⟩ hno
      dsimp only
      by_cases z : (runO w net).getD i 0 ≤ (runO w net).getD j 0
      · exact z
      · exact absurd ⟨w, hw, by omega⟩ c
theorem last_sure {n : Nat} {ps : List Pr} {net : List Gate} (h : NetOk n net) (hne : net ≠ []) : ∃ x ∈ sureN n ps net, (net.getD (net.length - 1) (0, 0)) = ((x.1 : Int), (x.2 : Int)) := by
  have hpos := List.length_pos_iff.mpr hne
  have g := gate_at h (show net.length - 1 < net.length by omega)
  generalize hgg : net.getD (net.length - 1) (0, 0) = gg at g
  refine ⟨(gg.1.toNat, gg.2.toNat), (sureN_mem h).mpr ⟨by dsimp only; omega, by dsimp only; omega, fun w hw => ?_⟩, ?_⟩
  · have hl := (words_row hw).1
    have kr : NetOk w.length net := by rw [hl]; exact h
    have st := run_step kr (show net.length - 1 < net.length by omega)
    rw [show net.length - 1 + 1 = net.length by omega] at st
    have eO : keyK w net net.length = runO w net := rfl
    have kl := keyK_len w net (net.length - 1)
    rw [eO] at st
    rw [st.1]
    dsimp only
    by_cases s : swaps w net (net.length - 1)
    · rw [if_pos s]
      unfold swaps at s
      rw [hgg] at s ⊢
      rw [swp_get _ (by omega) (by omega), swp_get _ (by omega) (by omega), if_neg (by omega), if_pos rfl, if_pos rfl]
      omega
    · rw [if_neg s]
      unfold swaps at s
      rw [hgg] at s
      omega
  · dsimp only
    exact Prod.ext (by dsimp only; omega) (by dsimp only; omega)
/-! ### ways with places between below a bound: the law's own closure -/
inductive Pk (ps : List Pr) (k : Nat) : Nat → Nat → Prop
  | one {a b : Nat} (h : (a, b) ∈ ps) : Pk ps k a b
  | more {a b c : Nat} (h : (a, b) ∈ ps) (hb : b < k) (t : Pk ps k b c) : Pk ps k a c
theorem Pk.lt {n : Nat} {ps : List Pr} (o : PrOk n ps) {k a b : Nat} (h : Pk ps k a b) : a < b ∧ b < n := by
  induction h with
  | one h => exact o _ h
  | more h _ _ ih =>
    have := o _ h
    dsimp only at this
    omega
theorem Pk.up {ps : List Pr} {k m : Nat} (hk : k ≤ m) {a b : Nat} (h : Pk ps k a b) : Pk ps m a b := by
  induction h with
  | one h => exact .one h
  | more h hb _ ih => exact .more h (by omega) ih
theorem Pk.join {ps : List Pr} {k a b c : Nat} (h : Pk ps k a b) (hb : b < k) (t : Pk ps k b c) : Pk ps k a c := by
  induction h with
  | one h => exact .more h hb t
  | more h hb2 _ ih => exact .more h hb2 (ih hb t)
theorem pk_succ {n : Nat} {ps : List Pr} (o : PrOk n ps) {k a b : Nat} : Pk ps (k + 1) a b ↔ Pk ps k a b ∨ (Pk ps k a k ∧ Pk ps k k b) := by
  constructor
  · intro h
    induction h with
    | one h => exact .inl (.one h)
    | @more a x c h hb t ih =>
      by_cases e : x = k
      · subst e
        refine .inr ⟨.one h, ?_⟩
        rcases ih with ih | ⟨ih, _⟩
        · exact ih
        · have := ih.lt o
          omega
      · rcases ih with ih | ⟨i1, i2⟩
        · exact .inl (.more h (by omega) ih)
        · exact .inr ⟨.more h (by omega) i1, i2⟩
  · rintro (h | ⟨h1, h2⟩)
    · exact h.up (Nat.le_succ k)
    · exact Pk.join (h1.up (Nat.le_succ k)) (Nat.lt_succ_self k) (h2.up (Nat.le_succ k))
theorem pk_zero {ps : List Pr} {a b : Nat} : Pk ps 0 a b ↔ (a, b) ∈ ps := by
  constructor
  · intro h
    cases h with
    | one h => exact h
    | more _ hb _ => exact absurd hb (Nat.not_lt_zero _)
  · exact .one
theorem pk_all {n : Nat} {ps : List Pr} (o : PrOk n ps) {a b : Nat} : Pk ps n a b ↔ Pth ps a b := by
  constructor
  · intro h
    induction h with
    | one h => exact .one h
    | more h _ _ ih => exact .more h ih
  · intro h
    induction h with
    | one h => exact .one h
    | more h _ ih => exact .more h (o _ h).2 ih
/-! ### what a spread network is sure of -/
def toG (x : Pr) : Gate := ((x.1 : Int), (x.2 : Int))
theorem toG_oD (ps : List Pr) : oD ps = nD (ps.map toG) := by
  unfold oD nD
  rw [List.map_map]
  rfl
end K13

set_option maxRecDepth 100000
set_option maxHeartbeats 4000000
namespace K13
open PySem PySem.Spec PyProof.Rows L2 DL
/-! ### what a spread network is sure of -/
theorem spread_else {n : Nat} {L : List Int} (h : UpL n L) {net : List Gate} (hk : NetOk L.length net) {w : List Int} (hw : w.length = n) {u : Nat} (hu : u < n) (hn : (u : Int) ∉ L) : ∀ t, t ≤ net.length → (keyK w (spreadG L net) t).getD u 0 = w.getD u 0
  | 0, _ => by rw [keyK0]
  | t + 1, ht => by
    have ih := spread_else h hk hw hu hn t (by omega)
    have hs := spread_ok h hk
    have g := gate_at hk (show t < net.length by omega)
    have e1 := (run_step (row := w) (net := spreadG L net) (by rw [hw]; exact hs) (k := t) (by rw [spread_len]; omega)).1
    rw [e1]
    have kl := keyK_len w (spreadG L net) t
    split
    · rw [spread_at (by omega)]
      have inL : ∀ i, i < L.length → L.getD i 0 ∈ L := fun i hi => by
        rw [List.getD_eq_getElem?_getD, List.getElem?_eq_getElem hi]
        exact List.getElem_mem hi
      have a1 := h.in (i := (net.getD t (0, 0)).1.toNat) (by omega)
      have a2 := h.in (i := (net.getD t (0, 0)).2.toNat) (by omega)
      have m1 := inL (net.getD t (0, 0)).1.toNat (by omega)
      have m2 := inL (net.getD t (0, 0)).2.toNat (by omega)
      show (swp _ (val L (net.getD t (0, 0)).1).toNat (val L (net.getD t (0, 0)).2).toNat).getD _ 0 = _
      unfold val
      rw [swp_get _ (by omega) (by omega), if_neg fun z => hn (by rw [z, Int.toNat_of_nonneg a2.1]; exact m2), if_neg fun z => hn (by rw [z, Int.toNat_of_nonneg a1.1]; exact m1)]
      exact ih
    · exact ih
theorem spread_out {n : Nat} {L : List Int} (h : UpL n L) {net : List Gate} (hk : NetOk L.length net) {w v : List Int} (hw : w.length = n) (hv : v.length = L.length) (e : ∀ i, i < L.length → w.getD (L.getD i 0).toNat 0 = v.getD i 0) {i : Nat} (hi : i < L.length) : (runO w (spreadG L net)).getD (L.getD i 0).toNat 0 = (runO v net).getD i 0 := by
  have := spread_run h hk hw hv e net.length (Nat.le_refl _) i hi
  have e1 : runO w (spreadG L net) = keyK w (spreadG L net) net.length := by
    unfold runO runP keyK
    rw [spread_len]
  rw [e1]
  exact this
theorem spread_out0 {n : Nat} {L : List Int} (h : UpL n L) {net : List Gate} (hk : NetOk L.length net) {w : List Int} (hw : w.length = n) {u : Nat} (hu : u < n) (hn : (u : Int) ∉ L) : (runO w (spreadG L net)).getD u 0 = w.getD u 0 := by
  have e1 : runO w (spreadG L net) = keyK w (spreadG L net) net.length := by
    unfold runO runP keyK
    rw [spread_len]
  rw [e1]
  exact spread_else h hk hw hu hn net.length (Nat.le_refl _)
/-- a word of the few lines, on all -/
theorem word_wide {n : Nat} {L : List Int} (h : UpL n L) {v : List Int} (hv : v ∈ wordsN L.length []) (z : Int) (hz : 0 ≤ z ∧ z < 2) : ∃ w ∈ wordsN n [], (∀ i, i < L.length → w.getD (L.getD i 0).toNat 0 = v.getD i 0) ∧ ∀ u : Nat, u < n → (u : Int) ∉ L → w.getD u 0 = z := by
  obtain ⟨v1, v2, _⟩ := words_row hv
  have at_ : ∀ u, u < n → ((List.range n).map fun (p : Nat) => if (p : Int) ∈ L then v.getD (L.idxOf (p : Int)) 0 else z).getD u 0 = if (u : Int) ∈ L then v.getD (L.idxOf (u : Int)) 0 else z := fun u hu => by
    rw [List.getD_eq_getElem?_getD, List.getElem?_map, List.getElem?_range hu]
    rfl
  refine ⟨(List.range n).map fun (p : Nat) => if (p : Int) ∈ L then v.getD (L.idxOf (p : Int)) 0 else z, words_has (by rw [List.length_map, List.length_range]) (fun x hx => ?_) (lets_nil _), fun i hi => ?_, fun u hu hn => ?_⟩
  · obtain ⟨y, _, rfl⟩ := List.mem_map.mp hx
    split
    · exact getD_in2 v2 _
    · exact hz
  · have a := h.in hi
    have hm : L.getD i 0 ∈ L := by
      rw [List.getD_eq_getElem?_getD, List.getElem?_eq_getElem hi]
      exact List.getElem_mem hi
    rw [at_ _ (by omega), Int.toNat_of_nonneg a.1, if_pos hm]
    congr 1
    have hx := List.idxOf_lt_length_of_mem hm
    refine h.inj hx hi ?_
    rw [List.getD_eq_getElem?_getD (i := L.idxOf (L.getD i 0)), List.getElem?_eq_getElem hx]
    exact List.getElem_idxOf hx
  · rw [at_ u hu, if_neg hn]
theorem word_few {n : Nat} {L : List Int} {w : List Int} (hw : w ∈ wordsN n []) : ∃ v ∈ wordsN L.length [], ∀ i, i < L.length → w.getD (L.getD i 0).toNat 0 = v.getD i 0 := by
  obtain ⟨w1, w2, _⟩ := words_row hw
  refine ⟨L.map fun x => w.getD x.toNat 0, words_has (List.length_map ..) (fun x hx => ?_) (lets_nil _), fun i hi => (mapD (fun x => w.getD x.toNat 0) L hi).symm⟩
  obtain ⟨y, _, rfl⟩ := List.mem_map.mp hx
  exact getD_in2 w2 _

theorem out_const {m : Nat} {row : List Int} {net : List Gate} (hr : row.length = m) (hk : NetOk m net) {c : Int} (hc : ∀ l, l < m → row.getD l 0 = c) {i : Nat} (hi : i < m) : (runO row net).getD i 0 = c := by
  have kr : NetOk row.length net := by rw [hr]; exact hk
  unfold runO
  rw [mapD _ _ (by rw [runP_len]; omega)]
  have := runK_mem kr (k := net.length) (Nat.le_refl _) (i := i) (by omega)
  have e : (runK row net net.length).1 = runP row net := rfl
  rw [e] at this
  unfold val
  exact hc _ (by omega)
def fW (n : Nat) (f : Nat → Int) : List Int := (List.range n).map f
theorem fW_get {n : Nat} {f : Nat → Int} {l : Nat} (h : l < n) : (fW n f).getD l 0 = f l := by
  unfold fW
  rw [List.getD_eq_getElem?_getD, List.getElem?_map, List.getElem?_range h]
  rfl
theorem fW_len (n : Nat) (f : Nat → Int) : (fW n f).length = n := by
  unfold fW
  rw [List.length_map, List.length_range]
theorem fW_word {n : Nat} {f : Nat → Int} (h : ∀ l, l < n → 0 ≤ f l ∧ f l < 2) : fW n f ∈ wordsN n [] := words_has (fW_len n f) (fun x hx => by
  obtain ⟨l, hl, rfl⟩ := List.mem_map.mp hx
  exact h l (List.mem_range.mp hl)) rfl
theorem in_L {L : List Int} {u : Nat} (h : (u : Int) ∈ L) : ∃ i, i < L.length ∧ L.getD i 0 = (u : Int) := by
  obtain ⟨i, hi, e⟩ := List.mem_iff_getElem.mp h
  refine ⟨i, hi, ?_⟩
  rw [List.getD_eq_getElem?_getD, List.getElem?_eq_getElem hi, e]
  rfl
theorem spread_sure {n : Nat} {L : List Int} (h : UpL n L) {net : List Gate} (hk : NetOk L.length net) : sureN n [] (spreadG L net) = (sureN L.length [] net).map fun x => ((L.getD x.1 0).toNat, (L.getD x.2 0).toNat) := by
  have ks := spread_ok h hk
  refine ord_ext (sureN_ord ks).up ?_ fun x => ?_
  · rw [List.pairwise_map]
    refine (sureN_ord hk (ps := [])).up.imp_of_mem fun {x y} hx hy hl => ?_
    have hx := (sureN_ord hk (ps := [])).ok x hx
    have hy := (sureN_ord hk (ps := [])).ok y hy
    have x1 := h.in (i := x.1) (by omega)
    have x2 := h.in (i := x.2) (by omega)
    have y1 := h.in (i := y.1) (by omega)
    have y2 := h.in (i := y.2) (by omega)
    rcases hl with hl | ⟨he, hl⟩
    · have := h.at hl (by omega)
      exact .inl (by dsimp only; omega)
    · have := h.at hl (by omega)
      refine .inr ⟨by dsimp only; rw [he], by dsimp only; omega⟩
  · obtain ⟨u, v⟩ := x
    rw [sureN_mem ks, List.mem_map]
    constructor
    · rintro ⟨huv, hv, hall⟩
      dsimp only at huv hv hall
      by_cases cu : (u : Int) ∈ L
      · obtain ⟨i, hi, ei⟩ := in_L cu
        by_cases cv : (v : Int) ∈ L
        · obtain ⟨j, hj, ej⟩ := in_L cv
          have hij : i < j := by
            by_cases c : i < j
            · exact c
            · by_cases c2 : j < i
              · have := h.at c2 hi
                omega
              · have : i = j := by omega
                subst this
                omega
          refine ⟨(i, j), (sureN_mem hk).mpr ⟨hij, hj, fun s hs => ?_⟩, by dsimp only; rw [ei, ej, Int.toNat_natCast, Int.toNat_natCast]⟩
          obtain ⟨w, hw, e1, _⟩ := word_wide h hs 0 ⟨by decide, by decide⟩
          have z := hall w hw
          have wl := (words_row hw).1
          have sl := (words_row hs).1
          have a1 := spread_out h hk wl sl e1 hi
          have a2 := spread_out h hk wl sl e1 hj
          rw [ei, Int.toNat_natCast] at a1
          rw [ej, Int.toNat_natCast] at a2
          dsimp only
          omega
        · exfalso
          have hw : fW n (fun l => if (l : Int) ∈ L then 1 else 0) ∈ wordsN n [] := fW_word fun l _ => by split <;> decide
          have z := hall _ hw
          have a2 := spread_out0 h hk (fW_len n _) hv cv (w := fW n (fun l => if (l : Int) ∈ L then 1 else 0))
          rw [fW_get hv, if_neg cv] at a2
          have a1 := spread_out h hk (fW_len n (fun l => if (l : Int) ∈ L then 1 else 0)) (fW_len L.length (fun _ => 1)) (fun k hkk => by
            have b := h.in hkk
            rw [fW_get hkk, fW_get (by omega), if_pos]
            rw [Int.toNat_of_nonneg b.1]
            (rw [List.getD_eq_getElem?_getD, List.getElem?_eq_getElem hkk]; exact List.getElem_mem _)) hi
          rw [ei, Int.toNat_natCast, out_const (fW_len _ _) hk (fun l hl => fW_get hl) hi] at a1
          omega
      · exfalso
        have hw : fW n (fun l => if l = u then 1 else 0) ∈ wordsN n [] := fW_word fun l _ => by split <;> decide
        have z := hall _ hw
        have a1 := spread_out0 h hk (fW_len n _) (show u < n by omega) cu (w := fW n (fun l => if l = u then 1 else 0))
        rw [fW_get (by omega), if_pos rfl] at a1
        by_cases cv : (v : Int) ∈ L
        · obtain ⟨j, hj, ej⟩ := in_L cv
          have a2 := spread_out h hk (fW_len n (fun l => if l = u then 1 else 0)) (fW_len L.length (fun _ => 0)) (fun k hkk => by
            have b := h.in hkk
            rw [fW_get hkk, fW_get (by omega), if_neg]
            intro e
            refine cu ?_
            have : L.getD k 0 = (u : Int) := by omega
            rw [← this]
            (rw [List.getD_eq_getElem?_getD, List.getElem?_eq_getElem hkk]; exact List.getElem_mem _)) hj
          rw [ej, Int.toNat_natCast, out_const (fW_len _ _) hk (fun l hl => fW_get hl) hj] at a2
          omega
        · have a2 := spread_out0 h hk (fW_len n _) hv cv (w := fW n (fun l => if l = u then 1 else 0))
          rw [fW_get hv, if_neg (by omega)] at a2
          omega
    · rintro ⟨⟨i, j⟩, hs, e⟩
      obtain ⟨hij, hj, hall⟩ := (sureN_mem hk).mp hs
      have e1 : (L.getD i 0).toNat = u := congrArg Prod.fst e
      have e2 : (L.getD j 0).toNat = v := congrArg Prod.snd e
      dsimp only at hij hj hall
      have b1 := h.in (show i < L.length by omega)
      have b2 := h.in hj
      have b3 := h.at hij hj
      refine ⟨by dsimp only; omega, by dsimp only; omega, fun w hw => ?_⟩
      obtain ⟨s, hs2, hse⟩ := word_few (L := L) hw
      have wl := (words_row hw).1
      have sl := (words_row hs2).1
      have a1 := spread_out h hk wl sl hse (show i < L.length by omega)
      have a2 := spread_out h hk wl sl hse hj
      rw [e1] at a1
      rw [e2] at a2
      have := hall s hs2
      dsimp only
      omega
end K13

set_option maxRecDepth 100000
set_option maxHeartbeats 4000000
namespace K13
open PySem PySem.Spec PyProof.Rows L2 DL
/-! ### the law's own pairs, its own closure, drawn lines -/
def toIP (x : Pr) : Int × Int := ((x.1 : Int), (x.2 : Int))
theorem toIP_inj {x y : Pr} (h : toIP x = toIP y) : x = y := by
  have h1 := congrArg Prod.fst h
  have h2 := congrArg Prod.snd h
  unfold toIP at h1 h2
  dsimp only at h1 h2
  exact Prod.ext (by omega) (by omega)
theorem lex_le {x y : Int × Int} : SrtO.lexB y x = false ↔ x.1 < y.1 ∨ (x.1 = y.1 ∧ x.2 ≤ y.2) := by
  rw [SrtO.lexB_no]
  omega
theorem srt_uniq : ∀ {zs ys : List (Int × Int)}, zs.Perm ys → zs.Pairwise (fun x y => SrtO.lexB y x = false) → ys.Pairwise (fun x y => SrtO.lexB y x = false) → zs = ys
  | [], ys, p, _, _ => (List.nil_perm.mp p).symm ▸ rfl
  | a :: r, [], p, _, _ => by
    have := p.length_eq
    cases this
  | a :: r, b :: t, p, h1, h2 => by
    obtain ⟨a1, a2⟩ := List.pairwise_cons.mp h1
    obtain ⟨b1, b2⟩ := List.pairwise_cons.mp h2
    have e : a = b := by
      rcases List.mem_cons.mp (p.subset List.mem_cons_self) with e | e
      · exact e
      · rcases List.mem_cons.mp (p.symm.subset List.mem_cons_self) with e2 | e2
        · exact e2.symm
        · have := lex_le.mp (a1 b e2)
          have := lex_le.mp (b1 a e)
          exact Prod.ext (by omega) (by omega)
    subst e
    rw [srt_uniq ((List.perm_cons _).mp p) a2 b2]
/-- what sorted(d) must be, if d has just the pairs of an order as keys -/
theorem ord_sort {n : Nat} {ps : List Pr} (o : Ord n ps) {ks : List (Int × Int)} (hk : ∀ z, z ∈ ks ↔ ∃ x ∈ ps, z = toIP x) : ∀ zs : List (Int × Int), zs.Nodup → (∀ z, z ∈ zs ↔ z ∈ ks) → zs.Pairwise (fun x y => SrtO.lexB y x = false) → zs = ps.map toIP := fun zs h1 h2 h3 => by
  refine srt_uniq ?_ h3 ?_
  · have nd : (ps.map toIP).Nodup := by
      rw [List.nodup_iff_pairwise_ne, List.pairwise_map]
      exact (List.nodup_iff_pairwise_ne.mp o.nodup).imp fun h e => h (toIP_inj e)
    rw [List.perm_ext_iff_of_nodup h1 nd]
    intro z
    rw [h2 z, hk z, List.mem_map]
    exact ⟨fun ⟨x, hx, e⟩ => ⟨x, hx, e.symm⟩, fun ⟨x, hx, e⟩ => ⟨x, hx, e.symm⟩⟩
  · rw [List.pairwise_map]
    refine o.up.imp fun {x y} h => lex_le.mpr ?_
    unfold toIP
    unfold Lx at h
    dsimp only
    omega
theorem pr_toIP (l : List Pr) : (l.map toIP).map DL.prD = l.map pD := by
  rw [List.map_map]
  rfl
section
variable {P : Program} {w : World} {K : PySem.W.Frag} {mg : Str → Option Value} {base : Heap}
def R_lines : FR := fun as ob r ob' => ∃ W, ∃ n m : Nat, as = [.own 0, .dat (.int (n : Int)), .dat (.int (m : Int))] ∧ ob = [W.oo] ∧ W.deep.length ≤ 100 ∧ 1 ≤ m ∧ m ≤ n ∧ n ≤ 100 ∧ r = .dat (LI (0 :: pickL 1 n W (m - 1))) ∧ ob' = [(pickW 1 n W).oo]
theorem sc_law_lines : FnScope ["deck", "n", "many"] ["deck", "n", "many"] (defScope s_law_lines) := ⟨rfl, rfl, rfl, by decide +kernel, rfl, by decide +kernel, by decide +kernel⟩
theorem ok_law_lines (D : Df K mg "_law_lines" s_law_lines ["deck", "n", "many"]) (B : Bi mg) (D_law_draw : Df K mg "_law_draw" s_law_draw ["deck", "many"]) (D_law_mixed : Df K mg "_law_mixed" s_law_mixed ["deck", "items"]) : FnG P w K mg base CX0 3 D.f D.fd ["deck", "n", "many"] (spD K 3 R_lines) := by
  have ok_law_mixed : FnG P w K mg base CX0 2 _ _ _ _ := ok_law_mixed D_law_mixed B D_law_draw
  refine okG D.F sc_law_lines (fun vs H Q E h => h.1) (fun cdv A outer s H vs Q E hr gd h => ?_)
  have hu := huX hr
  refine ⟨_, (pss_one (ps_ret (pe_op op_plus (pe_lst (pa_cons pe_int pa_nil)) (pe_callB cr_sortU (by rfl) B.z_sorted (by decide +kernel) (pa_cons (pe_slice sl_any (pe_callG (ok_law_mixed) (hr.mono (by decide)) gd (by rfl) D_law_mixed.m D_law_mixed.F.kp D_law_mixed.b .nil pass0 (pa_cons (pv 0) (pa_cons (pe_listRg rfl (by rfl) B.z_list (prg_2 (by rfl) B.z_range pe_int (pv 1))) pa_nil))) po_none (po_some (pe_op op_subU (pv 2) pe_int))) pa_nil))))), ?_⟩
  refine body_of h (by decide) fun as ob r ob' hR hl => ?_
  obtain ⟨W, n, m, rfl, rfl, hd, h1, h2, h3, rfl, rfl⟩ := hR
  have hM : R_mixed [.own 0, .dat (.list (rngD 1 ((n : Int) - 1).toNat))] [W.oo] (.dat (.list ((mixedOf 0 ((n : Int) - 1).toNat ((List.range ((n : Int) - 1).toNat).map fun (i : Nat) => (1 : Int) + (i : Int)) W).1.map PyData.int))) [(pickW 1 n W).oo] := ⟨W, rngD 1 ((n : Int) - 1).toNat, .int 0, rfl, rfl, hd, by rw [rngD_len]; omega, mixed_fl, by rw [rngD_len, pick_map], by rw [rngD_len, pick_map]⟩
  have pl : (pickL (1 : Nat) (n : Int) W (m - 1)).length = m - 1 := (pickL_ok (lo := 1) (n := n) (W := W) (k := m - 1) (by omega)).2.2
  have pl2 : (pickL 1 (n : Int) W (m - 1)).length = m - 1 := pl
  refine ts_ret (S1 := ⟨[.own 0, .dat (.int (n : Int)), .dat (.int (m : Int))], [(pickW 1 n W).oo]⟩) (ee_op (x := .dat (.list ([0].map PyData.int))) (y := .dat (LI (pickL 1 n W (m - 1)))) (S1 := ⟨[.own 0, .dat (.int (n : Int)), .dat (.int (m : Int))], [W.oo]⟩) (S2 := ⟨[.own 0, .dat (.int (n : Int)), .dat (.int (m : Int))], [(pickW 1 n W).oo]⟩) (ee_lst (ds := [.int 0]) (ed_cons ee_int ed_nil) (show (1 : Nat) ≤ 1000000 by decide)) (ee_cb (S1 := ⟨[.own 0, .dat (.int (n : Int)), .dat (.int (m : Int))], [(pickW 1 n W).oo]⟩) (ea_cons (x := .dat (.list (((mixedOf 0 ((n : Int) - 1).toNat ((List.range ((n : Int) - 1).toNat).map fun (i : Nat) => (1 : Int) + (i : Int)) W).1.take (m - 1)).map PyData.int))) (S1 := ⟨[.own 0, .dat (.int (n : Int)), .dat (.int (m : Int))], [(pickW 1 n W).oo]⟩) ?_ ea_nil) rc_sortL) (ro_cat (by rw [List.length_map, List.length_map]; show 1 + _ ≤ _; omega))) ⟨rfl, rfl⟩
  rw [← cut_take]
  refine ee_slL (S1 := ⟨[.own 0, .dat (.int (n : Int)), .dat (.int (m : Int))], [(pickW 1 n W).oo]⟩) (S3 := ⟨[.own 0, .dat (.int (n : Int)), .dat (.int (m : Int))], [(pickW 1 n W).oo]⟩) (ee_w1 (k := 0) (W := W) (W' := pickW 1 n W) (R := R_mixed) (S1 := ⟨[.own 0, .dat (.int (n : Int)), .dat (.int (m : Int))], [W.oo]⟩) [.list (rngD 1 ((n : Int) - 1).toNat)] (ea_cons (ee_var rfl) (ea_cons (ee_of_el (el_rng2L ee_int (ee_var rfl) (by omega))) ea_nil)) rfl rfl hM) eo_none (eo_some ?_) (.dat _)
  rw [show ((m - 1 : Nat) : Int) = (m : Int) - 1 by omega]
  exact ee_op (ee_var rfl) ee_int ro_sub

def R_due : FR := fun as ob r ob' => ∃ (n : Nat) (net : List Gate) (rows : List (List Int)), as = [.dat (.int (n : Int)), .dat (nD net), .dat (.list (rows.map rD))] ∧ NetOk n net ∧ net.length ≤ 2000 ∧ n ≤ 100 ∧ rows.length ≤ 100000 ∧ (∀ row ∈ rows, row.length = n) ∧ ob = [] ∧ r = .dat (oD (dueN n net rows)) ∧ ob' = []
abbrev Sdu (n : Nat) (net : List Gate) (rows : List (List Int)) (a b : SD) (found : List Pr) : SS := ⟨[.dat (.int (n : Int)), .dat (nD net), .dat (.list (rows.map rD)), .un, .dat (.list (rows.map fun row => rD (runO row net))), .own 0, a, b, .un], [.lst (found.map pD)]⟩
def rowU (n : Nat) (net : List Gate) (rows : List (List Int)) (i k : Nat) : List Pr := (((upTo n i).take k).filter (upB net rows i)).map fun j => (i, j)
theorem rowU_all (n : Nat) (net : List Gate) (rows : List (List Int)) (i : Nat) : rowU n net rows i (n - (i + 1)) = ((upTo n i).filter (upB net rows i)).map fun j => (i, j) := by
  unfold rowU
  have : (upTo n i).length = n - (i + 1) := by
    unfold upTo
    rw [List.length_map, List.length_range]
  rw [← this, List.take_length]
theorem rowU_succ {n : Nat} {net : List Gate} {rows : List (List Int)} {i k : Nat} (h : k < n - (i + 1)) : rowU n net rows i (k + 1) = rowU n net rows i k ++ (if upB net rows i (i + 1 + k) = true then [(i, i + 1 + k)] else []) := by
  unfold rowU
  have hg : (upTo n i)[k]? = some (i + 1 + k) := by
    unfold upTo
    rw [List.getElem?_map, List.getElem?_range h]
    rfl
  rw [List.take_succ, hg]
  show (((upTo n i).take k ++ [i + 1 + k]).filter _).map _ = _
  rw [List.filter_append, List.map_append]
  congr 1
  rw [List.filter_cons]
  split <;> rfl
theorem rowU_len (n : Nat) (net : List Gate) (rows : List (List Int)) (i k : Nat) : (rowU n net rows i k).length ≤ n := by
  unfold rowU
  rw [List.length_map]
  refine Nat.le_trans (List.length_filter_le _ _) ?_
  rw [List.length_take]
  unfold upTo
  rw [List.length_map, List.length_range]
  omega
def dueK (n : Nat) (net : List Gate) (rows : List (List Int)) (k : Nat) : List Pr := (List.range k).flatMap fun i => rowU n net rows i (n - (i + 1))
theorem dueK_succ (n : Nat) (net : List Gate) (rows : List (List Int)) (k : Nat) : dueK n net rows (k + 1) = dueK n net rows k ++ rowU n net rows k (n - (k + 1)) := by
  unfold dueK
  rw [List.range_succ, List.flatMap_append, List.flatMap_singleton]
theorem dueK_len (n : Nat) (net : List Gate) (rows : List (List Int)) : ∀ k, (dueK n net rows k).length ≤ k * n
  | 0 => Nat.le_of_eq (by rw [Nat.zero_mul]; rfl)
  | k + 1 => by
    have ih := dueK_len n net rows k
    have := rowU_len n net rows k (n - (k + 1))
    rw [dueK_succ, List.length_append, Nat.succ_mul]
    omega
theorem dueK_all (n : Nat) (net : List Gate) (rows : List (List Int)) : dueK n net rows n = dueN n net rows := by
  unfold dueK dueN
  congr 1
  funext i
  exact rowU_all n net rows i
theorem sc_law_due : FnScope ["n", "network", "rows", "row", "ends", "found", "i", "j", "keys"] ["n", "network", "rows"] (defScope s_law_due) := ⟨rfl, rfl, rfl, by decide +kernel, rfl, by decide +kernel, by decide +kernel⟩
theorem ok_law_due (D : Df K mg "_law_due" s_law_due ["n", "network", "rows"]) (B : Bi mg) (D_law_run : Df K mg "_law_run" s_law_run ["network", "row"]) : FnG P w K mg base CX0 2 D.f D.fd ["n", "network", "rows"] (spD K 3 R_due) := by
  have ok_law_run : FnG P w K mg base CX0 1 _ _ _ _ := ok_law_run D_law_run B
  refine okG D.F sc_law_due (fun vs H Q E h => h.1) (fun cdv A outer s H vs Q E hr gd h => ?_)
  have hu := huX hr
  refine ⟨_, (pss_cons (ps_par (i := 4) (j := 5) (by rfl) sc_law_due.nd rfl rfl (by decide) rfl rfl (pa_cons (pe_lc (own := [("row", 3)]) (g := gName 3) (tt := tYes) (by rfl) sc_law_due.nd (pi_list (pv 2)) (blkOk_by (own := [("row", 3)]) (N := ["n", "network", "rows", "row", "ends", "found", "i", "j", "keys"]) (sc := defScope s_law_due) (by decide +kernel)) (fun _ _ _ _ _ => (pg_name (i := 3) sc_law_due.nd rfl (Or.inl rfl))) (fun _ _ _ _ _ => pts_nil) (fun _ _ _ _ _ => (pe_ix (ixK K (R := rIx) ix_seq rfl) (pe_callG (ok_law_run) (hr.mono (by decide)) gd (by rfl) D_law_run.m D_law_run.F.kp D_law_run.b .nil pass0 (pa_cons (pv 1) (pa_cons (pv 3) pa_nil))) pe_int (fun _ _ => rfl)))) (pa_cons (pe_lst pa_nil) pa_nil)) (by rfl))
      (pss_cons (ps_for PassesOwn.never rfl (pi_range1 (by rfl) B.z_range (pa_cons (pv 0) pa_nil)) (pg_name (i := 6) sc_law_due.nd rfl (Or.inr rfl))
        (pss_one (ps_for PassesOwn.never rfl (pi_range2 (by rfl) B.z_range (pa_cons (pe_op op_plus (pv 6) pe_int) (pa_cons (pv 0) pa_nil))) (pg_name (i := 7) sc_law_due.nd rfl (Or.inr rfl))
          (pss_one (ps_if (pt_cmpR (op_eqU hu) (pe_lc (own := [("keys", 8)]) (g := gName 8) (by rfl) sc_law_due.nd (pi_list (pv 4)) (blkOk_by (own := [("keys", 8)]) (N := ["n", "network", "rows", "row", "ends", "found", "i", "j", "keys"]) (sc := defScope s_law_due) (by decide +kernel)) (fun _ _ _ _ _ => (pg_name (i := 8) sc_law_due.nd rfl (Or.inl rfl))) (fun _ _ _ _ _ => (pts_one (pt_cmpR (opK K (R := rGtU) (op_gtU hu) rfl) (pe_ix (ixK K (R := rIx) ix_seq rfl) (pv 8) (pv 6) (fun _ _ => rfl)) (pe_ix (ixK K (R := rIx) ix_seq rfl) (pv 8) (pv 7) (fun _ _ => rfl)) (nomark _)))) (fun _ _ _ _ _ => pe_int)) (pe_lst pa_nil) (nomark _)) (pss_one (ps_expr (pe_bm PySem.F.plainAttrs_list PySem.F.slot_list_append PySem.F.type_list_append mt_append (pv 5) (pa_cons (pe_tup (pa_cons (pv 6) (pa_cons (pv 7) pa_nil))) pa_nil)))) pss_nil)))))
      (pss_one (ps_ret (pe_callTy cb_tuple (by rfl) B.z_tuple (by decide +kernel) (pa_cons (pv 5) pa_nil)))))), ?_⟩
  refine body_ofG h (by decide) (fun as ob r ob' hR => ?_) fun as ob r ob' hR hl => ?_
  · obtain ⟨n, net, rows, rfl, _, _, _, _, _, rfl, rfl, rfl⟩ := hR
    exact ⟨Nat.le_refl _, fun _ z => by cases z⟩
  obtain ⟨n, net, rows, rfl, hk, hz2, hn, hz, hrow, rfl, rfl, rfl⟩ := hR
  have gi : ∀ row ∈ rows, GoodIn net row := fun row hr => ⟨by rw [hrow row hr]; exact hk, by have := hrow row hr; omega⟩
  refine ts_seq (ts_par (x := .dat (.list (rows.map fun row => rD (runO row net)))) (y := .own 0) (S1 := ⟨[.dat (.int (n : Int)), .dat (nD net), .dat (.list (rows.map rD)), .un, .un, .un, .un, .un, .un], [.lst (([] : List Pr).map pD)]⟩) (ea_cons (S1 := ⟨[.dat (.int (n : Int)), .dat (nD net), .dat (.list (rows.map rD)), .un, .un, .un, .un, .un, .un], []⟩) (ee_of_el (el_lcmA (dA := rD) (lst := rows) (f := fun row => rD (runO row net)) (S0 := ⟨[.dat (.int (n : Int)), .dat (nD net), .dat (.list (rows.map rD)), .un, .un, .un, .un, .un, .un], []⟩) (ei_list (ee_var rfl)) (by omega) fun row hr => ⟨_, egc_name (by decide), rfl, _, ee_op (ee_callD (d := lrunD net row) (ed_cons (d := nD net) (ee_var rfl) (ed_cons (d := rD row) (ee_var rfl) ed_nil)) rfl ⟨net, row, rfl, gi row hr, rfl, rfl, rfl⟩) ee_int (ro_ixT (d := rD (runO row net)) rfl), rfl⟩)) (ea_cons (eo_of_el (ds := []) (S1 := ⟨[.dat (.int (n : Int)), .dat (nD net), .dat (.list (rows.map rD)), .un, .un, .un, .un, .un, .un], []⟩) (el_lst ed_nil)) ea_nil)) ?_)
  show Ts K _ (Sdu n net rows .un .un (dueK n net rows 0)) _
  refine ts_seq (ts_for (S0 := Sdu n net rows .un .un (dueK n net rows 0)) (ei_rng1n (n := n) (ed_cons (ee_var rfl) ed_nil) (by omega)) (fun i S => ∃ a b, S = Sdu n net rows a b (dueK n net rows i)) ⟨_, _, rfl⟩ ?_ ?_)
  · rintro i d S' hd ⟨a, b, rfl⟩
    obtain ⟨hin, rfl⟩ := rngD_get hd
    have dl := dueK_len n net rows i
    have il : i * n ≤ 100 * 100 := Nat.mul_le_mul (by omega) hn
    rw [dueK_succ, show (0 : Int) + (i : Int) = (i : Int) by omega]
    generalize dueK n net rows i = A at dl ⊢
    have e0 : A = A ++ rowU n net rows i 0 := by
      unfold rowU
      simp
    refine ⟨Sdu n net rows (.dat (.int (i : Int))) b A, eg_name, ?_⟩
    refine ts_for (ds := rngD ((i : Int) + 1) ((n : Int) - ((i : Int) + 1)).toNat) (S0 := Sdu n net rows (.dat (.int (i : Int))) b A) (ei_rng2 (ed_cons (ee_op (ee_var rfl) ee_int ro_add) (ed_cons (ee_var rfl) ed_nil)) (by omega)) (fun k S => ∃ b, S = Sdu n net rows (.dat (.int (i : Int))) b (A ++ rowU n net rows i k)) ⟨b, by rw [← e0]⟩ ?_ ?_
    · rintro k d S' hd ⟨b, rfl⟩
      obtain ⟨hkn, rfl⟩ := rngD_get hd
      have rl := rowU_len n net rows i k
      rw [rowU_succ (by omega), ← List.append_assoc, show (i : Int) + 1 + (k : Int) = ((i + 1 + k : Nat) : Int) by omega]
      have hj : i + 1 + k < n := by omega
      generalize i + 1 + k = j at hj ⊢
      generalize hB : A ++ rowU n net rows i k = B
      have Bl : B.length < 1000000 := by
        rw [← hB, List.length_append]
        omega
      have eU : ((rows.filter fun row => decide ((runO row net).getD j 0 < (runO row net).getD i 0)).map fun _ => PyData.int 1).isEmpty = upB net rows i j := by
        rw [Bool.eq_iff_iff, upB_iff, List.isEmpty_map, List.isEmpty_iff, List.filter_eq_nil_iff]
        refine forall_congr' fun row => imp_congr Iff.rfl ?_
        rw [decide_eq_true_eq]
        omega
      refine ⟨Sdu n net rows (.dat (.int (i : Int))) (.dat (.int (j : Int))) B, eg_name, ts_if (b := upB net rows i j) (S1 := Sdu n net rows (.dat (.int (i : Int))) (.dat (.int (j : Int))) B) (et_eq (et_test (ee_op (x := .dat (.list ((rows.filter fun row => decide ((runO row net).getD j 0 < (runO row net).getD i 0)).map fun _ => PyData.int 1))) (S1 := Sdu n net rows (.dat (.int (i : Int))) (.dat (.int (j : Int))) B) (ee_of_el (el_lcfA (dA := fun row => rD (runO row net)) (lst := rows) (p := fun row => decide ((runO row net).getD j 0 < (runO row net).getD i 0)) (f := fun _ => .int 1) (S0 := Sdu n net rows (.dat (.int (i : Int))) (.dat (.int (j : Int))) B) (ei_list (ee_var rfl)) (by omega) fun row hr => ?_)) (ee_of_el (el_lst ed_nil)) (ro_eqE (.dat _) (.dat _)))) eU) (fun hb => ?_) fun hb => ?_⟩
      · have ol : (runO row net).length = n := by
          unfold runO
          rw [List.length_map, runP_len, hrow row hr]
        have i1 := at_int (ns := runO row net) (i := (i : Int)) (by omega) (by omega)
        have i2 := at_int (ns := runO row net) (i := (j : Int)) (by omega) (by omega)
        rw [Int.toNat_natCast] at i1 i2
        exact ⟨_, _, egc_name (by decide), et_test (ee_op (ee_op (ee_var rfl) (ee_var rfl) (ro_ixT i1)) (ee_op (ee_var rfl) (ee_var rfl) (ro_ixT i2)) ro_gt), rfl, fun _ => ⟨_, ee_int, rfl⟩⟩
      · rw [if_pos hb]
        refine ts_drop (ee_append (k := 0) (S1 := Sdu n net rows (.dat (.int (i : Int))) (.dat (.int (j : Int))) B) (ee_var rfl) (ee_tup (ds := [.int (i : Int), .int (j : Int)]) (ed_cons (ee_var rfl) (ed_cons (ee_var rfl) ed_nil))) ⟨_, rfl⟩ rfl (by rw [List.length_map]; exact Bl)) ⟨.dat (.int (j : Int)), ?_⟩
        have e : (B ++ [(i, j)]).map pD = B.map pD ++ [.tuple [.int (i : Int), .int (j : Int)]] := by
          rw [List.map_append]
          rfl
        show SS.mk _ [OO.lst (B.map pD ++ [.tuple [.int (i : Int), .int (j : Int)]])] = SS.mk _ [OO.lst ((B ++ [(i, j)]).map pD)]
        rw [e]
      · rw [if_neg (by rw [hb]; decide), List.append_nil]
        exact ts_next ⟨_, rfl⟩
    · rintro S' ⟨b, rfl⟩
      rw [rngD_len, show ((n : Int) - ((i : Int) + 1)).toNat = n - (i + 1) by omega]
      exact ⟨_, _, rfl⟩
  · rintro S' ⟨a, b, rfl⟩
    rw [rngD_len, dueK_all]
    exact ts_ret (ee_cb (ea_cons (ee_var rfl) ea_nil) (rc_tupL (.own rfl))) ⟨rfl, ⟨[.lst ((dueN n net rows).map pD)], rfl⟩⟩
end
end K13

set_option maxRecDepth 100000
set_option maxHeartbeats 4000000
namespace K13
open PySem PySem.Spec PyProof.Rows L2 DL
/-! ### all pairs that follow of an order, by the law's own look -/
structure MemK (ks : List (Int × Int)) (Q : Nat → Nat → Prop) : Prop where
  mem : ∀ a b : Nat, toIP (a, b) ∈ ks ↔ Q a b
  all : ∀ z ∈ ks, ∃ a b : Nat, z = toIP (a, b)
theorem MemK.put {ks : List (Int × Int)} {Q R : Nat → Nat → Prop} (h : MemK ks Q) {p q : Nat} (hr : ∀ a b, R a b ↔ Q a b ∨ (a = p ∧ b = q)) : MemK (toIP (p, q) :: ks) R := by
  refine ⟨fun a b => ?_, fun z hz => ?_⟩
  · rw [List.mem_cons, h.mem, hr]
    constructor
    · rintro (e | e)
      · have := toIP_inj e
        exact .inr ⟨congrArg Prod.fst this, congrArg Prod.snd this⟩
      · exact .inl e
    · rintro (e | ⟨rfl, rfl⟩)
      · exact .inr e
      · exact .inl rfl
  · rcases List.mem_cons.mp hz with rfl | hz
    · exact ⟨p, q, rfl⟩
    · exact h.all z hz
theorem MemK.same {ks : List (Int × Int)} {Q R : Nat → Nat → Prop} (h : MemK ks Q) (hr : ∀ a b, R a b ↔ Q a b) : MemK ks R := ⟨fun a b => by rw [h.mem, hr], h.all⟩
def CloI (ps : List Pr) (r p k a b : Nat) : Prop := Pk ps r a b ∨ (a < p ∧ Pk ps r a r ∧ Pk ps r r b) ∨ (a = p ∧ b < r + 1 + k ∧ Pk ps r a r ∧ Pk ps r r b)
section
variable {P : Program} {w : World} {K : PySem.W.Frag} {mg : Str → Option Value} {base : Heap}
def R_clo : FR := fun as ob r ob' => ∃ (n : Nat) (ps : List Pr), as = [.dat (.int (n : Int)), .dat (oD ps)] ∧ Ord n ps ∧ n ≤ 10 ∧ ob = [] ∧ r = .dat (oD (cloN n ps)) ∧ ob' = []
abbrev Scl (P : Program) (w : World) (n : Nat) (ps : List Pr) (a b c : SD) (ks : List (Int × Int)) : SS := ⟨[.dat (.int (n : Int)), .dat (oD ps), .un, .own 0, a, b, c], [.dpp (ExK P w) ks]⟩
theorem sc_law_closure : FnScope ["n", "order", "pair", "found", "r", "p", "q"] ["n", "order"] (defScope s_law_closure) := ⟨rfl, rfl, rfl, by decide +kernel, rfl, by decide +kernel, by decide +kernel⟩
theorem ok_law_closure (D : Df K mg "_law_closure" s_law_closure ["n", "order"]) (B : Bi mg) : FnG P w K mg base CX0 1 D.f D.fd ["n", "order"] (spD K 2 R_clo) := by
  refine okG D.F sc_law_closure (fun vs H Q E h => h.1) (fun cdv A outer s H vs Q E hr gd h => ?_)
  have hu := huX hr
  refine ⟨_, (pss_cons (ps_set (i := 3) sc_law_closure.nd rfl (Or.inl rfl) (pe_callTy (cr_dictK rfl hu) (by rfl) B.z_dict (by decide +kernel) (pa_cons (pe_lc (own := [("pair", 2)]) (g := gName 2) (tt := tYes) (by rfl) sc_law_closure.nd (pi_tup (pv 1)) (blkOk_by (own := [("pair", 2)]) (N := ["n", "order", "pair", "found", "r", "p", "q"]) (sc := defScope s_law_closure) (by decide +kernel)) (fun _ _ _ _ _ => (pg_name (i := 2) sc_law_closure.nd rfl (Or.inl rfl))) (fun _ _ _ _ _ => pts_nil) (fun _ _ _ _ _ => (pe_tup (pa_cons (pv 2) (pa_cons pe_bl pa_nil))))) pa_nil)))
      (pss_cons (ps_for PassesOwn.never rfl (pi_range1 (by rfl) B.z_range (pa_cons (pv 0) pa_nil)) (pg_name (i := 4) sc_law_closure.nd rfl (Or.inl rfl))
        (pss_one (ps_for PassesOwn.never rfl (pi_range1 (by rfl) B.z_range (pa_cons (pv 4) pa_nil)) (pg_name (i := 5) sc_law_closure.nd rfl (Or.inl rfl))
          (pss_one (ps_for PassesOwn.never rfl (pi_range2 (by rfl) B.z_range (pa_cons (pe_op op_plus (pv 4) pe_int) (pa_cons (pv 0) pa_nil))) (pg_name (i := 6) sc_law_closure.nd rfl (Or.inl rfl))
            (pss_one (ps_if (PW.pt (pw_and (pt_cmpR (op_inE hu) (pe_tup (pa_cons (pv 5) (pa_cons (pv 4) pa_nil))) (pv 3) (by with_unfolding_all rfl)) (pw_and1 (pt_cmpR (op_inE hu) (pe_tup (pa_cons (pv 4) (pa_cons (pv 6) pa_nil))) (pv 3) (by with_unfolding_all rfl))))) (pss_one (ps_asg pe_bl (pg_sub (pv 3) (pe_tup (pa_cons (pv 5) (pa_cons (pv 6) pa_nil))) (set_E hu)))) pss_nil)))))))
      (pss_one (ps_ret (pe_callTy cb_tuple (by rfl) B.z_tuple (by decide +kernel) (pa_cons (pe_callB (cr_sortE rfl) (by rfl) B.z_sorted (by decide +kernel) (pa_cons (pv 3) pa_nil)) pa_nil)))))), ?_⟩
  refine body_ofG h (by decide) (fun as ob r ob' hR => ?_) fun as ob r ob' hR hl => ?_
  · obtain ⟨n, ps, rfl, _, _, rfl, rfl, rfl⟩ := hR
    exact ⟨Nat.le_refl _, fun _ z => by cases z⟩
  obtain ⟨n, ps, rfl, o, hn, rfl, rfl, rfl⟩ := hR
  have l45 := o.l45 hn
  refine ts_seq (ts_asg (x := .own 0) (S1 := ⟨[.dat (.int (n : Int)), .dat (oD ps), .un, .un, .un, .un, .un], [.dpp (ExK P w) (ps.map toIP)]⟩) (eo_dictK (xs := ps.map toIP) (d := .bool true) (v := .bl true) (S1 := ⟨[.dat (.int (n : Int)), .dat (oD ps), .un, .un, .un, .un, .un], []⟩) (ee_of_el (by
    rw [List.map_map]
    exact el_lcmA (dA := pD) (lst := ps) (f := (fun q => PyData.tuple [DL.prD q, .bool true]) ∘ toIP) (S0 := ⟨[.dat (.int (n : Int)), .dat (oD ps), .un, .un, .un, .un, .un], []⟩) (ei_tup (ee_var rfl)) (by omega) fun x hx => ⟨_, egc_name (by decide), rfl, _, ee_tup (ds := [pD x, .bool true]) (ed_cons (ee_var rfl) (ed_cons ee_bl ed_nil)), rfl⟩)) (fun Hf u hu => by cases hu; rfl)) ?_)
  have m0 : MemK (ps.map toIP) (Pk ps 0) := ⟨fun a b => by
    rw [pk_zero, List.mem_map]
    exact ⟨fun ⟨x, hx, e⟩ => by rw [← toIP_inj e]; exact hx, fun h => ⟨_, h, rfl⟩⟩, fun z hz => by
    obtain ⟨x, hx, rfl⟩ := List.mem_map.mp hz
    exact ⟨x.1, x.2, rfl⟩⟩
  have z0 : (ps.map toIP).length ≤ 45 + 0 * 100 := by
    rw [List.length_map]
    omega
  refine ts_seq (ts_for (S0 := Scl P w n ps .un .un .un (ps.map toIP)) (ei_rng1n (n := n) (ed_cons (ee_var rfl) ed_nil) (by omega)) (fun r S => ∃ a b c ks, S = Scl P w n ps a b c ks ∧ MemK ks (Pk ps r) ∧ ks.length ≤ 45 + r * 100) ⟨_, _, _, _, rfl, m0, z0⟩ ?_ ?_)
  · rintro r d S' hd ⟨a, b, c, ks, rfl, mk, mz⟩
    obtain ⟨hrn, rfl⟩ := rngD_get hd
    rw [show (0 : Int) + (r : Int) = (r : Int) by omega]
    refine ⟨Scl P w n ps (.dat (.int (r : Int))) b c ks, eg_name, ?_⟩
    refine ts_for (S0 := Scl P w n ps (.dat (.int (r : Int))) b c ks) (ei_rng1n (n := r) (ed_cons (ee_var rfl) ed_nil) (by omega)) (fun p S => ∃ b c ks, S = Scl P w n ps (.dat (.int (r : Int))) b c ks ∧ MemK ks (CloI ps r p 0) ∧ ks.length ≤ 45 + r * 100 + p * 10) ⟨_, _, _, rfl, mk.same fun a b => ?_, by omega⟩ ?_ ?_
    · unfold CloI
      constructor
      · rintro (h | ⟨h, _⟩ | ⟨_, h2, _, h4⟩)
        · exact h
        · omega
        · have := (h4.lt o.ok).1
          omega
      · exact .inl
    · rintro p d S' hd ⟨b, c, ks, rfl, mk, mz⟩
      obtain ⟨hpr, rfl⟩ := rngD_get hd
      rw [show (0 : Int) + (p : Int) = (p : Int) by omega]
      refine ⟨Scl P w n ps (.dat (.int (r : Int))) (.dat (.int (p : Int))) c ks, eg_name, ?_⟩
      refine ts_for (ds := rngD ((r : Int) + 1) ((n : Int) - ((r : Int) + 1)).toNat) (S0 := Scl P w n ps (.dat (.int (r : Int))) (.dat (.int (p : Int))) c ks) (ei_rng2 (ed_cons (ee_op (ee_var rfl) ee_int ro_add) (ed_cons (ee_var rfl) ed_nil)) (by omega)) (fun k S => ∃ c ks, S = Scl P w n ps (.dat (.int (r : Int))) (.dat (.int (p : Int))) c ks ∧ MemK ks (CloI ps r p k) ∧ ks.length ≤ 45 + r * 100 + p * 10 + k) ⟨_, _, rfl, mk, by omega⟩ ?_ ?_
      · rintro k d S' hd ⟨c, ks, rfl, mk, mz⟩
        obtain ⟨hkn, rfl⟩ := rngD_get hd
        rw [show (r : Int) + 1 + (k : Int) = ((r + 1 + k : Nat) : Int) by omega]
        have kl : ks.length < 1000000 := by
          have : r * 100 ≤ 10 * 100 := Nat.mul_le_mul_right _ (by omega)
          have : p * 10 ≤ 10 * 10 := Nat.mul_le_mul_right _ (by omega)
          omega
        have t1 : toIP (p, r) ∈ ks ↔ Pk ps r p r := by
          rw [mk.mem]
          unfold CloI
          constructor
          · rintro (h | ⟨h, _⟩ | ⟨_, _, _, h⟩)
            · exact h
            · omega
            · have := (h.lt o.ok).1
              omega
          · exact .inl
        have t2 : toIP (r, r + 1 + k) ∈ ks ↔ Pk ps r r (r + 1 + k) := by
          rw [mk.mem]
          unfold CloI
          constructor
          · rintro (h | ⟨h, _⟩ | ⟨h, _⟩)
            · exact h
            · omega
            · omega
          · exact .inl
        have step : ∀ a b, CloI ps r p (k + 1) a b ↔ CloI ps r p k a b ∨ (a = p ∧ b = r + 1 + k ∧ Pk ps r p r ∧ Pk ps r r (r + 1 + k)) := fun a b => by
          unfold CloI
          constructor
          · rintro (h | h | ⟨rfl, h2, h3, h4⟩)
            · exact .inl (.inl h)
            · exact .inl (.inr (.inl h))
            · by_cases e : b = r + 1 + k
              · subst e
                exact .inr ⟨rfl, rfl, h3, h4⟩
              · exact .inl (.inr (.inr ⟨rfl, by omega, h3, h4⟩))
          · rintro ((h | h | ⟨h1, h2, h3⟩) | ⟨rfl, rfl, h3, h4⟩)
            · exact .inl h
            · exact .inr (.inl h)
            · exact .inr (.inr ⟨h1, by omega, h3⟩)
            · exact .inr (.inr ⟨rfl, by omega, h3, h4⟩)
        generalize r + 1 + k = q at t2 step ⊢
        refine ⟨Scl P w n ps (.dat (.int (r : Int))) (.dat (.int (p : Int))) (.dat (.int (q : Int))) ks, eg_name, ts_if (b := decide (toIP (p, r) ∈ ks) && decide (toIP (r, q) ∈ ks)) (S1 := Scl P w n ps (.dat (.int (r : Int))) (.dat (.int (p : Int))) (.dat (.int (q : Int))) ks) (et_and (et_test (ee_op (x := .dat (DL.prD (toIP (p, r)))) (ee_tup (ds := [.int (p : Int), .int (r : Int)]) (ed_cons (ee_var rfl) (ed_cons (ee_var rfl) ed_nil))) (ee_var (x := .own 0) rfl) (ro_inE (q := toIP (p, r)) rfl))) fun _ => et_test (ee_op (x := .dat (DL.prD (toIP (r, q)))) (ee_tup (ds := [.int (r : Int), .int (q : Int)]) (ed_cons (ee_var rfl) (ed_cons (ee_var rfl) ed_nil))) (ee_var (x := .own 0) rfl) (ro_inE (q := toIP (r, q)) rfl))) (fun hb => ?_) fun hb => ?_⟩
        · rw [Bool.and_eq_true, decide_eq_true_eq, decide_eq_true_eq, t1, t2] at hb
          refine ts_asgG (d := .bool true) (S1 := Scl P w n ps (.dat (.int (r : Int))) (.dat (.int (p : Int))) (.dat (.int (q : Int))) ks) ee_bl (egh_subE (q := toIP (p, q)) (k := 0) (ks := ks) (S1 := Scl P w n ps (.dat (.int (r : Int))) (.dat (.int (p : Int))) (.dat (.int (q : Int))) ks) (ee_var rfl) (ee_tup (ds := [.int (p : Int), .int (q : Int)]) (ed_cons (ee_var rfl) (ed_cons (ee_var rfl) ed_nil))) rfl kl) ⟨_, _, rfl, mk.put fun a b => ?_, ?_⟩
          · rw [step a b]
            exact ⟨fun h => h.elim .inl fun h => .inr ⟨h.1, h.2.1⟩, fun h => h.elim .inl fun h => .inr ⟨h.1, h.2, hb.1, hb.2⟩⟩
          · rw [List.length_cons]
            omega
        · rw [Bool.and_eq_false_iff, decide_eq_false_iff_not, decide_eq_false_iff_not, t1, t2] at hb
          refine ts_next ⟨_, _, rfl, mk.same fun a b => ?_, by omega⟩
          rw [step a b]
          exact ⟨fun h => h.elim id fun h => (hb.elim (fun z => z h.2.2.1) fun z => z h.2.2.2).elim, .inl⟩
      · rintro S' ⟨c, ks, rfl, mk, mz⟩
        rw [rngD_len] at mk mz
        refine ⟨_, _, _, rfl, mk.same fun a b => ?_, by omega⟩
        unfold CloI
        constructor
        · rintro (h | ⟨h, h3, h4⟩ | ⟨h, h2, h3, h4⟩)
          · exact .inl h
          · by_cases e : a = p
            · exact .inr (.inr ⟨e, by have := (h4.lt o.ok).2; omega, h3, h4⟩)
            · exact .inr (.inl ⟨by omega, h3, h4⟩)
          · have := (h4.lt o.ok).1
            omega
        · rintro (h | ⟨h, h3, h4⟩ | ⟨h, h2, h3, h4⟩)
          · exact .inl h
          · exact .inr (.inl ⟨by omega, h3, h4⟩)
          · exact .inr (.inl ⟨by omega, h3, h4⟩)
    · rintro S' ⟨b, c, ks, rfl, mk, mz⟩
      rw [rngD_len] at mk mz
      refine ⟨_, _, _, _, rfl, mk.same fun a b => ?_, by omega⟩
      rw [pk_succ o.ok]
      unfold CloI
      constructor
      · rintro (h | ⟨h3, h4⟩)
        · exact .inl h
        · exact .inr (.inl ⟨(h3.lt o.ok).1, h3, h4⟩)
      · rintro (h | ⟨h, h3, h4⟩ | ⟨h, h2, h3, h4⟩)
        · exact .inl h
        · exact .inr ⟨h3, h4⟩
        · exact .inr ⟨h3, h4⟩
  · rintro S' ⟨a, b, c, ks, rfl, mk, mz⟩
    rw [rngD_len] at mk
    have hk : ∀ z, z ∈ ks ↔ ∃ x ∈ cloN n ps, z = toIP x := fun z => by
      constructor
      · intro hz
        obtain ⟨a, b, rfl⟩ := mk.all z hz
        exact ⟨(a, b), (clo_mem o).mpr ((pk_all o.ok).mp ((mk.mem a b).mp hz)), rfl⟩
      · rintro ⟨⟨a, b⟩, hx, rfl⟩
        exact (mk.mem a b).mpr ((pk_all o.ok).mpr ((clo_mem o).mp hx))
    refine ts_ret (S1 := Scl P w n ps a b c ks) (ee_cb (ea_cons (x := .dat (.list ((cloN n ps).map pD))) (ee_of_el ?_) ea_nil) (rc_tupL (.dat _))) ⟨rfl, ⟨[.dpp (ExK P w) ks], rfl⟩⟩
    rw [← pr_toIP]
    exact el_sortE (k := 0) (ks := ks) (S1 := Scl P w n ps a b c ks) (ee_var rfl) rfl (ord_sort (cloN_ord o) hk)
end
end K13

set_option maxRecDepth 100000
set_option maxHeartbeats 4000000
namespace K13
open PySem PySem.Spec PyProof.Rows L2 DL
/-! ### what may be shown -/
theorem nc_prs {n : Nat} (hn : n ≤ 100) {ps : List Pr} (h : PrOk n ps) (hl : ps.length ≤ 1000) : Nc 2 3811003 (oD ps) := (Nc.tup (k := 1) (b := 3809) (m := 1000) (fun x hx => by
  obtain ⟨y, hy, rfl⟩ := List.mem_map.mp hx
  have := h y hy
  exact nc_two (Nc.ints (by omega)) (Nc.ints (by omega))) (by rw [List.length_map]; exact hl)).mono (by decide) (by decide)
theorem nc_ask {n : Nat} (hn : n ≤ 100) {ps : List Pr} (h : PrOk n ps) (hl : ps.length ≤ 1000) {net : List Gate} (hk : NetOk n net) (hz : net.length ≤ 1000) : Nc 60 16000000 (.list [oD ps, nD net]) := (Nc.lst (k := 2) (b := 3811003) (m := 2) (fun x hx => by
  rcases List.mem_cons.mp hx with rfl | hx
  · exact nc_prs hn h hl
  · rw [List.mem_singleton.mp hx]
    exact nc_net hk hn hz) (Nat.le_refl _)).mono (by decide) (by decide)
theorem nc_keys {a : Int} {b : Bool} (h : -1000 ≤ a ∧ a ≤ 1000) : Nc 60 16000000 (.list [.int a, .bool b]) := (Nc.lst (k := 0) (b := 1901) (m := 2) (fun x hx => by
  rcases List.mem_cons.mp hx with rfl | hx
  · exact Nc.ints h
  · rw [List.mem_singleton.mp hx]
    exact Nc.bl b) (Nat.le_refl _)).mono (by decide) (by decide)
end K13

set_option maxRecDepth 100000
set_option maxHeartbeats 4000000
namespace K13
open PySem PySem.Spec PyProof.Rows L2 DL
/-! ### nine lines and ten -/
theorem eqv_pD (a b : Pr) : PyData.eqv (pD a) (pD b) = decide (a = b) := by
  have h := eqv_tupI (ns := [(a.1 : Int), (a.2 : Int)]) (ms := [(b.1 : Int), (b.2 : Int)])
  refine h.trans ?_
  rw [Bool.eq_iff_iff, decide_eq_true_iff, decide_eq_true_iff]
  constructor
  · intro h
    simp at h
    exact Prod.ext (by omega) (by omega)
  · rintro rfl
    rfl
theorem any_pD {l : List Pr} {x : Pr} : ((l.map pD).any fun z => PyData.eqv z (pD x)) = decide (x ∈ l) := by
  rw [List.any_map, Bool.eq_iff_iff, List.any_eq_true, decide_eq_true_iff]
  constructor
  · rintro ⟨y, hy, e⟩
    have e : PyData.eqv (pD y) (pD x) = true := e
    rw [eqv_pD] at e
    rw [← of_decide_eq_true e]
    exact hy
  · intro h
    exact ⟨x, h, by show PyData.eqv (pD x) (pD x) = true; rw [eqv_pD, decide_eq_true rfl]⟩
def run10 (split : Int) : List Pr := ((List.range 9).filter fun (p : Nat) => !decide ((p : Int) ∈ ([4, split] : List Int))).map fun p => (p, p + 1)
theorem run10_ord (split : Int) : Ord 10 (run10 split) := by
  unfold run10
  refine ⟨?_, fun x hx => ?_⟩
  · rw [List.pairwise_map]
    exact List.Pairwise.imp (fun h => .inl h) (List.pairwise_lt_range.filter _)
  · obtain ⟨p, hp, rfl⟩ := List.mem_map.mp hx
    have := List.mem_range.mp (List.mem_filter.mp hp).1
    exact ⟨Nat.lt_succ_self _, by show p + 1 < 10; omega⟩
theorem spread_toG {n : Nat} {L : List Int} (h : UpL n L) {ps : List Pr} (hp : PrOk L.length ps) : nD (spreadG L (ps.map toG)) = oD (ps.map fun x => ((L.getD x.1 0).toNat, (L.getD x.2 0).toNat)) := by
  rw [toG_oD]
  congr 1
  unfold spreadG
  rw [List.map_map, List.map_map]
  refine List.map_congr_left fun x hx => ?_
  have := hp x hx
  have a := h.in (i := x.1) (by omega)
  have b := h.in (i := x.2) (by omega)
  show (val L (x.1 : Int), val L (x.2 : Int)) = (((L.getD x.1 0).toNat : Int), ((L.getD x.2 0).toNat : Int))
  unfold val
  rw [Int.toNat_natCast, Int.toNat_natCast, Int.toNat_of_nonneg a.1, Int.toNat_of_nonneg b.1]
theorem toG_ok {n : Nat} {ps : List Pr} (h : PrOk n ps) : NetOk n (ps.map toG) := fun g hg => by
  obtain ⟨x, hx, rfl⟩ := List.mem_map.mp hg
  have := h x hx
  exact ⟨by show (0 : Int) ≤ (x.1 : Int); omega, by show (x.1 : Int) < (x.2 : Int); omega, by show (x.2 : Int) < (n : Int); omega⟩
def wdn (W : Well) : Nat := 9 + (if (draw 4 W).1 = 0 then 1 else 0)
def wdm (W : Well) : Nat := (3 + (draw 3 (draw 4 W).2).1).toNat
def wN (m : Nat) (W3 : Well) : List Gate × Well := ngN m (draw 7 W3).2 (3 + (draw 7 W3).1).toNat
def w8 (W5 : Well) : List Gate × Well := ngN 10 (draw 16 (draw 9 W5).2).2 (draw 16 (draw 9 W5).2).1.toNat
def wideW (W : Well) : Well := (w8 (wN (wdm W) (pickW 1 (wdn W) (draw 3 (draw 4 W).2).2)).2).2
theorem nc_o {n : Nat} {ps : List Pr} (hn : n ≤ 10) (o : Ord n ps) : Nc 60 16000000 (oD ps) := (nc_prs (n := n) (by omega) o.ok (by have := o.l45 hn; omega)).mono (by decide) (by decide)
section
variable {P : Program} {w : World} {K : PySem.W.Frag} {mg : Str → Option Value} {base : Heap}
def R_wide : FR := fun as ob r ob' => ∃ W, as = [.own 0] ∧ ob = [W.oo] ∧ W.deep.length ≤ 100 ∧ r = .dat (.bool true) ∧ ob' = [(wideW W).oo]
abbrev Sy (W : Well) (a b c d e f g h i : SD) : SS := ⟨[.own 0, a, b, c, d, e, f, g, h, i], [W.oo]⟩
theorem sc_law_is_wide : FnScope ["deck", "n", "many", "lines", "small", "due", "split", "p", "order", "network"] ["deck"] (defScope s_law_is_wide) := ⟨rfl, rfl, rfl, by decide +kernel, rfl, by decide +kernel, by decide +kernel⟩
theorem ok_law_is_wide (D : Df K mg "_law_is_wide" s_law_is_wide ["deck"]) (B : Bi mg) (Dword_lanes : Df K mg "word_lanes" sword_lanes ["n", "words"]) (Drun_lanes : Df K mg "run_lanes" srun_lanes ["network", "lanes"]) (Dlet_words : Df K mg "let_words" slet_words ["n", "order"]) (Dlet_rows : Df K mg "let_rows" slet_rows ["order", "choices"]) (D_let_keys : Df K mg "_let_keys" s_let_keys ["row", "below", "keys"]) (Dsure : Df K mg "sure" ssure ["n", "order", "network"]) (D_law_draw : Df K mg "_law_draw" s_law_draw ["deck", "many"]) (D_law_mixed : Df K mg "_law_mixed" s_law_mixed ["deck", "items"]) (D_law_is_let : Df K mg "_law_is_let" s_law_is_let ["order", "row"]) (D_law_rows : Df K mg "_law_rows" s_law_rows ["n", "top"]) (D_law_some : Df K mg "_law_some" s_law_some ["n", "order", "top"]) (D_law_run : Df K mg "_law_run" s_law_run ["network", "row"]) (D_law_network : Df K mg "_law_network" s_law_network ["deck", "n", "many"]) (D_law_due : Df K mg "_law_due" s_law_due ["n", "network", "rows"]) (D_law_spread : Df K mg "_law_spread" s_law_spread ["lines", "network"]) (D_law_lines : Df K mg "_law_lines" s_law_lines ["deck", "n", "many"]) : FnG P w K mg base CX0 5 D.f D.fd ["deck"] (spD K 1 R_wide) := by
  have oksure : FnG P w K mg base CX0 4 _ _ _ _ := oksure Dsure B Dword_lanes Drun_lanes Dlet_words Dlet_rows D_let_keys
  have ok_law_draw : FnG P w K mg base CX0 1 _ _ _ _ := ok_law_draw D_law_draw B
  have ok_law_some : FnG P w K mg base CX0 2 _ _ _ _ := ok_law_some D_law_some B D_law_is_let D_law_rows
  have ok_law_network : FnG P w K mg base CX0 2 _ _ _ _ := ok_law_network D_law_network B D_law_draw
  have ok_law_due : FnG P w K mg base CX0 2 _ _ _ _ := ok_law_due D_law_due B D_law_run
  have ok_law_spread : FnG P w K mg base CX0 1 _ _ _ _ := ok_law_spread D_law_spread B
  have ok_law_lines : FnG P w K mg base CX0 3 _ _ _ _ := ok_law_lines D_law_lines B D_law_draw D_law_mixed
  refine okG D.F sc_law_is_wide (fun vs H Q E h => h.1) (fun cdv A outer s H vs Q E hr gd h => ?_)
  have hu := huX hr
  refine ⟨_, (pss_cons (ps_par (i := 1) (j := 2) (by rfl) sc_law_is_wide.nd rfl rfl (by decide) rfl rfl (pa_cons (pe_op op_plus pe_int (pe_callTy cb_int (by rfl) B.z_int (by decide +kernel) (pa_cons (pe_cmpR (op_eqU hu) (pe_callG (ok_law_draw) (hr.mono (by decide)) gd (by rfl) D_law_draw.m D_law_draw.F.kp D_law_draw.b .nil pass0 (pa_cons (pv 0) (pa_cons pe_int pa_nil))) pe_int (nomark _)) pa_nil))) (pa_cons (pe_op op_plus pe_int (pe_callG (ok_law_draw) (hr.mono (by decide)) gd (by rfl) D_law_draw.m D_law_draw.F.kp D_law_draw.b .nil pass0 (pa_cons (pv 0) (pa_cons pe_int pa_nil)))) pa_nil)) (by rfl))
      (pss_cons (ps_par (i := 3) (j := 4) (by rfl) sc_law_is_wide.nd rfl rfl (by decide) rfl rfl (pa_cons (pe_callG (ok_law_lines) (hr.mono (by decide)) gd (by rfl) D_law_lines.m D_law_lines.F.kp D_law_lines.b .nil pass0 (pa_cons (pv 0) (pa_cons (pv 1) (pa_cons (pv 2) pa_nil)))) (pa_cons (pe_callG (ok_law_network) (hr.mono (by decide)) gd (by rfl) D_law_network.m D_law_network.F.kp D_law_network.b .nil pass0 (pa_cons (pv 0) (pa_cons (pv 2) (pa_cons (pe_op op_plus pe_int (pe_callG (ok_law_draw) (hr.mono (by decide)) gd (by rfl) D_law_draw.m D_law_draw.F.kp D_law_draw.b .nil pass0 (pa_cons (pv 0) (pa_cons pe_int pa_nil)))) pa_nil)))) pa_nil)) (by rfl))
      (pss_cons (ps_set (i := 5) sc_law_is_wide.nd rfl (Or.inl rfl) (pe_callG (ok_law_spread) (hr.mono (by decide)) gd (by rfl) D_law_spread.m D_law_spread.F.kp D_law_spread.b .nil pass0 (pa_cons (pv 3) (pa_cons (pe_callG (ok_law_due) (hr.mono (by decide)) gd (by rfl) D_law_due.m D_law_due.F.kp D_law_due.b .nil pass0 (pa_cons (pv 2) (pa_cons (pv 4) (pa_cons (pe_callG (ok_law_some) (hr.mono (by decide)) gd (by rfl) D_law_some.m D_law_some.F.kp D_law_some.b .nil pass0 (pa_cons (pv 2) (pa_cons (pe_tup pa_nil) (pa_cons pe_int pa_nil)))) pa_nil)))) pa_nil))))
      (pss_cons (ps_if (pt_cmpR (op_neU hu) (pe_callB (call_reprD gd hu) (by rfl) B.z_repr (by decide +kernel) (pa_cons (pe_callG (oksure) (hr.mono (by decide)) gd (by rfl) Dsure.m Dsure.F.kp Dsure.b .nil pass0 (pa_cons (pv 1) (pa_cons (pe_tup pa_nil) (pa_cons (pe_callG (ok_law_spread) (hr.mono (by decide)) gd (by rfl) D_law_spread.m D_law_spread.F.kp D_law_spread.b .nil pass0 (pa_cons (pv 3) (pa_cons (pv 4) pa_nil))) pa_nil)))) pa_nil)) (pe_callB (call_reprD gd hu) (by rfl) B.z_repr (by decide +kernel) (pa_cons (pv 5) pa_nil)) (nomark _)) (pss_one (ps_ret pe_bl)) pss_nil)
      (pss_cons (ps_set (i := 6) sc_law_is_wide.nd rfl (Or.inr rfl) (pe_callG (ok_law_draw) (hr.mono (by decide)) gd (by rfl) D_law_draw.m D_law_draw.F.kp D_law_draw.b .nil pass0 (pa_cons (pv 0) (pa_cons pe_int pa_nil))))
      (pss_cons (ps_set (i := 8) sc_law_is_wide.nd rfl (Or.inl rfl) (pe_callTy cb_tuple (by rfl) B.z_tuple (by decide +kernel) (pa_cons (pe_lc (own := [("p", 7)]) (g := gName 7) (by rfl) sc_law_is_wide.nd (pi_range1 (by rfl) B.z_range (pa_cons pe_int pa_nil)) (blkOk_by (own := [("p", 7)]) (N := ["deck", "n", "many", "lines", "small", "due", "split", "p", "order", "network"]) (sc := defScope s_law_is_wide) (by decide +kernel)) (fun _ _ _ _ _ => (pg_name (i := 7) sc_law_is_wide.nd rfl (Or.inl rfl))) (fun _ _ _ _ _ => (pts_one (pt_cmpR (opK K (R := (fun K => rIn K true)) op_notIn_seq rfl) (pv 7) (pe_tup (pa_cons pe_int (pa_cons (pv 6) pa_nil))) (by with_unfolding_all rfl)))) (fun _ _ _ _ _ => (pe_tup (pa_cons (pv 7) (pa_cons (pe_op (opK K (R := rPlus) op_plus rfl) (pv 7) pe_int) pa_nil))))) pa_nil)))
      (pss_cons (ps_set (i := 9) sc_law_is_wide.nd rfl (Or.inl rfl) (pe_callG (ok_law_network) (hr.mono (by decide)) gd (by rfl) D_law_network.m D_law_network.F.kp D_law_network.b .nil pass0 (pa_cons (pv 0) (pa_cons pe_int (pa_cons (pe_callG (ok_law_draw) (hr.mono (by decide)) gd (by rfl) D_law_draw.m D_law_draw.F.kp D_law_draw.b .nil pass0 (pa_cons (pv 0) (pa_cons pe_int pa_nil))) pa_nil)))))
      (pss_one (ps_ret (pe_cmpR (op_eqU hu) (pe_callB (call_reprD gd hu) (by rfl) B.z_repr (by decide +kernel) (pa_cons (pe_callG (oksure) (hr.mono (by decide)) gd (by rfl) Dsure.m Dsure.F.kp Dsure.b .nil pass0 (pa_cons pe_int (pa_cons (pv 8) (pa_cons (pv 9) pa_nil)))) pa_nil)) (pe_callB (call_reprD gd hu) (by rfl) B.z_repr (by decide +kernel) (pa_cons (pe_callG (ok_law_due) (hr.mono (by decide)) gd (by rfl) D_law_due.m D_law_due.F.kp D_law_due.b .nil pass0 (pa_cons pe_int (pa_cons (pv 9) (pa_cons (pe_callG (ok_law_some) (hr.mono (by decide)) gd (by rfl) D_law_some.m D_law_some.F.kp D_law_some.b .nil pass0 (pa_cons pe_int (pa_cons (pv 8) (pa_cons pe_int pa_nil)))) pa_nil)))) pa_nil)) (nomark _))))))))))), ?_⟩
  refine body_of h (by decide) fun as ob r ob' hR hl => ?_
  obtain ⟨W, rfl, rfl, hd, rfl, rfl⟩ := hR
  have d4 := draw_deep 4 W hd
  have d3 := draw_deep 3 _ d4
  have r1 := draw_lo 3 (draw 4 W).2
  have r2 := draw_hi (m := 3) (draw 4 W).2 (by decide)
  have en : ((wdn W : Nat) : Int) = 9 + (if decide ((draw 4 W).1 = 0) = true then 1 else 0) := by
    unfold wdn
    by_cases q : (draw 4 W).1 = 0
    · rw [if_pos q, if_pos (decide_eq_true q)]
      rfl
    · rw [if_neg q, if_neg (fun z => q (of_decide_eq_true z))]
      rfl
  have em : ((wdm W : Nat) : Int) = 3 + (draw 3 (draw 4 W).2).1 := by
    unfold wdm
    omega
  have n1 : 9 ≤ wdn W ∧ wdn W ≤ 10 := by
    unfold wdn
    split <;> omega
  have m1 : 3 ≤ wdm W ∧ wdm W ≤ 5 := by omega
  unfold wideW
  refine ts_seq (ts_par (x := .dat (.int (wdn W : Int))) (y := .dat (.int (wdm W : Int))) (S1 := Sy (draw 3 (draw 4 W).2).2 .un .un .un .un .un .un .un .un .un) (ea_cons (S1 := Sy (draw 4 W).2 .un .un .un .un .un .un .un .un .un) (by rw [en]; exact ee_op (S1 := Sy W .un .un .un .un .un .un .un .un .un) (S2 := Sy (draw 4 W).2 .un .un .un .un .un .un .un .un .un) ee_int (ee_cb (ea_cons (S1 := Sy (draw 4 W).2 .un .un .un .un .un .un .un .un .un) (ee_op (S1 := Sy (draw 4 W).2 .un .un .un .un .un .un .un .un .un) (ee_dr (W := W) (k := 0) (S1 := Sy W .un .un .un .un .un .un .un .un .un) (ea_cons (ee_var rfl) (ea_cons ee_int ea_nil)) rfl (by decide) hd) ee_int ro_eqI) ea_nil) rc_intB) ro_add) (ea_cons (by rw [em]; exact ee_op (S1 := Sy (draw 4 W).2 .un .un .un .un .un .un .un .un .un) (S2 := Sy (draw 3 (draw 4 W).2).2 .un .un .un .un .un .un .un .un .un) ee_int (ee_dr (W := (draw 4 W).2) (k := 0) (S1 := Sy (draw 4 W).2 .un .un .un .un .un .un .un .un .un) (ea_cons (ee_var rfl) (ea_cons ee_int ea_nil)) rfl (by decide) d4) ro_add) ea_nil)) ?_)
  clear en em r1 r2
  generalize wdn W = n at n1 ⊢
  generalize wdm W = mm at m1 ⊢
  generalize (draw 3 (draw 4 W).2).2 = W2 at d3 ⊢
  clear d4
  obtain ⟨n1, n2⟩ := n1
  obtain ⟨m1, m2⟩ := m1
  show Ts K _ (Sy W2 (.dat (.int (n : Int))) (.dat (.int (mm : Int))) .un .un .un .un .un .un .un) _
  have dW3 : (pickW 1 n W2).deep.length ≤ 100 := pickW_deep d3
  have PL := pickL_ok (lo := 1) (n := n) (W := W2) (k := mm - 1) (by omega)
  have LR : R_lines (.own 0 :: ([.int (n : Int), .int (mm : Int)] : List PyData).map SD.dat) [W2.oo] (.dat (LI (0 :: pickL 1 n W2 (mm - 1)))) [(pickW 1 n W2).oo] := ⟨W2, n, mm, rfl, rfl, d3, by omega, by omega, by omega, rfl, rfl⟩
  have lL : (0 :: pickL 1 (n : Int) W2 (mm - 1)).length = mm := by
    have : (pickL 1 (n : Int) W2 (mm - 1)).length = mm - 1 := PL.2.2
    rw [List.length_cons]
    omega
  have up : UpL n (0 :: pickL 1 (n : Int) W2 (mm - 1)) := ⟨List.pairwise_cons.mpr ⟨fun x hx => by
    have : (1 : Int) ≤ x ∧ x < (n : Int) := PL.2.1 x hx
    omega, PL.1⟩, fun x hx => by
    rcases List.mem_cons.mp hx with rfl | hx
    · omega
    · have : (1 : Int) ≤ x ∧ x < (n : Int) := PL.2.1 x hx
      omega⟩
  generalize pickW 1 (n : Int) W2 = W3 at dW3 LR ⊢
  generalize (0 :: pickL 1 (n : Int) W2 (mm - 1)) = L at lL up LR
  clear PL
  have s1 := draw_lo 7 W3
  have s2 := draw_hi (m := 7) W3 (by decide)
  have d6 := draw_deep 7 W3 dW3
  unfold wN
  obtain ⟨many, hmany⟩ : ∃ t : Nat, 3 + (draw 7 W3).1 = (t : Int) := ⟨(3 + (draw 7 W3).1).toNat, by omega⟩
  rw [hmany, Int.toNat_natCast]
  have e6 : Ee K (tOp (rPlus K) (tC (.int 3)) (tCall (spD K 2 R_draw) [] E0 (tCons (tVar 0) (tCons (tC (.int 7)) tNil)))) (Sy W3 (.dat (.int (n : Int))) (.dat (.int (mm : Int))) .un .un .un .un .un .un .un) (.dat (.int (many : Int))) (Sy (draw 7 W3).2 (.dat (.int (n : Int))) (.dat (.int (mm : Int))) .un .un .un .un .un .un .un) := by
    rw [← hmany]
    exact ee_op (S1 := Sy W3 (.dat (.int (n : Int))) (.dat (.int (mm : Int))) .un .un .un .un .un .un .un) (S2 := Sy (draw 7 W3).2 (.dat (.int (n : Int))) (.dat (.int (mm : Int))) .un .un .un .un .un .un .un) ee_int (ee_dr (W := W3) (k := 0) (S1 := Sy W3 (.dat (.int (n : Int))) (.dat (.int (mm : Int))) .un .un .un .un .un .un .un) (ea_cons (ee_var rfl) (ea_cons ee_int ea_nil)) rfl (by decide) dW3) ro_add
  have many9 : many ≤ 9 := by omega
  clear hmany s1 s2
  generalize (draw 7 W3).2 = W4 at d6 e6 ⊢
  obtain ⟨g1, g2, g3⟩ := ngN_ok (n := mm) (by omega) d6 many
  have NR : R_network (.own 0 :: ([.int (mm : Int), .int (many : Int)] : List PyData).map SD.dat) [W4.oo] (.dat (nD (ngN mm W4 many).1)) [(ngN mm W4 many).2.oo] := ⟨W4, mm, many, rfl, rfl, d6, by omega, by omega, by omega, rfl, rfl⟩
  generalize ngN mm W4 many = s at NR g1 g2 g3 ⊢
  obtain ⟨small, W5⟩ := s
  dsimp only at NR g1 g2 g3
  refine ts_seq (ts_par (x := .dat (LI L)) (y := .dat (nD small)) (S1 := Sy W5 (.dat (.int (n : Int))) (.dat (.int (mm : Int))) .un .un .un .un .un .un .un) (ea_cons (S1 := Sy W3 (.dat (.int (n : Int))) (.dat (.int (mm : Int))) .un .un .un .un .un .un .un) (ee_w1 (k := 0) (W := W2) (W' := W3) (R := R_lines) (S1 := Sy W2 (.dat (.int (n : Int))) (.dat (.int (mm : Int))) .un .un .un .un .un .un .un) [.int (n : Int), .int (mm : Int)] (ea_cons (ee_var rfl) (ea_cons (ee_var rfl) (ea_cons (ee_var rfl) ea_nil))) rfl rfl LR) (ea_cons (ee_w1 (k := 0) (W := W4) (W' := W5) (R := R_network) (S1 := Sy W4 (.dat (.int (n : Int))) (.dat (.int (mm : Int))) .un .un .un .un .un .un .un) [.int (mm : Int), .int (many : Int)] (ea_cons (ee_var rfl) (ea_cons (ee_var rfl) (ea_cons e6 ea_nil))) rfl rfl NR) ea_nil)) ?_)
  show Ts K _ (Sy W5 (.dat (.int (n : Int))) (.dat (.int (mm : Int))) (.dat (LI L)) (.dat (nD small)) .un .un .un .un .un) _
  clear e6 NR LR d6 dW3
  subst lL
  have e32 : 2 ^ L.length ≤ 2 ^ 5 := Nat.pow_le_pow_right (by decide) m2
  have k0 : PrOk L.length ([] : List Pr) := fun _ z => by cases z
  have sO := sureN_ord g1 (ps := [])
  have s45 := sO.l45 (show L.length ≤ 10 by omega)
  have R2 : R_some (([.int (L.length : Int), oD [], .int 2] : List PyData).map SD.dat) [] (.dat (.list ((wordsN L.length []).map rD))) [] := ⟨L.length, 2, [], rfl, by omega, by omega, by decide, by decide, k0, Nat.zero_le _, rfl, rfl, rfl⟩
  have DR : R_due (([.int (L.length : Int), nD small, .list ((wordsN L.length []).map rD)] : List PyData).map SD.dat) [] (.dat (nD ((sureN L.length [] small).map toG))) [] := ⟨L.length, small, wordsN L.length [], rfl, g1, by omega, by omega, Nat.le_trans (words_len _ _) (by omega), fun row h => (words_row h).1, rfl, by rw [due_words g1, toG_oD], rfl⟩
  have SR2 : R_spread (([LI L, nD ((sureN L.length [] small).map toG)] : List PyData).map SD.dat) [] (.dat (oD ((sureN L.length [] small).map fun x => ((L.getD x.1 0).toNat, (L.getD x.2 0).toNat)))) [] := ⟨L, (sureN L.length [] small).map toG, rfl, toG_ok sO.ok, by rw [List.length_map]; omega, rfl, by rw [spread_toG up sO.ok], rfl⟩
  have SR1 : R_spread (([LI L, nD small] : List PyData).map SD.dat) [] (.dat (nD (spreadG L small))) [] := ⟨L, small, rfl, g1, by omega, rfl, rfl, rfl⟩
  have sok := spread_ok up g1
  have slen := spread_len L small
  have ask : AskIn n [] (spreadG L small) := ⟨sok, by omega, n2, (fun _ z => by cases z), Nat.zero_le _⟩
  have SU : R_sure (([.int (n : Int), oD [], nD (spreadG L small)] : List PyData).map SD.dat) [] (.dat (oD (sureN n [] (spreadG L small)))) [] := ⟨n, [], _, rfl, ask, rfl, rfl, rfl⟩
  have ncS := nc_o n2 (sureN_ord sok (ps := []))
  rw [spread_sure up g1] at SU ncS
  generalize (sureN L.length [] small).map (fun x => ((L.getD x.1 0).toNat, (L.getD x.2 0).toNat)) = D at SR2 SU ncS
  refine ts_seq (ts_asg (x := .dat (oD D)) (S1 := Sy W5 (.dat (.int (n : Int))) (.dat (.int (L.length : Int))) (.dat (LI L)) (.dat (nD small)) .un .un .un .un .un) (ee_callD (d := oD D) (ed_cons (ee_var rfl) (ed_cons (ee_callD (d := nD ((sureN L.length [] small).map toG)) (ed_cons (ee_var rfl) (ed_cons (ee_var rfl) (ed_cons (ee_callD (d := .list ((wordsN L.length []).map rD)) (ed_cons (ee_var rfl) (ed_cons (ee_tup (ds := []) ed_nil) (ed_cons ee_int ed_nil))) rfl R2) ed_nil))) rfl DR) ed_nil)) rfl SR2) ?_)
  show Ts K _ (Sy W5 (.dat (.int (n : Int))) (.dat (.int (L.length : Int))) (.dat (LI L)) (.dat (nD small)) (.dat (oD D)) .un .un .un .un) _
  refine ts_seq (ts_if (b := false) (S1 := Sy W5 (.dat (.int (n : Int))) (.dat (.int (L.length : Int))) (.dat (LI L)) (.dat (nD small)) (.dat (oD D)) .un .un .un .un) (et_test (ee_op (ee_cb (ea_cons (ee_callD (d := oD D) (ed_cons (ee_var rfl) (ed_cons (ee_tup (ds := []) ed_nil) (ed_cons (ee_callD (d := nD (spreadG L small)) (ed_cons (ee_var rfl) (ed_cons (ee_var rfl) ed_nil)) rfl SR1) ed_nil))) rfl SU) ea_nil) (rc_rep ncS)) (ee_cb (ea_cons (ee_var rfl) ea_nil) (rc_rep (d := oD D) ncS)) ro_neS_self)) (fun z => by cases z) fun _ => ts_next ?_)
  generalize SD.dat (.int (n : Int)) = a
  generalize SD.dat (.int (L.length : Int)) = b
  generalize SD.dat (LI L) = c
  generalize SD.dat (nD small) = d
  generalize SD.dat (oD D) = e
  have t1 := draw_deep 9 W5 g3
  refine ts_seq (ts_asg (x := .dat (.int (draw 9 W5).1)) (S1 := Sy (draw 9 W5).2 a b c d e .un .un .un .un) (ee_dr (W := W5) (k := 0) (S1 := Sy W5 a b c d e .un .un .un .un) (ea_cons (ee_var rfl) (ea_cons ee_int ea_nil)) rfl (by decide) g3) ?_)
  unfold w8
  generalize (draw 9 W5).2 = W6 at t1 ⊢
  generalize (draw 9 W5).1 = split
  show Ts K _ (Sy W6 a b c d e (.dat (.int split)) .un .un .un) _
  refine ts_seq (ts_asg (x := .dat (oD (run10 split))) (S1 := Sy W6 a b c d e (.dat (.int split)) .un .un .un) (ee_cb (ea_cons (x := .dat (.list ((run10 split).map pD))) (ee_of_el ?_) ea_nil) (rc_tupL (.dat _))) ?_)
  · unfold run10
    rw [List.map_map]
    refine el_lcfA (dA := zD) (lst := List.range 9) (p := fun (p : Nat) => !decide ((p : Int) ∈ ([4, split] : List Int))) (f := pD ∘ fun p => (p, p + 1)) (S0 := Sy W6 a b c d e (.dat (.int split)) .un .un .un) ?_ (by decide) fun p hp => ⟨_, _, egc_name (by decide), et_test (ee_op (ee_var rfl) (ee_tup (ds := ([4, split] : List Int).map PyData.int) (ed_cons ee_int (ed_cons (ee_var rfl) ed_nil)) (show (2 : Nat) ≤ 1000000 by decide)) ro_notInT), rfl, fun _ => ⟨_, ee_eq (ee_tup (ed_cons (ee_var rfl) (ed_cons (ee_op (ee_var rfl) ee_int ro_add) ed_nil))) (pD_succ p), rfl⟩⟩
    rw [← rngD_nD]
    exact ei_rng1n (n := 9) (ed_cons ee_int ed_nil) (by decide)
  have ho := run10_ord split
  generalize run10 split = ps at ho
  show Ts K _ (Sy W6 a b c d e (.dat (.int split)) .un (.dat (oD ps)) .un) _
  have u1 := draw_lo 16 W6
  have u2 := draw_hi (m := 16) W6 (by decide)
  have u3 := draw_deep 16 W6 t1
  have ee := ee_dr (K := K) (E := E0) (W := W6) (k := 0) (m := 16) (ta := tCons (tVar 0) (tCons (tC (.int 16)) tNil)) (S := Sy W6 a b c d e (.dat (.int split)) .un (.dat (oD ps)) .un) (S1 := Sy W6 a b c d e (.dat (.int split)) .un (.dat (oD ps)) .un) (ea_cons (ee_var rfl) (ea_cons ee_int ea_nil)) rfl (by decide) t1
  generalize (draw 16 W6).2 = W7 at *
  obtain ⟨mm, hmm⟩ : ∃ t : Nat, (draw 16 W6).1 = (t : Int) := ⟨(draw 16 W6).1.toNat, by omega⟩
  rw [hmm] at ee u2 ⊢
  rw [Int.toNat_natCast]
  clear u1 hmm
  obtain ⟨nk, nl, d8⟩ := ngN_ok (n := 10) (by decide) u3 mm
  have ngR : R_network (.own 0 :: ([.int ((10 : Nat) : Int), .int (mm : Int)] : List PyData).map SD.dat) [W7.oo] (.dat (nD (ngN (10 : Nat) W7 mm).1)) [(ngN (10 : Nat) W7 mm).2.oo] := ⟨W7, 10, mm, rfl, rfl, u3, by decide, by decide, by omega, rfl, rfl⟩
  have eT : ngN 10 W7 mm = ngN (10 : Nat) W7 mm := rfl
  rw [eT]
  generalize ngN (10 : Nat) W7 mm = G at *
  obtain ⟨net, W8⟩ := G
  dsimp only at nk nl d8 ngR ⊢
  refine ts_seq (ts_asg (x := .dat (nD net)) (S1 := Sy W8 a b c d e (.dat (.int split)) .un (.dat (oD ps)) .un) (ee_w1 (k := 0) (W := W7) (W' := W8) (R := R_network) (S1 := Sy W7 a b c d e (.dat (.int split)) .un (.dat (oD ps)) .un) [.int ((10 : Nat) : Int), .int (mm : Int)] (ea_cons (ee_var rfl) (ea_cons ee_int (ea_cons ee ea_nil))) rfl rfl ngR) ?_)
  show Ts K _ (Sy W8 a b c d e (.dat (.int split)) .un (.dat (oD ps)) (.dat (nD net))) _
  have l45 := ho.l45 (by decide)
  have ask : AskIn 10 ps net := ⟨nk, by omega, by decide, ho.ok, by omega⟩
  have SU : R_sure (([.int ((10 : Nat) : Int), oD ps, nD net] : List PyData).map SD.dat) [] (.dat (oD (sureN 10 ps net))) [] := ⟨10, ps, net, rfl, ask, rfl, rfl, rfl⟩
  have R2 : R_some (([.int ((10 : Nat) : Int), oD ps, .int 2] : List PyData).map SD.dat) [] (.dat (.list ((wordsN 10 ps).map rD))) [] := ⟨10, 2, ps, rfl, by decide, by decide, by decide, by decide, ho.ok, by omega, rfl, rfl, rfl⟩
  have DR : R_due (([.int ((10 : Nat) : Int), nD net, .list ((wordsN 10 ps).map rD)] : List PyData).map SD.dat) [] (.dat (oD (sureN 10 ps net))) [] := ⟨10, net, wordsN 10 ps, rfl, nk, by omega, by decide, Nat.le_trans (words_len _ _) (by decide), fun row h => (words_row h).1, rfl, by rw [due_words nk], rfl⟩
  have ncS := nc_o (n := 10) (by decide) (sureN_ord nk (ps := ps))
  exact ts_ret (S1 := Sy W8 a b c d e (.dat (.int split)) .un (.dat (oD ps)) (.dat (nD net))) (ee_eq (ee_op (ee_cb (ea_cons (ee_callD (d := oD (sureN 10 ps net)) (ed_cons ee_int (ed_cons (ee_var rfl) (ed_cons (ee_var rfl) ed_nil))) rfl SU) ea_nil) (rc_rep ncS)) (ee_cb (ea_cons (ee_callD (d := oD (sureN 10 ps net)) (ed_cons ee_int (ed_cons (ee_var rfl) (ed_cons (ee_callD (d := .list ((wordsN 10 ps).map rD)) (ed_cons ee_int (ed_cons (ee_var rfl) (ed_cons ee_int ed_nil))) rfl R2) ed_nil))) rfl DR) ea_nil) (rc_rep ncS)) ro_eqS) (by rw [decide_eq_true rfl])) ⟨rfl, rfl⟩
end
end K13

set_option maxRecDepth 100000
set_option maxHeartbeats 4000000
namespace K13
open PySem PySem.Spec PyProof.Rows L2 DL
/-! ### the law -/
theorem nc_two_o {n : Nat} {ps : List Pr} (hn : n ≤ 10) (o : Ord n ps) : Nc 60 16000000 (.list [oD ps, oD ps]) := (Nc.lst (k := 2) (b := 3811003) (m := 2) (fun x hx => by
  have h : x = oD ps := by
    rcases List.mem_cons.mp hx with h | hx
    · exact h
    · exact List.mem_singleton.mp hx
  rw [h]
  exact nc_prs (n := n) (by omega) o.ok (by have := o.l45 hn; omega)) (Nat.le_refl _)).mono (by decide) (by decide)
theorem fl_oD {ps : List Pr} : Fl 2 (oD ps) := Fl.tup fun x hx => by
  obtain ⟨y, _, rfl⟩ := List.mem_map.mp hx
  exact Fl.intsT (ns := [(y.1 : Int), (y.2 : Int)])
theorem eqv_emT {ds : List PyData} : PyData.eqv (.tuple ds) (.tuple []) = ds.isEmpty := by cases ds <;> rfl
theorem some_len (n : Nat) (ps : List Pr) (top : Nat) : (someN n ps top).length ≤ top ^ n := by
  unfold someN
  exact Nat.le_trans (List.length_filter_le _ _) (rowsN_len top n)
def nL : List Int := [5, 7, 8]
theorem nL_ok (W : Well) : ∃ v : Nat, nL.getD (draw 3 W).1.toNat 0 = (v : Int) ∧ 5 ≤ v ∧ v ≤ 8 := by
  have h1 := draw_lo 3 W
  have h2 := draw_hi (m := 3) W (by decide)
  obtain ⟨q, hq, hq4⟩ : ∃ q : Nat, (draw 3 W).1.toNat = q ∧ q < 3 := ⟨_, rfl, by omega⟩
  rw [hq]
  match q, hq4 with
  | 0, _ => exact ⟨5, rfl, by decide, by decide⟩
  | 1, _ => exact ⟨7, rfl, by decide, by decide⟩
  | 2, _ => exact ⟨8, rfl, by decide, by decide⟩
section
variable {P : Program} {w : World} {K : PySem.W.Frag} {mg : Str → Option Value} {base : Heap}
def gKwsure : List Value → List Value → List Value
  | [], [a1, a2, a3] => [a3, a2, a1]
  | _, _ => []
def gKwVsure : List V → List V → List V
  | [], [a1, a2, a3] => [a3, a2, a1]
  | _, _ => []
theorem kb_sure (D : Df K mg "sure" ssure ["n", "order", "network"]) : KBinds K D.fd ["n", "order", "network"] ["network", "order", "n"] gKwsure gKwVsure := by
  obtain ⟨oc, od, kV, doc, pm, an, cdv, ct, osl, e, lk, hcd⟩ := D.F.ex
  refine ⟨fun s us ws _ hl => ?_, fun {vs us zs ws} r rz => ?_⟩
  · match us, ws, hl with
    | [], [a1, a2, a3], _ =>
      rw [e]
      exact .of_eq rfl
    | [], [], h => cases h
    | [], [_], h => cases h
    | [], [_, _], h => cases h
    | [], _ :: _ :: _ :: _ :: _, h => cases h
    | _ :: _, _, h => cases h
  · cases r with
    | cons h t => exact .nil
    | nil => cases rz with
      | nil => exact .nil
      | cons h1 t1 => cases t1 with
        | nil => exact .nil
        | cons h2 t2 => cases t2 with
          | nil => exact .nil
          | cons h3 t3 => cases t3 with
            | nil => exact .cons h3 (.cons h2 (.cons h1 (.nil)))
            | cons _ _ => exact .nil
theorem ee_ksure {R : FR} {E : XK} {tk : TA} {S S2 : SS} {d1 d2 d3 d : PyData} (hk : Ed K tk S [d1, d2, d3] S2) (hR : R [.dat d3, .dat d2, .dat d1] [] (.dat d) []) : Ee K (tCallK (spD K 3 R) gKwVsure E tNil tk) S (.dat d) S2 := by
  refine ee_callK (ds := []) (es := [d1, d2, d3]) (fs := [d3, d2, d1]) ed_nil hk (fun Hf vs zs h1 h2 => ?_) rfl hR
  cases h1
  cases h2 with
  | cons q1 t1 =>
    cases t1 with
    | cons q2 t2 =>
      cases t2 with
      | cons q3 t3 =>
        cases t3
        exact .cons q3 (.cons q2 (.cons q1 (.nil)))
theorem ro_neB {K : PySem.W.Frag} {S : SS} {a b : Bool} : Ro K (rNeU K) (.dat (.bool a)) (.dat (.bool b)) S (.dat (.bool (!decide (a = b)))) S := by
  have h := ro_neD (K := K) (S := S) (x := .dat (.bool a)) (y := .dat (.bool b)) (d := .bool a) (e := .bool b) (.dat _) (.dat _) rfl rfl
  have e : PyData.eqv (.bool a) (.bool b) = decide (a = b) := by cases a <;> cases b <;> rfl
  rw [e] at h
  exact h
theorem at_lastG {net : List Gate} (h : net ≠ []) : atI (net.map gD) (-1) = some (gD (net.getD (net.length - 1) (0, 0))) := by
  have hp := List.length_pos_iff.mpr h
  have e : ixN (net.map gD).length (-1) = some (net.length - 1) := by
    unfold ixN
    rw [List.length_map, if_neg (by decide), if_pos (by omega)]
    congr 1
    omega
  unfold atI
  rw [e]
  show (net.map gD)[net.length - 1]? = _
  rw [List.getElem?_map, List.getD_eq_getElem?_getD, List.getElem?_eq_getElem (by omega)]
  rfl
abbrev Sz (ns : List Int) (W V : Well) (a b c d e f g h i j k l : SD) : SS := ⟨[.scr ns, .own 0, .own 1, a, b, c, d, e, f, g, h, i, j, k, l], [W.oo, V.oo]⟩
def R_law : FR := fun as ob r ob' => ∃ ns, as = [.scr ns] ∧ ns.length ≤ 63 ∧ ob = [] ∧ r = .dat (.bool true) ∧ ob' = []
theorem sclaw : FnScope ["script", "deck", "late", "sort", "order", "network", "turn", "n", "kept", "due", "seen", "again", "i", "gate", "closure"] ["script"] (defScope slaw) := ⟨rfl, rfl, rfl, by decide +kernel, rfl, by decide +kernel, by decide +kernel⟩
theorem oklaw (D : Df K mg "law" slaw ["script"]) (B : Bi mg) (Dword_lanes : Df K mg "word_lanes" sword_lanes ["n", "words"]) (Drun_lanes : Df K mg "run_lanes" srun_lanes ["network", "lanes"]) (Dlet_words : Df K mg "let_words" slet_words ["n", "order"]) (Dlet_rows : Df K mg "let_rows" slet_rows ["order", "choices"]) (D_let_keys : Df K mg "_let_keys" s_let_keys ["row", "below", "keys"]) (Dlive : Df K mg "live" slive ["n", "order", "network"]) (Dsure : Df K mg "sure" ssure ["n", "order", "network"]) (Dclosed : Df K mg "closed" sclosed ["n", "order"]) (D_places_above : Df K mg "_places_above" s_places_above ["n", "order"]) (D_pairs : Df K mg "_pairs" s_pairs ["above"]) (D_law_deck : Df K mg "_law_deck" s_law_deck ["script"]) (D_law_draw : Df K mg "_law_draw" s_law_draw ["deck", "many"]) (D_law_pick : Df K mg "_law_pick" s_law_pick ["deck", "items"]) (D_law_mixed : Df K mg "_law_mixed" s_law_mixed ["deck", "items"]) (D_law_is_let : Df K mg "_law_is_let" s_law_is_let ["order", "row"]) (D_law_rows : Df K mg "_law_rows" s_law_rows ["n", "top"]) (D_law_some : Df K mg "_law_some" s_law_some ["n", "order", "top"]) (D_law_run : Df K mg "_law_run" s_law_run ["network", "row"]) (D_law_network : Df K mg "_law_network" s_law_network ["deck", "n", "many"]) (D_law_order : Df K mg "_law_order" s_law_order ["deck", "n"]) (D_law_due : Df K mg "_law_due" s_law_due ["n", "network", "rows"]) (D_law_closure : Df K mg "_law_closure" s_law_closure ["n", "order"]) (D_law_spread : Df K mg "_law_spread" s_law_spread ["lines", "network"]) (D_law_lines : Df K mg "_law_lines" s_law_lines ["deck", "n", "many"]) (D_law_is_wide : Df K mg "_law_is_wide" s_law_is_wide ["deck"]) : FnG P w K mg base CX0 6 D.f D.fd ["script"] (spD K 1 R_law) := by
  have oklive : FnG P w K mg base CX0 4 _ _ _ _ := oklive Dlive B Dword_lanes Drun_lanes Dlet_words Dlet_rows D_let_keys
  have oksure : FnG P w K mg base CX0 4 _ _ _ _ := oksure Dsure B Dword_lanes Drun_lanes Dlet_words Dlet_rows D_let_keys
  have okclosed : FnG P w K mg base CX0 2 _ _ _ _ := okclosed Dclosed B D_places_above D_pairs
  have ok_law_deck : FnG P w K mg base CX0 1 _ _ _ _ := ok_law_deck D_law_deck B
  have ok_law_draw : FnG P w K mg base CX0 1 _ _ _ _ := ok_law_draw D_law_draw B
  have ok_law_pick : FnG P w K mg base CX0 2 _ _ _ _ := ok_law_pick D_law_pick B D_law_draw
  have ok_law_some : FnG P w K mg base CX0 2 _ _ _ _ := ok_law_some D_law_some B D_law_is_let D_law_rows
  have ok_law_network : FnG P w K mg base CX0 2 _ _ _ _ := ok_law_network D_law_network B D_law_draw
  have ok_law_order : FnG P w K mg base CX0 2 _ _ _ _ := ok_law_order D_law_order B D_law_draw
  have ok_law_due : FnG P w K mg base CX0 2 _ _ _ _ := ok_law_due D_law_due B D_law_run
  have ok_law_closure : FnG P w K mg base CX0 1 _ _ _ _ := ok_law_closure D_law_closure B
  have ok_law_is_wide : FnG P w K mg base CX0 5 _ _ _ _ := ok_law_is_wide D_law_is_wide B Dword_lanes Drun_lanes Dlet_words Dlet_rows D_let_keys Dsure D_law_draw D_law_mixed D_law_is_let D_law_rows D_law_some D_law_run D_law_network D_law_due D_law_spread D_law_lines
  have KBsure := kb_sure Dsure
  refine okG D.F sclaw (fun vs H Q E h => h.1) (fun cdv A outer s H vs Q E hr gd h => ?_)
  have hu := huX hr
  refine ⟨_, (pss_cons (ps_par (i := 1) (j := 2) (by rfl) sclaw.nd rfl rfl (by decide) rfl rfl (pa_cons (pe_callG (ok_law_deck) (hr.mono (by decide)) gd (by rfl) D_law_deck.m D_law_deck.F.kp D_law_deck.b .nil pass0 (pa_cons (pv 0) pa_nil)) (pa_cons (pe_callG (ok_law_deck) (hr.mono (by decide)) gd (by rfl) D_law_deck.m D_law_deck.F.kp D_law_deck.b .nil pass0 (pa_cons (pe_op op_plus (pe_lst (pa_cons pe_int pa_nil)) (pe_callTy cb_list (by rfl) B.z_list (by decide +kernel) (pa_cons (pv 0) pa_nil))) pa_nil)) pa_nil)) (by rfl))
      (pss_cons (ps_set (i := 3) sclaw.nd rfl (Or.inl rfl) (pe_callG (ok_law_draw) (hr.mono (by decide)) gd (by rfl) D_law_draw.m D_law_draw.F.kp D_law_draw.b .nil pass0 (pa_cons (pv 2) (pa_cons pe_int pa_nil))))
      (pss_cons (ps_if (pt_cmpR (op_eqU hu) (pv 3) pe_int (nomark _)) (pss_cons (ps_par (i := 4) (j := 5) (by rfl) sclaw.nd rfl rfl (by decide) rfl rfl (pa_cons (pe_callG (ok_law_order) (hr.mono (by decide)) gd (by rfl) D_law_order.m D_law_order.F.kp D_law_order.b .nil pass0 (pa_cons (pv 2) (pa_cons pe_int pa_nil))) (pa_cons (pe_callG (ok_law_network) (hr.mono (by decide)) gd (by rfl) D_law_network.m D_law_network.F.kp D_law_network.b .nil pass0 (pa_cons (pv 2) (pa_cons pe_int (pa_cons (pe_callG (ok_law_pick) (hr.mono (by decide)) gd (by rfl) D_law_pick.m D_law_pick.F.kp D_law_pick.b .nil pass0 (pa_cons (pv 2) (pa_cons (pe_lst (pa_cons (pe_op op_plus pe_int (pe_callG (ok_law_draw) (hr.mono (by decide)) gd (by rfl) D_law_draw.m D_law_draw.F.kp D_law_draw.b .nil pass0 (pa_cons (pv 2) (pa_cons pe_int pa_nil)))) (pa_cons pe_int pa_nil))) pa_nil))) pa_nil)))) pa_nil)) (by rfl))
        (pss_one (ps_ret (pe_cmpR (op_eqU hu) (pe_callB (call_reprD gd hu) (by rfl) B.z_repr (by decide +kernel) (pa_cons (pe_callG (oksure) (hr.mono (by decide)) gd (by rfl) Dsure.m Dsure.F.kp Dsure.b .nil pass0 (pa_cons pe_int (pa_cons (pv 4) (pa_cons (pv 5) pa_nil)))) pa_nil)) (pe_callB (call_reprD gd hu) (by rfl) B.z_repr (by decide +kernel) (pa_cons (pe_callG (ok_law_due) (hr.mono (by decide)) gd (by rfl) D_law_due.m D_law_due.F.kp D_law_due.b .nil pass0 (pa_cons pe_int (pa_cons (pv 5) (pa_cons (pe_callG (ok_law_some) (hr.mono (by decide)) gd (by rfl) D_law_some.m D_law_some.F.kp D_law_some.b .nil pass0 (pa_cons pe_int (pa_cons (pv 4) (pa_cons pe_int pa_nil)))) pa_nil)))) pa_nil)) (nomark _))))) pss_nil)
      (pss_cons (ps_if (pt_cmpR (op_eqU hu) (pv 3) pe_int (nomark _)) (pss_one (ps_ret (pe_callG (ok_law_is_wide) (hr.mono (by decide)) gd (by rfl) D_law_is_wide.m D_law_is_wide.F.kp D_law_is_wide.b .nil pass0 (pa_cons (pv 2) pa_nil)))) pss_nil)
      (pss_cons (ps_for PassesOwn.never rfl (pi_range1 (by rfl) B.z_range (pa_cons pe_int pa_nil)) (pg_name (i := 6) sclaw.nd rfl (Or.inl rfl))
        (pss_cons (ps_set (i := 7) sclaw.nd rfl (Or.inl rfl) (pe_ix ix_seq (pe_lst (pa_cons pe_int (pa_cons pe_int (pa_cons pe_int (pa_cons pe_int (pa_cons (pe_callG (ok_law_pick) (hr.mono (by decide)) gd (by rfl) D_law_pick.m D_law_pick.F.kp D_law_pick.b .nil pass0 (pa_cons (pv 1) (pa_cons (pe_lst (pa_cons pe_int (pa_cons pe_int (pa_cons pe_int pa_nil)))) pa_nil))) pa_nil)))))) (pv 6) (fun _ _ => rfl)))
        (pss_cons (ps_par (i := 4) (j := 5) (by rfl) sclaw.nd rfl rfl (by decide) rfl rfl (pa_cons (pe_callG (ok_law_order) (hr.mono (by decide)) gd (by rfl) D_law_order.m D_law_order.F.kp D_law_order.b .nil pass0 (pa_cons (pv 1) (pa_cons (pv 7) pa_nil))) (pa_cons (pe_callG (ok_law_network) (hr.mono (by decide)) gd (by rfl) D_law_network.m D_law_network.F.kp D_law_network.b .nil pass0 (pa_cons (pv 1) (pa_cons (pv 7) (pa_cons (pe_callG (ok_law_draw) (hr.mono (by decide)) gd (by rfl) D_law_draw.m D_law_draw.F.kp D_law_draw.b .nil pass0 (pa_cons (pv 1) (pa_cons pe_int pa_nil))) pa_nil)))) pa_nil)) (by rfl))
        (pss_cons (ps_par (i := 8) (j := 9) (by rfl) sclaw.nd rfl rfl (by decide) rfl rfl (pa_cons (pe_callB (call_reprD gd hu) (by rfl) B.z_repr (by decide +kernel) (pa_cons (pe_lst (pa_cons (pv 4) (pa_cons (pv 5) pa_nil))) pa_nil)) (pa_cons (pe_callG (ok_law_due) (hr.mono (by decide)) gd (by rfl) D_law_due.m D_law_due.F.kp D_law_due.b .nil pass0 (pa_cons (pv 7) (pa_cons (pv 5) (pa_cons (pe_callG (ok_law_some) (hr.mono (by decide)) gd (by rfl) D_law_some.m D_law_some.F.kp D_law_some.b .nil pass0 (pa_cons (pv 7) (pa_cons (pv 4) (pa_cons pe_int pa_nil)))) pa_nil)))) pa_nil)) (by rfl))
        (pss_cons (ps_if (PW.pt (pw_and (pt_cmpR (op_ltU hu) (pv 7) pe_int (nomark _)) (pw_and1 (pt_cmpR (op_neU hu) (pe_callG (ok_law_due) (hr.mono (by decide)) gd (by rfl) D_law_due.m D_law_due.F.kp D_law_due.b .nil pass0 (pa_cons (pv 7) (pa_cons (pv 5) (pa_cons (pe_callG (ok_law_some) (hr.mono (by decide)) gd (by rfl) D_law_some.m D_law_some.F.kp D_law_some.b .nil pass0 (pa_cons (pv 7) (pa_cons (pv 4) (pa_cons pe_int pa_nil)))) pa_nil)))) (pv 9) (nomark _))))) (pss_one (ps_ret pe_bl)) pss_nil)
        (pss_cons (ps_set (i := 10) sclaw.nd rfl (Or.inl rfl) (pe_ifExp (pt_cmpR (op_eqU hu) (pv 6) pe_int (nomark _)) (pe_callK0 (oksure) (hr.mono (by decide)) gd (by rfl) Dsure.m Dsure.F.kp KBsure pass0 (pk_cons (pv 5) (pk_cons (pv 4) (pk_cons (pv 7) pk_nil)))) (pe_callG (oksure) (hr.mono (by decide)) gd (by rfl) Dsure.m Dsure.F.kp Dsure.b .nil pass0 (pa_cons (pv 7) (pa_cons (pv 4) (pa_cons (pv 5) pa_nil))))))
        (pss_cons (ps_if (pt_cmpR (op_neU hu) (pe_callB (call_reprD gd hu) (by rfl) B.z_repr (by decide +kernel) (pa_cons (pe_lst (pa_cons (pv 10) (pa_cons (pe_callG (oksure) (hr.mono (by decide)) gd (by rfl) Dsure.m Dsure.F.kp Dsure.b .nil pass0 (pa_cons (pv 7) (pa_cons (pv 4) (pa_cons (pv 5) pa_nil)))) pa_nil))) pa_nil)) (pe_callB (call_reprD gd hu) (by rfl) B.z_repr (by decide +kernel) (pa_cons (pe_lst (pa_cons (pv 9) (pa_cons (pv 9) pa_nil))) pa_nil)) (nomark _)) (pss_one (ps_ret pe_bl)) pss_nil)
        (pss_cons (ps_if (PW.pt (pw_and (pt_cmpR (op_neU hu) (pv 5) (pe_tup pa_nil) (nomark _)) (pw_and1 (pt_cmpR (op_notInT (Nat.lt_of_le_of_lt (Nat.add_le_add_left (by decide) _) hu)) (pe_ix ix_seq (pv 5) (pe_un un_negU pe_int) (fun _ _ => rfl)) (pv 9) (by with_unfolding_all rfl))))) (pss_one (ps_ret pe_bl)) pss_nil)
        (pss_cons (ps_for PassesOwn.never rfl (pi_range1 (by rfl) B.z_range (pa_cons pe_int pa_nil)) (pg_name (i := 11) sclaw.nd rfl (Or.inl rfl))
          (pss_cons (ps_set (i := 12) sclaw.nd rfl (Or.inl rfl) (pe_callG (ok_law_draw) (hr.mono (by decide)) gd (by rfl) D_law_draw.m D_law_draw.F.kp D_law_draw.b .nil pass0 (pa_cons (pv 1) (pa_cons (pe_op op_subU (pv 7) pe_int) pa_nil))))
          (pss_cons (ps_set (i := 13) sclaw.nd rfl (Or.inl rfl) (pe_tup (pa_cons (pv 12) (pa_cons (pe_op op_plus (pe_op op_plus (pv 12) pe_int) (pe_callG (ok_law_draw) (hr.mono (by decide)) gd (by rfl) D_law_draw.m D_law_draw.F.kp D_law_draw.b .nil pass0 (pa_cons (pv 1) (pa_cons (pe_op op_subU (pe_op op_subU (pv 7) pe_int) (pv 12)) pa_nil)))) pa_nil))))
          (pss_one (ps_if (pt_cmpR (op_neU hu) (pe_cmpR op_in_seq (pe_callB cb_len (by rfl) B.z_len PySem.boot_len (pa_cons (pv 5) pa_nil)) (pe_callG (oklive) (hr.mono (by decide)) gd (by rfl) Dlive.m Dlive.F.kp Dlive.b .nil pass0 (pa_cons (pv 7) (pa_cons (pv 4) (pa_cons (pe_op op_plus (pv 5) (pe_tup (pa_cons (pv 13) pa_nil))) pa_nil)))) (by with_unfolding_all rfl)) (pe_cmpR (op_notInT (Nat.lt_of_le_of_lt (Nat.add_le_add_left (by decide) _) hu)) (pv 13) (pv 9) (by with_unfolding_all rfl)) (nomark _)) (pss_one (ps_ret pe_bl)) pss_nil)))))
        (pss_cons (ps_set (i := 14) sclaw.nd rfl (Or.inl rfl) (pe_callG (ok_law_closure) (hr.mono (by decide)) gd (by rfl) D_law_closure.m D_law_closure.F.kp D_law_closure.b .nil pass0 (pa_cons (pv 7) (pa_cons (pv 4) pa_nil))))
        (pss_cons (ps_if (pt_cmpR (op_neU hu) (pe_callB (call_reprD gd hu) (by rfl) B.z_repr (by decide +kernel) (pa_cons (pe_lst (pa_cons (pe_callG (oksure) (hr.mono (by decide)) gd (by rfl) Dsure.m Dsure.F.kp Dsure.b .nil pass0 (pa_cons (pv 7) (pa_cons (pv 4) (pa_cons (pe_tup pa_nil) pa_nil)))) (pa_cons (pe_callG (okclosed) (hr.mono (by decide)) gd (by rfl) Dclosed.m Dclosed.F.kp Dclosed.b .nil pass0 (pa_cons (pv 7) (pa_cons (pv 4) pa_nil))) pa_nil))) pa_nil)) (pe_callB (call_reprD gd hu) (by rfl) B.z_repr (by decide +kernel) (pa_cons (pe_lst (pa_cons (pv 14) (pa_cons (pv 14) pa_nil))) pa_nil)) (nomark _)) (pss_one (ps_ret pe_bl)) pss_nil)
        (pss_cons (ps_if (pt_cmpR (op_neU hu) (pe_callG (ok_law_closure) (hr.mono (by decide)) gd (by rfl) D_law_closure.m D_law_closure.F.kp D_law_closure.b .nil pass0 (pa_cons (pv 7) (pa_cons (pv 9) pa_nil))) (pv 9) (nomark _)) (pss_one (ps_ret pe_bl)) pss_nil)
        (pss_one (ps_if (pt_cmpR (op_neU hu) (pe_callB (call_reprD gd hu) (by rfl) B.z_repr (by decide +kernel) (pa_cons (pe_lst (pa_cons (pv 4) (pa_cons (pv 5) pa_nil))) pa_nil)) (pv 8) (nomark _)) (pss_one (ps_ret pe_bl)) pss_nil))))))))))))))
      (pss_one (ps_ret pe_bl))))))), ?_⟩
  refine body_ofG h (by decide) (fun as ob r ob' hR => ?_) fun as ob r ob' hR hl => ?_
  · obtain ⟨ns, rfl, _, rfl, rfl, rfl⟩ := hR
    exact ⟨Nat.le_refl _, fun _ z => by cases z⟩
  obtain ⟨ns, rfl, h63, rfl, rfl, rfl⟩ := hR
  refine ts_seq (ts_par (x := .own 0) (y := .own 1) (S1 := ⟨[.scr ns, .un, .un, .un, .un, .un, .un, .un, .un, .un, .un, .un, .un, .un, .un], [(wellOf ns).oo, (wellOf (3 :: ns)).oo]⟩) (ea_cons (S1 := ⟨[.scr ns, .un, .un, .un, .un, .un, .un, .un, .un, .un, .un, .un, .un, .un, .un], [(wellOf ns).oo]⟩) (ee_call0 (r := .own 0) (ob' := [(wellOf ns).oo]) (as := [.scr ns]) (S1 := ⟨[.scr ns, .un, .un, .un, .un, .un, .un, .un, .un, .un, .un, .un, .un, .un, .un], []⟩) (ea_cons (ee_var rfl) ea_nil) (fun a h => by rw [List.mem_singleton.mp h]; trivial) rfl ⟨_, ns, rfl, .inl rfl, rfl, rfl, rfl⟩) (ea_cons (ee_call0 (r := .own 0) (ob' := [(wellOf (3 :: ns)).oo]) (as := [.dat (.list ((3 :: ns).map PyData.int))]) (S1 := ⟨[.scr ns, .un, .un, .un, .un, .un, .un, .un, .un, .un, .un, .un, .un, .un, .un], [(wellOf ns).oo]⟩) (ea_cons (ee_op (ee_lst (ds := [.int 3]) (ed_cons ee_int ed_nil) (show (1 : Nat) ≤ 1000000 by decide)) (ee_of_el (el_cb (ea_cons (ee_var rfl) ea_nil) rcl_listScr)) (ro_cat (by rw [List.length_map]; show 1 + _ ≤ _; omega))) ea_nil) (fun a h => by rw [List.mem_singleton.mp h]; trivial) rfl ⟨_, 3 :: ns, rfl, .inr rfl, rfl, rfl, rfl⟩) ea_nil)) ?_)
  have hW := well_small ns
  have hV := well_small (3 :: ns)
  generalize wellOf ns = W at hW ⊢
  generalize wellOf (3 :: ns) = V at hV ⊢
  show Ts K _ (Sz ns W V .un .un .un .un .un .un .un .un .un .un .un .un) _
  have dV := draw_deep 8 V hV
  refine ts_seq (ts_asg (x := .dat (.int (draw 8 V).1)) (S1 := Sz ns W (draw 8 V).2 .un .un .un .un .un .un .un .un .un .un .un .un) (ee_dr (m := 8) (W := V) (k := 1) (S1 := Sz ns W V .un .un .un .un .un .un .un .un .un .un .un .un) (ea_cons (ee_var rfl) (ea_cons ee_int ea_nil)) rfl (by decide) hV) ?_)
  generalize (draw 8 V).2 = V1 at dV ⊢
  generalize (draw 8 V).1 = sort
  clear hV
  show Ts K _ (Sz ns W V1 (.dat (.int sort)) .un .un .un .un .un .un .un .un .un .un .un) _
  refine ts_seq (ts_if (b := decide (sort = 1)) (S1 := Sz ns W V1 (.dat (.int sort)) .un .un .un .un .un .un .un .un .un .un .un) (et_test (ee_op (ee_var rfl) ee_int ro_eqI)) (fun _ => ?_) fun _ => ts_next ?_)
  · have o1 := orderN_deep 4 V1 dV
    have ho := orderN_ord 4 V1
    have orR : R_order (.own 0 :: ([.int ((4 : Nat) : Int)] : List PyData).map SD.dat) [V1.oo] (.dat (oD (orderN (4 : Nat) V1).1)) [(orderN (4 : Nat) V1).2.oo] := ⟨V1, 4, rfl, rfl, dV, by decide, by decide, rfl, rfl⟩
    generalize orderN (4 : Nat) V1 = O at *
    obtain ⟨ps, V2⟩ := O
    dsimp only at o1 ho orR
    have r1 := draw_lo 600 V2
    have r2 := draw_hi (m := 600) V2 (by decide)
    have d6 := draw_deep 600 V2 o1
    have e6 := ee_dr (K := K) (E := E0) (W := V2) (k := 1) (m := 600) (ta := tCons (tVar 2) (tCons (tC (.int 600)) tNil)) (S := Sz ns W V2 (.dat (.int sort)) .un .un .un .un .un .un .un .un .un .un .un) (S1 := Sz ns W V2 (.dat (.int sort)) .un .un .un .un .un .un .un .un .un .un .un) (ea_cons (ee_var rfl) (ea_cons ee_int ea_nil)) rfl (by decide) o1
    generalize (draw 600 V2).2 = V3 at d6 e6
    generalize (draw 600 V2).1 = x at r1 r2 e6
    have d2 := draw_deep 2 V3 d6
    obtain ⟨mm, hm, hm1⟩ : ∃ mm : Nat, ([PyData.int (300 + x), .int 1000] : List PyData)[(draw 2 V3).1.toNat]? = some (.int (mm : Int)) ∧ mm ≤ 1000 := by
      have h1 := draw_lo 2 V3
      have h2 := draw_hi (m := 2) V3 (by decide)
      obtain ⟨q, hq, hq4⟩ : ∃ q : Nat, (draw 2 V3).1.toNat = q ∧ q < 2 := ⟨_, rfl, by omega⟩
      rw [hq]
      match q, hq4 with
      | 0, _ => exact ⟨(300 + x).toNat, by show some (PyData.int (300 + x)) = _; rw [Int.toNat_of_nonneg (by omega)], by omega⟩
      | 1, _ => exact ⟨1000, rfl, Nat.le_refl _⟩
    have ep := ee_pck (K := K) (E := E0) (ta := tCons (tVar 2) (tCons _ tNil)) (W := V3) (W' := (draw 2 V3).2) (v := (draw 2 V3).1) (k := 1) (ds := [PyData.int (300 + x), .int 1000]) (S := Sz ns W V2 (.dat (.int sort)) .un .un .un .un .un .un .un .un .un .un .un) (S1 := Sz ns W V3 (.dat (.int sort)) .un .un .un .un .un .un .un .un .un .un .un) (ea_cons (ee_var rfl) (ea_cons (ee_lst (ds := [PyData.int (300 + x), .int 1000]) (ed_cons (S1 := Sz ns W V3 (.dat (.int sort)) .un .un .un .un .un .un .un .un .un .un .un) (ee_op ee_int e6 ro_add) (ed_cons ee_int ed_nil)) (show (2 : Nat) ≤ 1000000 by decide)) ea_nil)) rfl rfl hm (show (2 : Nat) ≤ 1000 by decide) d6
    generalize (draw 2 V3).2 = V4 at d2 ep
    obtain ⟨nk, nl, d5⟩ := ngN_ok (n := 4) (by decide) d2 mm
    have ngR : R_network (.own 0 :: ([.int ((4 : Nat) : Int), .int (mm : Int)] : List PyData).map SD.dat) [V4.oo] (.dat (nD (ngN (4 : Nat) V4 mm).1)) [(ngN (4 : Nat) V4 mm).2.oo] := ⟨V4, 4, mm, rfl, rfl, d2, by decide, by decide, by omega, rfl, rfl⟩
    generalize ngN (4 : Nat) V4 mm = G at *
    obtain ⟨net, V5⟩ := G
    dsimp only at nk nl d5 ngR
    refine ts_seq (ts_par (x := .dat (oD ps)) (y := .dat (nD net)) (S1 := Sz ns W V5 (.dat (.int sort)) .un .un .un .un .un .un .un .un .un .un .un) (ea_cons (S1 := Sz ns W V2 (.dat (.int sort)) .un .un .un .un .un .un .un .un .un .un .un) (ee_w1 (k := 1) (W := V1) (W' := V2) (R := R_order) (S1 := Sz ns W V1 (.dat (.int sort)) .un .un .un .un .un .un .un .un .un .un .un) [.int ((4 : Nat) : Int)] (ea_cons (ee_var rfl) (ea_cons ee_int ea_nil)) rfl rfl orR) (ea_cons (ee_w1 (k := 1) (W := V4) (W' := V5) (R := R_network) (S1 := Sz ns W V4 (.dat (.int sort)) .un .un .un .un .un .un .un .un .un .un .un) [.int ((4 : Nat) : Int), .int (mm : Int)] (ea_cons (ee_var rfl) (ea_cons ee_int (ea_cons ep ea_nil))) rfl rfl ngR) ea_nil)) ?_)
    show Ts K _ (Sz ns W V5 (.dat (.int sort)) (.dat (oD ps)) (.dat (nD net)) .un .un .un .un .un .un .un .un .un) _
    have l45 := ho.l45 (by decide)
    have ask : AskIn 4 ps net := ⟨nk, by omega, by decide, ho.ok, by omega⟩
    have SU : R_sure (([.int ((4 : Nat) : Int), oD ps, nD net] : List PyData).map SD.dat) [] (.dat (oD (sureN 4 ps net))) [] := ⟨4, ps, net, rfl, ask, rfl, rfl, rfl⟩
    have R2 : R_some (([.int ((4 : Nat) : Int), oD ps, .int 2] : List PyData).map SD.dat) [] (.dat (.list ((wordsN 4 ps).map rD))) [] := ⟨4, 2, ps, rfl, by decide, by decide, by decide, by decide, ho.ok, by omega, rfl, rfl, rfl⟩
    have DR : R_due (([.int ((4 : Nat) : Int), nD net, .list ((wordsN 4 ps).map rD)] : List PyData).map SD.dat) [] (.dat (oD (sureN 4 ps net))) [] := ⟨4, net, wordsN 4 ps, rfl, nk, by omega, by decide, Nat.le_trans (words_len _ _) (by decide), fun row h => (words_row h).1, rfl, by rw [due_words nk], rfl⟩
    have ncS := nc_o (n := 4) (by decide) (sureN_ord nk (ps := ps))
    exact ts_ret (S1 := Sz ns W V5 (.dat (.int sort)) (.dat (oD ps)) (.dat (nD net)) .un .un .un .un .un .un .un .un .un) (ee_eq (ee_op (ee_cb (ea_cons (ee_callD (d := oD (sureN 4 ps net)) (ed_cons ee_int (ed_cons (ee_var rfl) (ed_cons (ee_var rfl) ed_nil))) rfl SU) ea_nil) (rc_rep ncS)) (ee_cb (ea_cons (ee_callD (d := oD (sureN 4 ps net)) (ed_cons ee_int (ed_cons (ee_var rfl) (ed_cons (ee_callD (d := .list ((wordsN 4 ps).map rD)) (ed_cons ee_int (ed_cons (ee_var rfl) (ed_cons ee_int ed_nil))) rfl R2) ed_nil))) rfl DR) ea_nil) (rc_rep ncS)) ro_eqS) (by rw [decide_eq_true rfl])) ⟨rfl, List.nil_prefix⟩
  refine ts_seq (ts_if (b := decide (sort = 0)) (S1 := Sz ns W V1 (.dat (.int sort)) .un .un .un .un .un .un .un .un .un .un .un) (et_test (ee_op (ee_var rfl) ee_int ro_eqI)) (fun _ => ts_ret (S1 := Sz ns W (wideW V1) (.dat (.int sort)) .un .un .un .un .un .un .un .un .un .un .un) (ee_w1 (k := 1) (W := V1) (W' := wideW V1) (R := R_wide) (S1 := Sz ns W V1 (.dat (.int sort)) .un .un .un .un .un .un .un .un .un .un .un) [] (ea_cons (ee_var rfl) ea_nil) rfl rfl ⟨V1, rfl, rfl, dV, rfl, rfl⟩) ⟨rfl, List.nil_prefix⟩) fun _ => ts_next ?_)
  generalize SD.dat (.int sort) = a
  refine ts_seq (ts_for (S0 := Sz ns W V1 a .un .un .un .un .un .un .un .un .un .un .un) (ei_rng1 (n := 5) (ed_cons ee_int ed_nil) (by decide)) (fun z S => ∃ W b c d e f g h i j k l, S = Sz ns W V1 a b c d e f g h i j k l ∧ W.deep.length ≤ 100) ⟨W, .un, .un, .un, .un, .un, .un, .un, .un, .un, .un, .un, rfl, hW⟩ ?_ ?_)
  · rintro tn d0 S' hd ⟨W, b, c, d, e, f, g, h, i, j, k, l, rfl, hW⟩
    obtain ⟨ht5, rfl⟩ := rngD_get hd
    have ht5 : tn < 5 := ht5
    have e0 : (0 : Int) + (tn : Int) = (tn : Int) := by omega
    rw [e0]
    have d1 := draw_deep 3 W hW
    obtain ⟨v, hv, hv2, hv8⟩ := nL_ok W
    obtain ⟨n, hn, hn2, hn8⟩ : ∃ n : Nat, ([PyData.int 2, .int 3, .int 4, .int 6, .int (nL.getD (draw 3 W).1.toNat 0)] : List PyData)[tn]? = some (.int (n : Int)) ∧ 2 ≤ n ∧ n ≤ 8 := by
      rw [hv]
      match tn, ht5 with
      | 0, _ => exact ⟨2, rfl, by decide, by decide⟩
      | 1, _ => exact ⟨3, rfl, by decide, by decide⟩
      | 2, _ => exact ⟨4, rfl, by decide, by decide⟩
      | 3, _ => exact ⟨6, rfl, by decide, by decide⟩
      | 4, _ => exact ⟨v, rfl, by omega, hv8⟩
    refine ⟨_, eg_name, ts_seq (ts_asg (x := .dat (.int (n : Int))) (S1 := Sz ns (draw 3 W).2 V1 a b c (.dat (.int (tn : Int))) e f g h i j k l) (ee_op (S1 := Sz ns (draw 3 W).2 V1 a b c (.dat (.int (tn : Int))) e f g h i j k l) (x := .dat (.list [PyData.int 2, .int 3, .int 4, .int 6, .int (nL.getD (draw 3 W).1.toNat 0)])) (ee_lst (ed_cons ee_int (ed_cons ee_int (ed_cons ee_int (ed_cons ee_int (ed_cons (ee_pck (W := W) (k := 0) (ds := nL.map PyData.int) (S1 := Sz ns W V1 a b c (.dat (.int (tn : Int))) e f g h i j k l) (ea_cons (ee_var rfl) (ea_cons (ee_lst (ds := nL.map PyData.int) (ed_cons ee_int (ed_cons ee_int (ed_cons ee_int ed_nil))) (show (3 : Nat) ≤ 1000000 by decide)) ea_nil)) rfl rfl (pick_at (l := nL) (show 0 < 3 by decide)) (show (3 : Nat) ≤ 1000 by decide) hW) ed_nil))))) (show (5 : Nat) ≤ 1000000 by decide)) (ee_var rfl) (ro_ixL (.dat _) (atI_nat hn))) ?_)⟩
    show Ts K _ (Sz ns (draw 3 W).2 V1 a b c (.dat (.int (tn : Int))) (.dat (.int (n : Int))) f g h i j k l) _
    generalize (draw 3 W).2 = W0 at d1 ⊢
    clear hn hv hv2 hv8
    have o1 := orderN_deep n W0 d1
    have ho := orderN_ord n W0
    have orR : R_order (.own 0 :: ([.int (n : Int)] : List PyData).map SD.dat) [W0.oo] (.dat (oD (orderN n W0).1)) [(orderN n W0).2.oo] := ⟨W0, n, rfl, rfl, d1, by omega, by omega, rfl, rfl⟩
    generalize orderN n W0 = O at *
    obtain ⟨ps, W1⟩ := O
    dsimp only at o1 ho orR
    have u1 := draw_lo 16 W1
    have u2 := draw_hi (m := 16) W1 (by decide)
    have u3 := draw_deep 16 W1 o1
    have ee := ee_dr (K := K) (E := E0) (W := W1) (k := 0) (m := 16) (ta := tCons (tVar 1) (tCons (tC (.int 16)) tNil)) (S := Sz ns W1 V1 a b c (.dat (.int (tn : Int))) (.dat (.int (n : Int))) f g h i j k l) (S1 := Sz ns W1 V1 a b c (.dat (.int (tn : Int))) (.dat (.int (n : Int))) f g h i j k l) (ea_cons (ee_var rfl) (ea_cons ee_int ea_nil)) rfl (by decide) o1
    generalize (draw 16 W1).2 = W2 at *
    obtain ⟨mm, hmm⟩ : ∃ t : Nat, (draw 16 W1).1 = (t : Int) := ⟨(draw 16 W1).1.toNat, by omega⟩
    rw [hmm] at ee u2
    clear u1 hmm
    obtain ⟨nk, nl, d3⟩ := ngN_ok (n := n) hn2 u3 mm
    have ngR : R_network (.own 0 :: ([.int (n : Int), .int (mm : Int)] : List PyData).map SD.dat) [W2.oo] (.dat (nD (ngN n W2 mm).1)) [(ngN n W2 mm).2.oo] := ⟨W2, n, mm, rfl, rfl, u3, hn2, by omega, by omega, rfl, rfl⟩
    generalize ngN n W2 mm = G at *
    obtain ⟨net, W3⟩ := G
    dsimp only at nk nl d3 ngR
    refine ts_seq (ts_par (x := .dat (oD ps)) (y := .dat (nD net)) (S1 := Sz ns W3 V1 a b c (.dat (.int (tn : Int))) (.dat (.int (n : Int))) f g h i j k l) (ea_cons (S1 := Sz ns W1 V1 a b c (.dat (.int (tn : Int))) (.dat (.int (n : Int))) f g h i j k l) (ee_w1 (k := 0) (W := W0) (W' := W1) (R := R_order) (S1 := Sz ns W0 V1 a b c (.dat (.int (tn : Int))) (.dat (.int (n : Int))) f g h i j k l) [.int (n : Int)] (ea_cons (ee_var rfl) (ea_cons (ee_var rfl) ea_nil)) rfl rfl orR) (ea_cons (ee_w1 (k := 0) (W := W2) (W' := W3) (R := R_network) (S1 := Sz ns W2 V1 a b c (.dat (.int (tn : Int))) (.dat (.int (n : Int))) f g h i j k l) [.int (n : Int), .int (mm : Int)] (ea_cons (ee_var rfl) (ea_cons (ee_var rfl) (ea_cons ee ea_nil))) rfl rfl ngR) ea_nil)) ?_)
    show Ts K _ (Sz ns W3 V1 a (.dat (oD ps)) (.dat (nD net)) (.dat (.int (tn : Int))) (.dat (.int (n : Int))) f g h i j k l) _
    clear ee orR ngR u3 o1 d1 hW
    have l45 := ho.l45 (by omega)
    have ask : AskIn n ps net := ⟨nk, by omega, by omega, ho.ok, by omega⟩
    have e2 : 2 ^ n ≤ 2 ^ 8 := Nat.pow_le_pow_right (by decide) hn8
    have R2 : R_some (([.int (n : Int), oD ps, .int 2] : List PyData).map SD.dat) [] (.dat (.list ((wordsN n ps).map rD))) [] := ⟨n, 2, ps, rfl, by omega, by omega, by decide, by decide, ho.ok, by omega, rfl, rfl, rfl⟩
    have DR : R_due (([.int (n : Int), nD net, .list ((wordsN n ps).map rD)] : List PyData).map SD.dat) [] (.dat (oD (sureN n ps net))) [] := ⟨n, net, wordsN n ps, rfl, nk, by omega, by omega, Nat.le_trans (words_len _ _) (by omega), fun row h => (words_row h).1, rfl, by rw [due_words nk], rfl⟩
    have sO := sureN_ord nk (ps := ps)
    have s45 := sO.l45 (show n ≤ 10 by omega)
    have ncA := nc_ask (n := n) (by omega) ho.ok (by omega) nk (by omega)
    generalize hkt : SD.dat (.str (PyData.list [oD ps, nD net]).shown) = kt
    refine ts_seq (ts_par (x := kt) (y := .dat (oD (sureN n ps net))) (S1 := Sz ns W3 V1 a (.dat (oD ps)) (.dat (nD net)) (.dat (.int (tn : Int))) (.dat (.int (n : Int))) f g h i j k l) (ea_cons (by rw [← hkt]; exact ee_cb (ea_cons (ee_lst (ds := [oD ps, nD net]) (ed_cons (ee_var rfl) (ed_cons (ee_var rfl) ed_nil)) (show (2 : Nat) ≤ 1000000 by decide)) ea_nil) (rc_rep ncA)) (ea_cons (ee_callD (d := oD (sureN n ps net)) (ed_cons (ee_var rfl) (ed_cons (ee_var rfl) (ed_cons (ee_callD (d := .list ((wordsN n ps).map rD)) (ed_cons (ee_var rfl) (ed_cons (ee_var rfl) (ed_cons ee_int ed_nil))) rfl R2) ed_nil))) rfl DR) ea_nil)) ?_)
    show Ts K _ (Sz ns W3 V1 a (.dat (oD ps)) (.dat (nD net)) (.dat (.int (tn : Int))) (.dat (.int (n : Int))) kt (.dat (oD (sureN n ps net))) h i j k l) _
    refine ts_seq (ts_if (b := false) (S1 := Sz ns W3 V1 a (.dat (oD ps)) (.dat (nD net)) (.dat (.int (tn : Int))) (.dat (.int (n : Int))) kt (.dat (oD (sureN n ps net))) h i j k l) (et_eq (et_and (a := decide ((n : Int) < 5)) (b := false) (et_test (ee_op (ee_var rfl) ee_int ro_lt)) fun hb => ?_) (Bool.and_false _)) (fun z => by cases z) fun _ => ts_next ?_)
    · have n5 : n < 5 := by
        have := of_decide_eq_true hb
        omega
      have e3 : 3 ^ n ≤ 3 ^ 4 := Nat.pow_le_pow_right (by decide) (by omega)
      have sl := some_len n ps 3
      have rw3 := rows_some (n := n) (top := 3) ps (by decide)
      have R3 : R_some (([.int (n : Int), oD ps, .int 3] : List PyData).map SD.dat) [] (.dat (.list ((someN n ps 3).map rD))) [] := ⟨n, 3, ps, rfl, by omega, by omega, by decide, by decide, ho.ok, by omega, rfl, rfl, rfl⟩
      have D3 : R_due (([.int (n : Int), nD net, .list ((someN n ps 3).map rD)] : List PyData).map SD.dat) [] (.dat (oD (sureN n ps net))) [] := ⟨n, net, someN n ps 3, rfl, nk, by omega, by omega, by omega, fun row h => (rw3.row row h).1, rfl, by rw [due_rows ho.ok nk rw3], rfl⟩
      exact et_test (ee_op (ee_callD (d := oD (sureN n ps net)) (ed_cons (ee_var rfl) (ed_cons (ee_var rfl) (ed_cons (ee_callD (d := .list ((someN n ps 3).map rD)) (ed_cons (ee_var rfl) (ed_cons (ee_var rfl) (ed_cons ee_int ed_nil))) rfl R3) ed_nil))) rfl D3) (ee_var rfl) (ro_neD_self (k := 2) (.dat _) (.dat _) fl_oD))
    have SU : R_sure (([.int (n : Int), oD ps, nD net] : List PyData).map SD.dat) [] (.dat (oD (sureN n ps net))) [] := ⟨n, ps, net, rfl, ask, rfl, rfl, rfl⟩
    refine ts_seq (ts_asg (x := .dat (oD (sureN n ps net))) (S1 := Sz ns W3 V1 a (.dat (oD ps)) (.dat (nD net)) (.dat (.int (tn : Int))) (.dat (.int (n : Int))) kt (.dat (oD (sureN n ps net))) h i j k l) (ee_if (b := decide ((tn : Int) = 1)) (S1 := Sz ns W3 V1 a (.dat (oD ps)) (.dat (nD net)) (.dat (.int (tn : Int))) (.dat (.int (n : Int))) kt (.dat (oD (sureN n ps net))) h i j k l) (et_test (ee_op (ee_var rfl) ee_int ro_eqI)) (fun _ => ee_ksure (ed_cons (ee_var rfl) (ed_cons (ee_var rfl) (ed_cons (ee_var rfl) ed_nil))) SU) fun _ => ee_callD (ed_cons (ee_var rfl) (ed_cons (ee_var rfl) (ed_cons (ee_var rfl) ed_nil))) rfl SU) ?_)
    show Ts K _ (Sz ns W3 V1 a (.dat (oD ps)) (.dat (nD net)) (.dat (.int (tn : Int))) (.dat (.int (n : Int))) kt (.dat (oD (sureN n ps net))) (.dat (oD (sureN n ps net))) i j k l) _
    have nc2 := nc_two_o (show n ≤ 10 by omega) sO
    refine ts_seq (ts_if (b := false) (S1 := Sz ns W3 V1 a (.dat (oD ps)) (.dat (nD net)) (.dat (.int (tn : Int))) (.dat (.int (n : Int))) kt (.dat (oD (sureN n ps net))) (.dat (oD (sureN n ps net))) i j k l) (et_test (ee_op (ee_cb (ea_cons (ee_lst (ds := [oD (sureN n ps net), oD (sureN n ps net)]) (ed_cons (ee_var rfl) (ed_cons (ee_callD (ed_cons (ee_var rfl) (ed_cons (ee_var rfl) (ed_cons (ee_var rfl) ed_nil))) rfl SU) ed_nil)) (show (2 : Nat) ≤ 1000000 by decide)) ea_nil) (rc_rep nc2)) (ee_cb (ea_cons (ee_lst (ds := [oD (sureN n ps net), oD (sureN n ps net)]) (ed_cons (ee_var rfl) (ed_cons (ee_var rfl) ed_nil)) (show (2 : Nat) ≤ 1000000 by decide)) ea_nil) (rc_rep nc2)) ro_neS_self)) (fun z => by cases z) fun _ => ts_next ?_)
    have fs1 : ∀ x : Pr, SeqAt.shaped (pD x) = true := fun x => (Fl.intsT (ns := [(x.1 : Int), (x.2 : Int)])).sh
    have fs2 : SeqAt.shaped (.tuple ((sureN n ps net).map pD)) = true := (fl_oD (ps := sureN n ps net)).sh
    refine ts_seq (ts_if (b := false) (S1 := Sz ns W3 V1 a (.dat (oD ps)) (.dat (nD net)) (.dat (.int (tn : Int))) (.dat (.int (n : Int))) kt (.dat (oD (sureN n ps net))) (.dat (oD (sureN n ps net))) i j k l) (et_eq (et_and (a := !(net.map gD).isEmpty) (b := false) (et_eq (et_test (ee_op (ee_var rfl) (ee_tup (ds := []) ed_nil) (ro_neD (d := nD net) (e := .tuple []) (.dat _) (.dat _) (Fl.tup (k := 5) (fun x hx => by
      obtain ⟨y, _, rfl⟩ := List.mem_map.mp hx
      exact Fl.gD y)).sh (by decide)))) (by show (!PyData.eqv (.tuple (net.map gD)) (.tuple [])) = _; rw [eqv_emT])) fun hb => ?_) (Bool.and_false _)) (fun z => by cases z) fun _ => ts_next ?_)
    · have hne : net ≠ [] := fun e => by
        rw [e] at hb
        cases hb
      obtain ⟨x, hx, ex⟩ := last_sure (ps := ps) nk hne
      have al := at_lastG hne
      rw [ex] at al
      exact et_eq (et_test (ee_op (ee_op (ee_var rfl) (ee_un ee_int ru_neg) (ro_ixT (d := pD x) al)) (ee_var rfl) (ro_notInTD (d := pD x) (ds := (sureN n ps net).map pD) (.dat _) (.dat _) (fs1 x) fs2))) (by rw [any_pD, decide_eq_true hx]; rfl)
    refine ts_seq (ts_for (S0 := Sz ns W3 V1 a (.dat (oD ps)) (.dat (nD net)) (.dat (.int (tn : Int))) (.dat (.int (n : Int))) kt (.dat (oD (sureN n ps net))) (.dat (oD (sureN n ps net))) i j k l) (ei_rng1 (n := 3) (ed_cons ee_int ed_nil) (by decide)) (fun z S => ∃ W i j k, S = Sz ns W V1 a (.dat (oD ps)) (.dat (nD net)) (.dat (.int (tn : Int))) (.dat (.int (n : Int))) kt (.dat (oD (sureN n ps net))) (.dat (oD (sureN n ps net))) i j k l ∧ W.deep.length ≤ 100) ⟨W3, i, j, k, rfl, d3⟩ ?_ ?_)
    · clear d3
      rintro ag d0 S' hd ⟨W, i, j, k, rfl, dW⟩
      obtain ⟨_, rfl⟩ := rngD_get hd
      have q1 := draw_lo ((n : Int) - 1) W
      have q2 := draw_hi (m := (n : Int) - 1) W (by omega)
      have dn := draw_deep ((n : Int) - 1) W dW
      refine ⟨_, eg_name, ?_⟩
      generalize SD.dat (.int (0 + (ag : Int))) = agS
      show Ts K _ (Sz ns W V1 a (.dat (oD ps)) (.dat (nD net)) (.dat (.int (tn : Int))) (.dat (.int (n : Int))) kt (.dat (oD (sureN n ps net))) (.dat (oD (sureN n ps net))) agS j k l) _
      refine ts_seq (ts_asg (x := .dat (.int (draw ((n : Int) - 1) W).1)) (S1 := Sz ns (draw ((n : Int) - 1) W).2 V1 a (.dat (oD ps)) (.dat (nD net)) (.dat (.int (tn : Int))) (.dat (.int (n : Int))) kt (.dat (oD (sureN n ps net))) (.dat (oD (sureN n ps net))) agS j k l) (ee_dr (W := W) (k := 0) (S1 := Sz ns W V1 a (.dat (oD ps)) (.dat (nD net)) (.dat (.int (tn : Int))) (.dat (.int (n : Int))) kt (.dat (oD (sureN n ps net))) (.dat (oD (sureN n ps net))) agS j k l) (ea_cons (ee_var rfl) (ea_cons (ee_op (ee_var rfl) ee_int ro_sub) ea_nil)) rfl (by omega) dW) ?_)
      generalize (draw ((n : Int) - 1) W).2 = W4 at dn ⊢
      obtain ⟨p, hp⟩ : ∃ p : Nat, (draw ((n : Int) - 1) W).1 = (p : Int) := ⟨(draw ((n : Int) - 1) W).1.toNat, by omega⟩
      rw [hp] at q1 q2 ⊢
      clear hp dW
      show Ts K _ (Sz ns W4 V1 a (.dat (oD ps)) (.dat (nD net)) (.dat (.int (tn : Int))) (.dat (.int (n : Int))) kt (.dat (oD (sureN n ps net))) (.dat (oD (sureN n ps net))) agS (.dat (.int (p : Int))) k l) _
      have s1 := draw_lo ((n : Int) - 1 - (p : Int)) W4
      have s2 := draw_hi (m := (n : Int) - 1 - (p : Int)) W4 (by omega)
      have dm := draw_deep ((n : Int) - 1 - (p : Int)) W4 dn
      obtain ⟨q, hq⟩ : ∃ q : Nat, (p : Int) + 1 + (draw ((n : Int) - 1 - (p : Int)) W4).1 = (q : Int) := ⟨((p : Int) + 1 + (draw ((n : Int) - 1 - (p : Int)) W4).1).toNat, by omega⟩
      have hpq : p < q := by omega
      have hqn : q < n := by omega
      refine ts_seq (ts_asg (x := .dat (pD (p, q))) (S1 := Sz ns (draw ((n : Int) - 1 - (p : Int)) W4).2 V1 a (.dat (oD ps)) (.dat (nD net)) (.dat (.int (tn : Int))) (.dat (.int (n : Int))) kt (.dat (oD (sureN n ps net))) (.dat (oD (sureN n ps net))) agS (.dat (.int (p : Int))) k l) (ee_tup (ds := [.int (p : Int), .int (q : Int)]) (ed_cons (ee_var rfl) (ed_cons (by
        rw [← hq]
        exact ee_op (S1 := Sz ns W4 V1 a (.dat (oD ps)) (.dat (nD net)) (.dat (.int (tn : Int))) (.dat (.int (n : Int))) kt (.dat (oD (sureN n ps net))) (.dat (oD (sureN n ps net))) agS (.dat (.int (p : Int))) k l) (ee_op (ee_var rfl) ee_int ro_add) (ee_dr (W := W4) (k := 0) (S1 := Sz ns W4 V1 a (.dat (oD ps)) (.dat (nD net)) (.dat (.int (tn : Int))) (.dat (.int (n : Int))) kt (.dat (oD (sureN n ps net))) (.dat (oD (sureN n ps net))) agS (.dat (.int (p : Int))) k l) (ea_cons (ee_var rfl) (ea_cons (ee_op (ee_op (ee_var rfl) ee_int ro_sub) (ee_var rfl) ro_sub) ea_nil)) rfl (by omega) dn) ro_add) ed_nil))) ?_)
      generalize (draw ((n : Int) - 1 - (p : Int)) W4).2 = W5 at dm ⊢
      clear hq s1 s2 q1 q2 dn
      show Ts K _ (Sz ns W5 V1 a (.dat (oD ps)) (.dat (nD net)) (.dat (.int (tn : Int))) (.dat (.int (n : Int))) kt (.dat (oD (sureN n ps net))) (.dat (oD (sureN n ps net))) agS (.dat (.int (p : Int))) (.dat (pD (p, q))) l) _
      have nk2 : NetOk n (net ++ [((p : Int), (q : Int))]) := fun g hg => by
        rcases List.mem_append.mp hg with hg | hg
        · exact nk g hg
        · rw [List.mem_singleton.mp hg]
          exact ⟨by show (0 : Int) ≤ (p : Int); omega, by show (p : Int) < (q : Int); omega, by show (q : Int) < (n : Int); omega⟩
      have e4 : (net ++ [((p : Int), (q : Int))]).map gD = net.map gD ++ [pD (p, q)] := by
        rw [List.map_append]
        rfl
      have LV : R_live (([.int (n : Int), oD ps, .tuple (net.map gD ++ [pD (p, q)])] : List PyData).map SD.dat) [] (.dat (rD (natL (liveN (wordsN n ps) (net ++ [((p : Int), (q : Int))]))))) [] := ⟨n, ps, net ++ [((p : Int), (q : Int))], by rw [← e4]; rfl, ⟨nk2, by rw [List.length_append]; show _ + 1 ≤ _; omega, by omega, ho.ok, by omega⟩, rfl, rfl, rfl⟩
      have BL := behind_live (ps := ps) nk hpq hqn
      exact ts_if (b := false) (S1 := Sz ns W5 V1 a (.dat (oD ps)) (.dat (nD net)) (.dat (.int (tn : Int))) (.dat (.int (n : Int))) kt (.dat (oD (sureN n ps net))) (.dat (oD (sureN n ps net))) agS (.dat (.int (p : Int))) (.dat (pD (p, q))) l) (et_eq (et_test (ee_op (ee_op (x := .dat (.int (net.length : Int))) (ee_eq (ee_cb (ea_cons (ee_var rfl) ea_nil) rc_lenT) (by rw [List.length_map])) (ee_callD (d := rD (natL (liveN (wordsN n ps) (net ++ [((p : Int), (q : Int))])))) (ed_cons (ee_var rfl) (ed_cons (ee_var rfl) (ed_cons (ee_op (ee_var rfl) (ee_tup (ds := [pD (p, q)]) (ed_cons (ee_var rfl) ed_nil)) (ro_catT (by rw [List.length_map]; show _ + 1 ≤ _; omega))) ed_nil))) rfl LV) ro_inT) (ee_op (ee_var rfl) (ee_var rfl) (ro_notInTD (d := pD (p, q)) (ds := (sureN n ps net).map pD) (.dat _) (.dat _) (fs1 (p, q)) fs2)) ro_neB)) (by
        rw [any_pD, show (decide ((net.length : Int) ∈ natL (liveN (wordsN n ps) (net ++ [((p : Int), (q : Int))])))) = !decide ((p, q) ∈ sureN n ps net) by
          rw [← decide_not, decide_eq_decide]
          exact BL, decide_eq_true rfl]
        rfl)) (fun z => by cases z) fun _ => ts_next ⟨W5, _, _, _, rfl, dm⟩
    rintro S' ⟨W4, i, j, k, rfl, d4⟩
    have CR : R_clo (([.int (n : Int), oD ps] : List PyData).map SD.dat) [] (.dat (oD (cloN n ps))) [] := ⟨n, ps, rfl, ho, by omega, rfl, rfl, rfl⟩
    have CD : R_closed (([.int (n : Int), oD ps] : List PyData).map SD.dat) [] (.dat (oD (cloN n ps))) [] := ⟨n, ps, rfl, by omega, by omega, ho.ok, rfl, rfl, rfl⟩
    have k0 : NetOk n ([] : List Gate) := fun _ z => by cases z
    have S0 : R_sure (([.int (n : Int), oD ps, .tuple []] : List PyData).map SD.dat) [] (.dat (oD (cloN n ps))) [] := ⟨n, ps, [], rfl, ⟨k0, Nat.zero_le _, by omega, ho.ok, by omega⟩, rfl, by rw [sure_clo ho], rfl⟩
    have C2 : R_clo (([.int (n : Int), oD (sureN n ps net)] : List PyData).map SD.dat) [] (.dat (oD (sureN n ps net))) [] := ⟨n, sureN n ps net, rfl, sO, by omega, rfl, by rw [sure_closed nk], rfl⟩
    have nc3 := nc_two_o (show n ≤ 10 by omega) (cloN_ord ho)
    refine ts_seq (ts_asg (x := .dat (oD (cloN n ps))) (S1 := Sz ns W4 V1 a (.dat (oD ps)) (.dat (nD net)) (.dat (.int (tn : Int))) (.dat (.int (n : Int))) kt (.dat (oD (sureN n ps net))) (.dat (oD (sureN n ps net))) i j k l) (ee_callD (ed_cons (ee_var rfl) (ed_cons (ee_var rfl) ed_nil)) rfl CR) ?_)
    show Ts K _ (Sz ns W4 V1 a (.dat (oD ps)) (.dat (nD net)) (.dat (.int (tn : Int))) (.dat (.int (n : Int))) kt (.dat (oD (sureN n ps net))) (.dat (oD (sureN n ps net))) i j k (.dat (oD (cloN n ps)))) _
    refine ts_seq (ts_if (b := false) (S1 := Sz ns W4 V1 a (.dat (oD ps)) (.dat (nD net)) (.dat (.int (tn : Int))) (.dat (.int (n : Int))) kt (.dat (oD (sureN n ps net))) (.dat (oD (sureN n ps net))) i j k (.dat (oD (cloN n ps)))) (et_test (ee_op (ee_cb (ea_cons (ee_lst (ds := [oD (cloN n ps), oD (cloN n ps)]) (ed_cons (ee_callD (ed_cons (ee_var rfl) (ed_cons (ee_var rfl) (ed_cons (ee_tup (ds := []) ed_nil) ed_nil))) rfl S0) (ed_cons (ee_callD (ed_cons (ee_var rfl) (ed_cons (ee_var rfl) ed_nil)) rfl CD) ed_nil)) (show (2 : Nat) ≤ 1000000 by decide)) ea_nil) (rc_rep nc3)) (ee_cb (ea_cons (ee_lst (ds := [oD (cloN n ps), oD (cloN n ps)]) (ed_cons (ee_var rfl) (ed_cons (ee_var rfl) ed_nil)) (show (2 : Nat) ≤ 1000000 by decide)) ea_nil) (rc_rep nc3)) ro_neS_self)) (fun z => by cases z) fun _ => ts_next ?_)
    refine ts_seq (ts_if (b := false) (S1 := Sz ns W4 V1 a (.dat (oD ps)) (.dat (nD net)) (.dat (.int (tn : Int))) (.dat (.int (n : Int))) kt (.dat (oD (sureN n ps net))) (.dat (oD (sureN n ps net))) i j k (.dat (oD (cloN n ps)))) (et_test (ee_op (ee_callD (d := oD (sureN n ps net)) (ed_cons (ee_var rfl) (ed_cons (ee_var rfl) ed_nil)) rfl C2) (ee_var rfl) (ro_neD_self (k := 2) (.dat _) (.dat _) fl_oD))) (fun z => by cases z) fun _ => ts_next ?_)
    subst hkt
    exact ts_if (b := false) (S1 := Sz ns W4 V1 a (.dat (oD ps)) (.dat (nD net)) (.dat (.int (tn : Int))) (.dat (.int (n : Int))) (.dat (.str (PyData.list [oD ps, nD net]).shown)) (.dat (oD (sureN n ps net))) (.dat (oD (sureN n ps net))) i j k (.dat (oD (cloN n ps)))) (et_test (ee_op (ee_cb (ea_cons (ee_lst (ds := [oD ps, nD net]) (ed_cons (ee_var rfl) (ed_cons (ee_var rfl) ed_nil)) (show (2 : Nat) ≤ 1000000 by decide)) ea_nil) (rc_rep ncA)) (ee_var rfl) ro_neS_self)) (fun z => by cases z) fun _ => ts_next ⟨W4, _, _, _, _, _, _, _, _, _, _, _, rfl, d4⟩
  rintro S' ⟨W, b, c, d, e, f, g, h, i, j, k, l, rfl, hd⟩
  exact ts_ret ee_bl ⟨rfl, List.nil_prefix⟩
end
end K13

set_option maxRecDepth 100000
set_option maxHeartbeats 4000000
namespace K13
open PySem PySem.Spec PyProof.Rows L2 DL
theorem all_mk {l : PySem.W.OpenLaw} {w : World} {K : PySem.W.Frag} {h : Heap} {mg : Str → Option Value} {fa : Addr} (X : K.In h) (G : h.Ns mainGlobals mg) (hfa : mg "law" = some (.ref fa))
    {f1 f2 f3 f4 f5 f6 f7 f8 f9 f10 f11 f12 f13 f14 f15 f16 f17 f18 f19 f20 f21 f22 f23 f24 f25 f26 : Addr} {od1 an1 od2 an2 od3 an3 od4 an4 od5 an5 od6 an6 od7 an7 od8 an8 od9 an9 od10 an10 od11 an11 od12 an12 od13 an13 od14 an14 od15 an15 od16 an16 od17 an17 od18 an18 od19 an19 od20 an20 od21 an21 od22 an22 od23 an23 od24 an24 od25 an25 od26 an26 : Option Addr} {sl1 sl2 sl3 sl4 sl5 sl6 sl7 sl8 sl9 sl10 sl11 sl12 sl13 sl14 sl15 sl16 sl17 sl18 sl19 sl20 sl21 sl22 sl23 sl24 sl25 sl26 : Array (Option Value)} {oc1 kV1 dc1 pm1 cd1 ct1 oc2 kV2 dc2 pm2 cd2 ct2 oc3 kV3 dc3 pm3 cd3 ct3 oc4 kV4 dc4 pm4 cd4 ct4 oc5 kV5 dc5 pm5 cd5 ct5 oc6 kV6 dc6 pm6 cd6 ct6 oc7 kV7 dc7 pm7 cd7 ct7 oc8 kV8 dc8 pm8 cd8 ct8 oc9 kV9 dc9 pm9 cd9 ct9 oc10 kV10 dc10 pm10 cd10 ct10 oc11 kV11 dc11 pm11 cd11 ct11 oc12 kV12 dc12 pm12 cd12 ct12 oc13 kV13 dc13 pm13 cd13 ct13 oc14 kV14 dc14 pm14 cd14 ct14 oc15 kV15 dc15 pm15 cd15 ct15 oc16 kV16 dc16 pm16 cd16 ct16 oc17 kV17 dc17 pm17 cd17 ct17 oc18 kV18 dc18 pm18 cd18 ct18 oc19 kV19 dc19 pm19 cd19 ct19 oc20 kV20 dc20 pm20 cd20 ct20 oc21 kV21 dc21 pm21 cd21 ct21 oc22 kV22 dc22 pm22 cd22 ct22 oc23 kV23 dc23 pm23 cd23 ct23 oc24 kV24 dc24 pm24 cd24 ct24 oc25 kV25 dc25 pm25 cd25 ct25 oc26 kV26 dc26 pm26 cd26 ct26 : Value}
    (a1 : PySem.W.nsIn K mainGlobals "law" = some (some (.ref f1))) (l1 : K.lookup f1 = some ⟨oc1, od1, .func (PySem.W.fnOf "law" "law" (defArgs slaw) (defBody slaw) (defScope slaw) .none kV1 dc1 pm1 an1 cd1 ct1), sl1⟩) (c1 : PySem.W.codeIn K cd1 "law" = true) (k1 : PySem.W.keepIn K (.ref f1) = true)
    (a2 : PySem.W.nsIn K mainGlobals "word_lanes" = some (some (.ref f2))) (l2 : K.lookup f2 = some ⟨oc2, od2, .func (PySem.W.fnOf "word_lanes" "word_lanes" (defArgs sword_lanes) (defBody sword_lanes) (defScope sword_lanes) .none kV2 dc2 pm2 an2 cd2 ct2), sl2⟩) (c2 : PySem.W.codeIn K cd2 "word_lanes" = true) (k2 : PySem.W.keepIn K (.ref f2) = true)
    (a3 : PySem.W.nsIn K mainGlobals "run_lanes" = some (some (.ref f3))) (l3 : K.lookup f3 = some ⟨oc3, od3, .func (PySem.W.fnOf "run_lanes" "run_lanes" (defArgs srun_lanes) (defBody srun_lanes) (defScope srun_lanes) .none kV3 dc3 pm3 an3 cd3 ct3), sl3⟩) (c3 : PySem.W.codeIn K cd3 "run_lanes" = true) (k3 : PySem.W.keepIn K (.ref f3) = true)
    (a4 : PySem.W.nsIn K mainGlobals "let_words" = some (some (.ref f4))) (l4 : K.lookup f4 = some ⟨oc4, od4, .func (PySem.W.fnOf "let_words" "let_words" (defArgs slet_words) (defBody slet_words) (defScope slet_words) .none kV4 dc4 pm4 an4 cd4 ct4), sl4⟩) (c4 : PySem.W.codeIn K cd4 "let_words" = true) (k4 : PySem.W.keepIn K (.ref f4) = true)
    (a5 : PySem.W.nsIn K mainGlobals "let_rows" = some (some (.ref f5))) (l5 : K.lookup f5 = some ⟨oc5, od5, .func (PySem.W.fnOf "let_rows" "let_rows" (defArgs slet_rows) (defBody slet_rows) (defScope slet_rows) .none kV5 dc5 pm5 an5 cd5 ct5), sl5⟩) (c5 : PySem.W.codeIn K cd5 "let_rows" = true) (k5 : PySem.W.keepIn K (.ref f5) = true)
    (a6 : PySem.W.nsIn K mainGlobals "_let_keys" = some (some (.ref f6))) (l6 : K.lookup f6 = some ⟨oc6, od6, .func (PySem.W.fnOf "_let_keys" "_let_keys" (defArgs s_let_keys) (defBody s_let_keys) (defScope s_let_keys) .none kV6 dc6 pm6 an6 cd6 ct6), sl6⟩) (c6 : PySem.W.codeIn K cd6 "_let_keys" = true) (k6 : PySem.W.keepIn K (.ref f6) = true)
    (a7 : PySem.W.nsIn K mainGlobals "live" = some (some (.ref f7))) (l7 : K.lookup f7 = some ⟨oc7, od7, .func (PySem.W.fnOf "live" "live" (defArgs slive) (defBody slive) (defScope slive) .none kV7 dc7 pm7 an7 cd7 ct7), sl7⟩) (c7 : PySem.W.codeIn K cd7 "live" = true) (k7 : PySem.W.keepIn K (.ref f7) = true)
    (a8 : PySem.W.nsIn K mainGlobals "sure" = some (some (.ref f8))) (l8 : K.lookup f8 = some ⟨oc8, od8, .func (PySem.W.fnOf "sure" "sure" (defArgs ssure) (defBody ssure) (defScope ssure) .none kV8 dc8 pm8 an8 cd8 ct8), sl8⟩) (c8 : PySem.W.codeIn K cd8 "sure" = true) (k8 : PySem.W.keepIn K (.ref f8) = true)
    (a9 : PySem.W.nsIn K mainGlobals "closed" = some (some (.ref f9))) (l9 : K.lookup f9 = some ⟨oc9, od9, .func (PySem.W.fnOf "closed" "closed" (defArgs sclosed) (defBody sclosed) (defScope sclosed) .none kV9 dc9 pm9 an9 cd9 ct9), sl9⟩) (c9 : PySem.W.codeIn K cd9 "closed" = true) (k9 : PySem.W.keepIn K (.ref f9) = true)
    (a10 : PySem.W.nsIn K mainGlobals "_places_above" = some (some (.ref f10))) (l10 : K.lookup f10 = some ⟨oc10, od10, .func (PySem.W.fnOf "_places_above" "_places_above" (defArgs s_places_above) (defBody s_places_above) (defScope s_places_above) .none kV10 dc10 pm10 an10 cd10 ct10), sl10⟩) (c10 : PySem.W.codeIn K cd10 "_places_above" = true) (k10 : PySem.W.keepIn K (.ref f10) = true)
    (a11 : PySem.W.nsIn K mainGlobals "_pairs" = some (some (.ref f11))) (l11 : K.lookup f11 = some ⟨oc11, od11, .func (PySem.W.fnOf "_pairs" "_pairs" (defArgs s_pairs) (defBody s_pairs) (defScope s_pairs) .none kV11 dc11 pm11 an11 cd11 ct11), sl11⟩) (c11 : PySem.W.codeIn K cd11 "_pairs" = true) (k11 : PySem.W.keepIn K (.ref f11) = true)
    (a12 : PySem.W.nsIn K mainGlobals "_law_deck" = some (some (.ref f12))) (l12 : K.lookup f12 = some ⟨oc12, od12, .func (PySem.W.fnOf "_law_deck" "_law_deck" (defArgs s_law_deck) (defBody s_law_deck) (defScope s_law_deck) .none kV12 dc12 pm12 an12 cd12 ct12), sl12⟩) (c12 : PySem.W.codeIn K cd12 "_law_deck" = true) (k12 : PySem.W.keepIn K (.ref f12) = true)
    (a13 : PySem.W.nsIn K mainGlobals "_law_draw" = some (some (.ref f13))) (l13 : K.lookup f13 = some ⟨oc13, od13, .func (PySem.W.fnOf "_law_draw" "_law_draw" (defArgs s_law_draw) (defBody s_law_draw) (defScope s_law_draw) .none kV13 dc13 pm13 an13 cd13 ct13), sl13⟩) (c13 : PySem.W.codeIn K cd13 "_law_draw" = true) (k13 : PySem.W.keepIn K (.ref f13) = true)
    (a14 : PySem.W.nsIn K mainGlobals "_law_pick" = some (some (.ref f14))) (l14 : K.lookup f14 = some ⟨oc14, od14, .func (PySem.W.fnOf "_law_pick" "_law_pick" (defArgs s_law_pick) (defBody s_law_pick) (defScope s_law_pick) .none kV14 dc14 pm14 an14 cd14 ct14), sl14⟩) (c14 : PySem.W.codeIn K cd14 "_law_pick" = true) (k14 : PySem.W.keepIn K (.ref f14) = true)
    (a15 : PySem.W.nsIn K mainGlobals "_law_mixed" = some (some (.ref f15))) (l15 : K.lookup f15 = some ⟨oc15, od15, .func (PySem.W.fnOf "_law_mixed" "_law_mixed" (defArgs s_law_mixed) (defBody s_law_mixed) (defScope s_law_mixed) .none kV15 dc15 pm15 an15 cd15 ct15), sl15⟩) (c15 : PySem.W.codeIn K cd15 "_law_mixed" = true) (k15 : PySem.W.keepIn K (.ref f15) = true)
    (a16 : PySem.W.nsIn K mainGlobals "_law_is_let" = some (some (.ref f16))) (l16 : K.lookup f16 = some ⟨oc16, od16, .func (PySem.W.fnOf "_law_is_let" "_law_is_let" (defArgs s_law_is_let) (defBody s_law_is_let) (defScope s_law_is_let) .none kV16 dc16 pm16 an16 cd16 ct16), sl16⟩) (c16 : PySem.W.codeIn K cd16 "_law_is_let" = true) (k16 : PySem.W.keepIn K (.ref f16) = true)
    (a17 : PySem.W.nsIn K mainGlobals "_law_rows" = some (some (.ref f17))) (l17 : K.lookup f17 = some ⟨oc17, od17, .func (PySem.W.fnOf "_law_rows" "_law_rows" (defArgs s_law_rows) (defBody s_law_rows) (defScope s_law_rows) .none kV17 dc17 pm17 an17 cd17 ct17), sl17⟩) (c17 : PySem.W.codeIn K cd17 "_law_rows" = true) (k17 : PySem.W.keepIn K (.ref f17) = true)
    (a18 : PySem.W.nsIn K mainGlobals "_law_some" = some (some (.ref f18))) (l18 : K.lookup f18 = some ⟨oc18, od18, .func (PySem.W.fnOf "_law_some" "_law_some" (defArgs s_law_some) (defBody s_law_some) (defScope s_law_some) .none kV18 dc18 pm18 an18 cd18 ct18), sl18⟩) (c18 : PySem.W.codeIn K cd18 "_law_some" = true) (k18 : PySem.W.keepIn K (.ref f18) = true)
    (a19 : PySem.W.nsIn K mainGlobals "_law_run" = some (some (.ref f19))) (l19 : K.lookup f19 = some ⟨oc19, od19, .func (PySem.W.fnOf "_law_run" "_law_run" (defArgs s_law_run) (defBody s_law_run) (defScope s_law_run) .none kV19 dc19 pm19 an19 cd19 ct19), sl19⟩) (c19 : PySem.W.codeIn K cd19 "_law_run" = true) (k19 : PySem.W.keepIn K (.ref f19) = true)
    (a20 : PySem.W.nsIn K mainGlobals "_law_network" = some (some (.ref f20))) (l20 : K.lookup f20 = some ⟨oc20, od20, .func (PySem.W.fnOf "_law_network" "_law_network" (defArgs s_law_network) (defBody s_law_network) (defScope s_law_network) .none kV20 dc20 pm20 an20 cd20 ct20), sl20⟩) (c20 : PySem.W.codeIn K cd20 "_law_network" = true) (k20 : PySem.W.keepIn K (.ref f20) = true)
    (a21 : PySem.W.nsIn K mainGlobals "_law_order" = some (some (.ref f21))) (l21 : K.lookup f21 = some ⟨oc21, od21, .func (PySem.W.fnOf "_law_order" "_law_order" (defArgs s_law_order) (defBody s_law_order) (defScope s_law_order) .none kV21 dc21 pm21 an21 cd21 ct21), sl21⟩) (c21 : PySem.W.codeIn K cd21 "_law_order" = true) (k21 : PySem.W.keepIn K (.ref f21) = true)
    (a22 : PySem.W.nsIn K mainGlobals "_law_due" = some (some (.ref f22))) (l22 : K.lookup f22 = some ⟨oc22, od22, .func (PySem.W.fnOf "_law_due" "_law_due" (defArgs s_law_due) (defBody s_law_due) (defScope s_law_due) .none kV22 dc22 pm22 an22 cd22 ct22), sl22⟩) (c22 : PySem.W.codeIn K cd22 "_law_due" = true) (k22 : PySem.W.keepIn K (.ref f22) = true)
    (a23 : PySem.W.nsIn K mainGlobals "_law_closure" = some (some (.ref f23))) (l23 : K.lookup f23 = some ⟨oc23, od23, .func (PySem.W.fnOf "_law_closure" "_law_closure" (defArgs s_law_closure) (defBody s_law_closure) (defScope s_law_closure) .none kV23 dc23 pm23 an23 cd23 ct23), sl23⟩) (c23 : PySem.W.codeIn K cd23 "_law_closure" = true) (k23 : PySem.W.keepIn K (.ref f23) = true)
    (a24 : PySem.W.nsIn K mainGlobals "_law_spread" = some (some (.ref f24))) (l24 : K.lookup f24 = some ⟨oc24, od24, .func (PySem.W.fnOf "_law_spread" "_law_spread" (defArgs s_law_spread) (defBody s_law_spread) (defScope s_law_spread) .none kV24 dc24 pm24 an24 cd24 ct24), sl24⟩) (c24 : PySem.W.codeIn K cd24 "_law_spread" = true) (k24 : PySem.W.keepIn K (.ref f24) = true)
    (a25 : PySem.W.nsIn K mainGlobals "_law_lines" = some (some (.ref f25))) (l25 : K.lookup f25 = some ⟨oc25, od25, .func (PySem.W.fnOf "_law_lines" "_law_lines" (defArgs s_law_lines) (defBody s_law_lines) (defScope s_law_lines) .none kV25 dc25 pm25 an25 cd25 ct25), sl25⟩) (c25 : PySem.W.codeIn K cd25 "_law_lines" = true) (k25 : PySem.W.keepIn K (.ref f25) = true)
    (a26 : PySem.W.nsIn K mainGlobals "_law_is_wide" = some (some (.ref f26))) (l26 : K.lookup f26 = some ⟨oc26, od26, .func (PySem.W.fnOf "_law_is_wide" "_law_is_wide" (defArgs s_law_is_wide) (defBody s_law_is_wide) (defScope s_law_is_wide) .none kV26 dc26 pm26 an26 cd26 ct26), sl26⟩) (c26 : PySem.W.codeIn K cd26 "_law_is_wide" = true) (k26 : PySem.W.keepIn K (.ref f26) = true)
    (z1 : PySem.W.nsIn K mainGlobals "abs" = some none) (z2 : PySem.W.nsIn K mainGlobals "dict" = some none) (z3 : PySem.W.nsIn K mainGlobals "enumerate" = some none) (z4 : PySem.W.nsIn K mainGlobals "int" = some none) (z5 : PySem.W.nsIn K mainGlobals "len" = some none) (z6 : PySem.W.nsIn K mainGlobals "list" = some none) (z7 : PySem.W.nsIn K mainGlobals "max" = some none) (z8 : PySem.W.nsIn K mainGlobals "range" = some none) (z9 : PySem.W.nsIn K mainGlobals "repr" = some none) (z10 : PySem.W.nsIn K mainGlobals "sorted" = some none) (z11 : PySem.W.nsIn K mainGlobals "tuple" = some none) :
    ∃ fd : FuncData, (∀ (s : Shared) (v : Value), BindsTo s fd ⟨[v], []⟩ [("script", v)]) ∧ ∀ base : Heap, K.In base → base.Ns mainGlobals mg → FnG l.prog w K mg base CX0 6 fa fd ["script"] (spD K 1 R_law) := by
  have e := hfa.symm.trans (PySem.W.mg_of X G a1)
  cases e
  have D2 : Df K mg "word_lanes" sword_lanes ["n", "words"] := ⟨f2, _, fun_mk (st := sword_lanes) l2 c2 k2, .all fun us hl => match us, hl with | [_, _], _ => rfl, PySem.W.mg_of X G a2⟩
  have D3 : Df K mg "run_lanes" srun_lanes ["network", "lanes"] := ⟨f3, _, fun_mk (st := srun_lanes) l3 c3 k3, .all fun us hl => match us, hl with | [_, _], _ => rfl, PySem.W.mg_of X G a3⟩
  have D4 : Df K mg "let_words" slet_words ["n", "order"] := ⟨f4, _, fun_mk (st := slet_words) l4 c4 k4, .all fun us hl => match us, hl with | [_, _], _ => rfl, PySem.W.mg_of X G a4⟩
  have D5 : Df K mg "let_rows" slet_rows ["order", "choices"] := ⟨f5, _, fun_mk (st := slet_rows) l5 c5 k5, .all fun us hl => match us, hl with | [_, _], _ => rfl, PySem.W.mg_of X G a5⟩
  have D6 : Df K mg "_let_keys" s_let_keys ["row", "below", "keys"] := ⟨f6, _, fun_mk (st := s_let_keys) l6 c6 k6, .all fun us hl => match us, hl with | [_, _, _], _ => rfl, PySem.W.mg_of X G a6⟩
  have D7 : Df K mg "live" slive ["n", "order", "network"] := ⟨f7, _, fun_mk (st := slive) l7 c7 k7, .all fun us hl => match us, hl with | [_, _, _], _ => rfl, PySem.W.mg_of X G a7⟩
  have D8 : Df K mg "sure" ssure ["n", "order", "network"] := ⟨f8, _, fun_mk (st := ssure) l8 c8 k8, .all fun us hl => match us, hl with | [_, _, _], _ => rfl, PySem.W.mg_of X G a8⟩
  have D9 : Df K mg "closed" sclosed ["n", "order"] := ⟨f9, _, fun_mk (st := sclosed) l9 c9 k9, .all fun us hl => match us, hl with | [_, _], _ => rfl, PySem.W.mg_of X G a9⟩
  have D10 : Df K mg "_places_above" s_places_above ["n", "order"] := ⟨f10, _, fun_mk (st := s_places_above) l10 c10 k10, .all fun us hl => match us, hl with | [_, _], _ => rfl, PySem.W.mg_of X G a10⟩
  have D11 : Df K mg "_pairs" s_pairs ["above"] := ⟨f11, _, fun_mk (st := s_pairs) l11 c11 k11, .all fun us hl => match us, hl with | [_], _ => rfl, PySem.W.mg_of X G a11⟩
  have D12 : Df K mg "_law_deck" s_law_deck ["script"] := ⟨f12, _, fun_mk (st := s_law_deck) l12 c12 k12, .all fun us hl => match us, hl with | [_], _ => rfl, PySem.W.mg_of X G a12⟩
  have D13 : Df K mg "_law_draw" s_law_draw ["deck", "many"] := ⟨f13, _, fun_mk (st := s_law_draw) l13 c13 k13, .all fun us hl => match us, hl with | [_, _], _ => rfl, PySem.W.mg_of X G a13⟩
  have D14 : Df K mg "_law_pick" s_law_pick ["deck", "items"] := ⟨f14, _, fun_mk (st := s_law_pick) l14 c14 k14, .all fun us hl => match us, hl with | [_, _], _ => rfl, PySem.W.mg_of X G a14⟩
  have D15 : Df K mg "_law_mixed" s_law_mixed ["deck", "items"] := ⟨f15, _, fun_mk (st := s_law_mixed) l15 c15 k15, .all fun us hl => match us, hl with | [_, _], _ => rfl, PySem.W.mg_of X G a15⟩
  have D16 : Df K mg "_law_is_let" s_law_is_let ["order", "row"] := ⟨f16, _, fun_mk (st := s_law_is_let) l16 c16 k16, .all fun us hl => match us, hl with | [_, _], _ => rfl, PySem.W.mg_of X G a16⟩
  have D17 : Df K mg "_law_rows" s_law_rows ["n", "top"] := ⟨f17, _, fun_mk (st := s_law_rows) l17 c17 k17, .all fun us hl => match us, hl with | [_, _], _ => rfl, PySem.W.mg_of X G a17⟩
  have D18 : Df K mg "_law_some" s_law_some ["n", "order", "top"] := ⟨f18, _, fun_mk (st := s_law_some) l18 c18 k18, .all fun us hl => match us, hl with | [_, _, _], _ => rfl, PySem.W.mg_of X G a18⟩
  have D19 : Df K mg "_law_run" s_law_run ["network", "row"] := ⟨f19, _, fun_mk (st := s_law_run) l19 c19 k19, .all fun us hl => match us, hl with | [_, _], _ => rfl, PySem.W.mg_of X G a19⟩
  have D20 : Df K mg "_law_network" s_law_network ["deck", "n", "many"] := ⟨f20, _, fun_mk (st := s_law_network) l20 c20 k20, .all fun us hl => match us, hl with | [_, _, _], _ => rfl, PySem.W.mg_of X G a20⟩
  have D21 : Df K mg "_law_order" s_law_order ["deck", "n"] := ⟨f21, _, fun_mk (st := s_law_order) l21 c21 k21, .all fun us hl => match us, hl with | [_, _], _ => rfl, PySem.W.mg_of X G a21⟩
  have D22 : Df K mg "_law_due" s_law_due ["n", "network", "rows"] := ⟨f22, _, fun_mk (st := s_law_due) l22 c22 k22, .all fun us hl => match us, hl with | [_, _, _], _ => rfl, PySem.W.mg_of X G a22⟩
  have D23 : Df K mg "_law_closure" s_law_closure ["n", "order"] := ⟨f23, _, fun_mk (st := s_law_closure) l23 c23 k23, .all fun us hl => match us, hl with | [_, _], _ => rfl, PySem.W.mg_of X G a23⟩
  have D24 : Df K mg "_law_spread" s_law_spread ["lines", "network"] := ⟨f24, _, fun_mk (st := s_law_spread) l24 c24 k24, .all fun us hl => match us, hl with | [_, _], _ => rfl, PySem.W.mg_of X G a24⟩
  have D25 : Df K mg "_law_lines" s_law_lines ["deck", "n", "many"] := ⟨f25, _, fun_mk (st := s_law_lines) l25 c25 k25, .all fun us hl => match us, hl with | [_, _, _], _ => rfl, PySem.W.mg_of X G a25⟩
  have D26 : Df K mg "_law_is_wide" s_law_is_wide ["deck"] := ⟨f26, _, fun_mk (st := s_law_is_wide) l26 c26 k26, .all fun us hl => match us, hl with | [_], _ => rfl, PySem.W.mg_of X G a26⟩
  have B : Bi mg := ⟨PySem.W.mg_none_of X G z1, PySem.W.mg_none_of X G z2, PySem.W.mg_none_of X G z3, PySem.W.mg_none_of X G z4, PySem.W.mg_none_of X G z5, PySem.W.mg_none_of X G z6, PySem.W.mg_none_of X G z7, PySem.W.mg_none_of X G z8, PySem.W.mg_none_of X G z9, PySem.W.mg_none_of X G z10, PySem.W.mg_none_of X G z11⟩
  refine ⟨PySem.W.fnOf "law" "law" (defArgs slaw) (defBody slaw) (defScope slaw) .none kV1 dc1 pm1 an1 cd1 ct1, fun s v => .of_eq rfl, fun base hK hN => ?_⟩
  exact oklaw ⟨_, _, fun_mk (st := slaw) l1 c1 k1, .all fun us hl => match us, hl with | [_], _ => rfl, PySem.W.mg_of X G a1⟩ B D2 D3 D4 D5 D6 D7 D8 D9 D10 D11 D12 D13 D14 D15 D16 D17 D18 D19 D20 D21 D22 D23 D24 D25 D26
theorem law_start {K : PySem.W.Frag} {H : Hp} {a : Addr} {ns : List Int} (h63 : ns.length ≤ 63) (hS : SqL K H a (ns.map V.int)) :  spD K 1 R_law [.ref a] H (fun v _ => v = .bl true) fun _ _ _ => False := by
  refine ⟨rfl, H, [], [.scr ns], [], .dat (.bool true), [], ⟨Same.refl _, rfl, fun k a o e => by simp at e, by simp, fun a h => by simp at h, fun k p o e => by simp at e, fun a z => z, fun k p ds e => by simp at e⟩, fun o h => by simp at h, .cons ⟨a, rfl, hS⟩ .nil, ⟨ns, rfl, h63, rfl, rfl, rfl⟩, fun v Hf' H' fp' _ _ rv => ?_⟩
  cases rv
  rfl
theorem walk {l : PySem.W.OpenLaw} {q : Program} {loose : List Str} {XP : (Str → Option Value) → Heap → Prop} {YP : World → Heap → Prop} {d : DefRec} {K : Params → PySem.W.Frag} (hn : l.most = some 63) (hdf : d.params.defaults = [])
    (hY : ∀ (w : World) (h : Heap), YP w h → (K w.params).In h)
    (F : ∀ (w : World) (mg : Str → Option Value) (fa : Addr) (h : Heap), (K w.params).In h → h.Ns mainGlobals mg → mg d.name = some (.ref fa) →
      ∃ fd : FuncData, (∀ (s : Shared) (u : Value), BindsTo s fd ⟨[u], []⟩ [("script", u)]) ∧ ∀ base : Heap, (K w.params).In base → base.Ns mainGlobals mg → FnG l.prog w (K w.params) mg base CX0 6 fa fd ["script"] (spD (K w.params) 1 R_law)) :
    PySem.W.WalkO q loose XP YP l.row.toRowW d [] (fun f vs => PySem.call f vs) :=
  walk_ofG (n := 63) (k := 6) (x := "script") (CX := fun _ => CX0) (sp := fun w => spD (K w.params) 1 R_law) hn (by decide) hdf ⟨rfl, by decide, by decide⟩ hY F (fun _ _ a ns hl _ hS => law_start hl hS) fun _ _ _ _ _ z => z
end K13
open PySem PySem.W PyProof.Rows
set_option maxRecDepth 100000 in
set_option maxHeartbeats 0 in
theorem PySem.Challenge.cw_tieskept_k13_whole_what_is_sure_holds : PySem.Challenge.rw_tieskept_k13_whole_what_is_sure.Holds := by
  w_on; o_law; k_head; (case hw => w_witness2)
  k_fill
  refine K13.walk (l := PySem.Challenge.rw_tieskept_k13_whole_what_is_sure) rfl rfl (fun w h Y => PySem.W.kIn_of Y) ?F
  case F =>
    intro w mg fa h KX G hmg
    refine' K13.all_mk KX G hmg ?a1 ?l1 ?c1 ?k1 ?a2 ?l2 ?c2 ?k2 ?a3 ?l3 ?c3 ?k3 ?a4 ?l4 ?c4 ?k4 ?a5 ?l5 ?c5 ?k5 ?a6 ?l6 ?c6 ?k6 ?a7 ?l7 ?c7 ?k7 ?a8 ?l8 ?c8 ?k8 ?a9 ?l9 ?c9 ?k9 ?a10 ?l10 ?c10 ?k10 ?a11 ?l11 ?c11 ?k11 ?a12 ?l12 ?c12 ?k12 ?a13 ?l13 ?c13 ?k13 ?a14 ?l14 ?c14 ?k14 ?a15 ?l15 ?c15 ?k15 ?a16 ?l16 ?c16 ?k16 ?a17 ?l17 ?c17 ?k17 ?a18 ?l18 ?c18 ?k18 ?a19 ?l19 ?c19 ?k19 ?a20 ?l20 ?c20 ?k20 ?a21 ?l21 ?c21 ?k21 ?a22 ?l22 ?c22 ?k22 ?a23 ?l23 ?c23 ?k23 ?a24 ?l24 ?c24 ?k24 ?a25 ?l25 ?c25 ?k25 ?a26 ?l26 ?c26 ?k26  ?z1 ?z2 ?z3 ?z4 ?z5 ?z6 ?z7 ?z8 ?z9 ?z10 ?z11
    (case a1 => k_is); (case l1 => k_is); (case c1 => k_is); (case k1 => k_is)
    (case a2 => k_is); (case l2 => k_is); (case c2 => k_is); (case k2 => k_is)
    (case a3 => k_is); (case l3 => k_is); (case c3 => k_is); (case k3 => k_is)
    (case a4 => k_is); (case l4 => k_is); (case c4 => k_is); (case k4 => k_is)
    (case a5 => k_is); (case l5 => k_is); (case c5 => k_is); (case k5 => k_is)
    (case a6 => k_is); (case l6 => k_is); (case c6 => k_is); (case k6 => k_is)
    (case a7 => k_is); (case l7 => k_is); (case c7 => k_is); (case k7 => k_is)
    (case a8 => k_is); (case l8 => k_is); (case c8 => k_is); (case k8 => k_is)
    (case a9 => k_is); (case l9 => k_is); (case c9 => k_is); (case k9 => k_is)
    (case a10 => k_is); (case l10 => k_is); (case c10 => k_is); (case k10 => k_is)
    (case a11 => k_is); (case l11 => k_is); (case c11 => k_is); (case k11 => k_is)
    (case a12 => k_is); (case l12 => k_is); (case c12 => k_is); (case k12 => k_is)
    (case a13 => k_is); (case l13 => k_is); (case c13 => k_is); (case k13 => k_is)
    (case a14 => k_is); (case l14 => k_is); (case c14 => k_is); (case k14 => k_is)
    (case a15 => k_is); (case l15 => k_is); (case c15 => k_is); (case k15 => k_is)
    (case a16 => k_is); (case l16 => k_is); (case c16 => k_is); (case k16 => k_is)
    (case a17 => k_is); (case l17 => k_is); (case c17 => k_is); (case k17 => k_is)
    (case a18 => k_is); (case l18 => k_is); (case c18 => k_is); (case k18 => k_is)
    (case a19 => k_is); (case l19 => k_is); (case c19 => k_is); (case k19 => k_is)
    (case a20 => k_is); (case l20 => k_is); (case c20 => k_is); (case k20 => k_is)
    (case a21 => k_is); (case l21 => k_is); (case c21 => k_is); (case k21 => k_is)
    (case a22 => k_is); (case l22 => k_is); (case c22 => k_is); (case k22 => k_is)
    (case a23 => k_is); (case l23 => k_is); (case c23 => k_is); (case k23 => k_is)
    (case a24 => k_is); (case l24 => k_is); (case c24 => k_is); (case k24 => k_is)
    (case a25 => k_is); (case l25 => k_is); (case c25 => k_is); (case k25 => k_is)
    (case a26 => k_is); (case l26 => k_is); (case c26 => k_is); (case k26 => k_is)
    (case z1 => k_is); (case z2 => k_is); (case z3 => k_is); (case z4 => k_is); (case z5 => k_is); (case z6 => k_is); (case z7 => k_is); (case z8 => k_is); (case z9 => k_is); (case z10 => k_is); (case z11 => k_is)
