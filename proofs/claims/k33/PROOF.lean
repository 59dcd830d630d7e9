import PyProof.Rows.All
import Wide.All
import OpenK.AllK
import Wide.FinOn
import HandS.ForMost
import HandS.Walk
import HandS.IsInst
import HandS.TupAny
import HandS.TupLe
import HandS.Style
import HandS.Flow
import HandS.Wide
import HandS.Conv
import HandS.TupMul
import HandS.SortInts
import HandS.Zip
import HandS.NoneIn
import KE.GoesMore
import KE.KRevSl
import HandS.RaiseMore
import HandS.SetFor
import HandS.Strs
import PyProof.FactsAll.subtypes_4
import KE.DataMinMax
import HandS.Exc
import HandS.ExcOwn
import HandS.ExcInit
import HandS.ExcField
import HandS.TryMany
import HandS.WordsExc
import HandS.ExcIs
import KE.KExcIs
import KE.OsArith
import HandS.WideBits
import HandS.Rev
import HandS.Sort
import HandS.SortKw
import HandS.List
import HandS.Deep
import HandS.ReCall
import HandS.TupSets
import PySem.Challenge.RW_tieskept_k33_whole_one_image_tells_all
set_option Elab.async false
set_option linter.all false
set_option maxRecDepth 100000
set_option maxHeartbeats 1000000
/-! DL: a logic over data for the hand layer: values are read as data (PyData), a state is a list of slots and of own objects; no heap is seen in it. -/
namespace DL
open PySem PySem.Spec PyProof.Rows L2

/-! ### data that stands in a heap and is not changed any more -/
mutual
inductive Rp (K : PySem.W.Frag) (H : Hp) : V → PyData → Prop
  | non : Rp K H .non .none
  | bl (b : Bool) : Rp K H (.bl b) (.bool b)
  | int (i : Int) : Rp K H (.int i) (.int i)
  | str (x : Str) : Rp K H (.str x) (.str x)
  | lst {a : Addr} {xs : List V} {ds : List PyData} (h : H a = some (.lst xs)) (r : RpA K H xs ds) : Rp K H (.ref a) (.list ds)
  | tup {a : Addr} {xs : List V} {ds : List PyData} (h : SqT K H a xs) (r : RpA K H xs ds) : Rp K H (.ref a) (.tuple ds)
  | emp {a : Addr} (h : H a = some (.dK [])) : Rp K H (.ref a) (.dict [])
inductive RpA (K : PySem.W.Frag) (H : Hp) : List V → List PyData → Prop
  | nil : RpA K H [] []
  | cons {v : V} {vs : List V} {d : PyData} {ds : List PyData} (h : Rp K H v d) (t : RpA K H vs ds) : RpA K H (v :: vs) (d :: ds)
end
section
variable {K : PySem.W.Frag} {H H' : Hp}
theorem sameT {a : Addr} {xs : List V} (e : Same H H') (h : SqT K H a xs) : SqT K H' a xs := by
  rcases h with (h | ⟨o, h⟩) | h
  · exact .inl (.inl (e _ _ h))
  · exact .inl (.inr ⟨o, e _ _ h⟩)
  · exact .inr h
mutual
theorem Rp.mono (e : Same H H') : ∀ {v : V} {d : PyData}, Rp K H v d → Rp K H' v d
  | _, _, .non => .non
  | _, _, .bl b => .bl b
  | _, _, .int i => .int i
  | _, _, .str x => .str x
  | _, _, .lst h r => .lst (e _ _ h) (RpA.mono e r)
  | _, _, .tup h r => .tup (sameT e h) (RpA.mono e r)
  | _, _, .emp h => .emp (e _ _ h)
theorem RpA.mono (e : Same H H') : ∀ {vs : List V} {ds : List PyData}, RpA K H vs ds → RpA K H' vs ds
  | _, _, .nil => .nil
  | _, _, .cons h t => .cons (Rp.mono e h) (RpA.mono e t)
end
theorem RpA.len : ∀ {vs : List V} {ds : List PyData}, RpA K H vs ds → vs.length = ds.length
  | _, _, .nil => rfl
  | _, _, .cons _ t => by rw [List.length_cons, List.length_cons, RpA.len t]
theorem RpA.get : ∀ {vs : List V} {ds : List PyData} {i : Nat} {d : PyData}, RpA K H vs ds → ds[i]? = some d → ∃ v, vs[i]? = some v ∧ Rp K H v d
  | _, _, _, _, .nil, e => by simp at e
  | _, _, 0, _, .cons h _, e => by
    simp at e
    exact ⟨_, rfl, e ▸ h⟩
  | _, _, i + 1, _, .cons _ t, e => by
    obtain ⟨v, h1, h2⟩ := RpA.get (i := i) t (by simpa using e)
    exact ⟨v, by simpa using h1, h2⟩
theorem RpA.got : ∀ {vs : List V} {ds : List PyData} {i : Nat} {v : V}, RpA K H vs ds → vs[i]? = some v → ∃ d, ds[i]? = some d ∧ Rp K H v d
  | _, _, _, _, .nil, e => by simp at e
  | _, _, 0, _, .cons h _, e => by
    simp at e
    exact ⟨_, rfl, e ▸ h⟩
  | _, _, i + 1, _, .cons _ t, e => by
    obtain ⟨v, h1, h2⟩ := RpA.got (i := i) t (by simpa using e)
    exact ⟨v, by simpa using h1, h2⟩
theorem RpA.append : ∀ {vs us : List V} {ds es : List PyData}, RpA K H vs ds → RpA K H us es → RpA K H (vs ++ us) (ds ++ es)
  | _, _, _, _, .nil, s => s
  | _, _, _, _, .cons h t, s => .cons h (RpA.append t s)
theorem RpA.take : ∀ {vs : List V} {ds : List PyData} (n : Nat), RpA K H vs ds → RpA K H (vs.take n) (ds.take n)
  | _, _, 0, _ => .nil
  | _, _, _ + 1, .nil => .nil
  | _, _, n + 1, .cons h t => .cons h (RpA.take n t)
theorem RpA.drop : ∀ {vs : List V} {ds : List PyData} (n : Nat), RpA K H vs ds → RpA K H (vs.drop n) (ds.drop n)
  | _, _, 0, r => r
  | _, _, _ + 1, .nil => .nil
  | _, _, n + 1, .cons _ t => RpA.drop n t
theorem RpA.set {v : V} {d : PyData} (h : Rp K H v d) : ∀ {vs : List V} {ds : List PyData} (i : Nat), RpA K H vs ds → RpA K H (vs.set i v) (ds.set i d)
  | _, _, _, .nil => .nil
  | _, _, 0, .cons _ t => .cons h t
  | _, _, i + 1, .cons g t => .cons g (RpA.set h i t)
theorem RpA.reverse : ∀ {vs : List V} {ds : List PyData}, RpA K H vs ds → RpA K H vs.reverse ds.reverse
  | _, _, .nil => .nil
  | _, _, .cons h t => by
    rw [List.reverse_cons, List.reverse_cons]
    exact (RpA.reverse t).append (.cons h .nil)
theorem RpA.ints : ∀ ns : List Int, RpA K H (ns.map V.int) (ns.map PyData.int)
  | [] => .nil
  | n :: r => .cons (.int n) (RpA.ints r)
theorem RpA.ints_inv : ∀ {ns : List Int} {vs : List V}, RpA K H vs (ns.map PyData.int) → vs = ns.map V.int
  | [], _, .nil => rfl
  | n :: r, _, .cons h t => by
    cases h
    rw [RpA.ints_inv t]
    rfl
end

/-! ### own objects: lists that may still grow, the law's well -/
inductive OO where
  | gone
  | lst (ds : List PyData)
  | lstP (ds : List PyData)
  | well (deep : List Int) (stirred turns : Int)
  | dic (f : Int → Option Int) (n : Nat)
  | raw (a : Addr) (o : HO)
  | dtt (kv : List (List Int × PyData))
  | dpp (e : Addr → List (Addr × Int × Int) → Heap → Prop) (ks : List (Int × Int))
  | dpr (e : Addr → List (Addr × List Int) → Heap → Prop) (ks : List (List Int))
abbrev kD : Key := Sum.inr "far"
abbrev kS : Key := Sum.inr "stirred"
abbrev kT : Key := Sum.inr "times"
def wellK (l : Addr) (s t : Int) : List (Key × V) := [(kD, V.ref l), (kS, V.int s), (kT, V.int t)]
/-- a dict whose keys are tuples of numbers: its rows and what they are read as -/
abbrev KvR (K : PySem.W.Frag) (Hf : Hp) : List (List Key × V) → List (List Int × PyData) → Prop := Paired fun p q => p.1 = q.1.map Sum.inl ∧ Rp K Hf p.2 q.2
def OOk (K : PySem.W.Frag) (Hf H : Hp) (fp : List Addr) : OO → Prop
  | .gone => True
  | .lst ds => ∃ a xs, fp = [a] ∧ H a = some (.lst xs) ∧ RpA K Hf xs ds
  | .lstP ds => ∃ a xs, fp = [a] ∧ H a = some (.lst xs) ∧ RpA K Hf xs ds
  | .well d s t => ∃ a l, fp = [a, l] ∧ H a = some (.dK (wellK l s t)) ∧ H l = some (.lst (d.map V.int))
  | .dic f n => ∃ a kvs, fp = [a] ∧ H a = some (.dK kvs) ∧ kvs.length ≤ n ∧ ∀ k : Int, valV kvs (Sum.inl k) = (f k).map V.int
  | .raw a o => fp = [a] ∧ H a = some o
  | .dtt kv => ∃ a kvs, fp = [a] ∧ H a = some (.dT kvs) ∧ KvR K Hf kvs kv
  | .dpp e ks => ∃ a ps, fp = [a] ∧ H a = some (.ext (e a ps)) ∧ (∀ z, z ∈ ps.map (·.2) ↔ z ∈ ks) ∧ ps.length ≤ ks.length ∧ ∀ p ∈ ps, SqT K Hf p.1 [.int p.2.1, .int p.2.2]
  | .dpr e ks => ∃ a ps, fp = [a] ∧ H a = some (.ext (e a ps)) ∧ ps.map (·.2) = ks ∧ ∀ p ∈ ps, SqT K Hf p.1 (p.2.map V.int)
theorem OOk.mono {K : PySem.W.Frag} {Hf Hf' H H' : Hp} {fp : List Addr} {o : OO} (h : OOk K Hf H fp o) (e : Same Hf Hf') (k : ∀ a ∈ fp, H' a = H a) : OOk K Hf' H' fp o := by
  cases o with
  | gone => trivial
  | lst ds =>
    obtain ⟨a, xs, rfl, h1, h2⟩ := h
    exact ⟨a, xs, rfl, by rw [k a (by simp)]; exact h1, h2.mono e⟩
  | lstP ds =>
    obtain ⟨a, xs, rfl, h1, h2⟩ := h
    exact ⟨a, xs, rfl, by rw [k a (by simp)]; exact h1, h2.mono e⟩
  | well d s t =>
    obtain ⟨a, l, rfl, h1, h2⟩ := h
    exact ⟨a, l, rfl, by rw [k a (by simp)]; exact h1, by rw [k l (by simp)]; exact h2⟩
  | dic f n =>
    obtain ⟨a, kvs, rfl, h1, h2, h3⟩ := h
    exact ⟨a, kvs, rfl, by rw [k a (by simp)]; exact h1, h2, h3⟩
  | raw a o =>
    obtain ⟨rfl, h1⟩ := h
    exact ⟨rfl, by rw [k a (by simp)]; exact h1⟩
  | dtt kv =>
    obtain ⟨a, kvs, rfl, h1, h2⟩ := h
    exact ⟨a, kvs, rfl, by rw [k a (by simp)]; exact h1, Paired.mapP h2 fun _ _ z => ⟨z.1, z.2.mono e⟩⟩
  | dpp g ks =>
    obtain ⟨a, ps, rfl, h1, h2, h4, h3⟩ := h
    exact ⟨a, ps, rfl, by rw [k a (by simp)]; exact h1, h2, h4, fun p hp => sameT e (h3 p hp)⟩
  | dpr g ks =>
    obtain ⟨a, ps, rfl, h1, h2, h3⟩ := h
    exact ⟨a, ps, rfl, by rw [k a (by simp)]; exact h1, h2, fun p hp => sameT e (h3 p hp)⟩

/-- what a slot, a value is known to be: nothing, data, the k-th own object -/
inductive SD where
  | un
  | dat (d : PyData)
  | own (k : Nat)
  | scr (ns : List Int)
  | rng (lo hi : Int)
  | lown (ks : List Nat)
  | tx (ns : List Int)
  | tq (d1 : PyData) (ns : List Int) (d3 : PyData)
  | no
def SRl (K : PySem.W.Frag) (Hf : Hp) (fp : List (List Addr)) : Option V → SD → Prop
  | _, .un => True
  | some v, .dat d => Rp K Hf v d
  | some v, .own k => ∃ a r, fp[k]? = some (a :: r) ∧ v = .ref a
  | some v, .scr ns => ∃ a, v = .ref a ∧ SqL K Hf a (ns.map V.int)
  | some v, .rng lo hi => ∃ a, v = .ref a ∧ Hf a = some (.rng lo hi)
  | some v, .lown ks => ∃ a xs, v = .ref a ∧ Hf a = some (.lst xs) ∧ xs.length = ks.length ∧ ∀ (i k : Nat) (x : V), ks[i]? = some k → xs[i]? = some x → ∃ b r, fp[k]? = some (b :: r) ∧ x = V.ref b
  | some v, .tx ns => ∃ a o, v = .ref a ∧ Hf a = some (.frz o (.tup (ns.map V.int))) ∧ o.cls = .type "tuple" ∧ o.dict = none
  | some v, .tq d1 ns d3 => ∃ a v1 b o v3, v = .ref a ∧ Hf a = some (.tup [v1, .ref b, v3]) ∧ Rp K Hf v1 d1 ∧ Hf b = some (.frz o (.tup (ns.map V.int))) ∧ o.cls = .type "tuple" ∧ o.dict = none ∧ Rp K Hf v3 d3
  | some _, .no => False
  | none, _ => False
theorem pre_get {α : Type} {l l' : List α} {k : Nat} {x : α} (p : l <+: l') (h : l[k]? = some x) : l'[k]? = some x := by
  obtain ⟨t, rfl⟩ := p
  rw [List.getElem?_append_left (List.getElem?_eq_some_iff.mp h).1]
  exact h
theorem SRl.mono {K : PySem.W.Frag} {Hf Hf' : Hp} {fp fp' : List (List Addr)} {x : Option V} {d : SD} (h : SRl K Hf fp x d) (e : Same Hf Hf') (p : fp <+: fp') : SRl K Hf' fp' x d := by
  cases d with
  | un => cases x <;> trivial
  | dat d => cases x with
    | none => exact h
    | some v => exact Rp.mono e h
  | own k => cases x with
    | none => exact h
    | some v =>
      obtain ⟨a, r, h1, h2⟩ := h
      exact ⟨a, r, pre_get p h1, h2⟩
  | scr ns => cases x with
    | none => exact h
    | some v =>
      obtain ⟨a, h1, h2⟩ := h
      exact ⟨a, h1, e.seq h2⟩
  | rng lo hi => cases x with
    | none => exact h
    | some v =>
      obtain ⟨a, h1, h2⟩ := h
      exact ⟨a, h1, e _ _ h2⟩
  | lown ks => cases x with
    | none => exact h
    | some v =>
      obtain ⟨a, xs, h1, h2, h3, h4⟩ := h
      exact ⟨a, xs, h1, e _ _ h2, h3, fun i k y e1 e2 => by
        obtain ⟨b, r, q1, q2⟩ := h4 i k y e1 e2
        exact ⟨b, r, pre_get p q1, q2⟩⟩
  | tx ns => cases x with
    | none => exact h
    | some v =>
      obtain ⟨a, o, h1, h2, h3⟩ := h
      exact ⟨a, o, h1, e _ _ h2, h3⟩
  | tq d1 ns d3 => cases x with
    | none => exact h
    | some v =>
      obtain ⟨a, v1, b, o, v3, h1, h2, h3, h4, h5, h6, h7⟩ := h
      exact ⟨a, v1, b, o, v3, h1, e _ _ h2, Rp.mono e h3, e _ _ h4, h5, h6, Rp.mono e h7⟩
  | no => cases x with
    | none => exact h
    | some v => exact h

/-- what a step leaves: what does not change stays so, all that is not one's own stays as it was, new objects are new -/
structure Gr (Hf H : Hp) (fp : List (List Addr)) (Hf' H' : Hp) (fp' : List (List Addr)) : Prop where
  sm : Same Hf Hf'
  pr : fp <+: fp'
  fr : ∀ a o, H a = some o → a ∉ fp.flatten → H' a = some o
  nw : ∀ a ∈ fp'.flatten, a ∈ fp.flatten ∨ H a = none
  th : ∀ a o, H a = some o → ∃ o', H' a = some o'
theorem Gr.refl {Hf H : Hp} {fp : List (List Addr)} : Gr Hf H fp Hf H fp := ⟨Same.refl _, List.prefix_rfl, fun _ _ e _ => e, fun _ h => .inl h, fun _ o e => ⟨o, e⟩⟩
theorem Gr.trans {Hf H Hf1 H1 Hf2 H2 : Hp} {fp fp1 fp2 : List (List Addr)} (g : Gr Hf H fp Hf1 H1 fp1) (k : Gr Hf1 H1 fp1 Hf2 H2 fp2) : Gr Hf H fp Hf2 H2 fp2 where
  sm := g.sm.trans k.sm
  pr := g.pr.trans k.pr
  fr := fun a o e n => k.fr a o (g.fr a o e n) fun m => (g.nw a m).elim n fun z => by
    rw [e] at z
    cases z
  nw := fun a m => (k.nw a m).elim (g.nw a) fun z => .inr (by
    cases q : H a with
    | none => rfl
    | some o =>
      obtain ⟨o', e⟩ := g.th a o q
      rw [z] at e
      cases e)
  th := fun a o e => let ⟨o', e'⟩ := g.th a o e; k.th a o' e'
/-- the objects as they stand; c: what must not be taken for unchanging -/
structure Hd (K : PySem.W.Frag) (c : Addr → Prop) (Hf H : Hp) (fp : List (List Addr)) (ob : List OO) : Prop where
  ex : Same Hf H
  fl : fp.length = ob.length
  oo : ∀ (k : Nat) (a : List Addr) (o : OO), fp[k]? = some a → ob[k]? = some o → OOk K Hf H a o
  nd : fp.flatten.Nodup
  al : ∀ a ∈ fp.flatten, ∃ o, H a = some o
  nf : ∀ (k : Nat) (p : List Addr) (o : OO), fp[k]? = some p → ob[k]? = some o → o ≠ .gone → ∀ a ∈ p, Hf a = none
  pt : ∀ a, c a → Hf a = none ∧ ∃ o, H a = some o
  np : ∀ (k : Nat) (p : List Addr) (ds : List PyData), fp[k]? = some p → ob[k]? = some (.lst ds) → ∀ a ∈ p, ¬ c a

section
variable {K : PySem.W.Frag} {c c' : Addr → Prop} {Hf H : Hp} {fp : List (List Addr)} {ob : List OO}
theorem mem_fl {fp : List (List Addr)} {k : Nat} {p : List Addr} {a : Addr} (h : fp[k]? = some p) (ha : a ∈ p) : a ∈ fp.flatten :=
  List.mem_flatten.mpr ⟨p, List.mem_of_getElem? h, ha⟩
theorem Hd.weak (h : Hd K c Hf H fp ob) (w : ∀ a, c' a → c a) : Hd K c' Hf H fp ob :=
  ⟨h.ex, h.fl, h.oo, h.nd, h.al, h.nf, fun a z => h.pt a (w a z), fun k p ds h1 h2 a m z => h.np k p ds h1 h2 a m (w a z)⟩
theorem Gr.new {p : Addr} {o : HO} (hf : Hf p = none) (hp : H p = none) : Gr Hf H fp (upd Hf p o) (upd H p o) fp := ⟨fun b x e => by
    rw [upd_ne (ne_of_none e hf)]
    exact e, List.prefix_rfl, fun a x e _ => by
    rw [upd_ne (ne_of_none e hp)]
    exact e, fun _ h => .inl h, fun a x e => ⟨x, by
    rw [upd_ne (ne_of_none e hp)]
    exact e⟩⟩
/-- a new object that will not change -/
theorem Hd.laid (h : Hd K c Hf H fp ob) {p : Addr} (o : HO) (hp : H p = none) : Hd K c (upd Hf p o) (upd H p o) fp ob := by
  have hfp : Hf p = none := h.ex.free hp
  have hs : Same Hf (upd Hf p o) := fun b x e => by
    rw [upd_ne (ne_of_none e hfp)]
    exact e
  have npf : ∀ a ∈ fp.flatten, a ≠ p := fun a ha => by
    obtain ⟨x, e⟩ := h.al a ha
    exact ne_of_none e hp
  refine ⟨fun b x e => ?_, h.fl, fun k a x h1 h2 => (h.oo k a x h1 h2).mono hs fun b hb => upd_ne (npf b (mem_fl h1 hb)), h.nd, fun a ha => ?_, fun k q x h1 h2 hx a ha => ?_, fun a z => ?_, h.np⟩
  · by_cases hb : b = p
    · subst hb
      rw [upd_same] at e ⊢
      exact e
    · rw [upd_ne hb] at e ⊢
      exact h.ex b x e
  · obtain ⟨x, e⟩ := h.al a ha
    exact ⟨x, by rw [upd_ne (npf a ha)]; exact e⟩
  · rw [upd_ne (npf a (mem_fl h1 ha))]
    exact h.nf k q x h1 h2 hx a ha
  · obtain ⟨z1, x, z2⟩ := h.pt a z
    rw [upd_ne (ne_of_none z2 hp), upd_ne (ne_of_none z2 hp)]
    exact ⟨z1, x, z2⟩
/-- a list that stands by itself, as one's own -/
theorem Hd.own (h : Hd K c Hf H fp ob) {p : Addr} {xs : List V} {ds : List PyData} (hp : H p = some (.lst xs)) (hf : Hf p = none) (hm : p ∉ fp.flatten) (hc : ¬ c p) (r : RpA K Hf xs ds) : Hd K c Hf H (fp ++ [[p]]) (ob ++ [.lst ds]) := by
  have hsz : ∀ {α : Type} (l : List α) (x y : α) (k : Nat), (l ++ [x])[k]? = some y → (k < l.length ∧ l[k]? = some y) ∨ (k = l.length ∧ y = x) := fun l x y k e => by
    by_cases hk : k < l.length
    · rw [List.getElem?_append_left hk] at e
      exact .inl ⟨hk, e⟩
    · have e2 := (List.getElem?_eq_some_iff.mp e).1
      rw [List.length_append, List.length_singleton] at e2
      have e3 : k = l.length := by omega
      subst e3
      rw [List.getElem?_concat_length] at e
      exact .inr ⟨rfl, (Option.some.inj e).symm⟩
  refine ⟨h.ex, by rw [List.length_append, List.length_append, h.fl]; rfl, fun k a x h1 h2 => ?_, ?_, fun a ha => ?_, fun k q x h1 h2 hx a ha => ?_, h.pt, fun k q ds' h1 h2 a ha => ?_⟩
  · rcases hsz _ _ _ _ h1 with ⟨hk, h1'⟩ | ⟨hk, rfl⟩
    · rcases hsz _ _ _ _ h2 with ⟨hk2, h2'⟩ | ⟨hk2, rfl⟩
      · exact h.oo k a x h1' h2'
      · have := h.fl
        omega
    · rcases hsz _ _ _ _ h2 with ⟨hk2, h2'⟩ | ⟨hk2, rfl⟩
      · have := h.fl
        omega
      · exact ⟨p, xs, rfl, hp, r⟩
  · rw [List.flatten_append, List.nodup_append]
    refine ⟨h.nd, by simp, fun a ha b hb => ?_⟩
    have e : b = p := by simpa using hb
    rw [e]
    exact fun z => hm (z ▸ ha)
  · rw [List.flatten_append, List.mem_append] at ha
    rcases ha with ha | ha
    · exact h.al a ha
    · have e : a = p := by simpa using ha
      rw [e]
      exact ⟨_, hp⟩
  · rcases hsz _ _ _ _ h1 with ⟨hk, h1'⟩ | ⟨hk, rfl⟩
    · rcases hsz _ _ _ _ h2 with ⟨hk2, h2'⟩ | ⟨hk2, rfl⟩
      · exact h.nf k q x h1' h2' hx a ha
      · have := h.fl
        omega
    · have e : a = p := by simpa using ha
      rw [e]
      exact hf
  · rcases hsz _ _ _ _ h1 with ⟨hk, h1'⟩ | ⟨hk, rfl⟩
    · rcases hsz _ _ _ _ h2 with ⟨hk2, h2'⟩ | ⟨hk2, e2⟩
      · exact h.np k q ds' h1' h2' a ha
      · have := h.fl
        omega
    · have e : a = p := by simpa using ha
      rw [e]
      exact hc
theorem nodup_fl {fp : List (List Addr)} {a : Addr} {p q : List Addr} {i j : Nat} (nd : fp.flatten.Nodup) (hi : fp[i]? = some p) (hj : fp[j]? = some q) (ha : a ∈ p) (hb : a ∈ q) : i = j := by
  obtain ⟨_, pw⟩ := List.pairwise_flatten.mp nd
  obtain ⟨li, ei⟩ := List.getElem?_eq_some_iff.mp hi
  obtain ⟨lj, ej⟩ := List.getElem?_eq_some_iff.mp hj
  rcases Nat.lt_trichotomy i j with h | h | h
  · have := List.pairwise_iff_getElem.mp pw i j li lj h
    rw [ei, ej] at this
    exact (this a ha a hb rfl).elim
  · exact h
  · have := List.pairwise_iff_getElem.mp pw j i lj li h
    rw [ei, ej] at this
    exact (this a hb a ha rfl).elim
/-- an own object changes at its places -/
theorem Hd.put (h : Hd K c Hf H fp ob) {k : Nat} {p : List Addr} {o o' : OO} {H' : Hp} (hk : fp[k]? = some p) (ho : ob[k]? = some o) (hg : o ≠ .gone) (ht : ∀ a, a ∉ p → H' a = H a) (hn : OOk K Hf H' p o') (hal : ∀ a ∈ p, ∃ x, H' a = some x) (hl : ∀ ds, o' = .lst ds → ∃ ds0, o = .lst ds0) :
    Hd K c Hf H' fp (ob.set k o') ∧ Gr Hf H fp Hf H' fp := by
  have hth : ∀ a o, H a = some o → ∃ o', H' a = some o' := fun a o e => by
    by_cases hb : a ∈ p
    · exact hal a hb
    · exact ⟨o, by rw [ht a hb]; exact e⟩
  refine ⟨⟨fun b x e => ?_, by rw [List.length_set]; exact h.fl, fun j q x h1 h2 => ?_, h.nd, fun a ha => ?_, fun j q x h1 h2 hx a ha => ?_, fun a z => ?_, fun j q ds' h1 h2 a ha => ?_⟩, Same.refl _, List.prefix_rfl, fun a o e n => ?_, fun _ m => .inl m, hth⟩
  · by_cases hb : b ∈ p
    · rw [h.nf k p o hk ho hg b hb] at e
      cases e
    · rw [ht b hb]
      exact h.ex b x e
  · by_cases hj : j = k
    · subst hj
      rw [hk] at h1
      obtain rfl := Option.some.inj h1
      rw [List.getElem?_set_self (List.getElem?_eq_some_iff.mp ho).1] at h2
      obtain rfl := Option.some.inj h2
      exact hn
    · rw [List.getElem?_set_ne (Ne.symm hj)] at h2
      exact (h.oo j q x h1 h2).mono (Same.refl _) fun b hb => ht b fun hb' => hj (nodup_fl h.nd h1 hk hb hb')
  · obtain ⟨x, e⟩ := h.al a ha
    exact hth a x e
  · by_cases hj : j = k
    · subst hj
      rw [hk] at h1
      obtain rfl := Option.some.inj h1
      exact h.nf j p o hk ho hg a ha
    · rw [List.getElem?_set_ne (Ne.symm hj)] at h2
      exact h.nf j q x h1 h2 hx a ha
  · obtain ⟨z1, x, z2⟩ := h.pt a z
    exact ⟨z1, hth a x z2⟩
  · by_cases hj : j = k
    · subst hj
      rw [List.getElem?_set_self (List.getElem?_eq_some_iff.mp ho).1] at h2
      obtain ⟨ds0, e0⟩ := hl ds' (Option.some.inj h2)
      rw [e0] at ho
      exact h.np j q ds0 h1 ho a ha
    · rw [List.getElem?_set_ne (Ne.symm hj)] at h2
      exact h.np j q ds' h1 h2 a ha
  · rw [ht a fun hb => n (mem_fl hk hb)]
    exact e
/-- a list that stands by itself, or an own one, will not change any more -/
theorem Hd.stop (h : Hd K c Hf H fp ob) {a : Addr} {o : HO} (hm : a ∉ fp.flatten) (hc : ¬ c a) (hf : Hf a = none) (hx : H a = some o) : Hd K c (upd Hf a o) H fp ob ∧ Gr Hf H fp (upd Hf a o) H fp := by
  have hs : Same Hf (upd Hf a o) := fun b x e => by
    rw [upd_ne (ne_of_none e hf)]
    exact e
  have npf : ∀ b ∈ fp.flatten, b ≠ a := fun b hb z => hm (z ▸ hb)
  refine ⟨⟨fun b x e => ?_, h.fl, fun j q x h1 h2 => (h.oo j q x h1 h2).mono hs fun b hb => rfl, h.nd, h.al, fun j q x h1 h2 hx b hb => ?_, fun b z => ?_, h.np⟩, hs, List.prefix_rfl, fun _ _ e _ => e, fun _ m => .inl m, fun _ o e => ⟨o, e⟩⟩
  · by_cases hb : b = a
    · subst hb
      rw [upd_same] at e
      rw [hx, ← Option.some.inj e]
    · rw [upd_ne hb] at e
      exact h.ex b x e
  · rw [upd_ne (npf b (mem_fl h1 hb))]
    exact h.nf j q x h1 h2 hx b hb
  · obtain ⟨z1, z2⟩ := h.pt b z
    rw [upd_ne (show b ≠ a from fun q => hc (by rw [← q]; exact z))]
    exact ⟨z1, z2⟩
theorem Hd.freeze (h : Hd K c Hf H fp ob) {k : Nat} {a : Addr} {xs : List V} {ds : List PyData} (hk : fp[k]? = some [a]) (ho : ob[k]? = some (.lst ds)) (hx : H a = some (.lst xs)) :
    Hd K c (upd Hf a (.lst xs)) H fp (ob.set k .gone) ∧ Gr Hf H fp (upd Hf a (.lst xs)) H fp := by
  have hfa : Hf a = none := h.nf k [a] _ hk ho (by intro z; cases z) a (by simp)
  have hs : Same Hf (upd Hf a (.lst xs)) := fun b x e => by
    rw [upd_ne (ne_of_none e hfa)]
    exact e
  have hca : ¬ c a := h.np k [a] ds hk ho a (by simp)
  refine ⟨⟨fun b x e => ?_, by rw [List.length_set]; exact h.fl, fun j q x h1 h2 => ?_, h.nd, h.al, fun j q x h1 h2 hx b hb => ?_, fun b z => ?_, fun j q ds' h1 h2 b hb => ?_⟩, hs, List.prefix_rfl, fun _ _ e _ => e, fun _ m => .inl m, fun _ o e => ⟨o, e⟩⟩
  · by_cases hb : b = a
    · subst hb
      rw [upd_same] at e
      rw [hx, ← Option.some.inj e]
    · rw [upd_ne hb] at e
      exact h.ex b x e
  · by_cases hj : j = k
    · subst hj
      rw [List.getElem?_set_self (List.getElem?_eq_some_iff.mp ho).1] at h2
      obtain rfl := Option.some.inj h2
      trivial
    · rw [List.getElem?_set_ne (Ne.symm hj)] at h2
      exact (h.oo j q x h1 h2).mono hs fun b hb => rfl
  · by_cases hj : j = k
    · subst hj
      rw [List.getElem?_set_self (List.getElem?_eq_some_iff.mp ho).1] at h2
      exact absurd (Option.some.inj h2).symm hx
    · rw [List.getElem?_set_ne (Ne.symm hj)] at h2
      have hba : b ≠ a := fun z => hj (nodup_fl h.nd h1 hk hb (by simp [z]))
      rw [upd_ne hba]
      exact h.nf j q x h1 h2 hx b hb
  · obtain ⟨z1, z2⟩ := h.pt b z
    rw [upd_ne (show b ≠ a from fun q => hca (by rw [← q]; exact z))]
    exact ⟨z1, z2⟩
  · by_cases hj : j = k
    · subst hj
      rw [List.getElem?_set_self (List.getElem?_eq_some_iff.mp ho).1] at h2
      cases Option.some.inj h2
    · rw [List.getElem?_set_ne (Ne.symm hj)] at h2
      exact h.np j q ds' h1 h2 b hb
end
end DL

set_option maxRecDepth 100000
set_option maxHeartbeats 1000000
namespace DL
open PySem PySem.Spec PyProof.Rows L2

/-! ### a state over data -/
structure SS where
  sl : List SD
  ob : List OO
structure Okk (K : PySem.W.Frag) (c : Addr → Prop) (Hf H : Hp) (σ : L2.St) (fp : List (List Addr)) (S : SS) : Prop where
  hd : Hd K c Hf H fp S.ob
  ln : σ.length = S.sl.length
  sr : ∀ (i : Nat) (d : SD), S.sl[i]? = some d → ∃ x, σ[i]? = some x ∧ SRl K Hf fp x d
/-- values that are known to be so -/
abbrev SRA (K : PySem.W.Frag) (Hf : Hp) (fp : List (List Addr)) : List V → List SD → Prop := Paired fun v d => SRl K Hf fp (some v) d
theorem SRA.mono {K : PySem.W.Frag} {Hf Hf' : Hp} {fp fp' : List (List Addr)} {vs : List V} {ds : List SD} (h : SRA K Hf fp vs ds) (e : Same Hf Hf') (p : fp <+: fp') : SRA K Hf' fp' vs ds :=
  Paired.mapP h fun _ _ q => q.mono e p
theorem SRA.rp {K : PySem.W.Frag} {Hf : Hp} {fp : List (List Addr)} : ∀ {vs : List V} {ds : List PyData}, SRA K Hf fp vs (ds.map SD.dat) → RpA K Hf vs ds
  | _, [], .nil => .nil
  | _, _ :: _, .cons h t => .cons h (SRA.rp t)

def Ee (K : PySem.W.Frag) (te : TE) (S : SS) (r : SD) (S' : SS) : Prop := ∀ c Hf H σ fp, Okk K c Hf H σ fp S → ∀ Q : VK,
  (∀ v Hf' H' fp', Okk K c Hf' H' σ fp' S' → Gr Hf H fp Hf' H' fp' → SRl K Hf' fp' (some v) r → Q v H') → te σ H Q
def Et (K : PySem.W.Frag) (tt : TT) (S : SS) (b : Bool) (S' : SS) : Prop := ∀ c Hf H σ fp, Okk K c Hf H σ fp S → ∀ Q : Bool → Hp → Prop,
  (∀ Hf' H' fp', Okk K c Hf' H' σ fp' S' → Gr Hf H fp Hf' H' fp' → Q b H') → tt σ H Q
def Ea (K : PySem.W.Frag) (ta : TA) (S : SS) (rs : List SD) (S' : SS) : Prop := ∀ c Hf H σ fp, Okk K c Hf H σ fp S → ∀ Q : List V → Hp → Prop,
  (∀ vs Hf' H' fp', Okk K c Hf' H' σ fp' S' → Gr Hf H fp Hf' H' fp' → SRA K Hf' fp' vs rs → Q vs H') → ta σ H Q
/-- a two-place operation on values; a one-place one; a call on values -/
def Ro (K : PySem.W.Frag) (r : R2) (x y : SD) (S : SS) (z : SD) (S' : SS) : Prop := ∀ c Hf H σ fp, Okk K c Hf H σ fp S → ∀ v u, SRl K Hf fp (some v) x → SRl K Hf fp (some u) y → ∀ Q : VK,
  (∀ w Hf' H' fp', Okk K c Hf' H' σ fp' S' → Gr Hf H fp Hf' H' fp' → SRl K Hf' fp' (some w) z → Q w H') → r v u H Q
def Ru (K : PySem.W.Frag) (r : V → Hp → VK → Prop) (x : SD) (S : SS) (z : SD) (S' : SS) : Prop := ∀ c Hf H σ fp, Okk K c Hf H σ fp S → ∀ v, SRl K Hf fp (some v) x → ∀ Q : VK,
  (∀ w Hf' H' fp', Okk K c Hf' H' σ fp' S' → Gr Hf H fp Hf' H' fp' → SRl K Hf' fp' (some w) z → Q w H') → r v H Q
def Rc (K : PySem.W.Frag) (r : List V → Hp → VK → Prop) (xs : List SD) (S : SS) (z : SD) (S' : SS) : Prop := ∀ c Hf H σ fp, Okk K c Hf H σ fp S → ∀ vs, SRA K Hf fp vs xs → ∀ Q : VK,
  (∀ w Hf' H' fp', Okk K c Hf' H' σ fp' S' → Gr Hf H fp Hf' H' fp' → SRl K Hf' fp' (some w) z → Q w H') → r vs H Q
/-- a new list that stands by itself -/
structure Alone (K : PySem.W.Frag) (c : Addr → Prop) (Hf H : Hp) (fp : List (List Addr)) (p : Addr) (ds : List PyData) : Prop where
  at_ : ∃ xs, H p = some (.lst xs) ∧ RpA K Hf xs ds
  hf : Hf p = none
  nm : p ∉ fp.flatten
  nc : ¬ c p
def El (K : PySem.W.Frag) (te : TE) (S : SS) (ds : List PyData) (S' : SS) : Prop := ∀ c Hf H σ fp, Okk K c Hf H σ fp S → ∀ Q : VK,
  (∀ p Hf' H' fp', Okk K c Hf' H' σ fp' S' → Gr Hf H fp Hf' H' fp' → H p = none → Alone K c Hf' H' fp' p ds → Q (.ref p) H') → te σ H Q
def RcL (K : PySem.W.Frag) (r : List V → Hp → VK → Prop) (xs : List SD) (S : SS) (ds : List PyData) (S' : SS) : Prop := ∀ c Hf H σ fp, Okk K c Hf H σ fp S → ∀ vs, SRA K Hf fp vs xs → ∀ Q : VK,
  (∀ p Hf' H' fp', Okk K c Hf' H' σ fp' S' → Gr Hf H fp Hf' H' fp' → H p = none → Alone K c Hf' H' fp' p ds → Q (.ref p) H') → r vs H Q
def RoL (K : PySem.W.Frag) (r : R2) (x y : SD) (S : SS) (ds : List PyData) (S' : SS) : Prop := ∀ c Hf H σ fp, Okk K c Hf H σ fp S → ∀ v u, SRl K Hf fp (some v) x → SRl K Hf fp (some u) y → ∀ Q : VK,
  (∀ p Hf' H' fp', Okk K c Hf' H' σ fp' S' → Gr Hf H fp Hf' H' fp' → H p = none → Alone K c Hf' H' fp' p ds → Q (.ref p) H') → r v u H Q

structure DE where
  nx : SS → Prop
  rt : SD → SS → Prop
  bk : SS → Prop := fun _ => False
  ct : SS → Prop := fun _ => False
def Ts (K : PySem.W.Frag) (ts : TS) (S : SS) (E : DE) : Prop := ∀ c Hf H σ fp, Okk K c Hf H σ fp S → ∀ D : Ends,
  (∀ S' Hf' H' σ' fp', Okk K c Hf' H' σ' fp' S' → Gr Hf H fp Hf' H' fp' → E.nx S' → D.nx σ' H') →
  (∀ r S' v Hf' H' σ' fp', Okk K c Hf' H' σ' fp' S' → Gr Hf H fp Hf' H' fp' → SRl K Hf' fp' (some v) r → E.rt r S' → D.rt v H') →
  (∀ S' Hf' H' σ' fp', Okk K c Hf' H' σ' fp' S' → Gr Hf H fp Hf' H' fp' → E.bk S' → D.bk σ' H') →
  (∀ S' Hf' H' σ' fp', Okk K c Hf' H' σ' fp' S' → Gr Hf H fp Hf' H' fp' → E.ct S' → D.ct σ' H') → ts D σ H

section
variable {K : PySem.W.Frag} {S S1 S2 S3 S4 : SS} {ta tb te tc : TE} {t u : TT} {x y z : SD} {d e : PyData} {a b : Bool} {r : R2} {i : Nat}
variable {c c' : Addr → Prop} {Hf H : Hp} {σ : L2.St} {fp : List (List Addr)}
theorem Okk.weak (h : Okk K c Hf H σ fp S) (w : ∀ a, c' a → c a) : Okk K c' Hf H σ fp S := ⟨h.hd.weak w, h.ln, h.sr⟩
/-- a new object that will not change -/
theorem Okk.laid (h : Okk K c Hf H σ fp S) {p : Addr} (o : HO) (hp : H p = none) : Okk K c (upd Hf p o) (upd H p o) σ fp S ∧ Gr Hf H fp (upd Hf p o) (upd H p o) fp := by
  have g : Gr Hf H fp (upd Hf p o) (upd H p o) fp := Gr.new (h.hd.ex.free hp) hp
  refine ⟨⟨h.hd.laid o hp, h.ln, fun i d e => ?_⟩, g⟩
  obtain ⟨x, h1, h2⟩ := h.sr i d e
  exact ⟨x, h1, h2.mono g.sm g.pr⟩
theorem Okk.rd (h : Okk K c Hf H σ fp S) {a : Addr} {o : HO} (e : Hf a = some o) : H a = some o := h.hd.ex a o e
theorem Okk.obL (h : Okk K c Hf H σ fp S) {k : Nat} {ds : List PyData} {v : V} (e : S.ob[k]? = some (.lst ds)) (hv : SRl K Hf fp (some v) (.own k)) : ∃ a xs, v = .ref a ∧ fp[k]? = some [a] ∧ H a = some (.lst xs) ∧ RpA K Hf xs ds := by
  obtain ⟨a, r, h1, h2⟩ := hv
  obtain ⟨a', xs, q, h3, h4⟩ := h.hd.oo k _ _ h1 e
  have q1 : a = a' ∧ r = [] := by simpa using q
  obtain ⟨rfl, rfl⟩ := q1
  exact ⟨a, xs, h2, h1, h3, h4⟩
/-- a list alone: as data; as one's own -/
theorem Alone.dat {p : Addr} {ds : List PyData} (ok : Okk K c Hf H σ fp S) (h : Alone K c Hf H fp p ds) : ∃ Hf', Okk K c Hf' H σ fp S ∧ Gr Hf H fp Hf' H fp ∧ Rp K Hf' (.ref p) (.list ds) := by
  obtain ⟨⟨xs, h1, h2⟩, hf, nm, nc⟩ := h
  obtain ⟨hd, g⟩ := ok.hd.stop nm nc hf h1
  refine ⟨_, ⟨hd, ok.ln, fun i d e => ?_⟩, g, .lst upd_same (h2.mono g.sm)⟩
  obtain ⟨x, q1, q2⟩ := ok.sr i d e
  exact ⟨x, q1, q2.mono g.sm g.pr⟩
theorem Alone.own {p : Addr} {ds : List PyData} (ok : Okk K c Hf H σ fp S) (h : Alone K c Hf H fp p ds) :
    Okk K c Hf H σ (fp ++ [[p]]) { S with ob := S.ob ++ [.lst ds] } ∧ SRl K Hf (fp ++ [[p]]) (some (.ref p)) (.own S.ob.length) := by
  obtain ⟨⟨xs, h1, h2⟩, hf, nm, nc⟩ := h
  refine ⟨⟨ok.hd.own h1 hf nm nc h2, ok.ln, fun i d e => ?_⟩, ⟨p, [], ?_, rfl⟩⟩
  · obtain ⟨x, q1, q2⟩ := ok.sr i d e
    exact ⟨x, q1, q2.mono (Same.refl _) (List.prefix_append _ _)⟩
  · rw [← ok.hd.fl, List.getElem?_concat_length]
theorem Gr.own {p : Addr} {Hf' H' : Hp} {fp' : List (List Addr)} (g : Gr Hf H fp Hf' H' fp') (hp : H p = none) : Gr Hf H fp Hf' H' (fp' ++ [[p]]) :=
  ⟨g.sm, g.pr.trans (List.prefix_append _ _), g.fr, fun a m => by
    rw [List.flatten_append, List.mem_append] at m
    rcases m with m | m
    · exact g.nw a m
    · have e : a = p := by simpa using m
      rw [e]
      exact .inr hp, g.th⟩
theorem Okk.alone (ok : Okk K c Hf H σ fp S) {p : Addr} {xs : List V} {ds : List PyData} (hp : H p = none) (r : RpA K Hf xs ds) :
    Okk K c Hf (upd H p (.lst xs)) σ fp S ∧ Gr Hf H fp Hf (upd H p (.lst xs)) fp ∧ Alone K c Hf (upd H p (.lst xs)) fp p ds := by
  have npf : ∀ a ∈ fp.flatten, a ≠ p := fun a ha => by
    obtain ⟨x, e⟩ := ok.hd.al a ha
    exact ne_of_none e hp
  have keep : ∀ a o, H a = some o → (upd H p (.lst xs)) a = some o := fun a o e => by
    rw [upd_ne (ne_of_none e hp)]
    exact e
  refine ⟨⟨⟨fun b o e => keep b o (ok.hd.ex b o e), ok.hd.fl, fun k q o h1 h2 => (ok.hd.oo k q o h1 h2).mono (Same.refl _) fun b hb => upd_ne (npf b (mem_fl h1 hb)), ok.hd.nd, fun a ha => ?_, ok.hd.nf, fun a z => ?_, ok.hd.np⟩, ok.ln, ok.sr⟩,
    ⟨Same.refl _, List.prefix_rfl, fun a o e _ => keep a o e, fun _ m => .inl m, fun a o e => ⟨o, keep a o e⟩⟩, ⟨xs, upd_same, r⟩, ok.hd.ex.free hp, fun m => npf p m rfl, fun z => ?_⟩
  · obtain ⟨x, e⟩ := ok.hd.al a ha
    exact ⟨x, keep a x e⟩
  · obtain ⟨z1, o, z2⟩ := ok.hd.pt a z
    exact ⟨z1, o, keep a o z2⟩
  · obtain ⟨_, o, z2⟩ := ok.hd.pt p z
    rw [hp] at z2
    cases z2

theorem ee_var (h : S.sl[i]? = some x) (hx : x ≠ .un := by intro z; cases z) : Ee K (tVar i) S x S := fun c Hf H σ fp ok Q q => by
  obtain ⟨y, h1, h2⟩ := ok.sr i x h
  cases y with
  | none => cases x with
    | un => exact (hx rfl).elim
    | dat d => exact h2.elim
    | own k => exact h2.elim
    | scr ns => exact h2.elim
    | rng _ _ => exact h2.elim
    | lown _ => exact h2.elim
    | tx _ => exact h2.elim
    | tq _ _ _ => exact h2.elim
    | no => exact h2.elim
  | some v => exact ⟨v, h1, q v Hf H fp ok Gr.refl h2⟩
theorem ee_int {j : Int} : Ee K (tC (.int j)) S (.dat (.int j)) S := fun _ Hf H _ fp ok _ q => q _ Hf H fp ok Gr.refl (Rp.int j)
theorem ee_bl : Ee K (tC (.bl b)) S (.dat (.bool b)) S := fun _ Hf H _ fp ok _ q => q _ Hf H fp ok Gr.refl (Rp.bl b)
theorem ee_non : Ee K (tC .non) S (.dat .none) S := fun _ Hf H _ fp ok _ q => q _ Hf H fp ok Gr.refl Rp.non
theorem ee_str {w : Str} : Ee K (tC (.str w)) S (.dat (.str w)) S := fun _ Hf H _ fp ok _ q => q _ Hf H fp ok Gr.refl (Rp.str w)
theorem ee_op (ha : Ee K ta S x S1) (hb : Ee K tb S1 y S2) (hr : Ro K r x y S2 z S3) : Ee K (tOp r ta tb) S z S3 := fun c Hf H σ fp ok Q q =>
  ha c Hf H σ fp ok _ fun v Hf1 H1 fp1 ok1 g1 r1 => hb c Hf1 H1 σ fp1 ok1 _ fun u Hf2 H2 fp2 ok2 g2 r2 =>
    hr c Hf2 H2 σ fp2 ok2 v u (r1.mono g2.sm g2.pr) r2 Q fun w Hf3 H3 fp3 ok3 g3 r3 => q w Hf3 H3 fp3 ok3 ((g1.trans g2).trans g3) r3
theorem el_op {ds : List PyData} (ha : Ee K ta S x S1) (hb : Ee K tb S1 y S2) (hr : RoL K r x y S2 ds S3) : El K (tOp r ta tb) S ds S3 := fun c Hf H σ fp ok Q q =>
  ha c Hf H σ fp ok _ fun v Hf1 H1 fp1 ok1 g1 r1 => hb c Hf1 H1 σ fp1 ok1 _ fun u Hf2 H2 fp2 ok2 g2 r2 =>
    hr c Hf2 H2 σ fp2 ok2 v u (r1.mono g2.sm g2.pr) r2 Q fun w Hf3 H3 fp3 ok3 g3 hn r3 => q w Hf3 H3 fp3 ok3 ((g1.trans g2).trans g3) (by
      cases e : H w with
      | none => rfl
      | some o =>
        obtain ⟨o', e'⟩ := (g1.trans g2).th w o e
        rw [hn] at e'
        cases e') r3
theorem ee_un {ru : V → Hp → VK → Prop} (ha : Ee K ta S x S1) (hr : Ru K ru x S1 z S2) : Ee K (tUn ru ta) S z S2 := fun c Hf H σ fp ok Q q =>
  ha c Hf H σ fp ok _ fun v Hf1 H1 fp1 ok1 g1 r1 => hr c Hf1 H1 σ fp1 ok1 v r1 Q fun w Hf3 H3 fp3 ok3 g3 r3 => q w Hf3 H3 fp3 ok3 (g1.trans g3) r3
theorem ee_eq (h : Ee K te S x S1) (e : x = y) : Ee K te S y S1 := e ▸ h
theorem ee_cb {rc : List V → Hp → VK → Prop} {tas : TA} {rs : List SD} (ha : Ea K tas S rs S1) (hr : Rc K rc rs S1 z S2) : Ee K (tCB rc tas) S z S2 := fun c Hf H σ fp ok Q q =>
  ha c Hf H σ fp ok _ fun v Hf1 H1 fp1 ok1 g1 r1 => hr c Hf1 H1 σ fp1 ok1 v r1 Q fun w Hf3 H3 fp3 ok3 g3 r3 => q w Hf3 H3 fp3 ok3 (g1.trans g3) r3
theorem none_back {H H1 : Hp} {p : Addr} (th : ∀ a o, H a = some o → ∃ o', H1 a = some o') (hn : H1 p = none) : H p = none := by
  cases e : H p with
  | none => rfl
  | some o =>
    obtain ⟨o', e'⟩ := th p o e
    rw [hn] at e'
    cases e'
theorem el_cb {rc : List V → Hp → VK → Prop} {tas : TA} {rs : List SD} {ds : List PyData} (ha : Ea K tas S rs S1) (hr : RcL K rc rs S1 ds S2) : El K (tCB rc tas) S ds S2 := fun c Hf H σ fp ok Q q =>
  ha c Hf H σ fp ok _ fun v Hf1 H1 fp1 ok1 g1 r1 => hr c Hf1 H1 σ fp1 ok1 v r1 Q fun w Hf3 H3 fp3 ok3 g3 hn r3 => q w Hf3 H3 fp3 ok3 (g1.trans g3) (none_back g1.th hn) r3
theorem ea_nil : Ea K tNil S [] S := fun _ Hf H _ fp ok _ q => q [] Hf H fp ok Gr.refl .nil
theorem ea_cons {tas : TA} {rs : List SD} (ha : Ee K ta S x S1) (hr : Ea K tas S1 rs S2) : Ea K (tCons ta tas) S (x :: rs) S2 := fun c Hf H σ fp ok Q q =>
  ha c Hf H σ fp ok _ fun v Hf1 H1 fp1 ok1 g1 r1 => hr c Hf1 H1 σ fp1 ok1 _ fun vs Hf2 H2 fp2 ok2 g2 r2 => q (v :: vs) Hf2 H2 fp2 ok2 (g1.trans g2) (.cons (r1.mono g2.sm g2.pr) r2)
/-- items that are data -/
def Ed (K : PySem.W.Frag) (ta : TA) (S : SS) (ds : List PyData) (S' : SS) : Prop := Ea K ta S (ds.map SD.dat) S'
theorem ed_nil : Ed K tNil S [] S := ea_nil
theorem ed_cons {tas : TA} {ds : List PyData} (ha : Ee K ta S (.dat d) S1) (hr : Ed K tas S1 ds S2) : Ed K (tCons ta tas) S (d :: ds) S2 := ea_cons ha hr
theorem ee_tup {tas : TA} {ds : List PyData} (ha : Ed K tas S ds S1) (hz : ds.length ≤ 1000000 := by first | decide | (simp; done) | (simp; omega)) : Ee K (tTup tas) S (.dat (.tuple ds)) S1 := fun c Hf H σ fp ok Q q =>
  ha c Hf H σ fp ok _ fun vs Hf1 H1 fp1 ok1 g1 r1 => ⟨by
      rw [(SRA.rp r1).len]
      exact Nat.le_trans hz (by decide), fun p hp => by
      obtain ⟨ok2, g2⟩ := ok1.laid (.tup vs) hp
      exact q _ _ _ _ ok2 (g1.trans g2) (Rp.tup (.inl (.inl upd_same)) ((SRA.rp r1).mono g2.sm))⟩
theorem el_lst {tas : TA} {ds : List PyData} (ha : Ed K tas S ds S1) (hz : ds.length ≤ 1000000 := by first | decide | (simp; done) | (simp; omega)) : El K (tLst tas) S ds S1 := fun c Hf H σ fp ok Q q =>
  ha c Hf H σ fp ok _ fun vs Hf1 H1 fp1 ok1 g1 r1 => ⟨by
      rw [(SRA.rp r1).len]
      exact Nat.le_trans hz (by decide), fun p hp => by
      obtain ⟨ok2, g2, al⟩ := ok1.alone hp (SRA.rp r1)
      exact q p _ _ _ ok2 (g1.trans g2) (none_back g1.th hp) al⟩
/-- a new list as data -/
theorem ee_of_el {ds : List PyData} (h : El K te S ds S1) : Ee K te S (.dat (.list ds)) S1 := fun c Hf H σ fp ok Q q =>
  h c Hf H σ fp ok _ fun p Hf1 H1 fp1 ok1 g1 hp al => by
    obtain ⟨Hf2, ok2, g2, rp⟩ := al.dat ok1
    exact q _ _ _ _ ok2 (g1.trans g2) rp
/-- a new list as one's own -/
theorem eo_of_el {ds : List PyData} (h : El K te S ds S1) : Ee K te S (.own S1.ob.length) { S1 with ob := S1.ob ++ [.lst ds] } := fun c Hf H σ fp ok Q q =>
  h c Hf H σ fp ok _ fun p Hf1 H1 fp1 ok1 g1 hp al => by
    obtain ⟨ok2, sr⟩ := al.own ok1
    exact q _ _ _ _ ok2 (g1.own hp) sr
/-- a list of one's own turns to data: it is not changed any more -/
theorem ee_frz {k : Nat} {ds : List PyData} (h : Ee K te S (.own k) S1) (ho : S1.ob[k]? = some (.lst ds)) : Ee K te S (.dat (.list ds)) { S1 with ob := S1.ob.set k .gone } := fun c Hf H σ fp ok Q q =>
  h c Hf H σ fp ok _ fun v Hf1 H1 fp1 ok1 g1 sr => by
    obtain ⟨a, xs, rfl, h1, h2, h3⟩ := ok1.obL ho sr
    obtain ⟨hd, g2⟩ := ok1.hd.freeze h1 ho h2
    refine q _ _ _ _ ⟨hd, ok1.ln, fun i d e => ?_⟩ (g1.trans g2) (Rp.lst upd_same (h3.mono g2.sm))
    obtain ⟨x, q1, q2⟩ := ok1.sr i d e
    exact ⟨x, q1, q2.mono g2.sm g2.pr⟩

/-! ### tests -/
theorem et_test (h : Ee K te S (.dat (.bool b)) S1) : Et K (tTest te) S b S1 := fun c Hf H σ fp ok Q q => h c Hf H σ fp ok _ fun v Hf1 H1 fp1 ok1 g1 r1 => by
  cases r1
  exact ⟨b, rfl, q Hf1 H1 fp1 ok1 g1⟩
theorem et_B (h : Ee K te S (.dat (.bool b)) S1) : Et K (tB te) S b S1 := fun c Hf H σ fp ok Q q => h c Hf H σ fp ok _ fun v Hf1 H1 fp1 ok1 g1 r1 => by
  cases r1
  exact ⟨b, rfl, q Hf1 H1 fp1 ok1 g1⟩
theorem et_yes : Et K tYes S true S := fun _ Hf H _ fp ok _ q => q Hf H fp ok Gr.refl
theorem et_not (h : Et K t S b S1) : Et K (tNot t) S (!b) S1 := fun c Hf H σ fp ok Q q => h c Hf H σ fp ok _ fun Hf1 H1 fp1 ok1 g1 => q Hf1 H1 fp1 ok1 g1
theorem et_and (h1 : Et K t S a S1) (h2 : a = true → Et K u S1 b S1) : Et K (tAnd t u) S (a && b) S1 := fun c Hf H σ fp ok Q q => h1 c Hf H σ fp ok _ fun Hf1 H1 fp1 ok1 g1 => by
  cases a with
  | true =>
    show u σ H1 Q
    exact h2 rfl c Hf1 H1 σ fp1 ok1 Q fun Hf2 H2 fp2 ok2 g2 => q Hf2 H2 fp2 ok2 (g1.trans g2)
  | false =>
    show Q false H1
    exact q Hf1 H1 fp1 ok1 g1
theorem et_or (h1 : Et K t S a S1) (h2 : a = false → Et K u S1 b S1) : Et K (tOr t u) S (a || b) S1 := fun c Hf H σ fp ok Q q => h1 c Hf H σ fp ok _ fun Hf1 H1 fp1 ok1 g1 => by
  cases a with
  | true =>
    show Q true H1
    exact q Hf1 H1 fp1 ok1 g1
  | false =>
    show u σ H1 Q
    exact h2 rfl c Hf1 H1 σ fp1 ok1 Q fun Hf2 H2 fp2 ok2 g2 => q Hf2 H2 fp2 ok2 (g1.trans g2)
theorem et_eq (h : Et K t S a S1) (e : a = b) : Et K t S b S1 := e ▸ h
theorem ee_andV (h1 : Ee K ta S (.dat (.bool a)) S1) (h2 : a = true → Ee K tb S1 (.dat (.bool b)) S1) : Ee K (tAndV ta tb) S (.dat (.bool (a && b))) S1 := fun c Hf H σ fp ok Q q => h1 c Hf H σ fp ok _ fun v Hf1 H1 fp1 ok1 g1 r1 => by
  cases r1
  refine ⟨a, rfl, ?_⟩
  cases a with
  | true =>
    show tb σ H1 Q
    exact h2 rfl c Hf1 H1 σ fp1 ok1 Q fun v Hf2 H2 fp2 ok2 g2 r2 => q v Hf2 H2 fp2 ok2 (g1.trans g2) r2
  | false =>
    show Q (.bl false) H1
    exact q _ Hf1 H1 fp1 ok1 g1 (Rp.bl _)
theorem ee_orV (h1 : Ee K ta S (.dat (.bool a)) S1) (h2 : a = false → Ee K tb S1 (.dat (.bool b)) S1) : Ee K (tOrV ta tb) S (.dat (.bool (a || b))) S1 := fun c Hf H σ fp ok Q q => h1 c Hf H σ fp ok _ fun v Hf1 H1 fp1 ok1 g1 r1 => by
  cases r1
  refine ⟨a, rfl, ?_⟩
  cases a with
  | true =>
    show Q (.bl true) H1
    exact q _ Hf1 H1 fp1 ok1 g1 (Rp.bl _)
  | false =>
    show tb σ H1 Q
    exact h2 rfl c Hf1 H1 σ fp1 ok1 Q fun v Hf2 H2 fp2 ok2 g2 r2 => q v Hf2 H2 fp2 ok2 (g1.trans g2) r2
theorem ee_notV (h1 : Ee K ta S (.dat (.bool a)) S1) : Ee K (tNotV ta) S (.dat (.bool (!a))) S1 := fun c Hf H σ fp ok Q q => h1 c Hf H σ fp ok _ fun v Hf1 H1 fp1 ok1 g1 r1 => by
  cases r1
  exact ⟨a, rfl, q _ Hf1 H1 fp1 ok1 g1 (Rp.bl _)⟩
/-- a if t else b -/
theorem ee_if (h : Et K t S b S1) (h1 : b = true → Ee K ta S1 x S2) (h2 : b = false → Ee K tb S1 x S2) : Ee K (tIf t ta tb) S x S2 := fun c Hf H σ fp ok Q q => h c Hf H σ fp ok _ fun Hf1 H1 fp1 ok1 g1 => by
  cases b with
  | true =>
    show ta σ H1 Q
    exact h1 rfl c Hf1 H1 σ fp1 ok1 Q fun v Hf2 H2 fp2 ok2 g2 r2 => q v Hf2 H2 fp2 ok2 (g1.trans g2) r2
  | false =>
    show tb σ H1 Q
    exact h2 rfl c Hf1 H1 σ fp1 ok1 Q fun v Hf2 H2 fp2 ok2 g2 r2 => q v Hf2 H2 fp2 ok2 (g1.trans g2) r2

/-! ### statements -/
variable {E : DE} {tu tw : TS}
theorem ts_seq (h : Ts K tu S { E with nx := fun S' => Ts K tw S' E }) : Ts K (tSeq tu tw) S E := fun c Hf H σ fp ok D n r bk ct =>
  h c Hf H σ fp ok { D with nx := tw D } (fun S' Hf1 H1 σ1 fp1 ok1 g1 w => w c Hf1 H1 σ1 fp1 ok1 D (fun S' Hf2 H2 σ2 fp2 ok2 g2 => n S' Hf2 H2 σ2 fp2 ok2 (g1.trans g2)) (fun x S' v Hf2 H2 σ2 fp2 ok2 g2 => r x S' v Hf2 H2 σ2 fp2 ok2 (g1.trans g2))
    (fun S' Hf2 H2 σ2 fp2 ok2 g2 => bk S' Hf2 H2 σ2 fp2 ok2 (g1.trans g2)) (fun S' Hf2 H2 σ2 fp2 ok2 g2 => ct S' Hf2 H2 σ2 fp2 ok2 (g1.trans g2))) r bk ct
theorem ts_next (h : E.nx S) : Ts K tNext S E := fun c Hf H σ fp ok D n r bk ct => n S Hf H σ fp ok Gr.refl h
theorem ts_brk (h : E.bk S) : Ts K tBreak S E := fun c Hf H σ fp ok D n r bk ct => bk S Hf H σ fp ok Gr.refl h
theorem ts_cont (h : E.ct S) : Ts K tCont S E := fun c Hf H σ fp ok D n r bk ct => ct S Hf H σ fp ok Gr.refl h
theorem ts_ret (h : Ee K te S x S1) (k : E.rt x S1) : Ts K (tRet te) S E := fun c Hf H σ fp ok D n r bk ct =>
  h c Hf H σ fp ok _ fun v Hf1 H1 fp1 ok1 g1 r1 => r x S1 v Hf1 H1 σ fp1 ok1 g1 r1 k
theorem ts_retN (k : E.rt (.dat .none) S) : Ts K tRetN S E := fun c Hf H σ fp ok D n r bk ct => r (.dat .none) S _ Hf H σ fp ok Gr.refl (show Rp K Hf .non .none from Rp.non) k
theorem ts_drop (h : Ee K te S x S1) (k : E.nx S1) : Ts K (tDrop te) S E := fun c Hf H σ fp ok D n r bk ct =>
  h c Hf H σ fp ok _ fun v Hf1 H1 fp1 ok1 g1 r1 => n S1 Hf1 H1 σ fp1 ok1 g1 k
theorem ts_if (h : Et K t S b S1) (h1 : b = true → Ts K tu S1 E) (h2 : b = false → Ts K tw S1 E) : Ts K (tIfS t tu tw) S E := fun c Hf H σ fp ok D n r bk ct =>
  h c Hf H σ fp ok _ fun Hf1 H1 fp1 ok1 g1 => by
    cases b with
    | true =>
      show tu D σ H1
      exact h1 rfl c Hf1 H1 σ fp1 ok1 D (fun S' Hf2 H2 σ2 fp2 ok2 g2 => n S' Hf2 H2 σ2 fp2 ok2 (g1.trans g2)) (fun x S' v Hf2 H2 σ2 fp2 ok2 g2 => r x S' v Hf2 H2 σ2 fp2 ok2 (g1.trans g2))
        (fun S' Hf2 H2 σ2 fp2 ok2 g2 => bk S' Hf2 H2 σ2 fp2 ok2 (g1.trans g2)) (fun S' Hf2 H2 σ2 fp2 ok2 g2 => ct S' Hf2 H2 σ2 fp2 ok2 (g1.trans g2))
    | false =>
      show tw D σ H1
      exact h2 rfl c Hf1 H1 σ fp1 ok1 D (fun S' Hf2 H2 σ2 fp2 ok2 g2 => n S' Hf2 H2 σ2 fp2 ok2 (g1.trans g2)) (fun x S' v Hf2 H2 σ2 fp2 ok2 g2 => r x S' v Hf2 H2 σ2 fp2 ok2 (g1.trans g2))
        (fun S' Hf2 H2 σ2 fp2 ok2 g2 => bk S' Hf2 H2 σ2 fp2 ok2 (g1.trans g2)) (fun S' Hf2 H2 σ2 fp2 ok2 g2 => ct S' Hf2 H2 σ2 fp2 ok2 (g1.trans g2))
/-- a slot is stored -/
theorem Okk.put (ok : Okk K c Hf H σ fp S) {i : Nat} {v : V} {x : SD} (r : SRl K Hf fp (some v) x) : Okk K c Hf H (σ.set i (some v)) fp { S with sl := S.sl.set i x } := by
  refine ⟨ok.hd, by rw [List.length_set, List.length_set]; exact ok.ln, fun j d e => ?_⟩
  by_cases hj : i = j
  · subst hj
    have hl : i < S.sl.length := by
      have := (List.getElem?_eq_some_iff.mp e).1
      simpa using this
    rw [List.getElem?_set_self hl] at e
    obtain rfl := Option.some.inj e
    exact ⟨some v, List.getElem?_set_self (by rw [ok.ln]; exact hl), r⟩
  · rw [List.getElem?_set_ne hj] at e
    obtain ⟨y, h1, h2⟩ := ok.sr j d e
    exact ⟨y, by rw [List.getElem?_set_ne hj]; exact h1, h2⟩
theorem ts_asg (h : Ee K te S x S1) (k : E.nx { S1 with sl := S1.sl.set i x }) : Ts K (tAsg te (gName i)) S E := fun c Hf H σ fp ok D n r bk ct =>
  h c Hf H σ fp ok _ fun v Hf1 H1 fp1 ok1 g1 r1 => n _ Hf1 H1 _ fp1 (ok1.put r1) g1 k
theorem ts_par {j : Nat} {tas : TA} (h : Ea K tas S [x, y] S1) (k : E.nx { S1 with sl := (S1.sl.set i x).set j y }) : Ts K (tPar i j tas) S E := fun c Hf H σ fp ok D n r bk ct =>
  h c Hf H σ fp ok _ fun vs Hf1 H1 fp1 ok1 g1 r1 => by
    cases r1 with
    | cons r1 rr => cases rr with
      | cons r2 rr => cases rr with
        | nil => exact ⟨_, _, rfl, n _ Hf1 H1 _ fp1 ((ok1.put r1).put r2) g1 k⟩
theorem ts_aug {f : Int → Int → Int} {j l : Int} (hx : S.sl[i]? = some (.dat (.int j))) (h : Ee K te S (.dat (.int l)) S1) (k : E.nx { S1 with sl := S1.sl.set i (.dat (.int (f j l))) }) : Ts K (tAug i te (ipI f)) S E := fun c Hf H σ fp ok D n r bk ct => by
  obtain ⟨y, q1, q2⟩ := ok.sr i _ hx
  cases y with
  | none => exact q2.elim
  | some v =>
    cases q2
    refine ⟨_, q1, h c Hf H σ fp ok _ fun v Hf1 H1 fp1 ok1 g1 r1 => ?_⟩
    cases r1
    exact ⟨j, l, rfl, rfl, n _ Hf1 H1 _ fp1 (ok1.put (x := .dat (.int (f j l))) (show Rp K Hf1 _ _ from Rp.int _)) g1 k⟩
theorem ts_mono {E' : DE} (h : Ts K tu S E) (hn : ∀ S, E.nx S → E'.nx S) (hr : ∀ x S, E.rt x S → E'.rt x S) (hb : ∀ S, E.bk S → E'.bk S) (hc : ∀ S, E.ct S → E'.ct S) : Ts K tu S E' := fun c Hf H σ fp ok D n r bk ct =>
  h c Hf H σ fp ok D (fun S' Hf' H' σ' fp' o g e => n S' Hf' H' σ' fp' o g (hn S' e)) (fun x S' v Hf' H' σ' fp' o g q e => r x S' v Hf' H' σ' fp' o g q (hr x S' e)) (fun S' Hf' H' σ' fp' o g e => bk S' Hf' H' σ' fp' o g (hb S' e)) (fun S' Hf' H' σ' fp' o g e => ct S' Hf' H' σ' fp' o g (hc S' e))
end
end DL

set_option maxRecDepth 100000
set_option maxHeartbeats 1000000
namespace DL
open PySem PySem.Spec PyProof.Rows L2

/-! ### what is walked -/
structure Wk (K : PySem.W.Frag) (J : It) (Hf : Hp) (ds : List PyData) : Prop where
  go : ∀ (i : Nat) Hf1 H1, Same Hf Hf1 → Same Hf1 H1 → i < ds.length → J.go i H1
  st : ∀ Hf1 H1, Same Hf Hf1 → Same Hf1 H1 → J.stop ds.length H1
  yl : ∀ (i : Nat) d Hf1 H1 x H2, Same Hf Hf1 → Same Hf1 H1 → ds[i]? = some d → J.yld i H1 x H2 → (H2 = H1 ∧ Rp K Hf1 x d) ∨ ∃ p o, H1 p = none ∧ H2 = upd H1 p o ∧ Rp K (upd Hf1 p o) x d
def Ei (K : PySem.W.Frag) (wi : TI) (S : SS) (ds : List PyData) (S' : SS) : Prop := ∀ c Hf H σ fp, Okk K c Hf H σ fp S → ∀ R : It → Hp → Prop,
  (∀ J Hf' H' fp', Okk K c Hf' H' σ fp' S' → Gr Hf H fp Hf' H' fp' → Wk K J Hf' ds → R J H') → wi σ H R
/-- a target; vs: the slots that a comprehension forgets -/
def Eg (K : PySem.W.Frag) (g : TG) (d : PyData) (S S' : SS) : Prop := ∀ c Hf H σ fp, Okk K c Hf H σ fp S → ∀ x, Rp K Hf x d → ∀ Q : L2.St → Hp → Prop, (∀ σ', Okk K c Hf H σ' fp S' → Q σ' H) → g x σ H Q
def Egs (K : PySem.W.Frag) (g : TGs) (ds : List PyData) (S S' : SS) : Prop := ∀ c Hf H σ fp, Okk K c Hf H σ fp S → ∀ xs, RpA K Hf xs ds → ∀ Q : L2.St → Hp → Prop, (∀ σ', Okk K c Hf H σ' fp S' → Q σ' H) → g xs σ H Q
def wipeS (l : List SD) : List Nat → List SD
  | [] => l
  | v :: vs => (wipeS l vs).set v .un
/-- within a comprehension -/
def Egc (K : PySem.W.Frag) (vs : List Nat) (g : TG) (d : PyData) (S S' : SS) : Prop := ∀ c Hf H σ fp, Okk K c Hf H σ fp S → ∀ x, Rp K Hf x d → ∀ Q : L2.St → Hp → Prop, (∀ σ', wipe σ' vs = wipe σ vs → Okk K c Hf H σ' fp S' → Q σ' H) → g x σ H Q
def Egcs (K : PySem.W.Frag) (vs : List Nat) (g : TGs) (ds : List PyData) (S S' : SS) : Prop := ∀ c Hf H σ fp, Okk K c Hf H σ fp S → ∀ xs, RpA K Hf xs ds → ∀ Q : L2.St → Hp → Prop, (∀ σ', wipe σ' vs = wipe σ vs → Okk K c Hf H σ' fp S' → Q σ' H) → g xs σ H Q
theorem wipe_set {σ : L2.St} {x : Option V} {j : Nat} : ∀ {vs : List Nat}, j ∈ vs → wipe (σ.set j x) vs = wipe σ vs
  | [], h => by cases h
  | v :: vs, h => by
    show (wipe (σ.set j x) vs).set v none = (wipe σ vs).set v none
    by_cases hv : j ∈ vs
    · rw [wipe_set hv]
    · have e : j = v := by
        rcases List.mem_cons.mp h with e | e
        · exact e
        · exact absurd e hv
      subst e
      have key : ∀ ws : List Nat, j ∉ ws → wipe (σ.set j x) ws = (wipe σ ws).set j x := fun ws => by
        induction ws with
        | nil => intro _; rfl
        | cons w ws ih =>
          intro hn
          rw [List.mem_cons, not_or] at hn
          show (wipe (σ.set j x) ws).set w none = ((wipe σ ws).set w none).set j x
          rw [ih hn.2, List.set_comm _ _ (Ne.symm hn.1)]
      rw [key vs hv, List.set_set]
theorem wipe_wipe (σ : L2.St) : ∀ vs : List Nat, ∀ ws : List Nat, (∀ v ∈ ws, v ∈ vs) → wipe (wipe σ ws) vs = wipe σ vs
  | vs, [], _ => rfl
  | vs, w :: ws, h => by
    show wipe ((wipe σ ws).set w none) vs = wipe σ vs
    rw [wipe_set (h w (by simp)), wipe_wipe σ vs ws fun v hv => h v (List.mem_cons_of_mem _ hv)]

section
variable {K : PySem.W.Frag} {S S0 S1 S2 S3 S4 : SS} {ta tb te tc : TE} {t u : TT} {x y z : SD} {d e : PyData} {a b : Bool} {r : R2} {i : Nat} {wi : TI} {g : TG} {tbd : TS} {E : DE} {ds : List PyData} {vs : List Nat}
variable {c c' : Addr → Prop} {Hf H : Hp} {σ : L2.St} {fp : List (List Addr)}
theorem Okk.wiped (ok : Okk K c Hf H σ fp S) : ∀ vs : List Nat, Okk K c Hf H (wipe σ vs) fp { S with sl := wipeS S.sl vs }
  | [] => ok
  | v :: vs => by
    have h := Okk.wiped ok vs
    refine ⟨h.hd, ?_, fun j d e => ?_⟩
    · show ((wipe σ vs).set v none).length = ((wipeS S.sl vs).set v .un).length
      rw [List.length_set, List.length_set]
      exact h.ln
    · show ∃ x, ((wipe σ vs).set v none)[j]? = some x ∧ _
      have e' : ((wipeS S.sl vs).set v .un)[j]? = some d := e
      by_cases hj : v = j
      · subst hj
        have hl : v < (wipeS S.sl vs).length := by
          have := (List.getElem?_eq_some_iff.mp e').1
          simpa using this
        rw [List.getElem?_set_self hl] at e'
        obtain rfl := Option.some.inj e'
        exact ⟨none, List.getElem?_set_self (by rw [show (wipe σ vs).length = (wipeS S.sl vs).length from h.ln]; exact hl), trivial⟩
      · rw [List.getElem?_set_ne hj] at e'
        obtain ⟨y, h1, h2⟩ := h.sr j d e'
        exact ⟨y, by rw [List.getElem?_set_ne hj]; exact h1, h2⟩
theorem Okk.heap (ok : Okk K c Hf H σ fp S) {Hf' H' : Hp} {fp' : List (List Addr)} {σ' : L2.St} {S' : SS} (ok' : Okk K c Hf' H' σ' fp' S') (g : Gr Hf H fp Hf' H' fp') : Okk K c Hf' H' σ fp' { S with ob := S'.ob } :=
  ⟨ok'.hd, ok.ln, fun i d e => by
    obtain ⟨x, h1, h2⟩ := ok.sr i d e
    exact ⟨x, h1, h2.mono g.sm g.pr⟩⟩

theorem eg_name : Eg K (gName i) d S { S with sl := S.sl.set i (.dat d) } := fun c Hf H σ fp ok x r Q q => q _ (ok.put (x := .dat d) r)
theorem egs_nil : Egs K gNil [] S S := fun c Hf H σ fp ok xs r Q q => by
  cases r
  exact ⟨rfl, q σ ok⟩
theorem egs_cons {gs : TGs} (h : Eg K g d S S1) (hs : Egs K gs ds S1 S2) : Egs K (gCons g gs) (d :: ds) S S2 := fun c Hf H σ fp ok xs r Q q => by
  cases r with
  | cons r rr => exact ⟨_, _, rfl, h c Hf H σ fp ok _ r _ fun σ' ok' => hs c Hf H σ' fp ok' _ rr Q q⟩
theorem eg_tup {gs : TGs} {n : Nat} (h : Egs K gs ds S S1) (hn : ds.length = n := by rfl) : Eg K (gTup K n gs) (.tuple ds) S S1 := fun c Hf H σ fp ok x r Q q => by
  cases r with
  | tup h1 h2 => exact ⟨_, _, rfl, sameT ok.hd.ex h1, h2.len.trans hn, h c Hf H σ fp ok _ h2 Q q⟩
theorem egc_name (hv : i ∈ vs := by decide) : Egc K vs (gName i) d S { S with sl := S.sl.set i (.dat d) } := fun c Hf H σ fp ok x r Q q => q _ (wipe_set hv) (ok.put (x := .dat d) r)
theorem egcs_nil : Egcs K vs gNil [] S S := fun c Hf H σ fp ok xs r Q q => by
  cases r
  exact ⟨rfl, q σ rfl ok⟩
theorem egcs_cons {gs : TGs} (h : Egc K vs g d S S1) (hs : Egcs K vs gs ds S1 S2) : Egcs K vs (gCons g gs) (d :: ds) S S2 := fun c Hf H σ fp ok xs r Q q => by
  cases r with
  | cons r rr => exact ⟨_, _, rfl, h c Hf H σ fp ok _ r _ fun σ' w ok' => hs c Hf H σ' fp ok' _ rr Q fun σ2 w2 ok2 => q σ2 (w2.trans w) ok2⟩
theorem egc_tup {gs : TGs} {n : Nat} (h : Egcs K vs gs ds S S1) (hn : ds.length = n := by rfl) : Egc K vs (gTup K n gs) (.tuple ds) S S1 := fun c Hf H σ fp ok x r Q q => by
  cases r with
  | tup h1 h2 => exact ⟨_, _, rfl, sameT ok.hd.ex h1, h2.len.trans hn, h c Hf H σ fp ok _ h2 Q q⟩

theorem wk_of {J : It} {n : Nat} {G : Hp → Prop} {Y : Nat → Hp → V → Hp → Prop} (w : Walk J n G Y) (hn : ds.length = n) (hG : ∀ Hf1 H1, Same Hf Hf1 → Same Hf1 H1 → G H1)
    (hY : ∀ (i : Nat) d Hf1 H1 x H2, Same Hf Hf1 → Same Hf1 H1 → ds[i]? = some d → Y i H1 x H2 → (H2 = H1 ∧ Rp K Hf1 x d) ∨ ∃ p o, H1 p = none ∧ H2 = upd H1 p o ∧ Rp K (upd Hf1 p o) x d) : Wk K J Hf ds := by
  subst hn
  exact ⟨fun i Hf1 H1 e1 e2 hi => w.goes i H1 hi (hG Hf1 H1 e1 e2), fun Hf1 H1 e1 e2 => w.stops H1 (hG Hf1 H1 e1 e2), fun i d Hf1 H1 x H2 e1 e2 hd y => hY i d Hf1 H1 x H2 e1 e2 hd (w.yields i H1 x H2 (List.getElem?_eq_some_iff.mp hd).1 (hG Hf1 H1 e1 e2) y)⟩
theorem ei_list (h : Ee K te S (.dat (.list ds)) S1) : Ei K (iList K te) S ds S1 := fun c Hf H σ fp ok R q => h c Hf H σ fp ok _ fun v Hf1 H1 fp1 ok1 g1 r1 => by
  cases r1 with
  | lst h1 h2 =>
    refine ⟨_, rfl, ⟨_, .inl (.inl (ok1.hd.ex _ _ h1))⟩, q _ Hf1 H1 fp1 ok1 g1 (wk_of (walk_list (K := K)) h2.len.symm (fun Hf2 H2 e1 e2 => .inl (.inl (e2 _ _ (e1 _ _ h1)))) fun i d Hf2 H2 x H3 e1 e2 hd y => .inl ?_)⟩
    obtain ⟨rfl, y⟩ := y
    obtain ⟨w, k1, k2⟩ := h2.get hd
    rw [y] at k1
    obtain rfl := Option.some.inj k1
    exact ⟨rfl, k2.mono e1⟩
theorem ei_tup (h : Ee K te S (.dat (.tuple ds)) S1) : Ei K (iTup K te) S ds S1 := fun c Hf H σ fp ok R q => h c Hf H σ fp ok _ fun v Hf1 H1 fp1 ok1 g1 r1 => by
  cases r1 with
  | tup h1 h2 =>
    refine ⟨_, rfl, ⟨_, sameT ok1.hd.ex h1⟩, q _ Hf1 H1 fp1 ok1 g1 (wk_of (walk_tup (K := K)) h2.len.symm (fun Hf2 H2 e1 e2 => sameT e2 (sameT e1 h1)) fun i d Hf2 H2 x H3 e1 e2 hd y => .inl ?_)⟩
    obtain ⟨rfl, y⟩ := y
    obtain ⟨w, k1, k2⟩ := h2.get hd
    rw [y] at k1
    obtain rfl := Option.some.inj k1
    exact ⟨rfl, k2.mono e1⟩
/-- lo, lo + 1, .. -/
def rngD (lo : Int) (n : Nat) : List PyData := (List.range n).map fun (i : Nat) => .int (lo + (i : Int))
theorem rngD_len {lo : Int} {n : Nat} : (rngD lo n).length = n := by
  unfold rngD
  rw [List.length_map, List.length_range]
theorem rngD_get {lo : Int} {n : Nat} {d : PyData} (h : (rngD lo n)[i]? = some d) : i < n ∧ d = .int (lo + (i : Int)) := by
  unfold rngD at h
  rw [List.getElem?_map] at h
  by_cases hi : i < n
  · rw [List.getElem?_range hi] at h
    exact ⟨hi, (Option.some.inj h).symm⟩
  · rw [List.getElem?_eq_none (by rw [List.length_range]; omega)] at h
    cases h
theorem wk_range {lo : Int} {n : Nat} : Wk K (Itr lo n) Hf (rngD lo n) := wk_of walk_range rngD_len (fun _ _ _ _ => trivial) fun i d Hf1 H1 x H2 e1 e2 hd y => .inl (by
  obtain ⟨rfl, rfl⟩ := y
  obtain ⟨_, rfl⟩ := rngD_get hd
  exact ⟨rfl, .int _⟩)
theorem ei_rng1 {tas : TA} {n : Int} (h : Ed K tas S [.int n] S1) (hn : -1000000 ≤ n ∧ n ≤ 1000000) : Ei K (iRng1 tas) S (rngD 0 n.toNat) S1 := fun c Hf H σ fp ok R q => h c Hf H σ fp ok _ fun v Hf1 H1 fp1 ok1 g1 r1 => by
  cases r1 with
  | cons r1 rr =>
    cases rr
    cases r1
    exact ⟨n, rfl, by omega, by omega, q _ Hf1 H1 fp1 ok1 g1 wk_range⟩
theorem ei_rng2 {tas : TA} {lo n : Int} (h : Ed K tas S [.int lo, .int n] S1) (hn : -1000000 ≤ lo ∧ lo ≤ 1000000 ∧ -1000000 ≤ n ∧ n ≤ 1000000) : Ei K (iRng2 tas) S (rngD lo (n - lo).toNat) S1 := fun c Hf H σ fp ok R q => h c Hf H σ fp ok _ fun v Hf1 H1 fp1 ok1 g1 r1 => by
  cases r1 with
  | cons r1 rr => cases rr with
    | cons r2 rr =>
      cases rr
      cases r1
      cases r2
      exact ⟨lo, n, rfl, ⟨by omega, by omega, by omega, by omega⟩, q _ Hf1 H1 fp1 ok1 g1 wk_range⟩
/-- pairs of a number and an item -/
def enumD (ds : List PyData) : List PyData := (List.range ds.length).map fun (i : Nat) => .tuple [.int (i : Int), ds.getD i .none]
theorem enumD_len : (enumD ds).length = ds.length := by
  unfold enumD
  rw [List.length_map, List.length_range]
theorem enumD_get {d : PyData} (h : (enumD ds)[i]? = some d) : ∃ e, ds[i]? = some e ∧ d = .tuple [.int (i : Int), e] := by
  unfold enumD at h
  rw [List.getElem?_map] at h
  by_cases hi : i < ds.length
  · rw [List.getElem?_range hi] at h
    refine ⟨ds[i], List.getElem?_eq_getElem hi, ?_⟩
    rw [← Option.some.inj h]
    show PyData.tuple [PyData.int (i : Int), ds.getD i PyData.none] = _
    rw [List.getD_eq_getElem?_getD, List.getElem?_eq_getElem hi]
    rfl
  · rw [List.getElem?_eq_none (by rw [List.length_range]; omega)] at h
    cases h
theorem ei_enum {tas : TA} (h : Ed K tas S [.list ds] S1) : Ei K (iEnum K tas) S (enumD ds) S1 := fun c Hf H σ fp ok R q => h c Hf H σ fp ok _ fun v Hf1 H1 fp1 ok1 g1 r1 => by
  cases r1 with
  | cons r1 rr =>
    cases rr
    cases r1 with
    | lst h1 h2 =>
      refine ⟨_, _, rfl, .inl (.inl (ok1.hd.ex _ _ h1)), q _ Hf1 H1 fp1 ok1 g1 (wk_of (walk_enum (K := K)) (enumD_len.trans h2.len.symm) (fun Hf2 H2 e1 e2 => .inl (.inl (e2 _ _ (e1 _ _ h1)))) fun i d Hf2 H2 x H3 e1 e2 hd y => .inr ?_)⟩
      obtain ⟨T, v1, v2, rfl, hT, rfl, y1, y2⟩ := y
      obtain ⟨e, k1, rfl⟩ := enumD_get hd
      obtain ⟨w, k2, k3⟩ := h2.get k1
      have y3 : some v2 = some w := y2.symm.trans k2
      obtain rfl := Option.some.inj y3
      obtain rfl := Option.some.inj y1
      refine ⟨T, _, hT, rfl, .tup (.inl (.inl upd_same)) (.cons (.int _) (.cons (k3.mono (e1.trans ?_)) .nil))⟩
      intro b o eb
      rw [upd_ne (ne_of_none eb (e2.free hT))]
      exact eb

/-! ### loops -/
theorem ts_for (h : Ei K wi S ds S0) (Pv : Nat → SS → Prop) (h0 : Pv 0 S0) (hs : ∀ i d S', ds[i]? = some d → Pv i S' → ∃ S'', Eg K g d S' S'' ∧ Ts K tbd S'' { nx := Pv (i + 1), rt := E.rt, bk := E.nx, ct := Pv (i + 1) }) (hd : ∀ S', Pv ds.length S' → E.nx S') : Ts K (tFor wi g tbd) S E := fun c Hf H σ fp ok D n r bk ct =>
  h c Hf H σ fp ok _ fun J Hf1 H1 fp1 ok1 g1 w => by
    refine ⟨fun i m σ' H' => m = ds.length - i ∧ i ≤ ds.length ∧ ∃ S' Hf' fp', Okk K c Hf' H' σ' fp' S' ∧ Gr Hf H fp Hf' H' fp' ∧ Same Hf1 Hf' ∧ Pv i S', ⟨ds.length, by simp, Nat.zero_le _, S0, Hf1, fp1, ok1, g1, Same.refl _, h0⟩, ?_⟩
    rintro i m σ' H' ⟨rfl, hi, S', Hf', fp', ok', g', s', p⟩
    by_cases hlt : i < ds.length
    · refine .inr ⟨w.go i Hf' H' s' ok'.hd.ex hlt, fun σ2 H2 => ∃ S' Hf' fp', Okk K c Hf' H2 σ2 fp' S' ∧ Gr Hf H fp Hf' H2 fp' ∧ Same Hf1 Hf' ∧ Pv (i + 1) S', fun σ2 H2 ⟨S2, Hf2, fp2, a1, a2, a3, a4⟩ => ⟨ds.length - (i + 1), by omega, rfl, hlt, S2, Hf2, fp2, a1, a2, a3, a4⟩, fun x H2 y => ?_⟩
      obtain ⟨S2, hg, hb⟩ := hs i ds[i] S' (List.getElem?_eq_getElem hlt) p
      have fin : ∀ Hf2, Okk K c Hf2 H2 σ' fp' S' → Gr Hf' H' fp' Hf2 H2 fp' → Rp K Hf2 x ds[i] → g x σ' H2 fun σ2 H2 => tbd { D with nx := fun σ2 H2 => ∃ S' Hf' fp', Okk K c Hf' H2 σ2 fp' S' ∧ Gr Hf H fp Hf' H2 fp' ∧ Same Hf1 Hf' ∧ Pv (i + 1) S', ct := fun σ2 H2 => ∃ S' Hf' fp', Okk K c Hf' H2 σ2 fp' S' ∧ Gr Hf H fp Hf' H2 fp' ∧ Same Hf1 Hf' ∧ Pv (i + 1) S', bk := D.nx } σ2 H2 := fun Hf2 ok2 g2 rp =>
        hg c Hf2 H2 σ' fp' ok2 x rp _ fun σ3 ok3 => hb c Hf2 H2 σ3 fp' ok3 _ (fun S4 Hf4 H4 σ4 fp4 ok4 g4 p4 => ⟨S4, Hf4, fp4, ok4, (g'.trans g2).trans g4, (s'.trans g2.sm).trans g4.sm, p4⟩)
          (fun x S4 v Hf4 H4 σ4 fp4 ok4 g4 sr p4 => r x S4 v Hf4 H4 σ4 fp4 ok4 ((g'.trans g2).trans g4) sr p4) (fun S4 Hf4 H4 σ4 fp4 ok4 g4 p4 => n S4 Hf4 H4 σ4 fp4 ok4 ((g'.trans g2).trans g4) p4)
          (fun S4 Hf4 H4 σ4 fp4 ok4 g4 p4 => ⟨S4, Hf4, fp4, ok4, (g'.trans g2).trans g4, (s'.trans g2.sm).trans g4.sm, p4⟩)
      rcases w.yl i ds[i] Hf' H' x H2 s' ok'.hd.ex (List.getElem?_eq_getElem hlt) y with ⟨rfl, rp⟩ | ⟨p, o, hp, rfl, rp⟩
      · exact fin Hf' ok' Gr.refl rp
      · obtain ⟨ok2, g2⟩ := ok'.laid o hp
        exact fin _ ok2 g2 rp
    · have e : i = ds.length := by omega
      subst e
      exact .inl ⟨w.st Hf' H' s' ok'.hd.ex, n S' Hf' H' σ' fp' ok' g' (hd S' p)⟩

/-! ### comprehensions -/
theorem el_lc {out : List PyData} {obo : List OO} (h : Ei K wi S ds S0) (Pv : Nat → List PyData → List OO → Prop) (h0 : Pv 0 [] S0.ob)
    (hs : ∀ i d acc ob, ds[i]? = some d → Pv i acc ob → ∃ Sg b S2, Egc K vs g d { S0 with ob := ob, sl := wipeS S0.sl vs } Sg ∧ Et K t Sg b S2 ∧ (b = false → Pv (i + 1) acc S2.ob) ∧ (b = true → ∃ y S3, Ee K te S2 (.dat y) S3 ∧ Pv (i + 1) (acc ++ [y]) S3.ob))
    (hl : ds.length ≤ 1000000) (hd : ∀ acc ob, Pv ds.length acc ob → acc = out ∧ ob = obo) : El K (tLc wi g t te vs) S out { S0 with ob := obo } := fun c Hf H σ fp ok Q q =>
  h c Hf H σ fp ok _ fun J Hf1 H1 fp1 ok1 g1 w Dl hD => by
    -- the new list at Dl stands apart
    refine ⟨fun i m H' => m = ds.length - i ∧ i ≤ ds.length ∧ ∃ acc ob Hf' fp' xs, Okk K (fun a => c a ∨ a = Dl) Hf' H' σ fp' { S0 with ob := ob } ∧ Gr Hf H fp Hf' H' fp' ∧ Same Hf1 Hf' ∧ H' Dl = some (.lst xs) ∧ RpA K Hf' xs acc ∧ Dl ∉ fp'.flatten ∧ acc.length ≤ i ∧ Pv i acc ob, ⟨ds.length, by simp, Nat.zero_le _, [], S0.ob, Hf1, fp1, [], ?_⟩, ?_⟩
    · obtain ⟨ok2, g2, al⟩ := ok1.alone (xs := []) (ds := []) hD .nil
      refine ⟨⟨⟨ok2.hd.ex, ok2.hd.fl, ok2.hd.oo, ok2.hd.nd, ok2.hd.al, ok2.hd.nf, fun a z => ?_, fun k p ds' e1 e2 a ha z => ?_⟩, ok2.ln, ok2.sr⟩, g1.trans g2, Same.refl _, upd_same, .nil, al.nm, Nat.le_refl _, h0⟩
      · rcases z with z | rfl
        · exact ok2.hd.pt a z
        · exact ⟨al.hf, _, upd_same⟩
      · rcases z with z | rfl
        · exact ok2.hd.np k p ds' e1 e2 a ha z
        · exact al.nm (mem_fl e1 ha)
    · rintro i m H' ⟨rfl, hi, acc, ob, Hf', fp', xs, ok', g', s', hx, hr, nm, hacc, p⟩
      by_cases hlt : i < ds.length
      · refine .inr ⟨w.go i Hf' H' s' ok'.hd.ex hlt, fun H2 => i + 1 ≤ ds.length ∧ ∃ acc ob Hf' fp' xs, Okk K (fun a => c a ∨ a = Dl) Hf' H2 σ fp' { S0 with ob := ob } ∧ Gr Hf H fp Hf' H2 fp' ∧ Same Hf1 Hf' ∧ H2 Dl = some (.lst xs) ∧ RpA K Hf' xs acc ∧ Dl ∉ fp'.flatten ∧ acc.length ≤ i + 1 ∧ Pv (i + 1) acc ob, fun H2 ⟨a1, a2⟩ => ⟨ds.length - (i + 1), by omega, rfl, a1, a2⟩, fun x H2 y => ?_⟩
        obtain ⟨Sg, b, S2, hg, ht, hf, hy⟩ := hs i ds[i] acc ob (List.getElem?_eq_getElem hlt) p
        have fin : ∀ Hf2, Okk K (fun a => c a ∨ a = Dl) Hf2 H2 σ fp' { S0 with ob := ob } → Gr Hf' H' fp' Hf2 H2 fp' → Rp K Hf2 x ds[i] → g x (wipe σ vs) H2 fun σ2 H2 => wipe σ2 vs = wipe σ vs ∧ t σ2 H2 fun b H3 =>
            if b = true then te σ2 H3 fun y H4 => ∃ acc, H4 Dl = some (.lst acc) ∧ acc.length < sizeLine ∧ (i + 1 ≤ ds.length ∧ ∃ acc' ob Hf' fp' xs, Okk K (fun a => c a ∨ a = Dl) Hf' (upd H4 Dl (.lst (acc ++ [y]))) σ fp' { S0 with ob := ob } ∧ Gr Hf H fp Hf' (upd H4 Dl (.lst (acc ++ [y]))) fp' ∧ Same Hf1 Hf' ∧ (upd H4 Dl (.lst (acc ++ [y]))) Dl = some (.lst xs) ∧ RpA K Hf' xs acc' ∧ Dl ∉ fp'.flatten ∧ acc'.length ≤ i + 1 ∧ Pv (i + 1) acc' ob)
            else (i + 1 ≤ ds.length ∧ ∃ acc ob Hf' fp' xs, Okk K (fun a => c a ∨ a = Dl) Hf' H3 σ fp' { S0 with ob := ob } ∧ Gr Hf H fp Hf' H3 fp' ∧ Same Hf1 Hf' ∧ H3 Dl = some (.lst xs) ∧ RpA K Hf' xs acc ∧ Dl ∉ fp'.flatten ∧ acc.length ≤ i + 1 ∧ Pv (i + 1) acc ob) := fun Hf2 ok2 g2 rp => by
          refine hg _ Hf2 H2 _ fp' (ok2.wiped vs) x rp _ fun σ3 w3 ok3 => ⟨?_, ?_⟩
          · rw [w3, wipe_wipe σ vs vs fun _ h => h]
          refine ht _ Hf2 H2 σ3 fp' ok3 _ fun Hf4 H4 fp4 ok4 g4 => ?_
          have hx2 : H2 Dl = some (.lst xs) := g2.fr _ _ hx nm
          have hx4 : H4 Dl = some (.lst xs) := g4.fr _ _ hx2 nm
          have nm4 : Dl ∉ fp4.flatten := fun m => (g4.nw Dl m).elim nm fun z => by
            rw [hx2] at z
            cases z
          cases b with
          | false =>
            refine iteF ⟨hlt, acc, S2.ob, Hf4, fp4, xs, ok2.heap ok4 g4, (g'.trans g2).trans g4, (s'.trans g2.sm).trans g4.sm, hx4, hr.mono (g2.sm.trans g4.sm), nm4, by omega, hf rfl⟩
          | true =>
            refine iteT ?_
            obtain ⟨yd, S3, he, p3⟩ := hy rfl
            refine he _ Hf4 H4 σ3 fp4 ok4 _ fun v Hf5 H5 fp5 ok5 g5 r5 => ?_
            have hx5 : H5 Dl = some (.lst xs) := g5.fr _ _ hx4 nm4
            have nm5 : Dl ∉ fp5.flatten := fun m => (g5.nw Dl m).elim nm4 fun z => by
              rw [hx4] at z
              cases z
            have hxl : xs.length = acc.length := hr.len
            refine ⟨xs, hx5, Nat.lt_of_le_of_lt (show xs.length ≤ 1000000 by omega) (by decide), hlt, acc ++ [yd], S3.ob, Hf5, fp5, xs ++ [v], ?_, ?_, ((s'.trans g2.sm).trans g4.sm).trans g5.sm, upd_same, (hr.mono ((g2.sm.trans g4.sm).trans g5.sm)).append (.cons r5 .nil), nm5, by rw [List.length_append, List.length_singleton]; omega, p3⟩
            · have okA := ok2.heap ok5 (g4.trans g5)
              have hfD : Hf5 Dl = none := (ok5.hd.pt Dl (.inr rfl)).1
              refine ⟨⟨fun b o e => ?_, okA.hd.fl, fun k q o e1 e2 => (okA.hd.oo k q o e1 e2).mono (Same.refl _) fun b hb => upd_ne fun z => nm5 (mem_fl e1 (by rw [← z]; exact hb)), okA.hd.nd, fun a ha => ?_, okA.hd.nf, fun a z => ?_, okA.hd.np⟩, okA.ln, okA.sr⟩
              · rw [upd_ne (ne_of_none e hfD)]
                exact okA.hd.ex b o e
              · obtain ⟨o, e⟩ := okA.hd.al a ha
                exact ⟨o, by rw [upd_ne (show a ≠ Dl from fun z => nm5 (by rw [← z]; exact ha))]; exact e⟩
              · obtain ⟨z1, o, z2⟩ := okA.hd.pt a z
                refine ⟨z1, ?_⟩
                by_cases hb : a = Dl
                · rw [hb]
                  exact ⟨_, upd_same⟩
                · exact ⟨o, by rw [upd_ne hb]; exact z2⟩
            · have G := ((g'.trans g2).trans g4).trans g5
              have hHD : H Dl = none := none_back g1.th hD
              refine ⟨G.sm, G.pr, fun a o e n => ?_, G.nw, fun a o e => ?_⟩
              · rw [upd_ne (ne_of_none e hHD)]
                exact G.fr a o e n
              · rw [upd_ne (ne_of_none e hHD)]
                exact G.th a o e
        rcases w.yl i ds[i] Hf' H' x H2 s' ok'.hd.ex (List.getElem?_eq_getElem hlt) y with ⟨rfl, rp⟩ | ⟨pp, o, hp, rfl, rp⟩
        · exact fin Hf' ok' Gr.refl rp
        · obtain ⟨ok2, g2⟩ := ok'.laid o hp
          exact fin _ ok2 g2 rp
      · have e : i = ds.length := by omega
        subst e
        obtain ⟨rfl, rfl⟩ := hd acc ob p
        refine .inl ⟨w.st Hf' H' s' ok'.hd.ex, ?_⟩
        have hfD := (ok'.hd.pt Dl (.inr rfl)).1
        refine q Dl Hf' H' fp' (ok'.weak fun a z => .inl z) g' (none_back g1.th hD) ⟨⟨xs, hx, hr⟩, hfD, nm, fun z => ?_⟩
        obtain ⟨_, o, z2⟩ := ok.hd.pt Dl z
        rw [none_back g1.th hD] at z2
        cases z2
end
end DL

set_option maxRecDepth 100000
set_option maxHeartbeats 1000000
/-! DLlow: rules that the hand layer has for lists, here for tuples: t > u, enumerate(t), t[::-1] -/
namespace DL
open PySem PySem.Spec PyProof.Rows L2

/-! ### t > u, whole numbers -/
def rGtT (K : PySem.W.Frag) : R2 := fun x y H Q => ∃ (a b : Addr) (ns ms : List Int), x = .ref a ∧ y = .ref b ∧ SqT K H a (ns.map V.int) ∧ SqT K H b (ms.map V.int) ∧
  Q (.bl (Ob.lexAt (fun j => decide (ns.getD j 0 = ms.getD j 0)) (fun j => decide (ms.getD j 0 < ns.getD j 0)) (decide (ns.length > ms.length)) 0 (min ns.length ms.length))) H
theorem op_gtT {X : Cx} (hu : X.A.units < cLine) : OpR X (compareOp .Gt) (rGtT X.K) := by
  intro pins s σ H x y v u Q I rx ry h
  obtain ⟨a, b, ns, ms, rfl, rfl, ha, hb, q⟩ := h
  cases rx
  cases ry
  obtain ⟨us, k1, w1, _⟩ := I.tuple ha
  obtain ⟨ws, k2, w2, _⟩ := I.tuple hb
  have q1 : IntsAre us ns := Vals.ints k1
  have q2 : IntsAre ws ms := Vals.ints k2
  have z1 : us.toArray.size = ns.length := by rw [List.size_toArray]; exact q1.length
  have z2 : ws.toArray.size = ms.length := by rw [List.size_toArray]; exact q2.length
  have f1 : ∀ j (hj : j < us.toArray.size), ∃ t, us.toArray[j] = .int (ns.getD j 0) t := fun j hj => PyProof.Rows.IntsAre.int_at q1 _ _ (by simp at hj; simp [hj])
  have f2 : ∀ j (hj : j < ws.toArray.size), ∃ t, ws.toArray[j] = .int (ms.getD j 0) t := fun j hj => PyProof.Rows.IntsAre.int_at q2 _ _ (by simp at hj; simp [hj])
  have G := Ob.RcOp.tuples_gt (A := X.A) (s := s) (e := fun j => decide (ns.getD j 0 = ms.getD j 0)) (r := fun j => decide (ms.getD j 0 < ns.getD j 0)) w1 w2 hu (fun j h1 h2 => by
    obtain ⟨t, g1⟩ := f1 j h1
    obtain ⟨t', g2⟩ := f2 j h2
    have z : decide (ns.getD j 0 = ms.getD j 0) = (ns.getD j 0 == ms.getD j 0) := by
      by_cases q : ns.getD j 0 = ms.getD j 0
      · rw [decide_eq_true q, beq_iff_eq.mpr q]
      · rw [decide_eq_false q, beq_eq_false_iff_ne.mpr q]
    rw [g1, g2, z]
    exact SeqAt.EqAt.int_int _ _ _ _) (fun j h1 h2 _ => by
    obtain ⟨t, g1⟩ := f1 j h1
    obtain ⟨t', g2⟩ := f2 j h2
    rw [g1, g2]
    exact Ob.RcOp.gt_int _ _ _ _)
  rw [z1, z2] at G
  exact G X.prog X.w X.xe (EP X pins σ Q) ⟨.bl _, H, I, rfl, q⟩

/-! ### enumerate(t) -/
theorem enum_newT (l : Addr) (items : Array Value) (n : Nat) (dct : Option Addr) (sl : Array (Option Value)) :
    Meets (Builtin.«enumerate.__new__» ⟨[.type "enumerate", .ref l], []⟩) (fun _ R s => s.heap.get? l = some { cls := .type "tuple", dict := dct, data := .seq items n, slots := sl } ∧
      R (.ok (.ret (.ref (s.heap.push { cls := .type "tuple_iterator", data := .fields #[.ref l, .int 0 0] }).objs.size)))
        { s with heap := (s.heap.push { cls := .type "tuple_iterator", data := .fields #[.ref l, .int 0 0] }).push { cls := .type "enumerate", data := .fields #[.none, .bool false, .ref s.heap.objs.size, rawInt 0, .none, .none] } }) :=
  .of_wp fun prog w A R s h => by
    obtain ⟨hp, g, d, tk, os⟩ := s
    obtain ⟨hl, h⟩ := h
    have hs := sub_enumerate
    have hT : Heap.IsTuple (Shared.heap ⟨hp, g, d, tk, os⟩) l items := ⟨_, hl, rfl, n, rfl⟩
    wp_walk using AutoSeq1.wpAny_loadPart' hT
    refine wpAny_stack_any fun st => wpAny_pure ?_
    split
    · rename_i c _ _ _ _ _
      cases (c == Value.type "enumerate")
      · wp_walk using AutoSeq1.wpAny_loadPart' hT, wpAny_pyIter_tuple hT
        exact ⟨_, rfl, h⟩
      · wp_walk using AutoSeq1.wpAny_loadPart' hT, wpAny_pyIter_tuple hT
        exact ⟨_, rfl, h⟩
    · wp_walk using AutoSeq1.wpAny_loadPart' hT, wpAny_pyIter_tuple hT
      exact ⟨_, rfl, h⟩
section
variable {prog : Program} {w : World} {A : Around} {E : Value → Shared → Prop} {s : Shared}
theorem call_enumT {l : Addr} {items : Array Value} {Q : Value → Shared → Prop} (hT : s.heap.IsTuple l items)
    (h : ∀ h', IsEnum h' (s.heap.objs.size + 1) s.heap.objs.size 0 .none → h'.IsTupleIter s.heap.objs.size l 0 → (∀ b o, s.heap.get? b = some o → h'.get? b = some o) → Q (.ref (s.heap.objs.size + 1)) { s with heap := h' }) :
    wpAny (model prog w) A (call (.type "enumerate") [.ref l]) Q E s := by
  obtain ⟨⟨c, dct, dt, sl⟩, hl, hc, n, hd⟩ := hT
  replace hc : c = .type "tuple" := hc
  replace hd : dt = .seq items n := hd
  subst hc hd
  refine callType_new F.called_enumerate (by decide) (F.typeCall_enumerate_1 _) (F.newCall_enumerate_1 _) (fun obj => F.args_object_init_2 obj _) F.entry_enumerate_new (enum_newT l items n dct sl) ⟨hl, ?_⟩
  generalize hg : (Heap.push s.heap { cls := .type "tuple_iterator", data := .fields #[.ref l, .int 0 0] }) = g1
  have hz : g1.objs.size = s.heap.objs.size + 1 := by
    rw [← hg]
    exact Heap.size_push ..
  have k1 : g1.get? s.heap.objs.size = some { cls := .type "tuple_iterator", data := .fields #[.ref l, .int 0 0] } := by
    rw [← hg]
    exact Heap.get?_push_size _ rfl
  have k0 : ∀ b o, s.heap.get? b = some o → g1.get? b = some o := fun b o q => by
    rw [← hg]
    exact Heap.get?_push_of_some _ q
  have k2 := Heap.get?_push_size g1 (o := { cls := .type "enumerate", data := .fields #[.none, .bool false, .ref s.heap.objs.size, rawInt 0, .none, .none] }) rfl
  rw [hz] at k2
  show _ ∧ _
  rw [hz]
  exact ⟨⟨_, k2, rfl⟩, h _ k2 ⟨_, Heap.get?_push_of_some _ k1, rfl, rfl⟩ fun b o q => Heap.get?_push_of_some _ (k0 b o q)⟩
end
/-- the tuple at a, each item in a new pair -/
def IteT (K : PySem.W.Frag) (a : Addr) : It :=
  ⟨fun i H => ∃ (xs : List V) (x : V), SqT K H a xs ∧ xs[i]? = some x, fun i H v H' => ∃ T x, v = .ref T ∧ H T = none ∧ H' = upd H T (.tup [.int (i : Nat), x]) ∧ ∀ xs, SqT K H a xs → xs[i]? = some x, fun i H => ∃ xs : List V, SqT K H a xs ∧ xs.length = i⟩
theorem turn_enumT {P : Program} {w : World} {K : PySem.W.Frag} {elts : List Expr} {kk : Nat} {tpos : Pos} (a e it : Addr) :
    Turn P w K (.Tuple elts kk tpos) (IteT K a) [e, it] e (fun i h => (∃ old, IsEnum h e it ((i : Nat) : Int) old) ∧ h.IsTupleIter it a i ∧ e ≠ it) where
  mem := List.mem_cons_self
  obj := fun i h st b hb => by
    obtain ⟨⟨old, he⟩, ⟨o, ho, hc, hd⟩, _⟩ := st
    rcases List.mem_cons.mp hb with z | z
    · rw [z]
      exact ⟨_, he, fun v q => nomatch q⟩
    · rw [List.mem_singleton.mp z]
      exact ⟨o, ho, fun v q => by
        rw [hd] at q
        cases q⟩
  keep := fun i h h' st k => by
    obtain ⟨⟨old, he⟩, hi, hne⟩ := st
    exact ⟨⟨old, k e List.mem_cons_self _ he⟩, hi.at fun o q => k it (List.mem_cons_of_mem _ List.mem_cons_self) o q, hne⟩
  item := by
    intro X hP hw hK hc i pins s σ H E I hf st hg
    subst hP hw hK
    obtain ⟨⟨old, he⟩, hit, hne⟩ := st
    obtain ⟨xs, x, hq, hx⟩ := hg
    obtain ⟨us, rv, p, hz⟩ := I.tuple hq
    have hT : s.heap.IsTuple a us.toArray := p
    obtain ⟨u, hu, ru⟩ := rv.get hx
    have hel : e < s.heap.objs.size := Heap.lt_size he
    have hil : it < s.heap.objs.size := by
      obtain ⟨_, q, _⟩ := hit
      exact Heap.lt_size q
    have hai : a ≠ it := fun z => by
      obtain ⟨o, h1, h2, _⟩ := hit
      obtain ⟨o', h1', h2', _⟩ := hT
      rw [z, h1] at h1'
      rw [← Option.some.inj h1', h2] at h2'
      simp at h2'
    have hea : e ≠ a := fun z => by
      obtain ⟨o', h1', h2', _⟩ := hT
      rw [← z, he] at h1'
      rw [← Option.some.inj h1'] at h2'
      simp at h2'
    have hh : X.A.in1.handled = none := I.ok.hd hc
    refine wpAny_pyNext_enum_itemD (Draws.tuple (prog := X.prog) (w := X.w) hh it a hai us.toArray) he ⟨hit, hT⟩ (by have := (List.getElem?_eq_some_iff.mp hu).1; simpa using this) hne (by simp [hne, hea]) fun y h' tk hy hout st' ht hsz hk => ?_
    have ey : y = u := by
      have : us.toArray[i]? = some u := by simpa using hu
      rw [this] at hy
      exact (Option.some.inj hy).symm
    subst ey
    refine ⟨_, rfl, wpAny_letOwnedTupleGo_enum (s := { s with heap := h', toks := tk + 1 }) hout fun g he' sb => ?_⟩
    have ht2 : g.get? s.heap.objs.size = some { cls := .type "tuple", data := .seq #[.int i tk, y] } := (sb.2 _ (Nat.ne_of_gt hel)).trans ht
    have new : ObjOk X.prog X.w (upd H s.heap.objs.size (.tup [.int (i : Nat), x])) g s.heap.objs.size (.tup [.int (i : Nat), x]) :=
      ⟨(by decide : 2 ≤ sizeLine), [.int i tk, y], .cons ⟨_, rfl⟩ (.cons ru .nil), ⟨_, ht2, rfl, _, rfl⟩⟩
    have J : Inv X pins σ (upd H s.heap.objs.size (.tup [.int (i : Nat), x])) { s with heap := g, toks := tk + 1 } :=
      I.turnedNew (ch := [e, it]) (fun b ob hb q => (sb.2 b (fun z => hb (by simp [z]))).trans (hk b ob (fun z => hb (by simp [z])) (fun z => hb (by simp [z])) q)) hf (Nat.le_refl _) new
    refine ⟨.ref s.heap.objs.size, _, J, rfl, ⟨_, x, rfl, I.hok.fresh (Nat.le_refl _), rfl, fun ys hy => ?_⟩, ⟨⟨y, ?_⟩, st'.1.at fun o q => (sb.2 it (Ne.symm hne)).trans q, hne⟩, fun b hb => ?_⟩
    · rw [I.tuple_inj hy hq]
      exact hx
    · rw [show ((i + 1 : Nat) : Int) = (i : Int) + 1 from by omega]
      exact he'
    · have hb' : b < s.heap.objs.size := by
        rcases List.mem_cons.mp hb with z | z
        · rw [z]
          exact hel
        · rw [List.mem_singleton.mp z]
          exact hil
      rw [upd_ne (Nat.ne_of_lt hb')]
      exact (hf b hb).1
  done := by
    intro X hP hw hK hc i pins s σ H E I hf st hg
    subst hP hw hK
    obtain ⟨⟨old, he⟩, hit, hne⟩ := st
    obtain ⟨xs, hq, hx⟩ := hg
    obtain ⟨us, rv, p, hz⟩ := I.tuple hq
    have hT : s.heap.IsTuple a us.toArray := p
    have hl := rv.length
    have hai : a ≠ it := fun z => by
      obtain ⟨o, h1, h2, _⟩ := hit
      obtain ⟨o', h1', h2', _⟩ := hT
      rw [z, h1] at h1'
      rw [← Option.some.inj h1', h2] at h2'
      simp at h2'
    have hh : X.A.in1.handled = none := I.ok.hd hc
    have hsz : us.toArray.size = i := by
      rw [List.size_toArray, ← hl]
      exact hx
    refine wpAny_pyNext_enum_endD (Draws.tuple (prog := X.prog) (w := X.w) hh it a hai us.toArray) he (by rw [hsz]; exact ⟨hit, hT⟩) fun h' eb => ⟨rfl, ?_⟩
    obtain ⟨f0, f1, f2, f3, f4, f5⟩ := hf it (List.mem_cons_of_mem _ List.mem_cons_self)
    exact I.turned (t' := s.toks) (fun b o hb q => eb b o hb q) f0 f1 f3 f4 f5
  self := fun A i s Q E st h => by
    obtain ⟨⟨_, he⟩, _⟩ := st
    exact wpAny_pyIter_enum he h
def iEnumT (K : PySem.W.Frag) (ta : TA) : TI := fun σ H R => ta σ H fun vs H1 => ∃ a xs, vs = [.ref a] ∧ SqT K H1 a xs ∧ R (IteT K a) H1
theorem pi_enumT {X : Cx} {e : Expr} {ta : TA} {p pos tpos : Pos} {elts : List Expr} {kk : Nat} (hg : Gl X "enumerate") (hm : X.mg "enumerate" = none) (ha : PA X [e] ta) (hs : starEach [e] X.env = [(false, eval e X.env)] := by rfl) :
    PI X (.Tuple elts kk tpos) (.Call (.Name "enumerate" p) [e] [] pos) (iEnumT X.K ta) := by
  constructor
  intro pins s σ H R I h
  refine Call_ (ld_blt I hg hm boot_enumerate (PyProof.Rows.callWith_type1 (thn (ha.run pos pins s σ H _ I h) fun us s1 ⟨vs, H1, J, r1, q1⟩ => ?_) hs rfl))
  obtain ⟨a, xs, ex, hq, q⟩ := q1
  subst ex
  cases r1 with
  | cons r rr =>
    cases rr
    cases r
    obtain ⟨us, rv, p', hz⟩ := J.tuple hq
    refine call_enumT (show s1.heap.IsTuple a us.toArray from p') fun h' he hit hk => wpAny_pyIter_enum he ?_
    have J2 : Inv X pins σ H1 { s1 with heap := h' } := J.kept (t' := s1.toks) hk
    refine ⟨s1.heap.objs.size + 1, [s1.heap.objs.size + 1, s1.heap.objs.size], _, _, H1, rfl, J2, turn_enumT a (s1.heap.objs.size + 1) s1.heap.objs.size, ⟨⟨.none, he⟩, hit, Nat.succ_ne_self _⟩, fun b hb => ?_, q⟩
    have hle : s1.heap.objs.size ≤ b := by
      rcases List.mem_cons.mp hb with z | z
      · rw [z]
        exact Nat.le_add_right _ _
      · rw [List.mem_singleton.mp z]
        exact Nat.le_refl _
    exact J.fpOk hle (J.hok.fresh hle)
theorem walk_enumT {K : PySem.W.Frag} {a : Addr} {xs : List V} : Walk (IteT K a) xs.length (fun H => SqT K H a xs) (YPair (fun i => some (.int (i : Nat))) (fun i => xs[i]?)) := by
  refine ⟨fun i _ hi q => ⟨xs, xs[i], q, by simp [hi]⟩, fun _ q => ⟨xs, q, rfl⟩, fun i H v H' _ q y => ?_⟩
  obtain ⟨T, x, h1, h2, h3, h4⟩ := y
  exact ⟨T, .int (i : Nat), x, h1, h2, h3, rfl, h4 xs q⟩

/-! ### t[::-1] -/
def tRevT (K : PySem.W.Frag) (te : TE) : TE := fun σ H Q => te σ H fun x H1 => ∃ a xs, x = .ref a ∧ SqT K H1 a xs ∧ ∀ p, H1 p = none → Q (.ref p) (upd H1 p (.tup xs.reverse))
section
variable {prog : Program} {w : World} {A : Around} {E : Value → Shared → Prop} {s : Shared}
theorem applied_back {sl : Addr} {n : Nat} {u : Tok} {Q : Int × Int × Nat → Shared → Prop} (hs : s.heap.IsSliceOf sl .none .none (.int (-1) u)) (h : Q ((n : Int) - 1, -1, n) s) : wpAny (model prog w) A (Builtin.Slice.sliceApplied (.ref sl) (pure (n : Int))) Q E s := by
  obtain ⟨os, ho, hc, hd⟩ := id hs
  unfold Builtin.Slice.sliceApplied Builtin.Slice.sliceFields
  refine wpAny_bind (wpAny_bind (wpAny_field ho hd (x := .none) rfl (wpAny_bind (wpAny_field ho hd (x := .none) rfl (wpAny_bind (wpAny_field ho hd (x := .int (-1) u) rfl (wpAny_pure ?_)))))))
  refine wpAny_bind (HT.slicePart_ (.int (-1) u) ?_)
  show wpAny _ _ (if ((-1 : Int) == 0) = true then _ else _) _ _ s
  rw [if_neg (by decide)]
  refine wpAny_bind (HT.slicePart_ .none (wpAny_bind (HT.slicePart_ .none (wpAny_bind (wpAny_pure ?_)))))
  have e1 : Builtin.Slice.sliceAdjust none none (-1) (n : Int) = ((n : Int) - 1, -1) := rfl
  have e2 : Builtin.Slice.slicePlaces ((n : Int) - 1) (-1) (-1) = n := by
    unfold Builtin.Slice.slicePlaces
    have h1 : ¬ ((-1 : Int) > 0) := by decide
    simp only [h1, if_false]
    split
    · rw [show (-(-1) : Int) = 1 from by decide, Int.ediv_one]
      omega
    · omega
  show wpAny _ _ (match Builtin.Slice.sliceAdjust none none (-1) (n : Int) with | (lo, hi) => pure (lo, (-1 : Int), Builtin.Slice.slicePlaces lo hi (-1))) _ _ s
  rw [e1]
  show wpAny _ _ (pure ((n : Int) - 1, (-1 : Int), Builtin.Slice.slicePlaces ((n : Int) - 1) (-1) (-1))) _ _ s
  rw [e2]
  exact wpAny_pure h
theorem fm_congr {α β : Type} {f g : α → Option β} : ∀ {l : List α}, (∀ x ∈ l, f x = g x) → l.filterMap f = l.filterMap g
  | [], _ => rfl
  | x :: l, h => by
    rw [List.filterMap_cons, List.filterMap_cons, h x List.mem_cons_self, fm_congr fun y hy => h y (List.mem_cons_of_mem _ hy)]
theorem pick_back (xs : Array Value) : ((List.range xs.size).filterMap fun (m : Nat) => xs[(((xs.size : Int) - 1) + (m : Int) * (-1)).toNat]?).toArray = xs.toList.reverse.toArray := by
  rw [← PySem.W.krv_pick]
  unfold slicePick
  rw [PySem.W.krv_bounds]
  show _ = ((sliceRange ((xs.size : Int) - 1) (-1) (-1)).filterMap (xs[·]?)).toArray
  rw [PySem.W.krv_sliceRange, List.filterMap_map]
  refine congrArg List.toArray (fm_congr fun m hm => ?_)
  have := List.mem_range.mp hm
  show xs[(((xs.size : Int) - 1) + (m : Int) * (-1)).toNat]? = xs[xs.size - 1 - m]?
  rw [show (((xs.size : Int) - 1) + (m : Int) * (-1)).toNat = xs.size - 1 - m from by omega]
theorem getItem_back {t sl : Addr} {items : Array Value} {u : Tok} {Q : Value → Shared → Prop} (ht : IsTup s.heap t items) (hs : s.heap.IsSliceOf sl .none .none (.int (-1) u))
    (h : Q (.ref s.heap.objs.size) { s with heap := s.heap.push { cls := .type "tuple", data := .seq items.toList.reverse.toArray } }) (hz : items.size ≤ sizeLine) : wpAny (model prog w) A (getItem (.ref t) (.ref sl)) Q E s := by
  have hok : sizeOk (.seq items.toList.reverse.toArray) := by
    show items.toList.reverse.toArray.size ≤ sizeLine
    rw [List.size_toArray, List.length_reverse, Array.length_toList]
    exact hz
  obtain ⟨os, ho, hc, hd⟩ := id hs
  have hT : s.TypeIs (.ref sl) "slice" := ⟨os, ho, hc⟩
  unfold getItem
  try with_reducible refine wpAny_holding ?_
  try refine wpAny_bind (wpAny_pure ?_)
  refine wpAny_bind (wpAny_sequenceKey ht.typeIs (by decide) ?_)
  refine wpAny_bind (wpAny_callSpecial?_slot (name := Str.ofString "__getitem__") ht.typeIs PyProof.Rows.slot_tuple_getitem (wpAny_call_entry PyProof.Rows.slot_tuple_getitem ht.typeIs entry_tuple_getitem ?_ (args_tuple_getitem _ _)))
  show wpAny _ _ (Builtin.Tuple.tupleItemsOf (.ref t) >>= _) _ _ s
  refine wpAny_bind (tupleItemsOf_ ht (wpAny_bind (wpAny_typeOf hT ?_)))
  rw [if_pos (by decide)]
  refine wpAny_bind (applied_back (n := items.size) hs ?_)
  have hno : ¬ ((((items.size : Int) - 1) == 0 && (-1 : Int) == 1 && items.size == items.size) = true) := by simp
  show wpAny _ _ (if (((items.size : Int) - 1) == 0 && (-1 : Int) == 1 && items.size == items.size) = true then _ else _) _ _ s
  rw [if_neg hno, pick_back]
  first
    | exact wpAny_bind (m := Builtin.Tuple.tupleExact _) (wpAny_newObj_type (wpAny_pure ⟨_, rfl, wpAny_pure h⟩) hok)
    | exact wpAny_bind (wpAny_bind (m := Builtin.Tuple.tupleExact _) (wpAny_newObj_type (wpAny_pure (wpAny_pure ⟨_, rfl, wpAny_pure h⟩)) hok))
end
theorem pe_revT {X : Cx} {e : Expr} {te : TE} {k : Nat} {p1 p2 p3 pos : Pos} (he : PE X e te) : PE X (.Subscript e (.Slice none none (some (.UnaryOp .USub (.Constant (.int 1) k p1) p2)) p3) pos) (tRevT X.K te) := by
  constructor
  intro pins s σ H Q I h
  refine Subscript_ (thn (he.run pins s σ H _ I h) fun v s1 ⟨x, H1, J1, r1, q1⟩ => ?_)
  obtain ⟨a, xs, ex, hx, q⟩ := q1
  subst ex
  cases r1
  have st : PO X (some (.UnaryOp .USub (.Constant (.int 1) k p1) p2)) (tPart (tUn (rU fun i => .int (-i)) (tC (.int 1)))) := po_some (pe_un un_neg pe_int)
  refine wpAny_Slice (thn (po_none.run pins s1 σ H1 (fun o H2 => o = none ∧ H2 = H1) J1 ⟨rfl, rfl⟩) fun vl s2 ⟨l, H2, J2, pl, el, e2⟩ => ?_)
  subst el e2
  refine thn (po_none.run pins s2 σ H2 (fun o H3 => o = none ∧ H3 = H2) J2 ⟨rfl, rfl⟩) fun vu s3 ⟨u, H3, J3, pu, eu, e3⟩ => ?_
  subst eu e3
  refine thn (st.run pins s3 σ H3 (fun o H4 => o = some (-1) ∧ H4 = H3) J3 ⟨1, rfl, -1, rfl, rfl, rfl⟩) fun vs s4 ⟨o, H4, J4, ps, eo, e4⟩ => ?_
  subst eo e4
  cases pl
  cases pu
  cases ps with
  | int i tk =>
    have J5 : Inv X pins σ H4 { s4 with heap := s4.heap.push { cls := .type "slice", data := .fields #[.none, .none, .int (-1) tk] } } := J4.kept (t' := s4.toks) fun b ob q => Heap.get?_push_of_some _ q
    obtain ⟨us, r, ht, hz⟩ := J5.tuple hx
    have hlen := r.length
    show wpAny (model X.prog X.w) X.A (subscriptTail e (.Slice none none (some (.UnaryOp .USub (.Constant (.int 1) k p1) p2)) p3) (.ref a) (.ref s4.heap.objs.size)) (EP X pins σ Q) X.xe { s4 with heap := s4.heap.push { cls := .type "slice", data := .fields #[.none, .none, .int (-1) tk] } }
    refine tail_any (ops := [.ref a, .ref s4.heap.objs.size]) ht.typeIs (PyProof.Rows.slot_tuple_getitem.lookup) ?_ (by with_unfolding_all rfl)
    refine getItem_back ht (Heap.IsSliceOf.new _ _ _ _) ?_ (by rw [List.size_toArray]; omega)
    refine ⟨.ref _, _, J5.laid (t' := s4.toks) (o := .tup xs.reverse) (fun b ob q => Heap.get?_push_of_some _ q) (Nat.le_refl _) ?_, rfl, q _ (J5.hok.fresh (Nat.le_refl _))⟩
    exact ⟨by rw [List.length_reverse]; exact hz, _, r.reverse, ⟨_, Heap.get?_push_size _ rfl, rfl, _, rfl⟩⟩

/-! ### t * k, a tuple of some items, two times and more -/
def rRepU (K : PySem.W.Frag) : R2 := fun x y H Q => ∃ t k xs, x = .ref t ∧ y = .int k ∧ SqT K H t xs ∧ xs ≠ [] ∧ 2 ≤ k ∧ xs.length * k.toNat ≤ 1000000 ∧ ∀ p, H p = none → Q (.ref p) (upd H p (.tup (List.replicate k.toNat xs).flatten))
theorem op_repU {X : Cx} : OpR X (binaryOp .Mult) (rRepU X.K) := fun pins s σ H x y v u Q I rx ry h => by
  obtain ⟨t, k, xs, rfl, rfl, hT, ne, k2, small, q⟩ := h
  obtain ⟨tok, rfl⟩ := ry
  cases rx
  obtain ⟨vs, rel, ⟨ob, at_, cl, n, dat⟩, fits⟩ := I.tuple hT
  obtain ⟨c0, dd, data, sl⟩ := ob
  obtain rfl : c0 = _ := cl
  obtain rfl : data = _ := dat
  have same : vs.length = xs.length := rel.length.symm
  have pos : 0 < xs.length := List.length_pos_iff.mpr ne
  have prod : ((vs.toArray.size : Nat) : Int) * k = ((xs.length * k.toNat : Nat) : Int) := by rw [List.size_toArray, same, Int.natCast_mul, Int.toNat_of_nonneg (by omega)]
  have flat : (List.replicate k.toNat vs).flatten.length = xs.length * k.toNat := by rw [PyProof.Rows.lm_len_rep_flat, same, Nat.mul_comm]
  have kk : k.toNat ≤ 1000000 := Nat.le_trans (by have := Nat.mul_le_mul_right k.toNat pos; omega) small
  have full : vs.toArray.isEmpty = false := by
    cases vs with
    | nil => simp at same; omega
    | cons _ _ => rfl
  have ty : s.TypeIs (.ref t) "tuple" := ⟨_, at_, rfl⟩
  have line : (1000000 : Nat) ≤ sizeLine := by decide
  have few : Builtin.Tuple.tupleTooMany (((vs.toArray.size : Nat) : Int) * k) = false := by
    rw [prod]
    exact decide_eq_false (by rw [sizeLine_eq]; omega)
  have mul := tuple_mulW t vs.toArray n dd sl k tok (by rw [decide_eq_false (by omega), decide_eq_false (by omega)]; rfl) (by rw [full]; exact beq_eq_false_iff_ne.mpr (by omega)) (by rw [full, decide_eq_false (by omega)]; rfl) (by rw [prod]; omega) few (by rw [size_rep, List.size_toArray, flat]; exact Nat.le_trans small line)
  refine wpAny_binaryOp_repeat_ref (T := "tuple") (U := "int") (by decide) ty (typeIs_int · k tok) noFill_tuple_mul F.fills_int_mul F.slot_int_rmul repeat_tuple F.slot_int_index.lookup ?_
  refine call_meets F.slot_int_rmul (typeIs_int s k tok) F.entry_int_rmul (F.args_int_rmul_2 _ _) (int_rmul_tuple k tok t vs.toArray n dd sl) ⟨at_, rfl, ty, ?_⟩
  refine call_meets F.slot_tuple_mul ty F.entry_tuple_mul (F.args_tuple_mul_2 _ _) mul ⟨at_, ?_⟩
  rw [size_rep]
  exact ⟨.ref _, _, I.laid (t' := s.toks) (o := .tup (List.replicate k.toNat xs).flatten) (fun _ _ e => Heap.get?_push_of_some _ e) (Nat.le_refl _) ⟨by rw [PyProof.Rows.lm_len_rep_flat, Nat.mul_comm]; exact Nat.le_trans small line, _, rel.rep k.toNat, IsTup.new _ _⟩, rfl, q _ (I.hok.fresh (Nat.le_refl _))⟩

/-! ### sorted(t), a tuple of whole numbers -/
theorem gather_tup {prog : Program} {w : World} {A : Around} {E : Value → Shared → Prop} {s : Shared} {t : Addr} {vs : List Value} {Q : List Value → Shared → Prop} (ht : s.heap.IsTuple t vs.toArray) (hz : vs.length ≤ sizeLine)
    (h : Q vs { s with heap := (s.heap.push (seqObj "list" #[] 0)).update s.heap.objs.size (Obj.mapSeq (· ++ vs.toArray)) }) : wpAny (model prog w) A (collect (.ref t)) Q E s := by
  obtain ⟨ob, at_, cl, n, dat⟩ := id ht
  have at2 : (s.heap.push (seqObj "list" #[] 0)).get? t = some ob := Heap.get?_push_of_some _ at_
  have new : (s.heap.push (seqObj "list" #[] 0)).get? s.heap.objs.size = some (seqObj "list" #[] 0) := Heap.get?_push_size _ rfl
  unfold collect
  refine wpAny_bind (wpAny_runValue (codeAny_builtin entry_proto_collect' (show wpAny _ _ (do again (.builtin "list.__iadd__" ⟨[← newList [], .ref t], []⟩)) _ _ s from wpAny_bind (wpAny_newList (wpAny_pure ⟨Code.quiet_builtin _ (by decide +kernel), codeAny_builtin entry_list_iadd' ?_⟩)))))
  show wpAny _ _ (Builtin.List.listExtendWith (.ref s.heap.objs.size) (.ref t) (.ref s.heap.objs.size)) _ _ { s with heap := s.heap.push (seqObj "list" #[] 0) }
  unfold Builtin.List.listExtendWith
  refine wpAny_bind (wpAny_typeOf (T := "tuple") ⟨ob, at2, cl⟩ ?_)
  have yes : (Value.type "tuple" == Value.type "tuple") = true := by rfl
  rw [if_pos (by rw [yes]; simp)]
  refine wpAny_bind (listItems_at at2 dat (wpAny_bind (listItems_at (xs := #[]) (n := 0) new rfl ?_)))
  rw [if_neg (by simp)]
  refine wpAny_bind (listUpdate_at (xs := #[]) (n := 0) new rfl (wpAny_pure ?_) (Nat.zero_le _) (by show (#[] ++ vs.toArray).size ≤ sizeLine + 1; rw [Array.size_append, List.size_toArray]; exact Nat.le_trans (by simpa using hz) (Nat.le_succ _)))
  show wpAny (model prog w) A (do
      let got ← load s.heap.objs.size
      match got.data with
      | .seq ys _ => pure ys.toList
      | _ => unsupported "internal:collect") Q E _
  refine wpAny_bind (wpAny_load (get?_update_seq new _) (show wpAny _ _ (pure ((#[] : Array Value) ++ vs.toArray).toList) Q E _ from ?_))
  have e : ((#[] : Array Value) ++ vs.toArray).toList = vs := by simp
  rw [e]
  exact wpAny_pure h
theorem sorted_tup {prog : Program} {w : World} {A : Around} {E : Value → Shared → Prop} {s : Shared} {t : Addr} {vs : List Value} {ltv : Value → Value → Bool} {Q : Value → Shared → Prop} (O : SrtO.Swo ltv) (ht : s.heap.IsTuple t vs.toArray) (hz : vs.length ≤ sizeLine)
    (hS : 2 ≤ vs.length → ∀ (h1 : Heap) (a : Addr), SrtO.SortableO prog w A.in1.in1 { s with heap := h1 } a vs ltv) (h : ∀ out : List Value, SrtO.Srtd ltv out → SrtO.Stb ltv out vs → Q (.ref (s.heap.objs.size + 1)) { s with heap := sortedAll s.heap vs out.toArray }) :
    wpAny (model prog w) A (call (.builtin "sorted") [.ref t]) Q E s := by
  refine Calls.call_function_entry kind_sorted plain_sorted entry_sorted (args_sorted1 _) ?_
  unfold Builtin.«sorted»
  refine wpAny_bind (m := checkCount "sorted" 1 1 _) (wpAny_pure (wpAny_bind (gather_tup ht hz (wpAny_bind (wpAny_newList ?_ hz)))))
  have size : ((s.heap.push (seqObj "list" #[] 0)).update s.heap.objs.size (Obj.mapSeq (· ++ vs.toArray))).objs.size = s.heap.objs.size + 1 := (Heap.size_update ..).trans (size_push' ..)
  have new : (((s.heap.push (seqObj "list" #[] 0)).update s.heap.objs.size (Obj.mapSeq (· ++ vs.toArray))).push (seqObj "list" vs.toArray 0)).get? (s.heap.objs.size + 1) = some (seqObj "list" vs.toArray 0) := size ▸ Heap.get?_push_size _ rfl
  show wpAny _ _ _ _ _ { s with heap := ((s.heap.push (seqObj "list" #[] 0)).update s.heap.objs.size (Obj.mapSeq (· ++ vs.toArray))).push (seqObj "list" vs.toArray 0) }
  rw [size]
  exact wpAny_bind (wpAny_holding (wpAny_call_entry slot_list_sort ⟨_, new, rfl⟩ entry_list_sort (SrtO.list_sort_ord O new hz (hS · _ _) fun out a b => ⟨_, rfl, wpAny_pure ⟨_, rfl, h out a b⟩⟩) (args_list_sort _)))
def rSortedTI (K : PySem.W.Frag) : List V → Hp → VK → Prop := fun vs H Q => ∃ (t : Addr) (ns : List Int), vs = [V.ref t] ∧ SqT K H t (ns.map V.int) ∧ ∀ (ms : List Int) (p : Addr), ms.Perm ns → ms.Pairwise (· ≤ ·) → H p = none → Q (.ref p) (upd H p (.lst (ms.map V.int)))
theorem cr_sortedTI {X : Cx} : CallR X (.builtin "sorted") (rSortedTI X.K) := fun pins s σ H vs us Q I r h => by
  obtain ⟨t, ns, rfl, hs, q⟩ := h
  obtain ⟨its, rv, p, fits⟩ := I.tuple hs
  rw [Vals.ref1 r]
  have num := rv.ints
  have len : its.length ≤ sizeLine := by rw [← rv.length]; exact fits
  refine sorted_tup SrtO.swo_int (show s.heap.IsTuple t its.toArray from p) len (fun h2 _ a => SrtO.ints_sortable num h2) fun out a b => ?_
  obtain ⟨e1, e2, e3⟩ := SrtO.ints_out num a b
  obtain ⟨ep, there⟩ := PyProof.Rows.sortedAll_at s.heap its out.toArray
  refine ⟨.ref _, upd H (s.heap.objs.size + 1) (.lst ((out.map SrtO.iv).map V.int)), I.laid (t' := s.toks) (fun _ _ => PyProof.Rows.sortedAll_old) (Nat.le_succ _) ⟨?_, out, ep, vals_of_ints e1, there⟩, rfl, q _ _ e2 e3 (I.hok.fresh (Nat.le_succ _))⟩
  rw [List.length_map, e2.length_eq, ← List.length_map (f := V.int)]
  exact fits
def rSortU (K : PySem.W.Frag) : List V → Hp → VK → Prop := fun vs H Q => rSortedI K vs H Q ∨ rSortedTI K vs H Q
theorem cr_sortU {X : Cx} : CallR X (.builtin "sorted") (rSortU X.K) := fun pins s σ H xs us Q I r q => q.elim (cr_sortedI pins s σ H xs us Q I r) (cr_sortedTI pins s σ H xs us Q I r)

/-! ### zip of two tuples -/
theorem walk_zipT {K : PySem.W.Frag} {a b : Addr} {xs ys : List V} : Walk (RZ.ItzT K a b) (min xs.length ys.length) (fun H => SqT K H a xs ∧ SqT K H b ys) (YPair (fun i => xs[i]?) (fun i => ys[i]?)) :=
  ⟨fun i _ hi q => ⟨xs, ys, xs[i]'(by omega), ys[i]'(by omega), q.1, q.2, List.getElem?_eq_getElem _, List.getElem?_eq_getElem _⟩, fun _ q => ⟨xs, ys, q.1, q.2, by omega⟩, fun i H v H' _ q y => by
    obtain ⟨T, x, z, e1, e2, e3, e4, e5⟩ := y
    exact ⟨T, x, z, e1, e2, e3, e4 xs q.1, e5 ys q.2⟩⟩
end DL

set_option maxRecDepth 100000
set_option maxHeartbeats 1000000
/-! DLg: a def's promise where nothing is being shown around it (repr asks that): calls, bodies, the law's end. -/
namespace DL
open PySem PySem.Spec PyProof.Rows L2

structure FnG (P : Program) (w : World) (K : PySem.W.Frag) (mg : Str → Option Value) (base : Heap) (CX : CXT) (k : Nat) (f : Addr) (fd : FuncData) (ps : List Str) (sp : Sp) : Prop where
  len : ∀ vs H Q E, sp vs H Q E → vs.length = ps.length
  run : ∀ (A : Around) (outer : List Env) (s : Shared) (H : Hp) (args : Args) (us : List Value) (vs : List V) (Q : VK) (E : XK), Room k A → A.guards = some [] → Env0 P w K mg base A outer s H → BindsTo s fd args (ps.zip us) → Vals vs us → sp vs H Q E →
    codeAny (model P w) A (.call (.ref f) args) (CR CX outer P w H s Q E) s
section
variable {P : Program} {w : World} {K : PySem.W.Frag} {mg : Str → Option Value} {base : Heap}
theorem FnG.mono {CX : CXT} {j k : Nat} {f : Addr} {fd : FuncData} {ps : List Str} {sp : Sp} (F : FnG P w K mg base CX j f fd ps sp) (h : j ≤ k) : FnG P w K mg base CX k f fd ps sp :=
  ⟨F.len, fun A outer s H args us vs Q E hr => F.run A outer s H args us vs Q E (hr.mono h)⟩
theorem FnG.imp {CX : CXT} {k : Nat} {f : Addr} {fd : FuncData} {ps : List Str} {sp sp' : Sp} (F : FnG P w K mg base CX k f fd ps sp) (h : ∀ vs H Q E, sp' vs H Q E → sp vs H Q E) : FnG P w K mg base CX k f fd ps sp' :=
  ⟨fun vs H Q E q => F.len vs H Q E (h _ _ _ _ q), fun A outer s H args us vs Q E hr hg he hb hv hs => F.run A outer s H args us vs Q E hr hg he hb hv (h _ _ _ _ hs)⟩
/-- a def by its body -/
theorem fng_of {CX : CXT} {k : Nat} {f : Addr} {name qual : Str} {params : Arguments} {body : List Stmt} {scope : Scope} {dV kV doc pm cdv ct oc : Value} {an od : Option Addr}
    {osl : Array (Option Value)} {N ps : List Str} {sp : Sp} (lk : K.lookup f = some ⟨oc, od, .func (PySem.W.fnOf name qual params body scope dV kV doc pm an cdv ct), osl⟩) (hcd : PySem.W.codeIn K cdv qual = true) (S : FnScope N ps scope)
    (len : ∀ vs H Q E, sp vs H Q E → vs.length = ps.length)
    (hbody : ∀ (A : Around) (outer : List Env) (s : Shared) (H : Hp) (vs : List V) (Q : VK) (E : XK), Room k (A.deeper (envOfC qual scope s.heap.objs.size f cdv)) → (A.deeper (envOfC qual scope s.heap.objs.size f cdv)).guards = some [] → sp vs H Q E →
      ∃ t, PSs (cxOf CX P w K mg base N qual scope f cdv A outer s H E) body t ∧ t { nx := fun _ H' => Q .non H', rt := Q } (start N vs) H) :
    FnG P w K mg base CX (k + 1) f (PySem.W.fnOf name qual params body scope dV kV doc pm an cdv ct) ps sp := by
  constructor
  · exact len
  intro A outer s H args us vs Q E hr hgd e0 hb r hsp
  have hl := len _ _ _ _ hsp
  have kx : K.In s.heap := e0.mod.kin.keeps fun b o e => (e0.bs b o e).1
  have nl : s.heap.NoLimit := e0.mod.nolimit.keeps fun b o e => (e0.bs b o e).1
  have kd : ∀ y ∈ ps.zip us, scope.names.lookup y.1 = some .local ∨ (scope.names.lookup y.1 = some .cell ∧ ((cellsFrom (s.heap.objs.size + 1) scope.names []).lookup y.1).isSome = true) := by
    rintro ⟨n, v⟩ hy
    exact (S.par n (List.of_mem_zip hy).1).elim .inl fun q => .inr ⟨q, PySem.W.cellsFrom_some _ _ _ (.inl q)⟩
  refine codeAny_call_function hr.depth (kx _ _ lk) rfl S.co S.gen rfl (PySem.W.codeRec_of kx hcd) (hb _ _ _ _ (wpAny_newFunctionEnv_cells S.kind kd fun env he s1 x => ?_))
  subst he
  refine ⟨nl.keeps x.toInCall.keep, codeAny_func ?_⟩
  obtain ⟨t, ht, hq⟩ := hbody A outer s H vs Q E (hr.deeper _) hgd hsp
  have J : Inv (cxOf CX P w K mg base N qual scope f cdv A outer s H E) [] (start N vs) H s1 := inv_start S hr.hd e0 hl r x
  refine wpAny_mono (ht.run [] s1 (start N vs) H _ J hq) (fun fl s' hs => ?_) fun e s' hs => hs
  cases fl with
  | ret u =>
    obtain ⟨v, σ', H', J', rv, q⟩ := hs
    exact ⟨v, H', J'.os, J'.bare, J'.base, J'.hok, rv, q⟩
  | next =>
    obtain ⟨σ', H', J', q⟩ := hs
    exact ⟨V.non, H', J'.os, J'.bare, J'.base, J'.hok, (rfl : RelV V.non Value.none), q⟩
  | brk => exact hs.elim fun _ z => z.elim fun _ z => z.2.elim
  | cont => exact hs.elim fun _ z => z.elim fun _ z => z.2.elim
theorem okG {x qual : Str} {st : Stmt} {f : Addr} {fd : FuncData} {N ps : List Str} {k : Nat} {sp : Sp} (F : Fun K x qual st f fd) (S : FnScope N ps (defScope st)) (len : ∀ vs H Q E, sp vs H Q E → vs.length = ps.length)
    (hbody : ∀ (cdv : Value) (A : Around) (outer : List Env) (s : Shared) (H : Hp) (vs : List V) (Q : VK) (E : XK), Room k (A.deeper (envOfC qual (defScope st) s.heap.objs.size f cdv)) → (A.deeper (envOfC qual (defScope st) s.heap.objs.size f cdv)).guards = some [] → sp vs H Q E →
      ∃ t, PSs (cxOf CX0 P w K mg base N qual (defScope st) f cdv A outer s H E).nox (defBody st) t ∧ t { nx := fun _ H' => Q .non H', rt := Q } (start N vs) H) : FnG P w K mg base CX0 (k + 1) f fd ps sp := by
  obtain ⟨oc, od, kV, doc, pm, an, cdv, ct, osl, rfl, lk, hcd⟩ := F.ex
  exact fng_of lk hcd S len fun A outer s H vs Q E hr hg hsp => (hbody cdv A outer s H vs Q E hr hg hsp).elim fun t z => ⟨t, z.1.nox, z.2⟩
end

section
variable {X : Cx} {CX : CXT} {k : Nat} {f : Addr} {fd : FuncData} {ps ks : List Str} {sp : Sp} {dvs : List V} {ds : List Value} {E : XK} {x : Str} {p pos : Pos} {e : Expr} {es : List Expr} {kws : List Keyword} {t tk : TA}
theorem end_of {pins : List (Addr × Obj)} {σ : L2.St} {H : Hp} {s : Shared} {Q : VK} {r : Result} {s' : Shared} (hx : Passes CX X E) (I : Inv X pins σ H s) (hq : CR CX X.stack X.prog X.w H s Q E r s') :
    (match r with | .ok (.ret u) => EP X pins σ Q u s' | .ok _ => False | .error e => X.xe e s') := by
  cases r with
  | error e => exact hx pins σ H s e s' I hq
  | ok fl =>
    cases fl with
    | ret u => exact I.after hq
    | next => exact hq
    | brk => exact hq
    | cont => exact hq
theorem run_fng {pins : List (Addr × Obj)} {σ : L2.St} {H : Hp} {s : Shared} {Q : VK} {us : List Value} {vs : List V} (F : FnG X.prog X.w X.K X.mg X.base CX k f fd ps sp) (hr : Room k X.A) (gd : X.A.guards = some []) (hb : Binds X.K fd ps ds) (hd : Vals dvs ds) (hx : Passes CX X E)
    (I : Inv X pins σ H s) (r : Vals vs us) (h : sp (vs ++ dvs) H Q E) : wpAny (model X.prog X.w) X.A (call (.ref f) us) (EP X pins σ Q) X.xe s := by
  have rr : Vals (vs ++ dvs) (us ++ ds) := r.append hd
  have hl : (us ++ ds).length = ps.length := rr.length.symm.trans (F.len _ _ _ _ h)
  refine wpAny_call (codeAny_mono (F.run X.A X.stack s H ⟨us, []⟩ (us ++ ds) (vs ++ dvs) Q E hr gd I.env0 (hb s us I.kIn hl) rr h) fun res s' hq => ?_)
  have := end_of hx I hq
  rcases res with e | fl
  · exact this
  · rcases fl with _ | _ | _ | u
    all_goals exact this
theorem pe_callG (F : FnG X.prog X.w X.K X.mg X.base CX k f fd ps sp) (hr : Room k X.A) (gd : X.A.guards = some []) (hg : Gl X x) (hm : X.mg x = some (.ref f)) (hk : PySem.W.keepIn X.K (.ref f) = true) (hb : Binds X.K fd ps ds) (hd : Vals dvs ds) (hx : Passes CX X E)
    (ha : PA X (e :: es) t) (hdb : (x == ("__debug__" : Str)) = false := by decide) (he : starEach (e :: es) X.env = (false, eval e X.env) :: starEach es X.env := by rfl) (hpl : (backTo pos (starEach es X.env)).any (·.1) = false := by rfl) :
    PE X (.Call (.Name x p) (e :: es) [] pos) (tCall sp dvs E t) := by
  constructor
  intro pins s σ H Q I h
  exact wpAny_Call_Name_kw (ld_glob I hg hm (PySem.W.callWith_K (h₀ := X.base) I.ok.mod.kin hk (thn (ha.run pos pins s σ H _ I h) fun us s1 ⟨vs, H1, I1, r, q⟩ => ⟨I1.kIn, run_fng F hr gd hb hd hx I1 r q⟩) he hpl) hdb)
theorem pe_call0G (F : FnG X.prog X.w X.K X.mg X.base CX k f fd ps sp) (hr : Room k X.A) (gd : X.A.guards = some []) (hg : Gl X x) (hm : X.mg x = some (.ref f)) (hk : PySem.W.keepIn X.K (.ref f) = true) (hb : Binds X.K fd ps ds) (hd : Vals dvs ds) (hx : Passes CX X E)
    (hdb : (x == ("__debug__" : Str)) = false := by decide) : PE X (.Call (.Name x p) [] [] pos) (tCall sp dvs E tNil) := by
  constructor
  intro pins s σ H Q I h
  exact wpAny_Call_Name_kw (ld_glob I hg hm (PySem.W.callWith_K0 I.kIn hk (run_fng (us := []) F hr gd hb hd hx I .nil h)) hdb)
variable {g : List Value → List Value → List Value} {gV : List V → List V → List V}
/-- f(k = v, ..): keywords alone -/
theorem pe_callK0 (F : FnG X.prog X.w X.K X.mg X.base CX k f fd ps sp) (hr : Room k X.A) (gd : X.A.guards = some []) (hg : Gl X x) (hm : X.mg x = some (.ref f)) (hk : PySem.W.keepIn X.K (.ref f) = true) (hb : KBinds X.K fd ps ks g gV) (hx : Passes CX X E)
    (hkw : PK X kws tk) (hall : (backToKw pos (keywordEach kws X.env)).all (·.1.isSome) = true := by rfl) (hks : (backToKw pos (keywordEach kws X.env)).filterMap (·.1) = ks := by rfl)
    (hdb : (x == ("__debug__" : Str)) = false := by decide)
    (hpl : ((backTo pos (starEach [] X.env)).any (·.1) || (backToKw pos (keywordEach kws X.env)).any (·.1.isNone)) = false := by rfl) :
    PE X (.Call (.Name x p) [] kws pos) (tCallK sp gV E tNil tk) := by
  constructor
  intro pins s σ H Q I h
  refine wpAny_Call_Name_kw (ld_glob I hg hm ?_ hdb)
  refine PySem.W.callWith_KW0 (h₀ := X.base) (first := []) I.ok.mod.kin hk hall ?_ hpl
  refine thn (hkw.run pos pins s σ H _ I h) fun ws s2 ⟨zs, H2, I2, rz, q2⟩ => ⟨I2.kIn, ?_⟩
  rw [hks]
  have rr := hb.rel (vs := []) (us := []) .nil rz
  have hl : (g [] ws).length = ps.length := rr.length.symm.trans (F.len _ _ _ _ q2)
  refine wpAny_call (codeAny_mono (F.run X.A X.stack s2 H2 ⟨[], ks.zip ws⟩ (g [] ws) (gV [] zs) Q E hr gd I2.env0 (hb.to s2 [] ws I2.kIn hl) rr q2) fun res s' hq => ?_)
  have := end_of hx I2 hq
  rcases res with e | fl
  · exact this
  · rcases fl with _ | _ | _ | u
    all_goals exact this
end

/-! ### the end of a law -/
theorem law_callG {P : Program} {w : World} {K : PySem.W.Frag} {mg mb : Str → Option Value} {CX : CXT} {k : Nat} {fa a : Addr} {fd : FuncData} {x : Str} {sp : Sp} {s₁ : Shared} {vs : List Value} {ns : List Int}
    (KX : K.In s₁.heap) (hns : s₁.heap.Ns mainGlobals mg) (hb : s₁.heap.Ns builtinsNs mb) (hbb : ∀ x : Str, x ≠ "__name__" → mb x = bootBuiltins x) (hlim : s₁.heap.NoLimit) (hg : s₁.gens = #[])
    (ha : s₁.heap.get? a = some { cls := .type "list", data := .seq vs.toArray }) (hi : IntsAre vs ns) (hl : ns.length ≤ sizeLine) (hr : Room k callerA)
    (F : ∀ base : Heap, K.In base → base.Ns mainGlobals mg → FnG P w K mg base CX k fa fd [x] sp) (hbind : ∀ (s : Shared) (u : Value), BindsTo s fd ⟨[u], []⟩ [(x, u)])
    (hsp : ∀ H : Hp, Only H → SqL K H a (ns.map V.int) → sp [.ref a] H (fun v _ => v = .bl true) fun _ _ _ => False)
    (hCX : ∀ H e s', CX [] H s₁ (fun _ _ _ => False) e s' → False) :
    codeAny (model P w) callerA (.call (.ref fa) ⟨[.ref a], []⟩) (fun r s' => r = .ok (.ret (.bool true)) ∧ OldK s₁.heap s'.heap ∧ s'.os = s₁.os ∧ AllBare s'.gens) s₁ := by
  have main : ∀ H : Hp, Only H → SqL K H a (ns.map V.int) → HOk P w H s₁.heap → (∀ b, H b ≠ none → b = a) → (H a ≠ none → K.lookup a = none) →
      codeAny (model P w) callerA (.call (.ref fa) ⟨[.ref a], []⟩) (fun r s' => r = .ok (.ret (.bool true)) ∧ OldK s₁.heap s'.heap ∧ s'.os = s₁.os ∧ AllBare s'.gens) s₁ := by
    intro H hO hS hok hA hK
    have isA : ∀ {b : Addr} {u : HO}, H b = some u → b = a := fun {b u} q => hA b (by rw [q]; exact fun z => nomatch z)
    have low : ∀ {b : Addr} {o : Obj}, s₁.heap.get? b = some o → H b = none → (hidT s₁.heap H).get? b = some o := fun e n => hidT_get e n
    have dictN : ∀ {b : Addr} {o : Obj} {es : Array DictEntry} {ep : Nat}, s₁.heap.get? b = some o → o.data = .dict es ep → H b = none := fun {b o es ep} e d => by
      cases q : H b with
      | none => rfl
      | some u =>
        rw [isA q, ha] at e
        obtain rfl := Option.some.inj e
        cases (show Data.seq vs.toArray _ = Data.dict es ep from d)
    have nsB : ∀ {b : Addr} {m : Str → Option Value}, s₁.heap.Ns b m → (hidT s₁.heap H).Ns b m := fun {b m} ⟨o, es, ep, e, d, r⟩ => ⟨o, es, ep, low e (dictN e d), d, r⟩
    have kB : K.In (hidT s₁.heap H) := fun b o e => low (KX b o e) (by
      cases q : H b with
      | none => rfl
      | some u =>
        have eb := isA q
        subst eb
        rw [hK (by rw [q]; exact fun z => nomatch z)] at e
        cases e)
    have M : Mod K mg (hidT s₁.heap H) := ⟨kB, nsB hns, ⟨mb, nsB hb, hbb⟩, let ⟨mc, h1, h2⟩ := hlim; ⟨mc, nsB h1, h2⟩⟩
    have e0 : Env0 P w K mg (hidT s₁.heap H) callerA [] s₁ H := ⟨rfl, M, fun b o e => of_hidT e, Nat.le_of_eq (hidT_size _ _), trivial, fun b hb => absurd (show b ∈ ([] : List Addr) from hb) List.not_mem_nil, hok, .of_eq hg⟩
    refine codeAny_mono ((F _ kB (nsB hns)).run callerA [] s₁ H ⟨[.ref a], []⟩ [.ref a] [.ref a] _ _ hr rfl e0 (hbind s₁ (.ref a)) (.cons rfl .nil) (hsp H hO hS)) fun r s' h => ?_
    rcases r with e | fl
    · exact (hCX H e s' h).elim
    rcases fl with _ | _ | _ | u
    · exact h.elim
    · exact h.elim
    · exact h.elim
    obtain ⟨v, H', os, bare, un, hok', r', q⟩ := h
    obtain rfl : v = .bl true := q
    obtain rfl : u = Value.bool true := r'
    refine ⟨rfl, OldK.of_keep fun b o e => ?_, os, bare⟩
    cases q : H b with
    | none => exact un.keep b o e q (fun z => nomatch z) (by simp)
    | some u =>
      rcases hO b with z | ⟨ob, xs, z⟩
      · rw [q] at z
        cases z
      · have f1 := (hok b _ z).1
        have f2 := (hok' b _ (un.frzs b ob _ z)).1
        rw [e] at f1
        obtain rfl := Option.some.inj f1
        exact f2
  have rv := vals_ints hi
  cases hk : K.lookup a with
  | some o =>
    have e := KX a o hk
    rw [ha] at e
    obtain rfl := Option.some.inj e
    exact main (fun _ => none) (fun _ => .inl rfl) (.inr ⟨_, vs.toArray, _, hk, rfl, rfl, rfl, by rw [List.size_toArray, hi.length]; exact hl, by simpa using rv⟩) (fun b u z => nomatch z) (fun b z => absurd rfl z) fun z => absurd rfl z
  | none =>
    refine main (fun b => if b = a then some (.frz { cls := .type "list", data := .seq vs.toArray } (.lst (ns.map V.int))) else none) (fun b => ?_) (.inl (.inr ⟨{ cls := .type "list", data := .seq vs.toArray }, if_pos rfl⟩)) (fun b u z => ?_) (fun b z => ?_) fun _ => hk
    · by_cases eb : b = a
      · exact .inr ⟨_, _, if_pos eb⟩
      · exact .inl (if_neg eb)
    · by_cases eb : b = a
      · subst eb
        cases (if_pos rfl).symm.trans z
        exact ⟨ha, by rw [List.length_map]; exact hl, vs, _, rv, ha⟩
      · cases (if_neg eb).symm.trans z
    · exact Decidable.byContradiction fun eb => z (if_neg eb)
theorem walk_ofG {l : PySem.W.OpenLaw} {n k : Nat} {q : Program} {loose : List Str} {XP : (Str → Option Value) → Heap → Prop} {YP : World → Heap → Prop} {d : DefRec} {K : Params → PySem.W.Frag} {CX : World → CXT} {sp : World → Sp} {x : Str}
    (hn : l.most = some n) (hn2 : n ≤ sizeLine) (hdf : d.params.defaults = []) (hr : Room k callerA)
    (hY : ∀ (w : World) (h : Heap), YP w h → (K w.params).In h)
    (F : ∀ (w : World) (mg : Str → Option Value) (fa : Addr) (h : Heap), (K w.params).In h → h.Ns mainGlobals mg → mg d.name = some (.ref fa) →
      ∃ fd : FuncData, (∀ (s : Shared) (u : Value), BindsTo s fd ⟨[u], []⟩ [(x, u)]) ∧
        ∀ base : Heap, (K w.params).In base → base.Ns mainGlobals mg → FnG l.prog w (K w.params) mg base (CX w) k fa fd [x] (sp w))
    (hsp : ∀ (w : World) (H : Hp) (a : Addr) (ns : List Int), ns.length ≤ n → Only H → SqL (K w.params) H a (ns.map V.int) → sp w [.ref a] H (fun v _ => v = .bl true) fun _ _ _ => False)
    (hCX : ∀ (w : World) (H : Hp) (s : Shared) (e : Value) (s' : Shared), CX w [] H s (fun _ _ _ => False) e s' → False) :
    PySem.W.WalkO q loose XP YP l.row.toRowW d [] (fun f vs => PySem.call f vs) := by
  refine Att.attach_call hn hdf fun w s₀ s₁ mg mb fa o pm cd doc a vs ns G Y ho hd hcd hmg hobj hints hlen hg => ?_
  obtain ⟨fd, hb, hF⟩ := F w mg fa _ (hY w _ Y) G.T.g hmg
  exact law_callG (hY w _ Y) G.T.g G.T.b G.T.builtins G.T.nolimit hg hobj hints (Nat.le_trans hlen hn2) hr hF hb (fun H hO hS => hsp w H a ns hlen hO hS) fun H e s' => hCX w H s₁ e s'
end DL

set_option maxRecDepth 100000
set_option maxHeartbeats 1000000
namespace DL
open PySem PySem.Spec PyProof.Rows L2

/-! ### operators of several kinds in one -/
theorem opr_or {X : Cx} {f : Value → Value → Sem Value} {r r' : R2} (h : OpR X f r) (h' : OpR X f r') : OpR X f (fun x y H Q => r x y H Q ∨ r' x y H Q) := fun pins s σ H x y v u Q I rx ry q =>
  q.elim (h pins s σ H x y v u Q I rx ry) (h' pins s σ H x y v u Q I rx ry)
def rAddStr : R2 := fun x y H Q => ∃ i j, x = .str i ∧ y = .str j ∧ i.length + j.length ≤ sizeLine ∧ Q (.str (i ++ j)) H
def rPlus (K : PySem.W.Frag) : R2 := fun x y H Q => rI0 (fun i j => .int (i + j)) x y H Q ∨ (rCat x y H Q ∨ (rCatA K x y H Q ∨ rAddStr x y H Q))
/-- a list == an empty one -/
def rEqE : R2 := fun x y H Q => ∃ a b xs, x = .ref a ∧ y = .ref b ∧ H a = some (.lst xs) ∧ H b = some (.lst []) ∧ Q (.bl xs.isEmpty) H
theorem op_eqE {X : Cx} (hu : X.A.units + 64 < cLine) : OpR X (compareOp .Eq) rEqE := by
  intro pins s σ H x y v u Q I rx ry h
  obtain ⟨a, b, xs, rfl, rfl, h1, h2, q⟩ := h
  cases (show v = Value.ref a from rx)
  cases (show u = Value.ref b from ry)
  obtain ⟨_, its, m, rv, e⟩ := (show ObjOk X.prog X.w H s.heap a (.lst xs) from I.hok a _ h1)
  obtain ⟨_, its2, m2, rv2, e2⟩ := (show ObjOk X.prog X.w H s.heap b (.lst []) from I.hok b _ h2)
  cases rv2
  have n1 : its.length = xs.length := (Paired.length rv).symm
  cases xs with
  | nil =>
    cases rv
    exact SeqAt.RcAt.lists (e := fun _ => true) ⟨_, e, rfl, _, rfl⟩ ⟨_, e2, rfl, _, rfl⟩ rfl (by omega) (fun j j1 => absurd j1 (by simp)) _ _ _ _ ⟨.bl true, H, I, rfl, q⟩
  | cons z zs =>
    refine SeqAt.RcAt.lists_lengths (s := s) ⟨_, e, rfl, _, rfl⟩ ⟨_, e2, rfl, _, rfl⟩ ?_ (by omega) _ _ _ _ ⟨.bl false, H, I, rfl, q⟩
    cases rv
    simp
def rEqU (K : PySem.W.Frag) : R2 := fun x y H Q => rEq x y H Q ∨ (rEqD K x y H Q ∨ rEqE x y H Q)
def rNeU (K : PySem.W.Frag) : R2 := fun x y H Q => rNe x y H Q ∨ rNeD K x y H Q
def rLeU (K : PySem.W.Frag) : R2 := fun x y H Q => rI0 (fun i j => .bl (decide (i ≤ j))) x y H Q ∨ rLeT K x y H Q
def rLtU (K : PySem.W.Frag) : R2 := fun x y H Q => rI0 (fun i j => .bl (decide (i < j))) x y H Q ∨ rLtT K x y H Q
def rGtU (K : PySem.W.Frag) : R2 := fun x y H Q => rI0 (fun i j => .bl (decide (j < i))) x y H Q ∨ rGtT K x y H Q
abbrev rGe' : R2 := rI0 fun i j => .bl (decide (j ≤ i))
abbrev rSub' : R2 := rI0 fun i j => .int (i - j)
abbrev rMul' : R2 := rI CMul fun i j => .int (i * j)
abbrev rMulW' : R2 := rI CMulW fun i j => .int (i * j)
def rMulU (K : PySem.W.Frag) : R2 := fun x y H Q => rMul' x y H Q ∨ (rMulW' x y H Q ∨ (rRep x y H Q ∨ rRepU K x y H Q))
def rSlU (K : PySem.W.Frag) : V → Option Int → Option Int → Hp → VK → Prop := fun x lo hi H Q => rSlL K x lo hi H Q ∨ rSlA K x lo hi H Q
abbrev rMod' : R2 := rI (fun _ j => 0 < j) fun i j => .int (i % j)
abbrev rDiv' : R2 := rI CDivW fun i j => .int (i / j)
abbrev rPow' : R2 := rI CPow fun i j => .int (i ^ j.toNat)
def rIsNo : R2 := fun x y H Q => y = .non ∧ Q (.bl (decide (x = .non))) H
def rNotNo : R2 := fun x y H Q => y = .non ∧ Q (.bl (!decide (x = .non))) H
section
variable {X : Cx}
theorem op_plus : OpR X (binaryOp .Add) (rPlus X.K) := opr_or op_add (opr_or op_cat (opr_or op_catA op_add_str))
theorem op_eqU (hu : X.A.units + 100 < cLine) : OpR X (compareOp .Eq) (rEqU X.K) := opr_or op_eq (opr_or (op_eqD (by omega)) (op_eqE (by omega)))
theorem op_neU (hu : X.A.units + 100 < cLine) : OpR X (compareOp .NotEq) (rNeU X.K) := opr_or op_ne (op_neD (by omega))
theorem op_leU (hu : X.A.units + 100 < cLine) : OpR X (compareOp .LtE) (rLeU X.K) := opr_or op_le (op_leT (by omega))
theorem op_ltU (hu : X.A.units + 100 < cLine) : OpR X (compareOp .Lt) (rLtU X.K) := opr_or op_lt (op_ltT (by omega))
theorem op_gtU (hu : X.A.units + 100 < cLine) : OpR X (compareOp .Gt) (rGtU X.K) := opr_or op_gt (op_gtT (by omega))
theorem op_geU : OpR X (compareOp .GtE) rGe' := op_ge
theorem op_subU : OpR X (binaryOp .Sub) rSub' := op_sub
theorem op_mulU : OpR X (binaryOp .Mult) (rMulU X.K) := opr_or op_mul (opr_or op_mulW (opr_or op_rep op_repU))
theorem sl_any : SlR X (rSlU X.K) := SlR.or sl_list sl_tupA
theorem op_modU : OpR X (binaryOp .Mod) rMod' := op_mod
theorem op_divU : OpR X (binaryOp .FloorDiv) rDiv' := op_fdivW
theorem op_powU : OpR X (binaryOp .Pow) rPow' := op_pow
theorem op_isU : OpR X (compareOp .Is) rIsNo := op_isN
theorem op_notU : OpR X (compareOp .IsNot) rNotNo := op_notN
end

/-! ### the same over data -/
section
variable {K : PySem.W.Frag} {S S0 S1 S2 S3 : SS} {ta tb te : TE} {x y z : SD} {d e : PyData} {i j : Int} {ds es : List PyData}
variable {c : Addr → Prop} {Hf H : Hp} {σ : L2.St} {fp : List (List Addr)}
theorem ro_I0 {g : Int → Int → V} {gd : PyData} (h : ∀ H, Rp K H (g i j) gd) : Ro K (rI0 g) (.dat (.int i)) (.dat (.int j)) S (.dat gd) S := fun c Hf H σ fp ok v u rv ru Q q => by
  cases rv
  cases ru
  exact ⟨i, j, rfl, rfl, q _ _ _ _ ok Gr.refl (h Hf)⟩
theorem ro_I {C : Int → Int → Prop} {g : Int → Int → V} {gd : PyData} (h : ∀ H, Rp K H (g i j) gd) (hc : C i j) : Ro K (rI C g) (.dat (.int i)) (.dat (.int j)) S (.dat gd) S := fun c Hf H σ fp ok v u rv ru Q q => by
  cases rv
  cases ru
  exact ⟨i, j, rfl, rfl, hc, q _ _ _ _ ok Gr.refl (h Hf)⟩
theorem ro_l {r r' : R2} (h : Ro K r x y S z S1) : Ro K (fun x y H Q => r x y H Q ∨ r' x y H Q) x y S z S1 := fun c Hf H σ fp ok v u rv ru Q q => .inl (h c Hf H σ fp ok v u rv ru Q q)
theorem ro_r {r r' : R2} (h : Ro K r' x y S z S1) : Ro K (fun x y H Q => r x y H Q ∨ r' x y H Q) x y S z S1 := fun c Hf H σ fp ok v u rv ru Q q => .inr (h c Hf H σ fp ok v u rv ru Q q)
theorem rol_l {r r' : R2} (h : RoL K r x y S ds S1) : RoL K (fun x y H Q => r x y H Q ∨ r' x y H Q) x y S ds S1 := fun c Hf H σ fp ok v u rv ru Q q => .inl (h c Hf H σ fp ok v u rv ru Q q)
theorem rol_r {r r' : R2} (h : RoL K r' x y S ds S1) : RoL K (fun x y H Q => r x y H Q ∨ r' x y H Q) x y S ds S1 := fun c Hf H σ fp ok v u rv ru Q q => .inr (h c Hf H σ fp ok v u rv ru Q q)
theorem ro_add : Ro K (rPlus K) (.dat (.int i)) (.dat (.int j)) S (.dat (.int (i + j))) S := ro_l (ro_I0 fun _ => .int _)
theorem ro_sub : Ro K rSub' (.dat (.int i)) (.dat (.int j)) S (.dat (.int (i - j))) S := ro_I0 fun _ => .int _
theorem ro_mulL (h : -(2 ^ 64) < i ∧ i < 2 ^ 64 := by decide) : Ro K (rMulU K) (.dat (.int i)) (.dat (.int j)) S (.dat (.int (i * j))) S := ro_l (ro_I (fun _ => .int _) (.inl h))
theorem ro_mulR (h : -(2 ^ 64) < j ∧ j < 2 ^ 64 := by decide) : Ro K (rMulU K) (.dat (.int i)) (.dat (.int j)) S (.dat (.int (i * j))) S := ro_l (ro_I (fun _ => .int _) (.inr h))
theorem ro_mulW (h : CMulW i j) : Ro K (rMulU K) (.dat (.int i)) (.dat (.int j)) S (.dat (.int (i * j))) S := ro_r (ro_l (ro_I (fun _ => .int _) h))
theorem ro_mod (h : 0 < j := by decide) : Ro K rMod' (.dat (.int i)) (.dat (.int j)) S (.dat (.int (i % j))) S := ro_I (fun _ => .int _) h
theorem ro_div (h : CDivW i j) : Ro K rDiv' (.dat (.int i)) (.dat (.int j)) S (.dat (.int (i / j))) S := ro_I (fun _ => .int _) h
theorem ro_pow (h : CPow i j := by unfold CPow; decide) : Ro K rPow' (.dat (.int i)) (.dat (.int j)) S (.dat (.int (i ^ j.toNat))) S := ro_I (fun _ => .int _) h
theorem ro_le : Ro K (rLeU K) (.dat (.int i)) (.dat (.int j)) S (.dat (.bool (decide (i ≤ j)))) S := ro_l (ro_I0 fun _ => .bl _)
theorem ro_lt : Ro K (rLtU K) (.dat (.int i)) (.dat (.int j)) S (.dat (.bool (decide (i < j)))) S := ro_l (ro_I0 fun _ => .bl _)
theorem ro_gt : Ro K (rGtU K) (.dat (.int i)) (.dat (.int j)) S (.dat (.bool (decide (j < i)))) S := ro_l (ro_I0 fun _ => .bl _)
theorem ro_ge : Ro K rGe' (.dat (.int i)) (.dat (.int j)) S (.dat (.bool (decide (j ≤ i)))) S := ro_I0 fun _ => .bl _
/-- x is None, where x is data -/
def isNoD : PyData → Bool
  | .none => true
  | _ => false
theorem rp_non {v : V} (h : Rp K H v d) : decide (v = .non) = isNoD d := by cases h <;> rfl
theorem ro_is : Ro K rIsNo (.dat d) (.dat .none) S (.dat (.bool (isNoD d))) S := fun c Hf H σ fp ok v u rv ru Q q => by
  have e := rp_non (show Rp K Hf v d from rv)
  cases ru
  exact ⟨rfl, by rw [e]; exact q _ _ _ _ ok Gr.refl (Rp.bl _)⟩
theorem ro_isnot : Ro K rNotNo (.dat d) (.dat .none) S (.dat (.bool (!isNoD d))) S := fun c Hf H σ fp ok v u rv ru Q q => by
  have e := rp_non (show Rp K Hf v d from rv)
  cases ru
  exact ⟨rfl, by rw [e]; exact q _ _ _ _ ok Gr.refl (Rp.bl _)⟩
/-- data that is read as the library's own relation tells it -/
theorem dp_ofs : (∀ (v : V) (d : PyData) (_ : Rp K H v d), d.hasDict = false → Dp K H v d) ∧ (∀ (vs : List V) (ds : List PyData) (_ : RpA K H vs ds), PyData.hasDictAll ds = false → DpAll K H vs ds) := by
  have key : ∀ n : Nat, (∀ (v : V) (d : PyData), sizeOf d ≤ n → Rp K H v d → d.hasDict = false → Dp K H v d) ∧ (∀ (vs : List V) (ds : List PyData), sizeOf ds ≤ n → RpA K H vs ds → PyData.hasDictAll ds = false → DpAll K H vs ds) := by
    intro n
    induction n with
    | zero =>
      refine ⟨fun v d hn => ?_, fun vs ds hn => ?_⟩
      · cases d <;> simp at hn
      · cases ds <;> simp at hn
    | succ n ih =>
      refine ⟨fun v d hn h e => ?_, fun vs ds hn h e => ?_⟩
      · cases h with
        | non => exact .non
        | bl b => exact .bl b
        | int i => exact .int i
        | str x => exact .str x
        | lst h r => exact .lst (.inl (.inl h)) (ih.2 _ _ (by simp at hn; omega) r (by simpa [PyData.hasDict] using e))
        | tup h r => exact .tup h (ih.2 _ _ (by simp at hn; omega) r (by simpa [PyData.hasDict] using e))
        | emp h => simp [PyData.hasDict] at e
      · cases h with
        | nil => exact .nil
        | cons h t =>
          rw [PyData.hasDictAll, Bool.or_eq_false_iff] at e
          simp at hn
          exact .cons (ih.1 _ _ (by omega) h e.1) (ih.2 _ _ (by omega) t e.2)
  exact ⟨fun v d h e => (key _).1 v d (Nat.le_refl _) h e, fun vs ds h e => (key _).2 vs ds (Nat.le_refl _) h e⟩
/-- what is known of a value, read as data; as a list -/
inductive AsD (S : SS) : SD → PyData → Prop
  | dat (d : PyData) : AsD S (.dat d) d
  | own {k : Nat} {ds : List PyData} (h : S.ob[k]? = some (.lst ds)) : AsD S (.own k) (.list ds)
  | ownP {k : Nat} {ds : List PyData} (h : S.ob[k]? = some (.lstP ds)) : AsD S (.own k) (.list ds)
theorem Okk.obP (h : Okk K c Hf H σ fp S) {k : Nat} {ds : List PyData} {v : V} (e : S.ob[k]? = some (.lstP ds)) (hv : SRl K Hf fp (some v) (.own k)) : ∃ a xs, v = .ref a ∧ fp[k]? = some [a] ∧ H a = some (.lst xs) ∧ RpA K Hf xs ds := by
  obtain ⟨a, r, h1, h2⟩ := hv
  obtain ⟨a', xs, q, h3, h4⟩ := h.hd.oo k _ _ h1 e
  have q1 : a = a' ∧ r = [] := by simpa using q
  obtain ⟨rfl, rfl⟩ := q1
  exact ⟨a, xs, h2, h1, h3, h4⟩
theorem Okk.asL (ok : Okk K c Hf H σ fp S) {v : V} (r : SRl K Hf fp (some v) x) (h : AsD S x (.list ds)) : ∃ a xs, v = .ref a ∧ H a = some (.lst xs) ∧ RpA K Hf xs ds := by
  cases h with
  | dat _ =>
    cases r with
    | lst h1 h2 => exact ⟨_, _, rfl, ok.hd.ex _ _ h1, h2⟩
  | own ho =>
    obtain ⟨a, xs, h1, _, h3, h4⟩ := ok.obL ho r
    exact ⟨a, xs, h1, h3, h4⟩
  | ownP ho =>
    obtain ⟨a, xs, h1, _, h3, h4⟩ := ok.obP ho r
    exact ⟨a, xs, h1, h3, h4⟩
theorem Okk.asDp (ok : Okk K c Hf H σ fp S) {v : V} (r : SRl K Hf fp (some v) x) (h : AsD S x d) (e : d.hasDict = false) : Dp K H v d := by
  cases h with
  | dat _ => exact dp_ofs.1 _ _ (Rp.mono ok.hd.ex r) e
  | own ho =>
    obtain ⟨a, xs, rfl, _, h3, h4⟩ := ok.obL ho r
    exact .lst (.inl (.inl h3)) (dp_ofs.2 _ _ (h4.mono ok.hd.ex) (by simpa [PyData.hasDict] using e))
  | ownP ho =>
    obtain ⟨a, xs, rfl, _, h3, h4⟩ := ok.obP ho r
    exact .lst (.inl (.inl h3)) (dp_ofs.2 _ _ (h4.mono ok.hd.ex) (by simpa [PyData.hasDict] using e))
theorem shaped_noDict (h : SeqAt.shaped d = true) : d.hasDict = false := by
  unfold SeqAt.shaped at h
  rw [Bool.and_eq_true] at h
  exact PyData.hasDict_of_canLay d h.1
theorem ro_eqD (hx : AsD S x d) (hy : AsD S y e) (h1 : SeqAt.shaped d = true) (h2 : SeqAt.shaped e = true) : Ro K (rEqU K) x y S (.dat (.bool (PyData.eqv d e))) S := fun c Hf H σ fp ok v u rv ru Q q =>
  .inr (.inl ⟨d, e, ok.asDp rv hx (shaped_noDict h1), ok.asDp ru hy (shaped_noDict h2), h1, h2, q _ _ _ _ ok Gr.refl (Rp.bl _)⟩)
theorem ro_eqE (hx : AsD S x (.list ds)) (hy : AsD S y (.list [])) : Ro K (rEqU K) x y S (.dat (.bool ds.isEmpty)) S := fun c Hf H σ fp ok v u rv ru Q q => by
  obtain ⟨a, xs, rfl, h1, h2⟩ := ok.asL rv hx
  obtain ⟨b, zs, rfl, h3, h4⟩ := ok.asL ru hy
  cases h4
  refine .inr (.inr ⟨a, b, xs, rfl, rfl, h1, h3, ?_⟩)
  have e : xs.isEmpty = ds.isEmpty := by
    cases h2 <;> rfl
  rw [e]
  exact q _ _ _ _ ok Gr.refl (Rp.bl _)
theorem ro_neD (hx : AsD S x d) (hy : AsD S y e) (h1 : SeqAt.shaped d = true) (h2 : SeqAt.shaped e = true) : Ro K (rNeU K) x y S (.dat (.bool (!PyData.eqv d e))) S := fun c Hf H σ fp ok v u rv ru Q q =>
  .inr ⟨d, e, ok.asDp rv hx (shaped_noDict h1), ok.asDp ru hy (shaped_noDict h2), h1, h2, q _ _ _ _ ok Gr.refl (Rp.bl _)⟩
theorem int_dec : decide (V.int i = V.int j) = decide (i = j) := by
  by_cases h : i = j
  · subst h
    simp
  · rw [decide_eq_false h, decide_eq_false fun z => h (V.int.inj z)]
theorem str_dec {a b : Str} : decide (V.str a = V.str b) = decide (a = b) := by
  by_cases h : a = b
  · subst h
    simp
  · rw [decide_eq_false h, decide_eq_false fun z => h (V.str.inj z)]
theorem ro_eqI : Ro K (rEqU K) (.dat (.int i)) (.dat (.int j)) S (.dat (.bool (decide (i = j)))) S := fun c Hf H σ fp ok v u rv ru Q q => by
  cases rv
  cases ru
  exact .inl ⟨rfl, by rw [int_dec]; exact q _ _ _ _ ok Gr.refl (Rp.bl _)⟩
theorem ro_neI : Ro K (rNeU K) (.dat (.int i)) (.dat (.int j)) S (.dat (.bool (!decide (i = j)))) S := fun c Hf H σ fp ok v u rv ru Q q => by
  cases rv
  cases ru
  exact .inl ⟨rfl, by rw [int_dec]; exact q _ _ _ _ ok Gr.refl (Rp.bl _)⟩
theorem ro_eqS {a b : Str} : Ro K (rEqU K) (.dat (.str a)) (.dat (.str b)) S (.dat (.bool (decide (a = b)))) S := fun c Hf H σ fp ok v u rv ru Q q => by
  cases rv
  cases ru
  exact .inl ⟨rfl, by rw [str_dec]; exact q _ _ _ _ ok Gr.refl (Rp.bl _)⟩
theorem ro_neS {a b : Str} : Ro K (rNeU K) (.dat (.str a)) (.dat (.str b)) S (.dat (.bool (!decide (a = b)))) S := fun c Hf H σ fp ok v u rv ru Q q => by
  cases rv
  cases ru
  exact .inl ⟨rfl, by rw [str_dec]; exact q _ _ _ _ ok Gr.refl (Rp.bl _)⟩
/-- two lists in one new list; two tuples in one -/
theorem rol_cat (hx : AsD S x (.list ds)) (hy : AsD S y (.list es)) (hl : ds.length + es.length ≤ 1000000) : RoL K (rPlus K) x y S (ds ++ es) S := fun c Hf H σ fp ok v u rv ru Q q => by
  obtain ⟨a, xs, rfl, h1, h2⟩ := ok.asL rv hx
  obtain ⟨b, zs, rfl, h3, h4⟩ := ok.asL ru hy
  refine .inr (.inl ⟨a, b, xs, zs, rfl, rfl, h1, h3, ?_, fun p hp => ?_⟩)
  · rw [h2.len, h4.len]
    exact Nat.le_trans hl (by decide)
  · obtain ⟨ok2, g2, al⟩ := ok.alone hp (h2.append h4)
    exact q p _ _ _ ok2 g2 hp al
theorem ro_catT (hl : ds.length + es.length ≤ 1000000) : Ro K (rPlus K) (.dat (.tuple ds)) (.dat (.tuple es)) S (.dat (.tuple (ds ++ es))) S := fun c Hf H σ fp ok v u rv ru Q q => by
  cases rv with
  | tup h1 h2 => cases ru with
    | tup h3 h4 =>
      refine .inr (.inr (.inl ⟨_, _, _, _, rfl, rfl, sameT ok.hd.ex h1, sameT ok.hd.ex h3, ?_, fun e => ?_, fun _ e => ?_, fun _ _ p hp => ?_⟩))
      · rw [h2.len, h4.len]
        exact Nat.le_trans hl (by decide)
      · subst e
        cases h2
        exact q _ _ _ _ ok Gr.refl (Rp.tup h3 h4)
      · subst e
        cases h4
        refine q _ _ _ _ ok Gr.refl ?_
        rw [List.append_nil]
        exact Rp.tup h1 h2
      · obtain ⟨ok2, g2⟩ := ok.laid (.tup _) hp
        exact q _ _ _ _ ok2 g2 (Rp.tup (.inl (.inl upd_same)) ((h2.append h4).mono g2.sm))
/-! ### items -/
def ixD (ds : List PyData) (i : Int) : Option PyData := atI ds i
theorem ix_len {α β : Type} {xs : List α} {ds : List β} (h : xs.length = ds.length) (i : Int) : ixN xs.length i = ixN ds.length i := by rw [h]
theorem atI_rp {xs : List V} (h : RpA K Hf xs ds) (e : atI ds i = some d) : ∃ v, atI xs i = some v ∧ Rp K Hf v d := by
  unfold atI at e ⊢
  rw [h.len]
  cases q : ixN ds.length i with
  | none =>
    rw [q] at e
    cases e
  | some j =>
    rw [q] at e
    exact h.get (show ds[j]? = some d from e)
theorem ro_ixL (hx : AsD S x (.list ds)) (e : atI ds i = some d) : Ro K (rIx K) x (.dat (.int i)) S (.dat d) S := fun c Hf H σ fp ok v u rv ru Q q => by
  obtain ⟨a, xs, rfl, h1, h2⟩ := ok.asL rv hx
  obtain ⟨w, h3, h4⟩ := atI_rp h2 e
  cases ru
  exact .inl ⟨a, xs, i, w, rfl, rfl, .inl (.inl h1), h3, q _ _ _ _ ok Gr.refl h4⟩
theorem ro_ixT (e : atI ds i = some d) : Ro K (rIx K) (.dat (.tuple ds)) (.dat (.int i)) S (.dat d) S := fun c Hf H σ fp ok v u rv ru Q q => by
  cases rv with
  | tup h1 h2 =>
    obtain ⟨w, h3, h4⟩ := atI_rp h2 e
    cases ru
    exact .inr (.inl ⟨_, _, i, w, rfl, rfl, sameT ok.hd.ex h1, h3, q _ _ _ _ ok Gr.refl h4⟩)
/-! ### slices -/
def Eo (K : PySem.W.Frag) (to : TO) (S : SS) (o : Option Int) (S' : SS) : Prop := ∀ c Hf H σ fp, Okk K c Hf H σ fp S → ∀ Q : Option Int → Hp → Prop, (∀ Hf' H' fp', Okk K c Hf' H' σ fp' S' → Gr Hf H fp Hf' H' fp' → Q o H') → to σ H Q
theorem eo_none : Eo K tNoPart S none S := fun c Hf H σ fp ok Q q => q _ _ _ ok Gr.refl
theorem eo_some (h : Ee K te S (.dat (.int i)) S1) : Eo K (tPart te) S (some i) S1 := fun c Hf H σ fp ok Q q => h c Hf H σ fp ok _ fun v Hf1 H1 fp1 ok1 g1 r1 => by
  cases r1
  exact ⟨i, rfl, q _ _ _ ok1 g1⟩
def cutD (ds : List PyData) (lo hi : Option Int) : List PyData := (ds.drop (HT.sIx ds.length 0 lo)).take (HT.sIx ds.length ds.length hi - HT.sIx ds.length 0 lo)
theorem cutD_rp {xs : List V} (h : RpA K Hf xs ds) {lo hi : Option Int} : RpA K Hf (cutV xs lo hi) (cutD ds lo hi) := by
  unfold cutV cutD
  rw [h.len]
  exact (h.drop _).take _
theorem ee_revT (h : Ee K te S (.dat (.tuple ds)) S1) : Ee K (tRevT K te) S (.dat (.tuple ds.reverse)) S1 := fun c Hf H σ fp ok Q q =>
  h c Hf H σ fp ok _ fun v Hf1 H1 fp1 ok1 g1 r1 => by
    cases r1 with
    | tup h1 h2 =>
      refine ⟨_, _, rfl, sameT ok1.hd.ex h1, fun p hp => ?_⟩
      obtain ⟨ok2, g2⟩ := ok1.laid (.tup _) hp
      exact q _ _ _ _ ok2 (g1.trans g2) (Rp.tup (.inl (.inl upd_same)) (h2.reverse.mono g2.sm))
/-! ### built-ins by their names -/
theorem SRA.one {vs : List V} (r : SRA K Hf fp vs [x]) : ∃ v, vs = [v] ∧ SRl K Hf fp (some v) x := by
  cases r with
  | cons h t =>
    cases t
    exact ⟨_, rfl, h⟩
theorem SRA.two {vs : List V} (r : SRA K Hf fp vs [x, y]) : ∃ v u, vs = [v, u] ∧ SRl K Hf fp (some v) x ∧ SRl K Hf fp (some u) y := by
  cases r with
  | cons h t =>
    obtain ⟨u, rfl, h2⟩ := SRA.one t
    exact ⟨_, u, rfl, h, h2⟩
def rLen (K : PySem.W.Frag) : List V → Hp → VK → Prop := fun xs H Q => ∃ x n, xs = [x] ∧ LenV K x H n ∧ Q (.int n) H
def rAbs : List V → Hp → VK → Prop := fun xs H Q => ∃ i, xs = [.int i] ∧ Q (.int (if i < 0 then -i else i)) H
def rInt1 : List V → Hp → VK → Prop := fun xs H Q => (∃ i, xs = [.int i] ∧ Q (.int i) H) ∨ ∃ k, xs = [.bl k] ∧ Q (.int (if k then 1 else 0)) H
def rListOf (K : PySem.W.Frag) : List V → Hp → VK → Prop := fun xs H Q => ∃ p ys, xs = [.ref p] ∧ (SqL K H p ys ∨ SqT K H p ys) ∧ ∀ l, H l = none → Q (.ref l) (upd H l (.lst ys))
def rTupleOf (K : PySem.W.Frag) : List V → Hp → VK → Prop := fun xs H Q => ∃ p ys, xs = [.ref p] ∧ ((SqL K H p ys ∧ ∀ l, H l = none → Q (.ref l) (upd H l (.tup ys))) ∨ (SqT K H p ys ∧ Q (.ref p) H))
theorem rc_lenL (h : AsD S x (.list ds)) : Rc K (rLen K) [x] S (.dat (.int ds.length)) S := fun c Hf H σ fp ok vs r Q q => by
  obtain ⟨v, rfl, rv⟩ := r.one
  obtain ⟨a, xs, rfl, h1, h2⟩ := ok.asL rv h
  refine ⟨_, ds.length, rfl, .inl ⟨xs, .inl (.inl h1), h2.len.symm⟩, q _ _ _ _ ok Gr.refl (Rp.int _)⟩
theorem rc_lenT : Rc K (rLen K) [.dat (.tuple ds)] S (.dat (.int ds.length)) S := fun c Hf H σ fp ok vs r Q q => by
  obtain ⟨v, rfl, rv⟩ := r.one
  cases rv with
  | tup h1 h2 => exact ⟨_, ds.length, rfl, .inr ⟨_, sameT ok.hd.ex h1, h2.len.symm⟩, q _ _ _ _ ok Gr.refl (Rp.int _)⟩
theorem rc_lenScr {ns : List Int} : Rc K (rLen K) [.scr ns] S (.dat (.int ns.length)) S := fun c Hf H σ fp ok vs r Q q => by
  obtain ⟨v, rfl, a, rfl, h⟩ := r.one
  exact ⟨_, ns.length, rfl, .inl ⟨_, ok.hd.ex.seq h, by rw [List.length_map]⟩, q _ _ _ _ ok Gr.refl (Rp.int _)⟩
theorem rc_abs : Rc K rAbs [.dat (.int i)] S (.dat (.int (if i < 0 then -i else i))) S := fun c Hf H σ fp ok vs r Q q => by
  obtain ⟨v, rfl, rv⟩ := r.one
  cases rv
  exact ⟨i, rfl, q _ _ _ _ ok Gr.refl (Rp.int _)⟩
theorem rc_intI : Rc K rInt1 [.dat (.int i)] S (.dat (.int i)) S := fun c Hf H σ fp ok vs r Q q => by
  obtain ⟨v, rfl, rv⟩ := r.one
  cases rv
  exact .inl ⟨i, rfl, q _ _ _ _ ok Gr.refl (Rp.int _)⟩
theorem rc_intB {b : Bool} : Rc K rInt1 [.dat (.bool b)] S (.dat (.int (if b then 1 else 0))) S := fun c Hf H σ fp ok vs r Q q => by
  obtain ⟨v, rfl, rv⟩ := r.one
  cases rv
  exact .inr ⟨b, rfl, q _ _ _ _ ok Gr.refl (Rp.int _)⟩
theorem rcl_listL (h : AsD S x (.list ds)) : RcL K (rListOf K) [x] S ds S := fun c Hf H σ fp ok vs r Q q => by
  obtain ⟨v, rfl, rv⟩ := r.one
  obtain ⟨a, xs, rfl, h1, h2⟩ := ok.asL rv h
  refine ⟨a, xs, rfl, .inl (.inl (.inl h1)), fun p hp => ?_⟩
  obtain ⟨ok2, g2, al⟩ := ok.alone hp h2
  exact q p _ _ _ ok2 g2 hp al
theorem rcl_listT : RcL K (rListOf K) [.dat (.tuple ds)] S ds S := fun c Hf H σ fp ok vs r Q q => by
  obtain ⟨v, rfl, rv⟩ := r.one
  cases rv with
  | tup h1 h2 =>
    refine ⟨_, _, rfl, .inr (sameT ok.hd.ex h1), fun p hp => ?_⟩
    obtain ⟨ok2, g2, al⟩ := ok.alone hp h2
    exact q p _ _ _ ok2 g2 hp al
theorem rc_tupL (h : AsD S x (.list ds)) : Rc K (rTupleOf K) [x] S (.dat (.tuple ds)) S := fun c Hf H σ fp ok vs r Q q => by
  obtain ⟨v, rfl, rv⟩ := r.one
  obtain ⟨a, xs, rfl, h1, h2⟩ := ok.asL rv h
  refine ⟨a, xs, rfl, .inl ⟨.inl (.inl h1), fun p hp => ?_⟩⟩
  obtain ⟨ok2, g2⟩ := ok.laid (.tup _) hp
  exact q _ _ _ _ ok2 g2 (Rp.tup (.inl (.inl upd_same)) (h2.mono g2.sm))
theorem rc_tupT : Rc K (rTupleOf K) [.dat (.tuple ds)] S (.dat (.tuple ds)) S := fun c Hf H σ fp ok vs r Q q => by
  obtain ⟨v, rfl, rv⟩ := r.one
  cases rv with
  | tup h1 h2 => exact ⟨_, _, rfl, .inr ⟨sameT ok.hd.ex h1, q _ _ _ _ ok Gr.refl (Rp.tup h1 h2)⟩⟩
/-! ### isinstance -/
def tyD : PyData → String
  | .none => "NoneType"
  | .bool _ => "bool"
  | .int _ => "int"
  | .str _ => "str"
  | .list _ => "list"
  | .tuple _ => "tuple"
  | .dict _ => "dict"
theorem ee_ty {n : String} : ∀ c Hf H σ fp, Okk K c Hf H σ fp S → ∀ Q : VK, Q (.ty n) H → tC (.ty n) σ H Q := fun _ _ _ _ _ _ _ q => q
theorem ee_isi {n : String} {b : Bool} (h : Ee K te S (.dat d) S1) (hk : PySem.W.kitOne K (.type (tyD d)) (.type n) = some b) : Ee K (tCB (rIsi K) (tCons te (tCons (tC (.ty n)) tNil))) S (.dat (.bool b)) S1 := fun c Hf H σ fp ok Q q =>
  h c Hf H σ fp ok _ fun v Hf1 H1 fp1 ok1 g1 r1 => by
    have fin : ∀ {t : Value}, TyX K H1 v t → t = .type (tyD d) → rIsi K [v, .ty n] H1 Q := fun {t} ty e => ⟨v, .ty n, t, .type n, b, rfl, .ty n, ty, by rw [e]; exact hk, q _ _ _ _ ok1 g1 (Rp.bl _)⟩
    have r2 : Rp K H1 v d := Rp.mono ok1.hd.ex r1
    cases r2 with
    | non => exact fin (.base .non) rfl
    | bl b => exact fin (.base (.bl b)) rfl
    | int i => exact fin (.base (.int i)) rfl
    | str x => exact fin (.base (.str x)) rfl
    | lst h1 h2 => exact fin (.base (.lst h1)) rfl
    | emp h1 => exact fin (.base (.dK h1)) rfl
    | tup h1 h2 =>
      rcases h1 with (h1 | ⟨o, h1⟩) | ⟨o, its, n', h1, h3, _⟩
      · exact fin (.base (.tup h1)) rfl
      · exact fin (.fTuple h1) rfl
      · exact fin (.kTuple h1 h3) rfl
end
end DL

set_option maxRecDepth 100000
set_option maxHeartbeats 1000000
namespace DL
open PySem PySem.Spec PyProof.Rows L2

/-! ### repr of data -/
section
variable {X : Cx} {pins : List (Addr × Obj)} {σ : L2.St} {H : Hp} {s : Shared}
/-- data that stands in a heap is shown as its text; a dict is never the table of the modules -/
theorem shows_of (I : Inv X pins σ H s) : ∀ n : Nat,
    (∀ (d : PyData) (v : V) (u : Value), sizeOf d ≤ n → Rp X.K H v d → RelV v u → d.showable = true → d.shown.length ≤ sizeLine → ∃ as bs, Reads s.heap u d as ∧ ReadAtMost s.heap d.depth bs ∧ ReprK X.prog X.w bs s.heap d.depth u d.shown) ∧
    (∀ (ds : List PyData) (vs : List V) (us : List Value), sizeOf ds ≤ n → RpA X.K H vs ds → Vals vs us → PyData.showableAll ds = true → (∀ t ∈ PyData.shownAll ds, t.length ≤ sizeLine) →
      ∃ as bs, ReadsAll s.heap us ds as ∧ ReadAtMost s.heap (PyData.depthAll ds) bs ∧ ReprAllK X.prog X.w bs s.heap (PyData.depthAll ds) us (PyData.shownAll ds))
  | 0 => ⟨fun d v u hn => by cases d <;> simp at hn, fun ds vs us hn => by cases ds <;> simp at hn⟩
  | n + 1 => by
    obtain ⟨ih1, ih2⟩ := shows_of I n
    have no : ∀ k, ReadAtMost s.heap k [] := fun k b h => nomatch h
    refine ⟨fun d v u hn h r hs hz => ?_, fun ds vs us hn h r hs hz => ?_⟩
    · cases h with
      | non => cases (show u = Value.none from r); exact ⟨[], [], .none, no _, .of_is ReprIs.none _ _ _⟩
      | bl b => cases (show u = Value.bool b from r); exact ⟨[], [], .bool b, no _, .of_is (ReprIs.bool b) _ _ _⟩
      | int i => obtain ⟨t, q⟩ := (show ∃ t, u = Value.int i t from r); cases q; exact ⟨[], [], .int i t, no _, .of_is (ReprIs.int t (by simpa [PyData.showable] using hs)) _ _ _⟩
      | str x => obtain ⟨t, q⟩ := (show ∃ t, u = Value.str x t from r); cases q; exact ⟨[], [], .str x t, no _, .of_is (ReprIs.str x t (by simpa only [PyData.shown] using hz)) _ _ _⟩
      | @lst a xs ds h1 h2 =>
        cases (show u = Value.ref a from r)
        obtain ⟨_, its, m, rv, e⟩ := (show ObjOk X.prog X.w H s.heap a (.lst xs) from I.hok a _ h1)
        have hz2 : (listText (PyData.shownAll ds)).length ≤ sizeLine := by simpa only [PyData.shown] using hz
        obtain ⟨as, bs, r1, r2, r3⟩ := ih2 ds xs its (by simp at hn; omega) h2 rv (by simpa [PyData.showable] using hs) fun t ht => Nat.le_trans (listText_mem_le ht) hz2
        have rr : Reads s.heap (.ref a) (.list ds) (a :: as) := .list e rfl rfl (by simpa using r1)
        have out : a ∉ bs := not_mem_of_deeper rr (by rw [PyData.depth]; omega) r2
        refine ⟨_, a :: bs, rr, .cons rr (by rw [PyData.depth]; omega) r2, ?_⟩
        rw [PyData.depth, PyData.shown]
        cases its with
        | nil =>
          cases r3' : ds with
          | nil =>
            rw [PyData.shownAll, listText_nil]
            exact ReprK.listEmpty e rfl rfl
          | cons y ys =>
            rw [r3'] at r1
            cases r1
        | cons y ys => exact ReprK.list e rfl rfl out (by simpa using r3.length_eq) fun i z q => r3.item i z (by simpa using q)
      | @tup a xs ds h1 h2 =>
        cases (show u = Value.ref a from r)
        obtain ⟨its, rv, p, _⟩ := I.tuple h1
        obtain ⟨o, e, c, m, dd⟩ := p
        have hz2 : (tupleText (PyData.shownAll ds)).length ≤ sizeLine := by simpa only [PyData.shown] using hz
        obtain ⟨as, bs, r1, r2, r3⟩ := ih2 ds xs its (by simp at hn; omega) h2 rv (by simpa [PyData.showable] using hs) fun t ht => Nat.le_trans (tupleText_mem_le ht) hz2
        have rr : Reads s.heap (.ref a) (.tuple ds) as := .tuple e c dd (by simpa using r1)
        have out : a ∉ bs := not_mem_of_deeper rr (by rw [PyData.depth]; omega) r2
        refine ⟨_, a :: bs, rr, .cons rr (by rw [PyData.depth]; omega) r2, ?_⟩
        rw [PyData.depth, PyData.shown]
        exact ReprK.tuple e c dd out (by simpa using r3)
      | @emp a h1 =>
        cases (show u = Value.ref a from r)
        obtain ⟨_, hm, vs, kv, o, es, ep, e, ex, q⟩ := (show ObjOk X.prog X.w H s.heap a (.dK []) from I.hok a _ h1)
        cases kv
        obtain ⟨q1, q2, q3, q4⟩ := q
        have he : es.toList = [] := by
          cases hl : es.toList with
          | nil => rfl
          | cons y ys =>
            rw [hl] at q3
            cases q3
        have rr : Reads s.heap (.ref a) (.dict []) [a] := .dict (es := es) (n := ep) (as := []) (bs := []) e ex.1 q1 (by
          rw [he]
          exact .nil) (by
          rw [he]
          exact .nil)
        refine ⟨_, [a], rr, .cons (bs := []) rr (by rw [PyData.depth]; omega) (no 0), ?_⟩
        refine ReprK.dict (as := []) e ex.1 q1 hm (by simp) ?_
        rw [he]
        exact .nil
    · cases h with
      | nil => cases r; exact ⟨[], [], .nil, no _, .nil⟩
      | cons h t => cases r with
        | cons r1 r2 =>
          simp at hn
          rw [PyData.showableAll, Bool.and_eq_true] at hs
          rw [PyData.shownAll] at hz
          obtain ⟨as, cs, a1, a2, a3⟩ := ih1 _ _ _ (by omega) h r1 hs.1 (hz _ List.mem_cons_self)
          obtain ⟨bs, ds, b1, b2, b3⟩ := ih2 _ _ _ (by omega) t r2 hs.2 fun y hy => hz y (List.mem_cons_of_mem _ hy)
          refine ⟨as ++ bs, cs ++ ds, .cons a1 b1, ?_, ?_⟩
          · rw [PyData.depthAll]
            exact (a2.mono (Nat.le_max_left _ _)).append (b2.mono (Nat.le_max_right _ _))
          · rw [PyData.depthAll, PyData.shownAll]
            exact .cons ((a3.more fun _ m => List.mem_append_left _ m).level_le (Nat.le_max_left _ _)) (b3.more_le (fun _ m => List.mem_append_right _ m) (Nat.le_max_right _ _))
def rRepr (K : PySem.W.Frag) : List V → Hp → VK → Prop := fun xs H Q => ∃ v d, xs = [v] ∧ Rp K H v d ∧ d.showable = true ∧ d.depth ≤ 64 ∧ d.shown.length ≤ sizeLine ∧ Q (.str d.shown) H
theorem call_reprD (gd : X.A.guards = some []) (hu : X.A.units + 100 < cLine) : CallR X (.builtin "repr") (rRepr X.K) := by
  intro pins s σ H xs us Q I r h
  obtain ⟨v, d, rfl, rp, hs, hd, hz, q⟩ := h
  obtain ⟨u, rfl, ru⟩ := vals1 r
  have fin : ∀ t : Nat, EP X pins σ Q (.str d.shown t) { s with toks := s.toks + 1 } := fun t => ⟨.str d.shown, H, I.tok _, ⟨t, rfl⟩, q⟩
  have fin2 : ∀ (h' : Heap) (u t : Nat), (∀ b o, s.heap.get? b = some o → h'.get? b = some o) → EP X pins σ Q (.str d.shown u) { s with heap := h', toks := t } := fun h' u t hk => ⟨.str d.shown, H, I.kept hk, ⟨u, rfl⟩, q⟩
  have self : ∀ b o, s.heap.get? b = some o → s.heap.get? b = some o := fun _ _ e => e
  cases rp with
  | non =>
    cases (show u = Value.none from ru)
    exact PySem.P.repr_of_none (by simpa only [PyData.shown] using fin _)
  | bl b =>
    cases (show u = Value.bool b from ru)
    exact PySem.P.repr_of_bool (by simpa only [PyData.shown] using fin _)
  | int i =>
    obtain ⟨t, e⟩ := (show ∃ t, u = Value.int i t from ru)
    subst e
    exact PySem.P.repr_of_int (by simpa [PyData.showable] using hs) (by simpa only [PyData.shown] using fin _)
  | str x =>
    obtain ⟨t, e⟩ := (show ∃ t, u = Value.str x t from ru)
    subst e
    exact PySem.P.repr_of_str (by simpa only [PyData.shown] using fin _) (by simpa only [PyData.shown] using hz)
  | @lst a xs ds h1 h2 =>
    cases (show u = Value.ref a from ru)
    obtain ⟨_, its, m, rv, e⟩ := (show ObjOk X.prog X.w H s.heap a (.lst xs) from I.hok a _ h1)
    have hz2 : (listText (PyData.shownAll ds)).length ≤ sizeLine := by simpa only [PyData.shown] using hz
    obtain ⟨as, bs, r1, r2, r3⟩ := (shows_of I _).2 ds xs its (Nat.le_refl _) h2 rv (by simpa [PyData.showable] using hs) fun t ht => Nat.le_trans (listText_mem_le ht) hz2
    have rr : Reads s.heap (.ref a) (.list ds) (a :: as) := .list e rfl rfl (by simpa using r1)
    have out : a ∉ bs := not_mem_of_deeper rr (by rw [PyData.depth]; omega) r2
    rw [PyData.shown] at fin2
    rw [PyData.depth] at hd
    refine call_repr_slot (by omega) ⟨_, e, rfl⟩ F.slot_list_repr.toG ?_
    cases its with
    | nil =>
      cases r3' : ds with
      | nil =>
        rw [r3', PyData.shownAll, listText_nil] at fin2
        exact call_list_repr_empty ⟨_, e, rfl⟩ e rfl ⟨_, _, rfl, fin2 s.heap _ _ self⟩
      | cons y ys =>
        rw [r3'] at r1
        cases r1
    | cons y ys => exact call_list_reprK e rfl rfl out (by simpa using r3.length_eq) (fun i z q => r3.item i z (by simpa using q)) gd (fun b _ => Clear.nil b) (by show X.A.units + 1 + _ < cLine; omega) self (fun h' u t hk => ⟨_, _, rfl, fin2 h' u t hk⟩) hz2
  | @tup a xs ds h1 h2 =>
    cases (show u = Value.ref a from ru)
    obtain ⟨its, rv, p, _⟩ := I.tuple h1
    obtain ⟨o, e, c, m, dd⟩ := p
    have hz2 : (tupleText (PyData.shownAll ds)).length ≤ sizeLine := by simpa only [PyData.shown] using hz
    obtain ⟨as, bs, r1, r2, r3⟩ := (shows_of I _).2 ds xs its (Nat.le_refl _) h2 rv (by simpa [PyData.showable] using hs) fun t ht => Nat.le_trans (tupleText_mem_le ht) hz2
    have rr : Reads s.heap (.ref a) (.tuple ds) as := .tuple e c dd (by simpa using r1)
    have out : a ∉ bs := not_mem_of_deeper rr (by rw [PyData.depth]; omega) r2
    rw [PyData.shown] at fin2
    rw [PyData.depth] at hd
    refine call_repr_slot (by omega) ⟨o, e, c⟩ F.slot_tuple_repr ?_
    exact call_tuple_reprK e c dd out (by simpa using r3) gd (fun b _ => Clear.nil b) (by show X.A.units + 1 + _ < cLine; omega) self (fun h' u t hk => ⟨_, _, rfl, fin2 h' u t hk⟩) hz2
  | @emp a h1 =>
    cases (show u = Value.ref a from ru)
    obtain ⟨_, hm, vs, kv, o, es, ep, e, ex, q'⟩ := (show ObjOk X.prog X.w H s.heap a (.dK []) from I.hok a _ h1)
    cases kv
    obtain ⟨q1, q2, q3, q4⟩ := q'
    have he : es.toList = [] := by
      cases hl : es.toList with
      | nil => rfl
      | cons y ys =>
        rw [hl] at q3
        cases q3
    refine call_repr_slot (by omega) ⟨o, e, ex.1⟩ F.slot_dict_repr ?_
    refine call_dict_reprK (as := []) (d := 0) (ps := []) e ex.1 q1 hm (by simp) (by rw [he]; exact .nil) gd (fun b _ => Clear.nil b) (by show X.A.units + 1 + _ < cLine; omega) self (fun h' u t hk => ⟨_, _, rfl, fin2 h' u t hk⟩) (by decide)
end

section
variable {K : PySem.W.Frag} {S S0 S1 S2 S3 : SS} {ta tb te : TE} {x y z : SD} {d e : PyData} {i j : Int} {ds es : List PyData} {k : Nat}
variable {c : Addr → Prop} {Hf H : Hp} {σ : L2.St} {fp : List (List Addr)}
theorem rc_repr (hs : d.showable = true) (hd : d.depth ≤ 64) (hz : d.shown.length ≤ sizeLine) : Rc K (rRepr K) [.dat d] S (.dat (.str d.shown)) S := fun c Hf H σ fp ok vs r Q q => by
  obtain ⟨v, rfl, rv⟩ := r.one
  exact ⟨v, d, rfl, Rp.mono ok.hd.ex rv, hs, hd, hz, q _ _ _ _ ok Gr.refl (Rp.str _)⟩
/-! ### an own list changes -/
theorem Okk.setL (ok : Okk K c Hf H σ fp S) (ho : S.ob[k]? = some (.lst ds)) {v : V} (r : SRl K Hf fp (some v) (.own k)) :
    ∃ a xs, v = .ref a ∧ H a = some (.lst xs) ∧ RpA K Hf xs ds ∧ ∀ zs es, RpA K Hf zs es → Okk K c Hf (upd H a (.lst zs)) σ fp { S with ob := S.ob.set k (.lst es) } ∧ Gr Hf H fp Hf (upd H a (.lst zs)) fp := by
  obtain ⟨a, xs, rfl, h1, h2, h3⟩ := ok.obL ho r
  refine ⟨a, xs, rfl, h2, h3, fun zs es rz => ?_⟩
  obtain ⟨hd, g⟩ := ok.hd.put (o' := .lst es) (H' := upd H a (.lst zs)) h1 ho (by intro z; cases z) (fun b hb => upd_ne (by simpa using hb)) ⟨a, zs, rfl, upd_same, rz⟩ (fun b hb => by
    have e : b = a := by simpa using hb
    rw [e]
    exact ⟨_, upd_same⟩) (fun _ _ => ⟨ds, rfl⟩)
  exact ⟨⟨hd, ok.ln, ok.sr⟩, g⟩
/-- xs.append(e) -/
theorem ee_append (hl : Ee K ta S (.own k) S1) (he : Ee K te S1 (.dat d) S2) (ho1 : ∃ ds1, S1.ob[k]? = some (.lst ds1)) (ho : S2.ob[k]? = some (.lst ds)) (hz : ds.length < 1000000) :
    Ee K (tBM K "list" rAppend ta (tCons te tNil)) S (.dat .none) { S2 with ob := S2.ob.set k (.lst (ds ++ [d])) } := fun c Hf H σ fp ok Q q =>
  hl c Hf H σ fp ok _ fun v Hf1 H1 fp1 ok1 g1 r1 => by
    obtain ⟨ds1, ho1⟩ := ho1
    obtain ⟨a, xs, rfl, h1, h2, h3⟩ := ok1.obL ho1 r1
    refine ⟨.inl ⟨rfl, xs, .inl (.inl h2)⟩, he c Hf1 H1 σ fp1 ok1 _ fun u Hf2 H2 fp2 ok2 g2 r2 => ?_⟩
    obtain ⟨b, zs, e, k1, k2, k3⟩ := ok2.setL ho (r1.mono g2.sm g2.pr)
    cases e
    obtain ⟨ok3, g3⟩ := k3 (zs ++ [u]) (ds ++ [d]) (k2.append (.cons r2 .nil))
    refine ⟨_, zs, u, rfl, rfl, k1, ?_, q _ _ _ _ ok3 ((g1.trans g2).trans g3) Rp.non⟩
    rw [k2.len]
    exact Nat.lt_of_lt_of_le hz (by decide)
/-- xs.extend(ys), ys a list -/
theorem ee_extend (hl : Ee K ta S (.own k) S1) (he : Ee K te S1 x S2) (hx : AsD S2 x (.list es)) (ho1 : ∃ ds1, S1.ob[k]? = some (.lst ds1)) (ho : S2.ob[k]? = some (.lst ds)) (hz : ds.length + es.length ≤ 1000000) :
    Ee K (tBM K "list" rExtend ta (tCons te tNil)) S (.dat .none) { S2 with ob := S2.ob.set k (.lst (ds ++ es)) } := fun c Hf H σ fp ok Q q =>
  hl c Hf H σ fp ok _ fun v Hf1 H1 fp1 ok1 g1 r1 => by
    obtain ⟨ds1, ho1⟩ := ho1
    obtain ⟨a, xs, rfl, h1, h2, h3⟩ := ok1.obL ho1 r1
    refine ⟨.inl ⟨rfl, xs, .inl (.inl h2)⟩, he c Hf1 H1 σ fp1 ok1 _ fun u Hf2 H2 fp2 ok2 g2 r2 => ?_⟩
    obtain ⟨b, zs, e, k1, k2, k3⟩ := ok2.setL ho (r1.mono g2.sm g2.pr)
    cases e
    obtain ⟨p, ws, rfl, w1, w2⟩ := ok2.asL r2 hx
    obtain ⟨ok3, g3⟩ := k3 (zs ++ ws) (ds ++ es) (k2.append w2)
    refine ⟨_, p, zs, ws, rfl, rfl, k1, w1, ?_, q _ _ _ _ ok3 ((g1.trans g2).trans g3) Rp.non⟩
    rw [k2.len, w2.len]
    exact Nat.le_trans hz (by decide)
/-- xs.pop() -/
theorem ee_pop (hl : Ee K ta S (.own k) S1) (ho : S1.ob[k]? = some (.lst (ds ++ [d]))) : Ee K (tBM0 K "list" rPop ta) S (.dat d) { S1 with ob := S1.ob.set k (.lst ds) } := fun c Hf H σ fp ok Q q =>
  hl c Hf H σ fp ok _ fun v Hf1 H1 fp1 ok1 g1 r1 => by
    obtain ⟨b, zs, e, k1, k2, k3⟩ := ok1.setL ho r1
    cases e
    have hl := k2.len
    rw [List.length_append, List.length_singleton] at hl
    obtain ⟨w, w1, w2⟩ := k2.get (i := zs.length - 1) (d := d) (by rw [hl, Nat.add_sub_cancel, List.getElem?_concat_length])
    have k4 : RpA K Hf1 zs.dropLast ds := by
      have := k2.take ds.length
      rw [List.take_left] at this
      rw [List.dropLast_eq_take, hl, Nat.add_sub_cancel]
      exact this
    obtain ⟨ok3, g3⟩ := k3 _ _ k4
    exact ⟨.inl ⟨rfl, zs, .inl (.inl k1)⟩, _, zs, w, rfl, rfl, k1, w1, q _ _ _ _ ok3 (g1.trans g3) w2⟩
end

/-! ### calls: what a def promises, over data -/
/-- a def: from what its arguments and the objects handed in are known to be, what it gives and leaves -/
abbrev FR := List SD → List OO → SD → List OO → Prop
/-- the objects that a caller has, others of them handed in: none is taken for unchanging -/
def prot (Hf H : Hp) : Addr → Prop := fun a => Hf a = none ∧ ∃ o, H a = some o
/-- a result: no list of own lists leaves a def -/
def nol : SD → SD
  | .lown _ => .un
  | x => x
theorem srl_nol {K : PySem.W.Frag} {Hf : Hp} {fp : List (List Addr)} {v : V} {r : SD} (h : SRl K Hf fp (some v) r) : SRl K Hf fp (some v) (nol r) := by
  cases r <;> first | exact h | trivial
def spD (K : PySem.W.Frag) (np : Nat) (R : FR) : Sp := fun vs H Q _ => vs.length = np ∧ ∃ Hf fp as ob r ob', Hd K (prot Hf H) Hf H fp ob ∧ (∀ o ∈ ob, ∀ ds, o ≠ .lst ds) ∧ SRA K Hf fp vs as ∧ R as ob r ob' ∧
  ∀ v Hf' H' fp', Hd K (prot Hf H) Hf' H' fp' ob' → Gr Hf H fp Hf' H' fp' → SRl K Hf' fp' (some v) (nol r) → Q v H'
/-- the state of a def's frame at its entry -/
def entry (n : Nat) (as : List SD) (ob : List OO) : SS := ⟨as ++ List.replicate (n - as.length) .un, ob⟩
section
variable {K : PySem.W.Frag} {S S0 S1 S2 S3 : SS} {x y z : SD} {ob ob' : List OO} {as : List SD} {R : FR} {r : SD}
variable {c : Addr → Prop} {Hf H : Hp} {σ : L2.St} {fp : List (List Addr)}
theorem SRA.get {vs : List V} : ∀ {as : List SD} {i : Nat} {d : SD}, SRA K Hf fp vs as → as[i]? = some d → ∃ v, vs[i]? = some v ∧ SRl K Hf fp (some v) d := by
  induction vs with
  | nil => intro as i d h e; cases h; simp at e
  | cons v vs ih =>
    intro as i d h e
    cases h with
    | cons h t => cases i with
      | zero =>
        simp at e
        subst e
        exact ⟨v, rfl, h⟩
      | succ i =>
        obtain ⟨u, h1, h2⟩ := ih t (by simpa using e)
        exact ⟨u, by simpa using h1, h2⟩
/-- a def's body, over data -/
theorem body_of {N : List Str} {np : Nat} {ts : TS} {vs : List V} {Q : VK} {E : XK} (h : spD K np R vs H Q E) (hN : np ≤ N.length)
    (hb : ∀ as ob r ob', R as ob r ob' → as.length = np → Ts K ts (entry N.length as ob) { nx := fun S' => r = .dat .none ∧ S'.ob = ob', rt := fun x S' => x = r ∧ S'.ob = ob' }) : ts { nx := fun _ H' => Q .non H', rt := Q } (L2.start N vs) H := by
  obtain ⟨hl, Hf, fp, as, ob, r, ob', hd, hno, sr, hR, k⟩ := h
  have la : as.length = np := by
    rw [← hl]
    exact (Paired.length sr).symm
  have ok : Okk K (prot Hf H) Hf H (L2.start N vs) fp (entry N.length as ob) := by
    refine ⟨hd, ?_, fun i d e => ?_⟩
    · unfold L2.start entry
      simp only [List.length_append, List.length_map, List.length_replicate]
      omega
    · unfold entry at e
      by_cases hi : i < as.length
      · rw [List.getElem?_append_left hi] at e
        obtain ⟨v, h1, h2⟩ := sr.get e
        refine ⟨some v, ?_, h2⟩
        unfold L2.start
        rw [List.getElem?_append_left (by rw [List.length_map]; omega), List.getElem?_map, h1]
        rfl
      · rw [List.getElem?_append_right (by omega), List.getElem?_replicate] at e
        split at e
        · rename_i hlt
          obtain rfl := Option.some.inj e
          refine ⟨none, ?_, trivial⟩
          unfold L2.start
          rw [List.getElem?_append_right (by rw [List.length_map]; omega), List.getElem?_replicate, if_pos (by rw [List.length_map]; omega)]
        · cases e
  refine hb as ob r ob' hR la _ Hf H _ fp ok _ (fun S' Hf' H' σ' fp' ok' g e => ?_) (fun x S' v Hf' H' σ' fp' ok' g rv e => ?_) (fun _ _ _ _ _ _ _ z => z.elim) fun _ _ _ _ _ _ _ z => z.elim
  · obtain ⟨rfl, rfl⟩ := e
    exact k .non Hf' H' fp' ok'.hd g Rp.non
  · obtain ⟨rfl, rfl⟩ := e
    exact k v Hf' H' fp' ok'.hd g (srl_nol rv)
/-- an object of a callee's, as its caller counts them -/
def shR (n : Nat) : SD → SD
  | .own i => .own (n + i)
  | .lown _ => .un
  | x => x
theorem srl_nil {v : V} {d : PyData} (h : SRl K Hf fp (some v) (.dat d)) : SRl K Hf [] (some v) (.dat d) := h
theorem sra_nil : ∀ {vs : List V} {ds : List PyData}, SRA K Hf fp vs (ds.map SD.dat) → SRA K Hf [] vs (ds.map SD.dat)
  | _, [], .nil => .nil
  | _, _ :: _, .cons h t => .cons h (sra_nil t)
/-- args that are data, or the script -/
def Plain : SD → Prop
  | .dat _ => True
  | .scr _ => True
  | .tx _ => True
  | _ => False
theorem sra_plain : ∀ {as : List SD} {vs : List V} {fp' : List (List Addr)}, (∀ a ∈ as, Plain a) → SRA K Hf fp vs as → SRA K Hf fp' vs as
  | [], _, _, _, .nil => .nil
  | a :: as, _, fp', hp, .cons h t => .cons (by
      have := hp a List.mem_cons_self
      cases a with
      | dat d => exact h
      | scr ns => exact h
      | rng _ _ => exact this.elim
      | lown _ => exact this.elim
      | tx _ => exact h
      | tq _ _ _ => exact this.elim
      | no => exact this.elim
      | own k => exact this.elim
      | un => exact this.elim) (sra_plain (fun b hb => hp b (List.mem_cons_of_mem _ hb)) t)
theorem Hd.join {Hf' H' : Hp} {fpn : List (List Addr)} (h : Hd K c Hf H fp ob) (h2 : Hd K (prot Hf H) Hf' H' fpn ob') (g : Gr Hf H [] Hf' H' fpn) : Hd K c Hf' H' (fp ++ fpn) (ob ++ ob') ∧ Gr Hf H fp Hf' H' (fp ++ fpn) := by
  have cut : ∀ {α : Type} (l m : List α) (y : α) (k : Nat), (l ++ m)[k]? = some y → (k < l.length ∧ l[k]? = some y) ∨ (l.length ≤ k ∧ m[k - l.length]? = some y) := fun l m y k e => by
    by_cases hk : k < l.length
    · rw [List.getElem?_append_left hk] at e
      exact .inl ⟨hk, e⟩
    · rw [List.getElem?_append_right (by omega)] at e
      exact .inr ⟨by omega, e⟩
  have same : ∀ a ∈ fp.flatten, H' a = H a := fun a ha => by
    obtain ⟨o, e⟩ := h.al a ha
    rw [e]
    exact g.fr a o e (by simp)
  have new : ∀ a ∈ fpn.flatten, H a = none := fun a ha => (g.nw a ha).elim (fun z => by simp at z) id
  have pr : ∀ a, c a → prot Hf H a := fun a z => h.pt a z
  refine ⟨⟨h2.ex, by rw [List.length_append, List.length_append, h.fl, h2.fl], fun k a o e1 e2 => ?_, ?_, fun a ha => ?_, fun k p o e1 e2 hx a ha => ?_, fun a z => h2.pt a (pr a z), fun k p ds e1 e2 a ha z => ?_⟩, g.sm, List.prefix_append _ _, fun a o e _ => g.fr a o e (by simp), fun a ha => ?_, g.th⟩
  · rcases cut _ _ _ _ e1 with ⟨l1, e1⟩ | ⟨l1, e1⟩
    · rcases cut _ _ _ _ e2 with ⟨l2, e2⟩ | ⟨l2, e2⟩
      · exact (h.oo k a o e1 e2).mono g.sm fun b hb => same b (mem_fl e1 hb)
      · have := h.fl
        omega
    · rcases cut _ _ _ _ e2 with ⟨l2, e2⟩ | ⟨l2, e2⟩
      · have := h.fl
        omega
      · rw [← h.fl] at e2
        exact h2.oo _ a o e1 e2
  · rw [List.flatten_append, List.nodup_append]
    refine ⟨h.nd, h2.nd, fun a ha b hb e => ?_⟩
    subst e
    obtain ⟨o, q⟩ := h.al a ha
    rw [new a hb] at q
    cases q
  · rw [List.flatten_append, List.mem_append] at ha
    rcases ha with ha | ha
    · obtain ⟨o, e⟩ := h.al a ha
      exact ⟨o, by rw [same a ha]; exact e⟩
    · exact h2.al a ha
  · rcases cut _ _ _ _ e1 with ⟨l1, e1⟩ | ⟨l1, e1⟩
    · rcases cut _ _ _ _ e2 with ⟨l2, e2⟩ | ⟨l2, e2⟩
      · exact (h2.pt a ⟨h.nf k p o e1 e2 hx a ha, h.al a (mem_fl e1 ha)⟩).1
      · have := h.fl
        omega
    · rcases cut _ _ _ _ e2 with ⟨l2, e2⟩ | ⟨l2, e2⟩
      · have := h.fl
        omega
      · rw [← h.fl] at e2
        exact h2.nf _ p o e1 e2 hx a ha
  · rcases cut _ _ _ _ e1 with ⟨l1, e1⟩ | ⟨l1, e1⟩
    · rcases cut _ _ _ _ e2 with ⟨l2, e2⟩ | ⟨l2, e2⟩
      · exact h.np k p ds e1 e2 a ha z
      · have := h.fl
        omega
    · rcases cut _ _ _ _ e2 with ⟨l2, e2⟩ | ⟨l2, e2⟩
      · have := h.fl
        omega
      · rw [← h.fl] at e2
        exact h2.np _ p ds e1 e2 a ha (pr a z)
  · rw [List.flatten_append, List.mem_append] at ha
    exact ha.elim .inl fun z => .inr (new a z)
/-- a call to which no own object is handed in -/
theorem sp_call0 {np : Nat} {E : XK} {vs : List V} (ok : Okk K c Hf H σ fp S) (sr : SRA K Hf fp vs as) (hp : ∀ a ∈ as, Plain a) (hl : as.length = np) (hR : R as [] r ob') {Q : VK}
    (k : ∀ v Hf' H' fp', Okk K c Hf' H' σ fp' { S with ob := S.ob ++ ob' } → Gr Hf H fp Hf' H' fp' → SRl K Hf' fp' (some v) (shR S.ob.length r) → Q v H') : spD K np R vs H Q E := by
  refine ⟨by rw [Paired.length sr]; exact hl, Hf, [], as, [], r, ob', ⟨ok.hd.ex, rfl, fun k a o e => by simp at e, by simp, fun a h => by simp at h, fun k p o e => by simp at e, fun a z => z, fun k p ds e => by simp at e⟩, fun o h => by simp at h, sra_plain hp sr, hR, fun v Hf2 H2 fp2 hd2 g2 rv => ?_⟩
  obtain ⟨hd, g⟩ := ok.hd.join hd2 g2
  refine k v Hf2 H2 (fp ++ fp2) ⟨hd, ok.ln, fun i d e => ?_⟩ g ?_
  · obtain ⟨x, h1, h2⟩ := ok.sr i d e
    exact ⟨x, h1, h2.mono g.sm g.pr⟩
  · cases r with
    | un => trivial
    | dat d => exact rv
    | scr ns => exact rv
    | rng _ _ => exact rv
    | lown _ => trivial
    | tx _ => exact rv
    | tq _ _ _ => exact rv
    | no => exact rv
    | own i =>
      obtain ⟨a, p, h1, h2⟩ := rv
      refine ⟨a, p, ?_, h2⟩
      rw [List.getElem?_append_right (by rw [ok.hd.fl]; omega), ok.hd.fl, Nat.add_sub_cancel_left]
      exact h1
/-- a call to which the k-th own object is handed in -/
def atK (k : Nat) : SD → SD
  | .own _ => .own k
  | .lown _ => .no
  | x => x
def atR (k : Nat) : SD → SD
  | .own _ => .own k
  | .lown _ => .un
  | x => x
theorem sra_one {k : Nat} {p : List Addr} (hk : fp[k]? = some p) : ∀ {as : List SD} {vs : List V}, (∀ a ∈ as, ∀ j, a = .own j → j = 0) → SRA K Hf fp vs (as.map (atK k)) → SRA K Hf [p] vs as
  | [], _, _, .nil => .nil
  | a :: as, _, h0, .cons h t => .cons (by
      cases a with
      | dat d => exact h
      | scr ns => exact h
      | rng _ _ => exact h
      | lown _ => exact False.elim h
      | tx _ => exact h
      | tq _ _ _ => exact h
      | no => exact h
      | un => trivial
      | own j =>
        have e := h0 _ List.mem_cons_self j rfl
        subst e
        obtain ⟨b, q, h1, h2⟩ := h
        rw [hk] at h1
        exact ⟨b, q, h1, h2⟩) (sra_one hk (fun b hb => h0 b (List.mem_cons_of_mem _ hb)) t)
theorem sp_call1 {np k : Nat} {E : XK} {vs : List V} {o o' : OO} (ok : Okk K c Hf H σ fp S) (sr : SRA K Hf fp vs (as.map (atK k))) (h0 : ∀ a ∈ as, ∀ j, a = .own j → j = 0) (hl : as.length = np) (ho : S.ob[k]? = some o) (hg : o ≠ .gone) (hn : ∀ ds, o ≠ .lst ds) (hR : R as [o] r [o']) {Q : VK}
    (kq : ∀ v Hf' H' fp', Okk K c Hf' H' σ fp' { S with ob := S.ob.set k o' } → Gr Hf H fp Hf' H' fp' → SRl K Hf' fp' (some v) (atR k r) → Q v H') : spD K np R vs H Q E := by
  obtain ⟨p, hk⟩ : ∃ p, fp[k]? = some p := ⟨_, List.getElem?_eq_getElem (by rw [ok.hd.fl]; exact (List.getElem?_eq_some_iff.mp ho).1)⟩
  have mp : ∀ a ∈ p, a ∈ fp.flatten := fun a ha => mem_fl hk ha
  have one : ∀ {j : Nat} {α : Type} {x y : α}, [x][j]? = some y → j = 0 ∧ y = x := fun {j α x y} e => by
    cases j with
    | zero => exact ⟨rfl, (Option.some.inj e).symm⟩
    | succ j => simp at e
  have ndp : p.Nodup := (List.pairwise_flatten.mp ok.hd.nd).1 p (List.mem_of_getElem? hk)
  have prp : ∀ a ∈ p, prot Hf H a := fun a ha => ⟨ok.hd.nf k p o hk ho hg a ha, ok.hd.al a (mp a ha)⟩
  refine ⟨by rw [Paired.length sr, List.length_map]; exact hl, Hf, [p], as, [o], r, [o'], ⟨ok.hd.ex, rfl, fun j a u e1 e2 => ?_, by simpa using ndp, fun a h => ok.hd.al a (mp a (by simpa using h)), fun j q u e1 e2 hx a ha => ?_, fun a z => z, fun j q ds e1 e2 => ?_⟩, fun u hu ds => ?_, sra_one hk h0 sr, hR, fun v Hf2 H2 fp2 hd2 g2 rv => ?_⟩
  · obtain ⟨rfl, rfl⟩ := one e1
    obtain ⟨_, rfl⟩ := one e2
    exact ok.hd.oo k _ _ hk ho
  · obtain ⟨rfl, rfl⟩ := one e1
    exact (prp a ha).1
  · obtain ⟨_, e⟩ := one e2
    exact absurd e.symm (hn ds)
  · rw [List.mem_singleton.mp hu]
    exact hn ds
  · have f2 : fp2 = [p] := by
      obtain ⟨t, rfl⟩ := g2.pr
      have := hd2.fl
      simp at this
      rw [this]
      rfl
    subst f2
    have off : ∀ {j : Nat} {q : List Addr}, fp[j]? = some q → j ≠ k → ∀ b ∈ q, H2 b = H b := fun {j q} e hj b hb => by
      obtain ⟨u, e'⟩ := ok.hd.al b (mem_fl e hb)
      rw [e']
      refine g2.fr b u e' fun m => hj (nodup_fl ok.hd.nd e hk hb (by simpa using m))
    have hlt : k < S.ob.length := (List.getElem?_eq_some_iff.mp ho).1
    have hd : Hd K c Hf2 H2 fp (S.ob.set k o') := by
      refine ⟨hd2.ex, by rw [List.length_set]; exact ok.hd.fl, fun j q u e1 e2 => ?_, ok.hd.nd, fun a ha => ?_, fun j q u e1 e2 hx a ha => ?_, fun a z => hd2.pt a (ok.hd.pt a z), fun j q ds e1 e2 a ha z => ?_⟩
      · by_cases hj : j = k
        · subst hj
          rw [hk] at e1
          obtain rfl := Option.some.inj e1
          rw [List.getElem?_set_self hlt] at e2
          obtain rfl := Option.some.inj e2
          exact hd2.oo 0 _ _ rfl rfl
        · rw [List.getElem?_set_ne (Ne.symm hj)] at e2
          exact (ok.hd.oo j q u e1 e2).mono g2.sm (off e1 hj)
      · obtain ⟨u, e⟩ := ok.hd.al a ha
        exact g2.th a u e
      · by_cases hj : j = k
        · subst hj
          rw [hk] at e1
          obtain rfl := Option.some.inj e1
          exact (hd2.pt a (prp a ha)).1
        · rw [List.getElem?_set_ne (Ne.symm hj)] at e2
          exact (hd2.pt a ⟨ok.hd.nf j q u e1 e2 hx a ha, ok.hd.al a (mem_fl e1 ha)⟩).1
      · by_cases hj : j = k
        · subst hj
          rw [hk] at e1
          obtain rfl := Option.some.inj e1
          rw [List.getElem?_set_self hlt] at e2
          obtain rfl := Option.some.inj e2
          exact hd2.np 0 p ds rfl rfl a ha (prp a ha)
        · rw [List.getElem?_set_ne (Ne.symm hj)] at e2
          exact ok.hd.np j q ds e1 e2 a ha z
    have g : Gr Hf H fp Hf2 H2 fp := ⟨g2.sm, List.prefix_rfl, fun a u e n => g2.fr a u e fun m => n (mp a (by simpa using m)), fun a m => .inl m, g2.th⟩
    refine kq v Hf2 H2 fp ⟨hd, ok.ln, fun i d e => ?_⟩ g ?_
    · obtain ⟨x, h1, h2⟩ := ok.sr i d e
      exact ⟨x, h1, h2.mono g.sm g.pr⟩
    · cases r with
      | un => trivial
      | dat d => exact rv
      | scr ns => exact rv
      | rng _ _ => exact rv
      | lown _ => trivial
      | tx _ => exact rv
      | tq _ _ _ => exact rv
      | no => exact rv
      | own i =>
        obtain ⟨a, q, h1, h2⟩ := rv
        obtain ⟨_, e⟩ := one h1
        exact ⟨a, q, by rw [hk, e], h2⟩
theorem ee_call0 {np : Nat} {E : XK} {ta : TA} (ha : Ea K ta S as S1) (hp : ∀ a ∈ as, Plain a) (hl : as.length = np) (hR : R as [] r ob') : Ee K (tCall (spD K np R) [] E ta) S (shR S1.ob.length r) { S1 with ob := S1.ob ++ ob' } := fun c Hf H σ fp ok Q q =>
  ha c Hf H σ fp ok _ fun vs Hf1 H1 fp1 ok1 g1 sr => by
    rw [List.append_nil]
    exact sp_call0 ok1 sr hp hl hR fun v Hf' H' fp' ok' g' rv => q v Hf' H' fp' ok' (g1.trans g') rv
/-- a call of data alone, that gives data -/
theorem ee_callD {np : Nat} {E : XK} {ta : TA} {ds : List PyData} {d : PyData} (ha : Ed K ta S ds S1) (hl : ds.length = np) (hR : R (ds.map SD.dat) [] (.dat d) []) : Ee K (tCall (spD K np R) [] E ta) S (.dat d) S1 := by
  have h := ee_call0 (np := np) (E := E) (R := R) (r := .dat d) (ob' := []) ha (fun a h => by
    obtain ⟨x, _, rfl⟩ := List.mem_map.mp h
    trivial) (by rw [List.length_map]; exact hl) hR
  rw [List.append_nil] at h
  exact h
theorem ee_callK {np : Nat} {E : XK} {ta tk : TA} {gV : List V → List V → List V} {ds es fs : List PyData} {d : PyData} (ha : Ed K ta S ds S1) (hk : Ed K tk S1 es S2)
    (hg : ∀ (Hf : Hp) vs zs, RpA K Hf vs ds → RpA K Hf zs es → RpA K Hf (gV vs zs) fs) (hl : fs.length = np) (hR : R (fs.map SD.dat) [] (.dat d) []) : Ee K (tCallK (spD K np R) gV E ta tk) S (.dat d) S2 := fun c Hf H σ fp ok Q q =>
  ha c Hf H σ fp ok _ fun vs Hf1 H1 fp1 ok1 g1 sr => hk c Hf1 H1 σ fp1 ok1 _ fun zs Hf2 H2 fp2 ok2 g2 sr2 => by
    have rr := hg Hf2 vs zs ((SRA.rp sr).mono g2.sm) (SRA.rp sr2)
    have back : ∀ {ds : List PyData} {vs : List V}, RpA K Hf2 vs ds → SRA K Hf2 fp2 vs (ds.map SD.dat) := fun {ds} => by
      induction ds with
      | nil => intro vs h; cases h; exact .nil
      | cons d ds ih => intro vs h; cases h with
        | cons h t => exact .cons h (ih t)
    refine sp_call0 (R := R) (r := .dat d) (ob' := []) ok2 (back rr) (fun a h => by
      obtain ⟨x, _, rfl⟩ := List.mem_map.mp h
      trivial) (by rw [List.length_map]; exact hl) hR fun v Hf' H' fp' ok' g' rv => q v Hf' H' fp' ?_ ((g1.trans g2).trans g') rv
    rw [List.append_nil] at ok'
    exact ok'
theorem ee_call1 {np k : Nat} {E : XK} {ta : TA} {o o' : OO} {asC : List SD} (ha : Ea K ta S asC S1) (he : asC = as.map (atK k)) (h0 : ∀ a ∈ as, ∀ j, a = .own j → j = 0) (hl : as.length = np) (ho : S1.ob[k]? = some o) (hg : o ≠ .gone) (hn : ∀ ds, o ≠ .lst ds) (hR : R as [o] r [o']) :
    Ee K (tCall (spD K np R) [] E ta) S (atR k r) { S1 with ob := S1.ob.set k o' } := fun c Hf H σ fp ok Q q =>
  ha c Hf H σ fp ok _ fun vs Hf1 H1 fp1 ok1 g1 sr => by
    rw [List.append_nil]
    subst he
    exact sp_call1 ok1 sr h0 hl ho hg hn hR fun v Hf' H' fp' ok' g' rv => q v Hf' H' fp' ok' (g1.trans g') rv
end
end DL

set_option maxRecDepth 100000
set_option maxHeartbeats 1000000
namespace DL
open PySem PySem.Spec PyProof.Rows L2

/-! ### built-ins, as they are named here -/
section
variable {X : Cx}
theorem cb_len : CallR X (.builtin "len") (rLen X.K) := call_len
theorem cb_abs : CallR X (.builtin "abs") rAbs := call_abs
theorem cb_int : CallR X (.type "int") rInt1 := call_int1
theorem cb_list : CallR X (.type "list") (rListOf X.K) := call_list_of
theorem cb_tuple : CallR X (.type "tuple") (rTupleOf X.K) := call_tuple_of
theorem un_negU : UnR X (unaryOp .USub) (rU fun i => .int (-i)) := un_neg
/-- a op b op2 c op3 d -/
def tChain3 (r r2 r3 : R2) (ta tb tc td : TE) : TE := fun σ H Q => ta σ H fun x H1 => tb σ H1 fun y H2 => r x y H2 fun z H3 => ∃ k, z = .bl k ∧
  (if k = true then tc σ H3 fun u H4 => r2 y u H4 fun z2 H5 => ∃ k2, z2 = .bl k2 ∧ (if k2 = true then td σ H5 fun v H6 => r3 u v H6 Q else Q (.bl false) H5) else Q (.bl false) H3)
theorem pe_chain3 {op op2 op3 : CmpOp} {r r2 r3 : R2} {ta tb tc td : TE} {a b c d : Expr} {pos : Pos} (ho : OpR X (compareOp op) r) (ho2 : OpR X (compareOp op2) r2) (ho3 : OpR X (compareOp op3) r3) (ha : PE X a ta) (hb : PE X b tb) (hc : PE X c tc) (hd : PE X d td)
    (hm : lastMarks [op, op2, op3] [b, c, d] = false := by with_unfolding_all rfl) : PE X (.Compare a [op, op2, op3] [b, c, d] pos) (tChain3 r r2 r3 ta tb tc td) := by
  constructor
  intro pins s σ H Q I h
  refine Compare_chain (thn (ha.run pins s σ H _ I h) fun v s1 ⟨x, H1, I1, r1, q1⟩ => chain_link (thn (hb.run pins s1 σ H1 _ I1 q1) fun u s2 ⟨y, H2, I2, k2, q2⟩ => thn (ho pins s2 σ H2 x y v u _ I2 r1 k2 q2) fun e s3 ⟨z, H3, I3, k3, k, ez, q3⟩ => ?_)) hm
  subst ez
  cases k3
  refine wpAny_truthy_bool ?_
  cases k with
  | false => exact ite_ff ⟨.bl false, H3, I3, rfl, q3⟩
  | true =>
    refine ite_tt (chain_link (thn (hc.run pins s3 σ H3 _ I3 q3) fun u' s4 ⟨w, H4, I4, k4, q4⟩ => thn (ho2 pins s4 σ H4 y w u u' _ I4 k2 k4 q4) fun e' s5 ⟨z', H5, I5, k5, k', ez', q5⟩ => ?_))
    subst ez'
    cases k5
    refine wpAny_truthy_bool ?_
    cases k' with
    | false => exact ite_ff ⟨.bl false, H5, I5, rfl, q5⟩
    | true => exact ite_tt (chain_last (thn (hd.run pins s5 σ H5 _ I5 q5) fun v' s6 ⟨w', H6, I6, k6, q6⟩ => ho3 pins s6 σ H6 w w' u' v' Q I6 k4 k6 q6))
end

section
variable {K : PySem.W.Frag} {S S0 S1 S2 S3 S4 : SS} {ta tb tc td te : TE} {t u : TT} {x y z w : SD} {d e : PyData} {i j l : Int} {ds es : List PyData} {k n : Nat} {E : DE} {g : TG} {a b : Bool} {r r2 r3 : R2}
variable {c : Addr → Prop} {Hf H : Hp} {σ : L2.St} {fp : List (List Addr)}
theorem ru_neg : Ru K (rU fun i => .int (-i)) (.dat (.int i)) S (.dat (.int (-i))) S := fun c Hf H σ fp ok v rv Q q => by
  cases rv
  exact ⟨i, rfl, q _ _ _ _ ok Gr.refl (Rp.int _)⟩
/-- a op b op2 c; the state stays -/
theorem ee_chain (ha : Ee K ta S x S) (hb : Ee K tb S y S) (hr : Ro K r x y S (.dat (.bool a)) S) (hc : a = true → Ee K tc S z S) (hr2 : a = true → Ro K r2 y z S (.dat (.bool b)) S) : Ee K (tChain r r2 ta tb tc) S (.dat (.bool (a && b))) S := fun c Hf H σ fp ok Q q =>
  ha c Hf H σ fp ok _ fun v Hf1 H1 fp1 ok1 g1 r1 => hb c Hf1 H1 σ fp1 ok1 _ fun u Hf2 H2 fp2 ok2 g2 q2 => hr c Hf2 H2 σ fp2 ok2 v u (r1.mono g2.sm g2.pr) q2 _ fun w Hf3 H3 fp3 ok3 g3 q3 => by
    cases q3
    refine ⟨a, rfl, ?_⟩
    have G := (g1.trans g2).trans g3
    cases a with
    | false => exact iteF (q _ _ _ _ ok3 G (Rp.bl _))
    | true =>
      refine iteT (hc rfl c Hf3 H3 σ fp3 ok3 _ fun w Hf4 H4 fp4 ok4 g4 q4 => hr2 rfl c Hf4 H4 σ fp4 ok4 u w (q2.mono (g3.trans g4).sm (g3.trans g4).pr) q4 Q fun w' Hf5 H5 fp5 ok5 g5 q5 => ?_)
      exact q w' Hf5 H5 fp5 ok5 ((G.trans g4).trans g5) q5
theorem ee_chain3 {e' : Bool} (ha : Ee K ta S x S) (hb : Ee K tb S y S) (hr : Ro K r x y S (.dat (.bool a)) S) (hc : a = true → Ee K tc S z S) (hr2 : a = true → Ro K r2 y z S (.dat (.bool b)) S) (hd : a = true → b = true → Ee K td S w S) (hr3 : a = true → b = true → Ro K r3 z w S (.dat (.bool e')) S) :
    Ee K (tChain3 r r2 r3 ta tb tc td) S (.dat (.bool (a && (b && e')))) S := fun c Hf H σ fp ok Q q =>
  ha c Hf H σ fp ok _ fun v Hf1 H1 fp1 ok1 g1 r1 => hb c Hf1 H1 σ fp1 ok1 _ fun u Hf2 H2 fp2 ok2 g2 q2 => hr c Hf2 H2 σ fp2 ok2 v u (r1.mono g2.sm g2.pr) q2 _ fun w1 Hf3 H3 fp3 ok3 g3 q3 => by
    cases q3
    refine ⟨a, rfl, ?_⟩
    have G := (g1.trans g2).trans g3
    cases a with
    | false => exact iteF (q _ _ _ _ ok3 G (Rp.bl _))
    | true =>
      refine iteT (hc rfl c Hf3 H3 σ fp3 ok3 _ fun w2 Hf4 H4 fp4 ok4 g4 q4 => hr2 rfl c Hf4 H4 σ fp4 ok4 u w2 (q2.mono (g3.trans g4).sm (g3.trans g4).pr) q4 _ fun w' Hf5 H5 fp5 ok5 g5 q5 => ?_)
      cases q5
      refine ⟨b, rfl, ?_⟩
      have G2 := (G.trans g4).trans g5
      cases b with
      | false => exact iteF (q _ _ _ _ ok5 G2 (Rp.bl _))
      | true =>
        refine iteT (hd rfl rfl c Hf5 H5 σ fp5 ok5 _ fun w3 Hf6 H6 fp6 ok6 g6 q6 => hr3 rfl rfl c Hf6 H6 σ fp6 ok6 w2 w3 (q4.mono (g5.trans g6).sm (g5.trans g6).pr) q6 Q fun w4 Hf7 H7 fp7 ok7 g7 q7 => ?_)
        exact q w4 Hf7 H7 fp7 ok7 ((G2.trans g6).trans g7) q7
/-- enumerate(t) -/
theorem ei_enumT {tas : TA} (h : Ed K tas S [.tuple ds] S1) : Ei K (iEnumT K tas) S (enumD ds) S1 := fun c Hf H σ fp ok R q => h c Hf H σ fp ok _ fun v Hf1 H1 fp1 ok1 g1 r1 => by
  cases r1 with
  | cons r1 rr =>
    cases rr
    cases r1 with
    | tup h1 h2 =>
      refine ⟨_, _, rfl, sameT ok1.hd.ex h1, q _ Hf1 H1 fp1 ok1 g1 (wk_of (walk_enumT (K := K)) (enumD_len.trans h2.len.symm) (fun Hf2 H2 e1 e2 => sameT e2 (sameT e1 h1)) fun i d Hf2 H2 x H3 e1 e2 hd y => .inr ?_)⟩
      obtain ⟨T, v1, v2, rfl, hT, rfl, y1, y2⟩ := y
      obtain ⟨e, k1, rfl⟩ := enumD_get hd
      obtain ⟨w, k2, k3⟩ := h2.get k1
      have y3 : some v2 = some w := y2.symm.trans k2
      obtain rfl := Option.some.inj y3
      obtain rfl := Option.some.inj y1
      refine ⟨T, _, hT, rfl, .tup (.inl (.inl upd_same)) (.cons (.int _) (.cons (k3.mono (e1.trans ?_)) .nil))⟩
      intro b o eb
      rw [upd_ne (ne_of_none eb (e2.free hT))]
      exact eb
/-! ### targets that store into objects -/
def Egh (K : PySem.W.Frag) (g : TG) (d : PyData) (S S' : SS) : Prop := ∀ c Hf H σ fp, Okk K c Hf H σ fp S → ∀ x, Rp K Hf x d → ∀ Q : L2.St → Hp → Prop, (∀ σ' Hf' H' fp', Okk K c Hf' H' σ' fp' S' → Gr Hf H fp Hf' H' fp' → Q σ' H') → g x σ H Q
def Eghs (K : PySem.W.Frag) (g : TGs) (ds : List PyData) (S S' : SS) : Prop := ∀ c Hf H σ fp, Okk K c Hf H σ fp S → ∀ xs, RpA K Hf xs ds → ∀ Q : L2.St → Hp → Prop, (∀ σ' Hf' H' fp', Okk K c Hf' H' σ' fp' S' → Gr Hf H fp Hf' H' fp' → Q σ' H') → g xs σ H Q
theorem egh_of (h : Eg K g d S S1) : Egh K g d S S1 := fun c Hf H σ fp ok x r Q q => h c Hf H σ fp ok x r Q fun σ' ok' => q σ' Hf H fp ok' Gr.refl
theorem egh_sub (hl : Ee K ta S (.own k) S1) (hi : Ee K tb S1 (.dat (.int i)) S2) (ho : S2.ob[k]? = some (.lst ds)) (hx : ixN ds.length i = some n) : Egh K (gSub ta tb rSetL) d S { S2 with ob := S2.ob.set k (.lst (ds.set n d)) } := fun c Hf H σ fp ok v rv Q q =>
  hl c Hf H σ fp ok _ fun o Hf1 H1 fp1 ok1 g1 r1 => hi c Hf1 H1 σ fp1 ok1 _ fun u Hf2 H2 fp2 ok2 g2 r2 => by
    cases r2
    obtain ⟨b, zs, e, k1, k2, k3⟩ := ok2.setL ho (r1.mono g2.sm g2.pr)
    subst e
    obtain ⟨ok3, g3⟩ := k3 _ _ (k2.set (rv.mono (g1.trans g2).sm) n)
    exact ⟨b, zs, i, n, rfl, rfl, k1, by rw [k2.len]; exact hx, q _ _ _ _ ok3 ((g1.trans g2).trans g3)⟩
theorem eghs_nil : Eghs K gNil [] S S := fun c Hf H σ fp ok xs r Q q => by
  cases r
  exact ⟨rfl, q σ _ _ _ ok Gr.refl⟩
theorem eghs_cons {gs : TGs} (h : Egh K g d S S1) (hs : Eghs K gs ds S1 S2) : Eghs K (gCons g gs) (d :: ds) S S2 := fun c Hf H σ fp ok xs r Q q => by
  cases r with
  | cons r rr => exact ⟨_, _, rfl, h c Hf H σ fp ok _ r _ fun σ' Hf' H' fp' ok' g' => hs c Hf' H' σ' fp' ok' _ (rr.mono g'.sm) Q fun σ2 Hf2 H2 fp2 ok2 g2 => q σ2 Hf2 H2 fp2 ok2 (g'.trans g2)⟩
theorem egh_tup {gs : TGs} {n : Nat} (h : Eghs K gs ds S S1) (hn : ds.length = n := by rfl) : Egh K (gTup K n gs) (.tuple ds) S S1 := fun c Hf H σ fp ok x r Q q => by
  cases r with
  | tup h1 h2 => exact ⟨_, _, rfl, sameT ok.hd.ex h1, h2.len.trans hn, h c Hf H σ fp ok _ h2 Q q⟩
theorem ts_asgG (h : Ee K te S (.dat d) S1) (hg : Egh K g d S1 S2) (k : E.nx S2) : Ts K (tAsg te g) S E := fun c Hf H σ fp ok D n r bk ct =>
  h c Hf H σ fp ok _ fun v Hf1 H1 fp1 ok1 g1 r1 => hg c Hf1 H1 σ fp1 ok1 v r1 _ fun σ' Hf2 H2 fp2 ok2 g2 => n _ Hf2 H2 σ' fp2 ok2 (g1.trans g2) k
/-! ### new empty dict as data -/
theorem ee_emp : Ee K tDNewK S (.dat (.dict [])) S := fun c Hf H σ fp ok Q q p hp => by
  obtain ⟨ok2, g2⟩ := ok.laid (.dK []) hp
  exact q _ _ _ _ ok2 g2 (Rp.emp upd_same)
end
end DL

set_option maxRecDepth 100000
set_option maxHeartbeats 1000000
/-! DLraw: own objects as they stand -/
namespace DL
open PySem PySem.Spec PyProof.Rows L2
section
variable {K : PySem.W.Frag} {S S0 S1 S2 S3 : SS} {td te tv : TE} {x y z : SD} {i : Int} {k : Nat} {ds : List Int} {s t : Int} {E : DE}
variable {c : Addr → Prop} {Hf H : Hp} {σ : L2.St} {fp : List (List Addr)}
theorem Okk.guard (ok : Okk K c Hf H σ fp S) {p : Addr} {o : HO} (h : H p = some o) (hf : Hf p = none) (nm : p ∉ fp.flatten) : Okk K (fun a => c a ∨ a = p) Hf H σ fp S :=
  ⟨⟨ok.hd.ex, ok.hd.fl, ok.hd.oo, ok.hd.nd, ok.hd.al, ok.hd.nf, fun a z => by
    rcases z with z | rfl
    · exact ok.hd.pt a z
    · exact ⟨hf, o, h⟩, fun k q ds e1 e2 a ha z => by
    rcases z with z | rfl
    · exact ok.hd.np k q ds e1 e2 a ha z
    · exact nm (mem_fl e1 ha)⟩, ok.ln, ok.sr⟩
theorem Gr.out {Hf' H' : Hp} {fp' : List (List Addr)} (g : Gr Hf H fp Hf' H' fp') {p : Addr} {o : HO} (h : H p = some o) (nm : p ∉ fp.flatten) : H' p = some o ∧ p ∉ fp'.flatten :=
  ⟨g.fr p o h nm, fun m => (g.nw p m).elim nm fun z => by
    rw [h] at z
    cases z⟩
/-- an object that stands by itself is laid, as it is -/
theorem Okk.apart (ok : Okk K c Hf H σ fp S) {p : Addr} (o : HO) (hp : H p = none) : Okk K c Hf (upd H p o) σ fp S ∧ Gr Hf H fp Hf (upd H p o) fp ∧ p ∉ fp.flatten ∧ ¬ c p := by
  have npf : ∀ a ∈ fp.flatten, a ≠ p := fun a ha => by
    obtain ⟨x, e⟩ := ok.hd.al a ha
    exact ne_of_none e hp
  have keep : ∀ a u, H a = some u → (upd H p o) a = some u := fun a u e => by
    rw [upd_ne (ne_of_none e hp)]
    exact e
  refine ⟨⟨⟨fun b u e => keep b u (ok.hd.ex b u e), ok.hd.fl, fun k q u h1 h2 => (ok.hd.oo k q u h1 h2).mono (Same.refl _) fun b hb => upd_ne (npf b (mem_fl h1 hb)), ok.hd.nd, fun a ha => ?_, ok.hd.nf, fun a z => ?_, ok.hd.np⟩, ok.ln, ok.sr⟩,
    ⟨Same.refl _, List.prefix_rfl, fun a u e _ => keep a u e, fun _ m => .inl m, fun a u e => ⟨u, keep a u e⟩⟩, fun m => npf p m rfl, fun z => ?_⟩
  · obtain ⟨x, e⟩ := ok.hd.al a ha
    exact ⟨x, keep a x e⟩
  · obtain ⟨z1, u, z2⟩ := ok.hd.pt a z
    exact ⟨z1, u, keep a u z2⟩
  · obtain ⟨_, u, z2⟩ := ok.hd.pt p z
    rw [hp] at z2
    cases z2
/-- an object that stands by itself, as it is, as one's own -/
theorem Hd.ownR (h : Hd K c Hf H fp ob) {p : Addr} {o : HO} (hp : H p = some o) (hf : Hf p = none) (hm : p ∉ fp.flatten) : Hd K c Hf H (fp ++ [[p]]) (ob ++ [.raw p o]) := by
  have hsz : ∀ {α : Type} (l : List α) (x y : α) (k : Nat), (l ++ [x])[k]? = some y → (k < l.length ∧ l[k]? = some y) ∨ (k = l.length ∧ y = x) := fun l x y k e => by
    by_cases hk : k < l.length
    · rw [List.getElem?_append_left hk] at e
      exact .inl ⟨hk, e⟩
    · have e2 := (List.getElem?_eq_some_iff.mp e).1
      rw [List.length_append, List.length_singleton] at e2
      have e3 : k = l.length := by omega
      subst e3
      rw [List.getElem?_concat_length] at e
      exact .inr ⟨rfl, (Option.some.inj e).symm⟩
  refine ⟨h.ex, by rw [List.length_append, List.length_append, h.fl]; rfl, fun k a x h1 h2 => ?_, ?_, fun a ha => ?_, fun k q x h1 h2 hx a ha => ?_, h.pt, fun k q ds' h1 h2 a ha => ?_⟩
  · rcases hsz _ _ _ _ h1 with ⟨hk, h1'⟩ | ⟨hk, rfl⟩
    · rcases hsz _ _ _ _ h2 with ⟨hk2, h2'⟩ | ⟨hk2, rfl⟩
      · exact h.oo k a x h1' h2'
      · have := h.fl
        omega
    · rcases hsz _ _ _ _ h2 with ⟨hk2, h2'⟩ | ⟨hk2, rfl⟩
      · have := h.fl
        omega
      · exact ⟨rfl, hp⟩
  · rw [List.flatten_append, List.nodup_append]
    refine ⟨h.nd, by simp, fun a ha b hb => ?_⟩
    have e : b = p := by simpa using hb
    rw [e]
    exact fun z => hm (z ▸ ha)
  · rw [List.flatten_append, List.mem_append] at ha
    rcases ha with ha | ha
    · exact h.al a ha
    · have e : a = p := by simpa using ha
      rw [e]
      exact ⟨_, hp⟩
  · rcases hsz _ _ _ _ h1 with ⟨hk, h1'⟩ | ⟨hk, rfl⟩
    · rcases hsz _ _ _ _ h2 with ⟨hk2, h2'⟩ | ⟨hk2, rfl⟩
      · exact h.nf k q x h1' h2' hx a ha
      · have := h.fl
        omega
    · have e : a = p := by simpa using ha
      rw [e]
      exact hf
  · rcases hsz _ _ _ _ h1 with ⟨hk, h1'⟩ | ⟨hk, rfl⟩
    · rcases hsz _ _ _ _ h2 with ⟨hk2, h2'⟩ | ⟨hk2, e2⟩
      · exact h.np k q ds' h1' h2' a ha
      · have := h.fl
        omega
    · rcases hsz _ _ _ _ h2 with ⟨hk2, h2'⟩ | ⟨hk2, e2⟩
      · have := h.fl
        omega
      · cases e2
/-- a new object that is one's own, as it is -/
theorem Okk.newR (ok : Okk K c Hf H σ fp S) {p : Addr} (o : HO) (hp : H p = none) : Okk K c Hf (upd H p o) σ (fp ++ [[p]]) { S with ob := S.ob ++ [.raw p o] } ∧ Gr Hf H fp Hf (upd H p o) (fp ++ [[p]]) := by
  obtain ⟨ok1, g1, nm, nc⟩ := ok.apart o hp
  refine ⟨⟨ok1.hd.ownR upd_same (ok.hd.ex.free hp) nm, ok1.ln, fun i d e => ?_⟩, g1.own hp⟩
  obtain ⟨x, e1, e2⟩ := ok1.sr i d e
  exact ⟨x, e1, e2.mono (Same.refl _) (List.prefix_append _ _)⟩
theorem Okk.raw (ok : Okk K c Hf H σ fp S) {a : Addr} {o : HO} (ho : S.ob[k]? = some (.raw a o)) : fp[k]? = some [a] ∧ H a = some o := by
  have hk : k < fp.length := by
    rw [ok.hd.fl]
    exact (List.getElem?_eq_some_iff.mp ho).1
  obtain ⟨e, h2⟩ := ok.hd.oo k _ _ (List.getElem?_eq_getElem hk) ho
  exact ⟨by rw [List.getElem?_eq_getElem hk, e], h2⟩
theorem Okk.rawV (ok : Okk K c Hf H σ fp S) {a : Addr} {o : HO} (ho : S.ob[k]? = some (.raw a o)) {v : V} (r : SRl K Hf fp (some v) (.own k)) : v = .ref a := by
  obtain ⟨b, q, h1, h2⟩ := r
  rw [(ok.raw ho).1] at h1
  have : a = b := by
    have := Option.some.inj h1
    simp at this
    exact this.1
  rw [h2, this]
theorem Okk.putR (ok : Okk K c Hf H σ fp S) {a : Addr} {o o' : HO} (ho : S.ob[k]? = some (.raw a o)) : Okk K c Hf (upd H a o') σ fp { S with ob := S.ob.set k (.raw a o') } ∧ Gr Hf H fp Hf (upd H a o') fp := by
  obtain ⟨h1, h2⟩ := ok.raw ho
  obtain ⟨hd, g⟩ := ok.hd.put (o' := .raw a o') (H' := upd H a o') h1 ho (by intro z; cases z) (fun b hb => upd_ne (by simpa using hb)) ⟨rfl, upd_same⟩ (fun b hb => by
    rw [List.mem_singleton.mp hb]
    exact ⟨_, upd_same⟩) (fun _ z => by cases z)
  exact ⟨⟨hd, ok.ln, ok.sr⟩, g⟩
theorem Okk.put_sl (ok : Okk K c Hf H σ fp S) {i : Nat} {a : Addr} {o : HO} (ho : S.ob[k]? = some (.raw a o)) : Okk K c Hf H (σ.set i (some (.ref a))) fp { S with sl := S.sl.set i (.own k) } := by
  refine ok.put (x := .own k) ⟨a, [], ?_, rfl⟩
  exact (ok.raw ho).1
end
end DL

set_option maxRecDepth 100000
set_option maxHeartbeats 1000000
/-! DLw: the law's well, a dict of a list and two whole numbers -/
namespace DL
open PySem PySem.Spec PyProof.Rows L2
theorem ne_ds : ¬ (kD = kS) := fun h => absurd (Sum.inr.inj h) (by decide +kernel)
theorem ne_dt : ¬ (kD = kT) := fun h => absurd (Sum.inr.inj h) (by decide +kernel)
theorem ne_st : ¬ (kS = kT) := fun h => absurd (Sum.inr.inj h) (by decide +kernel)
theorem val_deep (l : Addr) (s t : Int) : valV (wellK l s t) kD = some (.ref l) := valV_pos (p := (kD, V.ref l)) rfl
theorem val_stirred (l : Addr) (s t : Int) : valV (wellK l s t) kS = some (.int s) := by
  unfold wellK
  rw [valV_neg (p := (kD, V.ref l)) ne_ds]
  exact valV_pos (p := (kS, V.int s)) rfl
theorem val_turns (l : Addr) (s t : Int) : valV (wellK l s t) kT = some (.int t) := by
  unfold wellK
  rw [valV_neg (p := (kD, V.ref l)) ne_dt, valV_neg (p := (kS, V.int s)) ne_st]
  exact valV_pos (p := (kT, V.int t)) rfl
theorem put_turns (l : Addr) (s t u : Int) : putK (wellK l s t) kT (.int u) = wellK l s u := by
  unfold putK
  have e : ((wellK l s t).any fun kv => decide (kv.1 = kT)) = true := by
    unfold wellK
    rw [List.any_cons, List.any_cons, List.any_cons, decide_eq_true (rfl : kT = kT)]
    simp
  rw [if_pos e]
  unfold wellK
  show [(if kD = kT then ((kD, V.int u) : Key × V) else (kD, V.ref l)), (if kS = kT then ((kS, V.int u) : Key × V) else (kS, V.int s)), (if kT = kT then ((kT, V.int u) : Key × V) else (kT, V.int t))] = _
  rw [if_neg ne_dt, if_neg ne_st, if_pos rfl]
theorem merge_well (l : Addr) (s t : Int) : mergeK [] (wellK l s t) = wellK l s t := by
  show putK (putK (putK [] kD (.ref l)) kS (.int s)) kT (.int t) = _
  have a1 : putK ([] : List (Key × V)) kD (.ref l) = [(kD, V.ref l)] := rfl
  have a2 : putK [(kD, V.ref l)] kS (.int s) = [(kD, V.ref l), (kS, V.int s)] := putK_new _ (by
    rw [valV_neg (p := (kD, V.ref l)) ne_ds]
    rfl)
  rw [a1, a2]
  exact putK_new _ (by
    rw [valV_neg (p := (kD, V.ref l)) ne_dt, valV_neg (p := (kS, V.int s)) ne_st]
    rfl)
section
variable {K : PySem.W.Frag} {S S0 S1 S2 S3 : SS} {td te tv : TE} {x y z : SD} {i : Int} {k : Nat} {ds : List Int} {s t : Int} {E : DE}
variable {c : Addr → Prop} {Hf H : Hp} {σ : L2.St} {fp : List (List Addr)}
theorem Okk.well (ok : Okk K c Hf H σ fp S) (ho : S.ob[k]? = some (.well ds s t)) {v : V} (r : SRl K Hf fp (some v) (.own k)) :
    ∃ a l, v = .ref a ∧ fp[k]? = some [a, l] ∧ H a = some (.dK (wellK l s t)) ∧ H l = some (.lst (ds.map V.int)) := by
  obtain ⟨a, q, h1, h2⟩ := r
  obtain ⟨a', l, e, h3, h4⟩ := ok.hd.oo k _ _ h1 ho
  have e2 : a = a' ∧ q = [l] := by simpa using e
  obtain ⟨rfl, rfl⟩ := e2
  exact ⟨a, l, h2, h1, h3, h4⟩
theorem ee_wS (h : Ee K td S (.own k) S1) (ho : S1.ob[k]? = some (.well ds s t)) : Ee K (tDGet td (tC (.str "stirred"))) S (.dat (.int s)) S1 := fun c Hf H σ fp ok Q q =>
  h c Hf H σ fp ok _ fun v Hf1 H1 fp1 ok1 g1 r1 => by
    obtain ⟨a, l, rfl, _, h2, _⟩ := ok1.well ho r1
    refine ⟨a, .int s, rfl, ?_, q _ _ _ _ ok1 g1 (Rp.int _)⟩
    rw [← val_stirred l s t]
    exact DGet.k (k := kS) h2
theorem ee_wT (h : Ee K td S (.own k) S1) (ho : S1.ob[k]? = some (.well ds s t)) : Ee K (tDGet td (tC (.str "times"))) S (.dat (.int t)) S1 := fun c Hf H σ fp ok Q q =>
  h c Hf H σ fp ok _ fun v Hf1 H1 fp1 ok1 g1 r1 => by
    obtain ⟨a, l, rfl, _, h2, _⟩ := ok1.well ho r1
    refine ⟨a, .int t, rfl, ?_, q _ _ _ _ ok1 g1 (Rp.int _)⟩
    rw [← val_turns l s t]
    exact DGet.k (k := kT) h2
theorem dp_ints {H : Hp} {l : Addr} (h : H l = some (.lst (ds.map V.int))) : Dp K H (.ref l) (.list (ds.map PyData.int)) := by
  refine .lst (.inl (.inl h)) ?_
  clear h
  induction ds with
  | nil => exact .nil
  | cons n r ih => exact .cons (.int n) ih
theorem shaped_ints : SeqAt.shaped (.list (ds.map PyData.int)) = true := by
  have h1 : PyData.canLayAll0 (ds.map PyData.int) = true := by
    induction ds with
    | nil => rfl
    | cons n r ih => simp [PyData.canLayAll0, PyData.canLay0, ih]
  have h2 : PyData.depthAll (ds.map PyData.int) ≤ 1 := by
    clear h1
    induction ds with
    | nil => simp [PyData.depthAll]
    | cons n r ih => simp [PyData.depthAll, PyData.depth, ih]
  unfold SeqAt.shaped
  rw [Bool.and_eq_true]
  refine ⟨by simpa [PyData.canLay0] using h1, decide_eq_true ?_⟩
  simp only [PyData.depth]
  omega
theorem eqv_nil : PyData.eqv (.list (ds.map PyData.int)) (.list []) = ds.isEmpty := by
  cases ds <;> simp [PyData.eqv, PyData.eqvAll]
/-- well["far"] != [] -/
theorem ee_wne (h : Ee K td S (.own k) S1) (ho : S1.ob[k]? = some (.well ds s t)) : Ee K (tOp (rNeU K) (tDGet td (tC (.str "far"))) (tLst tNil)) S (.dat (.bool (!ds.isEmpty))) S1 := fun c Hf H σ fp ok Q q =>
  h c Hf H σ fp ok _ fun v Hf1 H1 fp1 ok1 g1 r1 => by
    obtain ⟨a, l, rfl, _, h2, h3⟩ := ok1.well ho r1
    refine ⟨a, .ref l, rfl, ?_, Nat.zero_le _, fun p hp => ?_⟩
    · rw [← val_deep l s t]
      exact DGet.k (k := kD) h2
    · obtain ⟨ok2, g2⟩ := ok1.laid (.lst []) hp
      refine .inr ⟨.list (ds.map PyData.int), .list [], dp_ints (by rw [upd_ne (ne_of_none h3 hp)]; exact h3), .lst (.inl (.inl upd_same)) .nil, shaped_ints, by decide, ?_⟩
      rw [eqv_nil]
      exact q _ _ _ _ ok2 (g1.trans g2) (Rp.bl _)
/-- the well changes -/
theorem Okk.setW (ok : Okk K c Hf H σ fp S) (ho : S.ob[k]? = some (.well ds s t)) {v : V} (r : SRl K Hf fp (some v) (.own k)) :
    ∃ a l, v = .ref a ∧ H a = some (.dK (wellK l s t)) ∧ H l = some (.lst (ds.map V.int)) ∧ (∀ es : List Int, Okk K c Hf (upd H l (.lst (es.map V.int))) σ fp { S with ob := S.ob.set k (.well es s t) } ∧ Gr Hf H fp Hf (upd H l (.lst (es.map V.int))) fp) ∧
      ∀ u : Int, Okk K c Hf (upd H a (.dK (wellK l s u))) σ fp { S with ob := S.ob.set k (.well ds s u) } ∧ Gr Hf H fp Hf (upd H a (.dK (wellK l s u))) fp := by
  obtain ⟨a, l, rfl, h1, h2, h3⟩ := ok.well ho r
  have hal : a ≠ l := ne_of h2 h3 (by intro z; cases z)
  have nl : ∀ {o' : OO}, (∀ ds', o' ≠ .lst ds') → ∀ ds', o' = .lst ds' → ∃ ds0, OO.well ds s t = .lst ds0 := fun h ds' e => absurd e (h ds')
  refine ⟨a, l, rfl, h2, h3, fun es => ?_, fun u => ?_⟩
  · obtain ⟨hd, g⟩ := ok.hd.put (o' := .well es s t) (H' := upd H l (.lst (es.map V.int))) h1 ho (by intro z; cases z) (fun b hb => upd_ne (by rw [List.mem_cons, not_or] at hb; simpa using hb.2)) ⟨a, l, rfl, by rw [upd_ne hal]; exact h2, upd_same⟩ (fun b hb => by
      rcases List.mem_cons.mp hb with e | e
      · rw [e, upd_ne hal]
        exact ⟨_, h2⟩
      · rw [List.mem_singleton.mp e]
        exact ⟨_, upd_same⟩) (nl fun _ z => by cases z)
    exact ⟨⟨hd, ok.ln, ok.sr⟩, g⟩
  · obtain ⟨hd, g⟩ := ok.hd.put (o' := .well ds s u) (H' := upd H a (.dK (wellK l s u))) h1 ho (by intro z; cases z) (fun b hb => upd_ne (by rw [List.mem_cons, not_or] at hb; exact hb.1)) ⟨a, l, rfl, upd_same, by rw [upd_ne (Ne.symm hal)]; exact h3⟩ (fun b hb => by
      rcases List.mem_cons.mp hb with e | e
      · rw [e]
        exact ⟨_, upd_same⟩
      · rw [List.mem_singleton.mp e, upd_ne (Ne.symm hal)]
        exact ⟨_, h3⟩) (nl fun _ z => by cases z)
    exact ⟨⟨hd, ok.ln, ok.sr⟩, g⟩
/-- well["far"].pop() -/
theorem ee_wpop (h : Ee K td S (.own k) S1) (ho : S1.ob[k]? = some (.well (ds ++ [i]) s t)) : Ee K (tBM0 K "list" rPop (tDGet td (tC (.str "far")))) S (.dat (.int i)) { S1 with ob := S1.ob.set k (.well ds s t) } := fun c Hf H σ fp ok Q q =>
  h c Hf H σ fp ok _ fun v Hf1 H1 fp1 ok1 g1 r1 => by
    obtain ⟨a, l, rfl, h2, h3, hw, _⟩ := ok1.setW ho r1
    obtain ⟨ok2, g2⟩ := hw ds
    refine ⟨a, .ref l, rfl, ?_, .inl ⟨rfl, _, .inl (.inl h3)⟩, l, _, .int i, rfl, rfl, h3, ?_, ?_⟩
    · rw [← val_deep l s t]
      exact DGet.k (k := kD) h2
    · rw [List.map_append, List.length_append, List.length_map]
      show (ds.map V.int ++ [V.int i])[ds.length + 1 - 1]? = _
      rw [Nat.add_sub_cancel]
      have := List.getElem?_concat_length (l := ds.map V.int) (a := V.int i)
      rw [List.length_map] at this
      exact this
    · have e : ((ds ++ [i]).map V.int).dropLast = ds.map V.int := by
        rw [List.map_append]
        exact List.dropLast_concat
      rw [e]
      exact q _ _ _ _ ok2 (g1.trans g2) (Rp.int _)
/-- well["far"].append(e) -/
theorem ee_wapp (h : Ee K td S (.own k) S1) (ho1 : ∃ ds1 s1 t1, S1.ob[k]? = some (.well ds1 s1 t1)) (he : Ee K te S1 (.dat (.int i)) S2) (ho : S2.ob[k]? = some (.well ds s t)) (hsame : S2 = S1) (hz : ds.length < 1000000) :
    Ee K (tBM K "list" rAppend (tDGet td (tC (.str "far"))) (tCons te tNil)) S (.dat .none) { S2 with ob := S2.ob.set k (.well (ds ++ [i]) s t) } := fun c Hf H σ fp ok Q q =>
  h c Hf H σ fp ok _ fun v Hf1 H1 fp1 ok1 g1 r1 => by
    have ho1 : S1.ob[k]? = some (.well ds s t) := by
      rw [← hsame]
      exact ho
    obtain ⟨a, l, rfl, q1, h2, h3⟩ := ok1.well ho1 r1
    refine ⟨a, .ref l, rfl, ?_, .inl ⟨rfl, _, .inl (.inl h3)⟩, he c Hf1 H1 σ fp1 ok1 _ fun u Hf2 H2 fp2 ok2 g2 r2 => ?_⟩
    · rw [← val_deep l s t]
      exact DGet.k (k := kD) h2
    · cases r2
      obtain ⟨a', l', e', k2, k3, hw, _⟩ := ok2.setW ho (r1.mono g2.sm g2.pr)
      cases e'
      obtain ⟨a2, l2, e2, q2, _, _⟩ := ok2.well ho (r1.mono g2.sm g2.pr)
      cases e2
      have el : l = l' := by
        have f1 := pre_get g2.pr q1
        have f2 := ok2.hd.oo k _ _ f1 ho
        obtain ⟨x1, x2, f3, f4, f5⟩ := f2
        have f6 : x1 = a ∧ x2 = l := by
          have := f3
          simp at this
          exact ⟨this.1.symm, this.2.symm⟩
        obtain ⟨rfl, rfl⟩ := f6
        rw [k2] at f4
        have f7 : wellK l' s t = wellK x2 s t := by
          have := Option.some.inj f4
          injection this
        unfold wellK at f7
        injection f7 with f8 _
        injection f8 with _ f9
        injection f9 with f10
        exact f10.symm
      subst el
      obtain ⟨ok3, g3⟩ := hw (ds ++ [i])
      refine ⟨l, _, .int i, rfl, rfl, k3, ?_, ?_⟩
      · rw [List.length_map]
        exact Nat.lt_of_lt_of_le hz (by decide)
      · rw [List.map_append] at ok3 g3
        exact q _ _ _ _ ok3 ((g1.trans g2).trans g3) Rp.non
/-- well["times"] = e -/
theorem ts_wturn (hv : Ee K tv S (.dat (.int i)) S1) (h : Ee K td S1 (.own k) S2) (ho : S2.ob[k]? = some (.well ds s t)) (kx : E.nx { S2 with ob := S2.ob.set k (.well ds s i) }) : Ts K (sDPut td (tC (.str "times")) tv) S E := fun c Hf H σ fp ok D n r bk ct =>
  hv c Hf H σ fp ok _ fun u Hf1 H1 fp1 ok1 g1 r1 => h c Hf1 H1 σ fp1 ok1 _ fun v Hf2 H2 fp2 ok2 g2 r2 => by
    cases r1
    obtain ⟨a, l, rfl, k2, k3, _, hw⟩ := ok2.setW ho r2
    obtain ⟨ok3, g3⟩ := hw i
    refine ⟨a, _, rfl, DPut.k (k := kT) k2 (by show 3 < sizeLine; decide), ?_⟩
    rw [put_turns]
    exact n _ _ _ _ _ ok3 ((g1.trans g2).trans g3) kx
theorem ee_newwell {t1 t2 t3 : TE} (h1 : El K t1 S (ds.map PyData.int) S1) (h2 : Ee K t2 S1 (.dat (.int s)) S2) (h3 : Ee K t3 S2 (.dat (.int t)) S3) :
    Ee K (tDisp [(tC (.str "far"), t1), (tC (.str "stirred"), t2), (tC (.str "times"), t3)]) S (.own S3.ob.length) { S3 with ob := S3.ob ++ [.well ds s t] } := fun c Hf H σ fp ok Q q p hp => by
  obtain ⟨ok0, g0, nm0, nc0⟩ := ok.apart (.dK []) hp
  have hf0 : Hf p = none := ok.hd.ex.free hp
  refine h1 _ _ _ σ fp (ok0.guard upd_same hf0 nm0) _ fun l Hf1 H1 fp1 ok1 g1 hl al => ?_
  obtain ⟨⟨xs, l1, l2⟩, l3, l4, l5⟩ := al
  obtain ⟨p1, p2⟩ := g1.out upd_same nm0
  have exs := RpA.ints_inv l2
  subst exs
  refine h2 _ _ _ σ fp1 (ok1.guard l1 l3 l4) _ fun v Hf2 H2 fp2 ok2 g2 r2 => ?_
  cases r2
  refine h3 _ _ _ σ fp2 ok2 _ fun v Hf3 H3 fp3 ok3 g3 r3 => ?_
  cases r3
  have G := g2.trans g3
  obtain ⟨a1, a2⟩ := G.out p1 p2
  obtain ⟨b1, b2⟩ := G.out l1 l4
  have hpl : p ≠ l := ne_of a1 b1 (by intro z; cases z)
  have fp3n := (ok3.hd.pt p (.inl (.inr rfl))).1
  have fl3n := (ok3.hd.pt l (.inr rfl)).1
  refine ⟨a1, wellK l s t, rfl, by show 3 ≤ 15; decide, ?_⟩
  rw [merge_well]
  have ncl : ¬ c l := fun z => l5 (.inl z)
  have keep : ∀ a o, a ≠ p → H3 a = some o → (upd H3 p (.dK (wellK l s t))) a = some o := fun a o n e => by
    rw [upd_ne n]
    exact e
  have nfl : ∀ a ∈ fp3.flatten, a ≠ p := fun a ha e => a2 (e ▸ ha)
  have cut : ∀ {α : Type} (l : List α) (x y : α) (k : Nat), (l ++ [x])[k]? = some y → (k < l.length ∧ l[k]? = some y) ∨ (k = l.length ∧ y = x) := fun l x y k e => by
    by_cases hk : k < l.length
    · rw [List.getElem?_append_left hk] at e
      exact .inl ⟨hk, e⟩
    · have e2 := (List.getElem?_eq_some_iff.mp e).1
      rw [List.length_append, List.length_singleton] at e2
      have e3 : k = l.length := by omega
      subst e3
      rw [List.getElem?_concat_length] at e
      exact .inr ⟨rfl, (Option.some.inj e).symm⟩
  have GG := (g0.trans g1).trans G
  refine q _ Hf3 _ (fp3 ++ [[p, l]]) ⟨⟨fun b o e => keep b o (ne_of_none e fp3n) (ok3.hd.ex b o e), by rw [List.length_append, List.length_append, ok3.hd.fl]; rfl, fun k a o e1 e2 => ?_, ?_, fun a ha => ?_, fun k a o e1 e2 hx b hb => ?_, fun a z => ?_, fun k a ds' e1 e2 b hb => ?_⟩, ok3.ln, fun i d e => ?_⟩ ⟨GG.sm, GG.pr.trans (List.prefix_append _ _), fun a o e n => keep a o (ne_of_none e hp) (GG.fr a o e n), fun a m => ?_, fun a o e => ?_⟩ ⟨p, [l], ?_, rfl⟩
  · rcases cut _ _ _ _ e1 with ⟨hk, e1⟩ | ⟨hk, rfl⟩
    · rcases cut _ _ _ _ e2 with ⟨hk2, e2⟩ | ⟨hk2, rfl⟩
      · exact (ok3.hd.oo k a o e1 e2).mono (Same.refl _) fun b hb => upd_ne (nfl b (mem_fl e1 hb))
      · have := ok3.hd.fl
        omega
    · rcases cut _ _ _ _ e2 with ⟨hk2, e2⟩ | ⟨hk2, rfl⟩
      · have := ok3.hd.fl
        omega
      · exact ⟨p, l, rfl, upd_same, keep l _ (Ne.symm hpl) b1⟩
  · rw [List.flatten_append, List.nodup_append]
    refine ⟨ok3.hd.nd, by simp [hpl], fun a ha b hb => ?_⟩
    have e : b = p ∨ b = l := by simpa using hb
    rcases e with rfl | rfl
    · exact nfl a ha
    · exact fun e => b2 (e ▸ ha)
  · rw [List.flatten_append, List.mem_append] at ha
    rcases ha with ha | ha
    · obtain ⟨x, e⟩ := ok3.hd.al a ha
      exact ⟨x, keep a x (nfl a ha) e⟩
    · have e : a = p ∨ a = l := by simpa using ha
      rcases e with rfl | rfl
      · exact ⟨_, upd_same⟩
      · exact ⟨_, keep a _ (Ne.symm hpl) b1⟩
  · rcases cut _ _ _ _ e1 with ⟨hk, e1⟩ | ⟨hk, rfl⟩
    · rcases cut _ _ _ _ e2 with ⟨hk2, e2⟩ | ⟨hk2, rfl⟩
      · exact ok3.hd.nf k a o e1 e2 hx b hb
      · have := ok3.hd.fl
        omega
    · have e : b = p ∨ b = l := by simpa using hb
      rcases e with rfl | rfl
      · exact fp3n
      · exact fl3n
  · obtain ⟨z1, o, z2⟩ := ok3.hd.pt a (.inl (.inl z))
    refine ⟨z1, o, keep a o (fun e => nc0 (e ▸ z)) z2⟩
  · rcases cut _ _ _ _ e1 with ⟨hk, e1⟩ | ⟨hk, rfl⟩
    · rcases cut _ _ _ _ e2 with ⟨hk2, e2⟩ | ⟨hk2, e2⟩
      · exact fun z => ok3.hd.np k a ds' e1 e2 b hb (.inl (.inl z))
      · have := ok3.hd.fl
        omega
    · rcases cut _ _ _ _ e2 with ⟨hk2, e2⟩ | ⟨hk2, e2⟩
      · have := ok3.hd.fl
        omega
      · cases e2
  · obtain ⟨x, e1, e2⟩ := ok3.sr i d e
    exact ⟨x, e1, e2.mono (Same.refl _) (List.prefix_append _ _)⟩
  · rw [List.flatten_append, List.mem_append] at m
    rcases m with m | m
    · exact GG.nw a m
    · have e : a = p ∨ a = l := by simpa using m
      rcases e with rfl | rfl
      · exact .inr hp
      · exact .inr (none_back g0.th hl)
  · by_cases hb : a = p
    · rw [hb]
      exact ⟨_, upd_same⟩
    · obtain ⟨o', e'⟩ := GG.th a o e
      exact ⟨o', keep a o' hb e'⟩
  · rw [← ok3.hd.fl, List.getElem?_concat_length]
end
end DL

set_option maxRecDepth 100000
set_option maxHeartbeats 1000000
/-! DLx: objects of a def's own that nobody sees any more are forgotten at its end -/
namespace DL
open PySem PySem.Spec PyProof.Rows L2
section
variable {K : PySem.W.Frag} {S S0 S1 S2 S3 : SS} {te : TE} {ob ob' ob1 : List OO} {as : List SD} {R : FR} {r : SD}
variable {c : Addr → Prop} {Hf H Hf' H' : Hp} {σ : L2.St} {fp fp' : List (List Addr)}
theorem take_get {α : Type} {l : List α} {n k : Nat} {x : α} (h : (l.take n)[k]? = some x) : l[k]? = some x := by
  rw [List.getElem?_take] at h
  split at h
  · exact h
  · cases h
theorem take_fl {fp : List (List Addr)} {n : Nat} {a : Addr} (h : a ∈ (fp.take n).flatten) : a ∈ fp.flatten := by
  obtain ⟨p, h1, h2⟩ := List.mem_flatten.mp h
  exact List.mem_flatten.mpr ⟨p, List.mem_of_mem_take h1, h2⟩
theorem Hd.cut (h : Hd K c Hf H fp ob) (p : ob1 <+: ob) : Hd K c Hf H (fp.take ob1.length) ob1 := by
  refine ⟨h.ex, ?_, fun k a o e1 e2 => h.oo k a o (take_get e1) (pre_get p e2), ?_, fun a ha => h.al a (take_fl ha), fun k q o e1 e2 => h.nf k q o (take_get e1) (pre_get p e2), h.pt, fun k q ds e1 e2 => h.np k q ds (take_get e1) (pre_get p e2)⟩
  · have := p.length_le
    have := h.fl
    rw [List.length_take]
    omega
  · have e : fp.flatten = (fp.take ob1.length).flatten ++ (fp.drop ob1.length).flatten := by
      rw [← List.flatten_append, List.take_append_drop]
    have := h.nd
    rw [e, List.nodup_append] at this
    exact this.1
theorem Gr.cut (g : Gr Hf H fp Hf' H' fp') {n : Nat} (hl : fp.length ≤ n) : Gr Hf H fp Hf' H' (fp'.take n) :=
  ⟨g.sm, List.prefix_take_iff.mpr ⟨g.pr, hl⟩, g.fr, fun a m => g.nw a (take_fl m), g.th⟩
theorem SRl.cut {v : V} {n : Nat} (h : SRl K Hf fp (some v) r) (hk : ∀ k, r = .own k → k < n) : SRl K Hf (fp.take n) (some v) (nol r) := by
  cases r with
  | un => trivial
  | dat d => exact h
  | scr ns => exact h
  | rng _ _ => exact h
  | lown _ => trivial
  | tx _ => exact h
  | tq _ _ _ => exact h
  | no => exact h
  | own k =>
    obtain ⟨a, q, h1, h2⟩ := h
    refine ⟨a, q, ?_, h2⟩
    rw [List.getElem?_take, if_pos (hk k rfl)]
    exact h1
/-- a def's body, over data; what it made for itself is forgotten -/
theorem body_ofG {N : List Str} {np : Nat} {ts : TS} {vs : List V} {Q : VK} {E : XK} (h : spD K np R vs H Q E) (hN : np ≤ N.length)
    (hk : ∀ as ob r ob', R as ob r ob' → ob.length ≤ ob'.length ∧ ∀ k, r = .own k → k < ob'.length)
    (hb : ∀ as ob r ob', R as ob r ob' → as.length = np → Ts K ts (entry N.length as ob) { nx := fun S' => r = .dat .none ∧ ob' <+: S'.ob, rt := fun x S' => x = r ∧ ob' <+: S'.ob }) : ts { nx := fun _ H' => Q .non H', rt := Q } (L2.start N vs) H := by
  have h2 : spD K np (fun as ob r obx => R as ob r obx) vs H Q E := h
  obtain ⟨hl, Hf, fp, as, ob, r, ob', hd, hno, sr, hR, k⟩ := h
  obtain ⟨k1, k2⟩ := hk _ _ _ _ hR
  have la : as.length = np := by
    rw [← hl]
    exact (Paired.length sr).symm
  have ok : Okk K (prot Hf H) Hf H (L2.start N vs) fp (entry N.length as ob) := by
    refine ⟨hd, ?_, fun i d e => ?_⟩
    · unfold L2.start entry
      simp only [List.length_append, List.length_map, List.length_replicate]
      omega
    · unfold entry at e
      by_cases hi : i < as.length
      · rw [List.getElem?_append_left hi] at e
        obtain ⟨v, h1, h2⟩ := sr.get e
        refine ⟨some v, ?_, h2⟩
        unfold L2.start
        rw [List.getElem?_append_left (by rw [List.length_map]; omega), List.getElem?_map, h1]
        rfl
      · rw [List.getElem?_append_right (by omega), List.getElem?_replicate] at e
        split at e
        · rename_i hlt
          obtain rfl := Option.some.inj e
          refine ⟨none, ?_, trivial⟩
          unfold L2.start
          rw [List.getElem?_append_right (by rw [List.length_map]; omega), List.getElem?_replicate, if_pos (by rw [List.length_map]; omega)]
        · cases e
  have k1' : fp.length ≤ ob'.length := by
    rw [hd.fl]
    exact k1
  refine hb as ob r ob' hR la _ Hf H _ fp ok _ (fun S' Hf' H' σ' fp' ok' g e => ?_) (fun x S' v Hf' H' σ' fp' ok' g rv e => ?_) (fun _ _ _ _ _ _ _ z => z.elim) fun _ _ _ _ _ _ _ z => z.elim
  · obtain ⟨rfl, p⟩ := e
    exact k .non Hf' H' _ (ok'.hd.cut p) (g.cut k1') Rp.non
  · obtain ⟨rfl, p⟩ := e
    exact k v Hf' H' _ (ok'.hd.cut p) (g.cut k1') (rv.cut k2)
/-- an operator, its fragment told -/
theorem opK {X : Cx} (K : PySem.W.Frag) {R : PySem.W.Frag → R2} {f : Value → Value → Sem Value} (h : OpR X f (R X.K)) (e : X.K = K) : OpR X f (R K) := e ▸ h
/-- the script's part -/
theorem RpA.ofInts {xs : List V} {ns : List Int} (e : xs = ns.map V.int) : RpA K Hf xs (ns.map PyData.int) := e ▸ RpA.ints ns
theorem el_slScr {tl th : TO} {lo hi : Option Int} {ns : List Int} (h : Ee K te S (.scr ns) S1) (hl : Eo K tl S1 lo S2) (hh : Eo K th S2 hi S3) : El K (tSl (rSlU K) te tl th) S (cutD (ns.map PyData.int) lo hi) S3 := fun c Hf H σ fp ok Q q =>
  h c Hf H σ fp ok _ fun v Hf1 H1 fp1 ok1 g1 r1 => hl c Hf1 H1 σ fp1 ok1 _ fun Hf2 H2 fp2 ok2 g2 => hh c Hf2 H2 σ fp2 ok2 _ fun Hf3 H3 fp3 ok3 g3 => by
    obtain ⟨a, rfl, h1⟩ := r1
    refine .inl ⟨a, _, rfl, (g2.sm.trans g3.sm |>.trans ok3.hd.ex).seq h1, fun p hp => ?_⟩
    obtain ⟨ok4, g4, al⟩ := ok3.alone hp (cutD_rp (RpA.ints ns) (lo := lo) (hi := hi))
    have G := (g1.trans g2).trans g3
    exact q p _ _ _ ok4 (G.trans g4) (none_back G.th hp) al
theorem cut_take {n : Nat} (ns : List Int) : cutD (ns.map PyData.int) none (some (n : Int)) = (ns.take n).map PyData.int := by
  unfold cutD
  have e1 : HT.sIx (ns.map PyData.int).length 0 none = 0 := rfl
  have e2 : HT.sIx (ns.map PyData.int).length (ns.map PyData.int).length (some (n : Int)) = min n (ns.map PyData.int).length := by
    unfold HT.sIx
    simp
    omega
  rw [e1, e2, List.drop_zero, Nat.sub_zero, List.map_take]
  by_cases h : n ≤ (ns.map PyData.int).length
  · rw [Nat.min_eq_left h]
  · rw [Nat.min_eq_right (by omega), List.take_of_length_le (Nat.le_refl _), List.take_of_length_le (by omega)]
end
end DL

set_option maxRecDepth 100000
set_option maxHeartbeats 1000000
/-! DLs: sorted, slices of tuples, products, zip, while, own dicts of whole numbers, l.pop(i), list(range(..)), l[::-1], targets out of lists -/
namespace DL
open PySem PySem.Spec PyProof.Rows L2
/-! ### whole numbers in order -/
def sortI (ns : List Int) : List Int := ns.mergeSort fun a b => decide (a ≤ b)
theorem sortI_perm (ns : List Int) : (sortI ns).Perm ns := List.mergeSort_perm _ _
theorem sortI_sorted (ns : List Int) : (sortI ns).Pairwise (· ≤ ·) := by
  have h := List.pairwise_mergeSort (le := fun a b : Int => decide (a ≤ b)) (fun a b c h1 h2 => decide_eq_true (Int.le_trans (of_decide_eq_true h1) (of_decide_eq_true h2))) (fun a b => by
    rw [Bool.or_eq_true, decide_eq_true_eq, decide_eq_true_eq]
    exact Int.le_total a b) ns
  exact h.imp fun {a b} z => of_decide_eq_true z
theorem sorted_uniq : ∀ {xs ys : List Int}, xs.Perm ys → xs.Pairwise (· ≤ ·) → ys.Pairwise (· ≤ ·) → xs = ys
  | [], ys, p, _, _ => by rw [List.nil_perm.mp p]
  | x :: xs, [], p, _, _ => by cases (List.perm_nil.mp p)
  | x :: xs, y :: ys, p, s, t => by
    have s1 := List.pairwise_cons.mp s
    have t1 := List.pairwise_cons.mp t
    have e : x = y := by
      have h1 : y ≤ x := by
        rcases List.mem_cons.mp (p.subset (List.mem_cons_self (a := x))) with h | h
        · exact Int.le_of_eq h.symm
        · exact t1.1 x h
      have h2 : x ≤ y := by
        rcases List.mem_cons.mp (p.symm.subset (List.mem_cons_self (a := y))) with h | h
        · exact Int.le_of_eq h.symm
        · exact s1.1 y h
      exact Int.le_antisymm h2 h1
    subst e
    rw [sorted_uniq p.cons_inv s1.2 t1.2]
theorem sortI_of {ms ns : List Int} (p : ms.Perm ns) (s : ms.Pairwise (· ≤ ·)) : ms = sortI ns := sorted_uniq (p.trans (sortI_perm ns).symm) s (sortI_sorted ns)
section
variable {K : PySem.W.Frag} {S S0 S1 S2 S3 S4 : SS} {ta tb tc td te : TE} {t u : TT} {x y z w : SD} {d e : PyData} {i j l : Int} {ds es : List PyData} {ns : List Int} {k n : Nat} {E : DE} {g : TG} {a b : Bool} {tbd : TS}
variable {c : Addr → Prop} {Hf H : Hp} {σ : L2.St} {fp : List (List Addr)}
theorem rcl_sortL (h : AsD S x (.list (ns.map PyData.int))) : RcL K (rSortU K) [x] S ((sortI ns).map PyData.int) S := fun c Hf H σ fp ok vs r Q q => by
  obtain ⟨v, rfl, rv⟩ := r.one
  obtain ⟨a, xs, rfl, h1, h2⟩ := ok.asL rv h
  obtain rfl := RpA.ints_inv h2
  refine .inl ⟨a, ns, rfl, .inl (.inl h1), fun ms p e1 e2 hp => ?_⟩
  obtain ⟨ok2, g2, al⟩ := ok.alone hp (RpA.ints ms)
  rw [sortI_of e1 e2] at *
  exact q p _ _ _ ok2 g2 hp al
theorem rcl_sortT : RcL K (rSortU K) [.dat (.tuple (ns.map PyData.int))] S ((sortI ns).map PyData.int) S := fun c Hf H σ fp ok vs r Q q => by
  obtain ⟨v, rfl, rv⟩ := r.one
  cases rv with
  | tup h1 h2 =>
    obtain rfl := RpA.ints_inv h2
    refine .inr ⟨_, ns, rfl, sameT ok.hd.ex h1, fun ms p e1 e2 hp => ?_⟩
    obtain ⟨ok2, g2, al⟩ := ok.alone hp (RpA.ints ms)
    rw [sortI_of e1 e2] at *
    exact q p _ _ _ ok2 g2 hp al
/-! ### slices -/
theorem ee_slT {tl th : TO} {lo hi : Option Int} (h : Ee K te S (.dat (.tuple ds)) S1) (hl : Eo K tl S1 lo S2) (hh : Eo K th S2 hi S3) : Ee K (tSl (rSlU K) te tl th) S (.dat (.tuple (cutD ds lo hi))) S3 := fun c Hf H σ fp ok Q q =>
  h c Hf H σ fp ok _ fun v Hf1 H1 fp1 ok1 g1 r1 => hl c Hf1 H1 σ fp1 ok1 _ fun Hf2 H2 fp2 ok2 g2 => hh c Hf2 H2 σ fp2 ok2 _ fun Hf3 H3 fp3 ok3 g3 => by
    have r2 := r1.mono (g2.trans g3).sm (g2.trans g3).pr
    have G := (g1.trans g2).trans g3
    cases r2 with
    | tup h1 h2 =>
      refine .inr ⟨_, _, rfl, sameT ok3.hd.ex h1, fun e => ?_, fun _ p hp => ?_⟩
      · refine q _ _ _ _ ok3 G ?_
        have e1 : cutD ds lo hi = ds := by
          unfold cutD
          rw [← h2.len, e.1, e.2, List.drop_zero, Nat.sub_zero, h2.len, List.take_length]
        rw [e1]
        exact Rp.tup h1 h2
      · obtain ⟨ok4, g4⟩ := ok3.laid (.tup _) hp
        exact q _ _ _ _ ok4 (G.trans g4) (Rp.tup (.inl (.inl upd_same)) ((cutD_rp h2).mono g4.sm))
theorem el_slU {tl th : TO} {lo hi : Option Int} (h : Ee K te S x S1) (hl : Eo K tl S1 lo S2) (hh : Eo K th S2 hi S3) (hx : AsD S3 x (.list ds)) : El K (tSl (rSlU K) te tl th) S (cutD ds lo hi) S3 := fun c Hf H σ fp ok Q q =>
  h c Hf H σ fp ok _ fun v Hf1 H1 fp1 ok1 g1 r1 => hl c Hf1 H1 σ fp1 ok1 _ fun Hf2 H2 fp2 ok2 g2 => hh c Hf2 H2 σ fp2 ok2 _ fun Hf3 H3 fp3 ok3 g3 => by
    obtain ⟨a, xs, rfl, h1, h2⟩ := ok3.asL (r1.mono (g2.trans g3).sm (g2.trans g3).pr) hx
    refine .inl ⟨a, xs, rfl, .inl (.inl h1), fun p hp => ?_⟩
    obtain ⟨ok4, g4, al⟩ := ok3.alone hp (cutD_rp h2 (lo := lo) (hi := hi))
    have G := (g1.trans g2).trans g3
    exact q p _ _ _ ok4 (G.trans g4) (none_back G.th hp) al
theorem el_revL (h : Ee K te S x S1) (hx : AsD S1 x (.list ds)) : El K (tRevL K te) S ds.reverse S1 := fun c Hf H σ fp ok Q q =>
  h c Hf H σ fp ok _ fun v Hf1 H1 fp1 ok1 g1 r1 => by
    obtain ⟨a, xs, rfl, h1, h2⟩ := ok1.asL r1 hx
    refine ⟨a, xs, rfl, .inl (.inl h1), fun p hp => ?_⟩
    obtain ⟨ok2, g2, al⟩ := ok1.alone hp h2.reverse
    exact q p _ _ _ ok2 (g1.trans g2) (none_back g1.th hp) al
/-! ### products -/
def repD (k : Nat) (ds : List PyData) : List PyData := (List.replicate k ds).flatten
theorem repD_succ (k : Nat) (ds : List PyData) : repD (k + 1) ds = ds ++ repD k ds := rfl
theorem repD_len (ds : List PyData) : ∀ k : Nat, (repD k ds).length = k * ds.length
  | 0 => by rw [Nat.zero_mul]; rfl
  | k + 1 => by rw [repD_succ, List.length_append, repD_len ds k, Nat.succ_mul, Nat.add_comm]
theorem RpA.rep {xs : List V} (h : RpA K Hf xs ds) : ∀ k : Nat, RpA K Hf (List.replicate k xs).flatten (repD k ds)
  | 0 => .nil
  | k + 1 => h.append (RpA.rep h k)
theorem rol_rep (h : AsD S x (.list ds)) (h0 : 0 ≤ i) (hz : ds.length * i.toNat ≤ 1000000) (hi : i ≤ 1000000) : RoL K (rMulU K) x (.dat (.int i)) S (repD i.toNat ds) S := fun c Hf H σ fp ok v u rv ru Q q => by
  obtain ⟨a, xs, rfl, h1, h2⟩ := ok.asL rv h
  cases ru
  refine .inr (.inr (.inl ⟨a, i, xs, rfl, rfl, h1, by omega, by omega, ?_, fun p hp => ?_⟩))
  · rw [h2.len]
    exact Nat.le_trans hz (by decide)
  · obtain ⟨ok2, g2, al⟩ := ok.alone hp (RpA.rep h2 i.toNat)
    exact q p _ _ _ ok2 g2 hp al
theorem ro_repT (hne : ds ≠ []) (h2 : 2 ≤ i) (hz : ds.length * i.toNat ≤ 1000000) : Ro K (rMulU K) (.dat (.tuple ds)) (.dat (.int i)) S (.dat (.tuple (repD i.toNat ds))) S := fun c Hf H σ fp ok v u rv ru Q q => by
  cases ru
  cases rv with
  | @tup a xs _ h1 h3 =>
    refine .inr (.inr (.inr ⟨a, i, xs, rfl, rfl, sameT ok.hd.ex h1, fun e => hne ?_, h2, by rw [h3.len]; exact hz, fun p hp => ?_⟩))
    · subst e
      cases h3
      rfl
    · obtain ⟨ok2, g2⟩ := ok.laid (.tup _) hp
      exact q _ _ _ _ ok2 g2 (Rp.tup (.inl (.inl upd_same)) ((RpA.rep h3 i.toNat).mono g2.sm))
/-! ### list(range(..)), tuple(range(..)) -/
theorem rp_rng (lo : Int) (hi : Int) : RpA K Hf (rgV lo hi) (rngD lo (hi - lo).toNat) := by
  unfold rgV rngD
  induction (List.range (hi - lo).toNat) with
  | nil => exact .nil
  | cons a r ih => exact .cons (.int _) ih
theorem el_rng1 (h : Ee K te S (.dat (.int i)) S1) (hi : 0 ≤ i ∧ i ≤ 1000000) : El K (tLstRg (tRg1 te)) S (rngD 0 i.toNat) S1 := fun c Hf H σ fp ok Q q =>
  h c Hf H σ fp ok _ fun v Hf1 H1 fp1 ok1 g1 r1 => by
    cases r1
    refine ⟨i, rfl, RgOk.of_le (Int.le_refl 0) (by omega) (by decide) hi.1, fun p hp => ?_⟩
    obtain ⟨ok2, g2, al⟩ := ok1.alone hp (rp_rng (K := K) 0 i)
    rw [Int.sub_zero] at al
    exact q p _ _ _ ok2 (g1.trans g2) (none_back g1.th hp) al
theorem ee_trng1 (h : Ee K te S (.dat (.int i)) S1) (hi : 0 ≤ i ∧ i ≤ 1000000) : Ee K (tTupRg (tRg1 te)) S (.dat (.tuple (rngD 0 i.toNat))) S1 := fun c Hf H σ fp ok Q q =>
  h c Hf H σ fp ok _ fun v Hf1 H1 fp1 ok1 g1 r1 => by
    cases r1
    refine ⟨i, rfl, RgOk.of_le (Int.le_refl 0) (by omega) (by decide) hi.1, fun p hp => ?_⟩
    obtain ⟨ok2, g2⟩ := ok1.laid (.tup (rgV 0 i)) hp
    have r := rp_rng (K := K) (Hf := upd Hf1 p (.tup (rgV 0 i))) 0 i
    rw [Int.sub_zero] at r
    exact q _ _ _ _ ok2 (g1.trans g2) (Rp.tup (.inl (.inl upd_same)) r)
/-! ### zip -/
def zipD (xs ys : List PyData) : List PyData := (List.range (min xs.length ys.length)).map fun i => .tuple [xs.getD i .none, ys.getD i .none]
theorem zipD_len (xs ys : List PyData) : (zipD xs ys).length = min xs.length ys.length := by
  unfold zipD
  rw [List.length_map, List.length_range]
theorem zipD_get {xs ys : List PyData} {i : Nat} (h : (zipD xs ys)[i]? = some d) : ∃ p q, xs[i]? = some p ∧ ys[i]? = some q ∧ d = .tuple [p, q] := by
  unfold zipD at h
  rw [List.getElem?_map] at h
  by_cases hi : i < min xs.length ys.length
  · rw [List.getElem?_range hi] at h
    have h1 : i < xs.length := by omega
    have h2 : i < ys.length := by omega
    refine ⟨xs[i], ys[i], List.getElem?_eq_getElem h1, List.getElem?_eq_getElem h2, ?_⟩
    rw [← Option.some.inj h]
    show PyData.tuple [xs.getD i .none, ys.getD i .none] = _
    rw [List.getD_eq_getElem?_getD, List.getElem?_eq_getElem h1, List.getD_eq_getElem?_getD, List.getElem?_eq_getElem h2]
    rfl
  · rw [List.getElem?_eq_none (by rw [List.length_range]; omega)] at h
    cases h
theorem zip_pair {xs ys : List PyData} {vs us : List V} (r1 : RpA K Hf vs xs) (r2 : RpA K Hf us ys) {Hf1 H1 : Hp} {v : V} {H2 : Hp} {i : Nat} (e1 : Same Hf Hf1) (e2 : Same Hf1 H1) (hd : (zipD xs ys)[i]? = some d) (y : YPair (fun i => vs[i]?) (fun i => us[i]?) i H1 v H2) :
    ∃ p o, H1 p = none ∧ H2 = upd H1 p o ∧ Rp K (upd Hf1 p o) v d := by
  obtain ⟨T, v1, v2, rfl, hT, rfl, y1, y2⟩ := y
  obtain ⟨p, q, k1, k2, rfl⟩ := zipD_get hd
  obtain ⟨w1, a1, a2⟩ := r1.get k1
  obtain ⟨w2, b1, b2⟩ := r2.get k2
  have y3 : some v1 = some w1 := y1.symm.trans a1
  have y4 : some v2 = some w2 := y2.symm.trans b1
  obtain rfl := Option.some.inj y3
  obtain rfl := Option.some.inj y4
  have up : Same Hf1 (upd Hf1 T (.tup [v1, v2])) := fun b o eb => by
    rw [upd_ne (ne_of_none eb (e2.free hT))]
    exact eb
  exact ⟨T, _, hT, rfl, .tup (.inl (.inl upd_same)) (.cons (a2.mono (e1.trans up)) (.cons (b2.mono (e1.trans up)) .nil))⟩
theorem ei_zipT {tas : TA} {xs ys : List PyData} (h : Ed K tas S [.tuple xs, .tuple ys] S1) : Ei K (RZ.iZipA K tas) S (zipD xs ys) S1 := fun c Hf H σ fp ok R q => h c Hf H σ fp ok _ fun v Hf1 H1 fp1 ok1 g1 r1 => by
  cases r1 with
  | cons r1 rr => cases rr with
    | cons r2 rr =>
      cases rr
      cases r1 with
      | tup h1 h2 => cases r2 with
        | tup h3 h4 =>
          refine ⟨_, _, _, _, rfl, .inr ⟨sameT ok1.hd.ex h1, sameT ok1.hd.ex h3, q _ Hf1 H1 fp1 ok1 g1 (wk_of walk_zipT ((zipD_len xs ys).trans (by rw [h2.len, h4.len])) (fun Hf2 H2 e1 e2 => ⟨sameT e2 (sameT e1 h1), sameT e2 (sameT e1 h3)⟩) fun i d Hf2 H2 x H3 e1 e2 hd y => .inr (zip_pair h2 h4 e1 e2 hd y))⟩⟩
/-! ### while -/
theorem ts_while (Pv : Nat → SS → Prop) (m0 : Nat) (h0 : Pv m0 S) (hs : ∀ m S', Pv m S' → ∃ b S1, Et K t S' b S1 ∧ (b = true → Ts K tbd S1 { nx := fun S2 => ∃ m', m' < m ∧ Pv m' S2, rt := E.rt, bk := E.nx, ct := fun S2 => ∃ m', m' < m ∧ Pv m' S2 }) ∧ (b = false → E.nx S1)) : Ts K (tWhile t tbd) S E := fun c Hf H σ fp ok D n r bk ct => by
  refine ⟨fun m σ' H' => ∃ S' Hf' fp', Okk K c Hf' H' σ' fp' S' ∧ Gr Hf H fp Hf' H' fp' ∧ Pv m S', ⟨m0, S, Hf, fp, ok, Gr.refl, h0⟩, ?_⟩
  rintro m σ' H' ⟨S', Hf', fp', ok', g', p⟩
  obtain ⟨b, S1, ht, hb, hd⟩ := hs m S' p
  refine ht c Hf' H' σ' fp' ok' _ fun Hf1 H1 fp1 ok1 g1 => ?_
  cases b with
  | false => exact iteF (n S1 Hf1 H1 σ' fp1 ok1 (g'.trans g1) (hd rfl))
  | true =>
    refine iteT ⟨fun σ2 H2 => ∃ m', m' < m ∧ ∃ S' Hf' fp', Okk K c Hf' H2 σ2 fp' S' ∧ Gr Hf H fp Hf' H2 fp' ∧ Pv m' S', fun σ2 H2 z => z, ?_⟩
    exact hb rfl c Hf1 H1 σ' fp1 ok1 _ (fun S2 Hf2 H2 σ2 fp2 ok2 g2 ⟨m', lt, p'⟩ => ⟨m', lt, S2, Hf2, fp2, ok2, (g'.trans g1).trans g2, p'⟩) (fun x S2 v Hf2 H2 σ2 fp2 ok2 g2 sr p' => r x S2 v Hf2 H2 σ2 fp2 ok2 ((g'.trans g1).trans g2) sr p')
      (fun S2 Hf2 H2 σ2 fp2 ok2 g2 p' => n S2 Hf2 H2 σ2 fp2 ok2 ((g'.trans g1).trans g2) p') (fun S2 Hf2 H2 σ2 fp2 ok2 g2 ⟨m', lt, p'⟩ => ⟨m', lt, S2, Hf2, fp2, ok2, (g'.trans g1).trans g2, p'⟩)
/-! ### l.pop(i) -/
theorem RpA.erase : ∀ {vs : List V} {ds : List PyData} (i : Nat), RpA K Hf vs ds → RpA K Hf (vs.eraseIdx i) (ds.eraseIdx i)
  | _, _, _, .nil => .nil
  | _, _, 0, .cons _ t => t
  | _, _, i + 1, .cons h t => .cons h (RpA.erase i t)
theorem ee_popAt (hl : Ee K ta S (.own k) S1) (he : Ee K te S1 (.dat (.int i)) S2) (ho1 : ∃ ds1, S1.ob[k]? = some (.lst ds1)) (ho : S2.ob[k]? = some (.lst ds)) (hi : ixN ds.length i = some n) (hd : ds[n]? = some d) (hz : ds.length ≤ 1000000) :
    Ee K (tBM K "list" rPopAt ta (tCons te tNil)) S (.dat d) { S2 with ob := S2.ob.set k (.lst (ds.eraseIdx n)) } := fun c Hf H σ fp ok Q q =>
  hl c Hf H σ fp ok _ fun v Hf1 H1 fp1 ok1 g1 r1 => by
    obtain ⟨ds1, ho1⟩ := ho1
    obtain ⟨a, xs, rfl, h1, h2, h3⟩ := ok1.obL ho1 r1
    refine ⟨.inl ⟨rfl, xs, .inl (.inl h2)⟩, he c Hf1 H1 σ fp1 ok1 _ fun u Hf2 H2 fp2 ok2 g2 r2 => ?_⟩
    cases r2
    obtain ⟨b, zs, e, k1, k2, k3⟩ := ok2.setL ho (r1.mono g2.sm g2.pr)
    cases e
    obtain ⟨w, w1, w2⟩ := k2.get hd
    obtain ⟨ok3, g3⟩ := k3 _ _ (RpA.erase n k2)
    obtain ⟨q1, q2, q3, q4⟩ := ixN_seq hi
    refine ⟨a, zs, i, n, w, rfl, rfl, k1, by omega, by omega, by rw [k2.len]; exact q1, w1, q _ _ _ _ ok3 ((g1.trans g2).trans g3) w2⟩
/-! ### targets out of lists -/
theorem eg_unl {gs : TGs} {n : Nat} (h : Egs K gs ds S S1) (hn : ds.length = n := by rfl) : Eg K (gUnl K n gs) (.list ds) S S1 := fun c Hf H σ fp ok x r Q q => by
  cases r with
  | lst h1 h2 => exact ⟨_, _, rfl, .inl (.inl (ok.hd.ex _ _ h1)), h2.len.trans hn, h c Hf H σ fp ok _ h2 Q q⟩
/-! ### own dicts of whole numbers -/
theorem Hd.ownO (h : Hd K c Hf H fp S.ob) {p : Addr} {o : OO} (hx : ∃ u, H p = some u) (hf : Hf p = none) (hm : p ∉ fp.flatten) (ho : OOk K Hf H [p] o) (hl : ∀ ds, o ≠ .lst ds) : Hd K c Hf H (fp ++ [[p]]) (S.ob ++ [o]) := by
  have hsz : ∀ {α : Type} (l : List α) (x y : α) (k : Nat), (l ++ [x])[k]? = some y → (k < l.length ∧ l[k]? = some y) ∨ (k = l.length ∧ y = x) := fun l x y k e => by
    by_cases hk : k < l.length
    · rw [List.getElem?_append_left hk] at e
      exact .inl ⟨hk, e⟩
    · have e2 := (List.getElem?_eq_some_iff.mp e).1
      rw [List.length_append, List.length_singleton] at e2
      have e3 : k = l.length := by omega
      subst e3
      rw [List.getElem?_concat_length] at e
      exact .inr ⟨rfl, (Option.some.inj e).symm⟩
  have fl := h.fl
  refine ⟨h.ex, by rw [List.length_append, List.length_append, fl]; rfl, fun k a x h1 h2 => ?_, ?_, fun a ha => ?_, fun k q x h1 h2 hx a ha => ?_, h.pt, fun k q ds' h1 h2 a ha => ?_⟩
  · rcases hsz _ _ _ _ h1 with ⟨hk, h1'⟩ | ⟨hk, rfl⟩
    · rcases hsz _ _ _ _ h2 with ⟨hk2, h2'⟩ | ⟨hk2, rfl⟩
      · exact h.oo k a x h1' h2'
      · omega
    · rcases hsz _ _ _ _ h2 with ⟨hk2, h2'⟩ | ⟨hk2, rfl⟩
      · omega
      · exact ho
  · rw [List.flatten_append, List.nodup_append]
    refine ⟨h.nd, by simp, fun a ha b hb => ?_⟩
    have e : b = p := by simpa using hb
    rw [e]
    exact fun z => hm (z ▸ ha)
  · rw [List.flatten_append, List.mem_append] at ha
    rcases ha with ha | ha
    · exact h.al a ha
    · have e : a = p := by simpa using ha
      rw [e]
      exact hx
  · rcases hsz _ _ _ _ h1 with ⟨hk, h1'⟩ | ⟨hk, rfl⟩
    · rcases hsz _ _ _ _ h2 with ⟨hk2, h2'⟩ | ⟨hk2, rfl⟩
      · exact h.nf k q x h1' h2' hx a ha
      · omega
    · have e : a = p := by simpa using ha
      rw [e]
      exact hf
  · rcases hsz _ _ _ _ h1 with ⟨hk, h1'⟩ | ⟨hk, rfl⟩
    · rcases hsz _ _ _ _ h2 with ⟨hk2, h2'⟩ | ⟨hk2, e2⟩
      · exact h.np k q ds' h1' h2' a ha
      · omega
    · rcases hsz _ _ _ _ h2 with ⟨hk2, h2'⟩ | ⟨hk2, e2⟩
      · omega
      · exact absurd e2.symm (hl ds')
theorem eo_newdic : Ee K tDNewK S (.own S.ob.length) { S with ob := S.ob ++ [.dic (fun _ => none) 0] } := fun c Hf H σ fp ok Q q p hp => by
  obtain ⟨ok2, g2, nm, nc⟩ := ok.apart (.dK []) hp
  have hf := ok.hd.ex.free hp
  refine q _ Hf _ (fp ++ [[p]]) ⟨ok2.hd.ownO ⟨_, upd_same⟩ hf nm ⟨p, [], rfl, upd_same, Nat.le_refl _, fun k => rfl⟩ (fun ds z => by cases z), ok2.ln, fun i d e => ?_⟩ (g2.own hp) ⟨p, [], ?_, rfl⟩
  · obtain ⟨x, q1, q2⟩ := ok2.sr i d e
    exact ⟨x, q1, q2.mono (Same.refl _) (List.prefix_append _ _)⟩
  · rw [← ok.hd.fl, List.getElem?_concat_length]
theorem Okk.dic (ok : Okk K c Hf H σ fp S) {f : Int → Option Int} (ho : S.ob[k]? = some (.dic f n)) {v : V} (r : SRl K Hf fp (some v) (.own k)) :
    ∃ a kvs, v = .ref a ∧ fp[k]? = some [a] ∧ H a = some (.dK kvs) ∧ kvs.length ≤ n ∧ ∀ j : Int, valV kvs (Sum.inl j) = (f j).map V.int := by
  obtain ⟨a, q, h1, h2⟩ := r
  obtain ⟨a', kvs, e, h3, h4, h5⟩ := ok.hd.oo k _ _ h1 ho
  have e2 : a = a' ∧ q = [] := by simpa using e
  obtain ⟨rfl, rfl⟩ := e2
  exact ⟨a, kvs, h2, h1, h3, h4, h5⟩
/-- d.get(k, x) -/
theorem ee_dget2 {f : Int → Option Int} (hd : Ee K td S (.own k) S1) (ho : S1.ob[k]? = some (.dic f n)) (hk : Ee K ta S1 (.dat (.int i)) S1) (hx : Ee K tb S1 (.dat (.int j)) S1) : Ee K (tDGet2 td ta tb) S (.dat (.int ((f i).getD j))) S1 := fun c Hf H σ fp ok Q q =>
  hd c Hf H σ fp ok _ fun v Hf1 H1 fp1 ok1 g1 r1 => by
    obtain ⟨a, kvs, rfl, _, h2, h3, h4⟩ := ok1.dic ho r1
    refine ⟨a, rfl, .inl ⟨kvs, .inl h2⟩, hk c Hf1 H1 σ fp1 ok1 _ fun u Hf2 H2 fp2 ok2 g2 r2 => hx c Hf2 H2 σ fp2 ok2 _ fun u2 Hf3 H3 fp3 ok3 g3 r3 => ?_⟩
    cases r2
    cases r3
    obtain ⟨b, kvs3, e, _, h5, h6, h7⟩ := ok3.dic ho (r1.mono (g2.trans g3).sm (g2.trans g3).pr)
    cases e
    refine ⟨valV kvs3 (Sum.inl i), DGet.k (k := Sum.inl i) h5, ?_⟩
    rw [h7 i]
    have e : ((f i).map V.int).getD (V.int j) = V.int ((f i).getD j) := by cases f i <;> rfl
    rw [e]
    exact q _ _ _ _ ok3 ((g1.trans g2).trans g3) (Rp.int _)
theorem put_len (kvs : List (Key × V)) (k : Key) (v : V) : (putK kvs k v).length ≤ kvs.length + 1 := by
  unfold putK
  split
  · rw [List.length_map]
    exact Nat.le_succ _
  · rw [List.length_append, List.length_singleton]
    exact Nat.le_refl _
/-- d[k] = v -/
theorem ts_dput {f : Int → Option Int} {tk tv : TE} (hv : Ee K tv S (.dat (.int j)) S1) (hd : Ee K td S1 (.own k) S2) (hk : Ee K tk S2 (.dat (.int i)) S3) (ho : S3.ob[k]? = some (.dic f n)) (hz : n < 1000000)
    (kx : E.nx { S3 with ob := S3.ob.set k (.dic (fun m => if m = i then some j else f m) (n + 1)) }) : Ts K (sDPut td tk tv) S E := fun c Hf H σ fp ok D nn r bk ct =>
  hv c Hf H σ fp ok _ fun v Hf1 H1 fp1 ok1 g1 r1 => hd c Hf1 H1 σ fp1 ok1 _ fun u Hf2 H2 fp2 ok2 g2 r2 => hk c Hf2 H2 σ fp2 ok2 _ fun w Hf3 H3 fp3 ok3 g3 r3 => by
    cases r1
    cases r3
    obtain ⟨a, kvs, rfl, e0, h2, h3, h4⟩ := ok3.dic ho (r2.mono g3.sm g3.pr)
    obtain ⟨hd3, g4⟩ := ok3.hd.put (o' := .dic (fun m => if m = i then some j else f m) (n + 1)) (H' := upd H3 a (.dK (putK kvs (Sum.inl i) (.int j)))) e0 ho (by intro z; cases z) (fun b hb => upd_ne (by simpa using hb)) ⟨a, _, rfl, upd_same, by have := put_len kvs (Sum.inl i) (.int j); omega, fun m => by
      rw [valV_put, h4 m]
      show _ = (if m = i then some j else f m).map V.int
      by_cases e : m = i
      · rw [if_pos (by rw [e]), if_pos e]
        rfl
      · rw [if_neg (fun z => e (Sum.inl.inj z)), if_neg e]⟩ (fun b hb => by
      rw [show b = a by simpa using hb]
      exact ⟨_, upd_same⟩) (fun ds z => by cases z)
    refine ⟨a, _, rfl, DPut.k (k := Sum.inl i) h2 (Nat.lt_of_le_of_lt h3 (Nat.lt_of_lt_of_le hz (by decide))), ?_⟩
    exact nn { S3 with ob := S3.ob.set k (.dic (fun m => if m = i then some j else f m) (n + 1)) } _ _ _ _ ⟨hd3, ok3.ln, ok3.sr⟩ (((g1.trans g2).trans g3).trans g4) kx
end
end DL

set_option maxRecDepth 100000
set_option maxHeartbeats 1000000
/-! DLt: lists made as data at once -/
namespace DL
open PySem PySem.Spec PyProof.Rows L2
section
variable {K : PySem.W.Frag} {S S0 S1 S2 S3 S4 : SS} {ta tb tc td te : TE} {t u : TT} {x y z w : SD} {d e : PyData} {i j l : Int} {ds es : List PyData} {ns : List Int} {k n : Nat} {E : DE} {g : TG} {a b : Bool} {tbd : TS} {r : R2} {rc : List V → Hp → VK → Prop} {xs : List SD}
theorem ro_of_rol (h : RoL K r x y S ds S1) : Ro K r x y S (.dat (.list ds)) S1 := fun c Hf H σ fp ok v u rv ru Q q => h c Hf H σ fp ok v u rv ru Q fun p Hf1 H1 fp1 ok1 g1 hp al => by
  obtain ⟨Hf2, ok2, g2, rp⟩ := al.dat ok1
  exact q _ _ _ _ ok2 (g1.trans g2) rp
theorem rc_of_rcl (h : RcL K rc xs S ds S1) : Rc K rc xs S (.dat (.list ds)) S1 := fun c Hf H σ fp ok vs r Q q => h c Hf H σ fp ok vs r Q fun p Hf1 H1 fp1 ok1 g1 hp al => by
  obtain ⟨Hf2, ok2, g2, rp⟩ := al.dat ok1
  exact q _ _ _ _ ok2 (g1.trans g2) rp
theorem ro_cat (hl : ds.length + es.length ≤ 1000000) : Ro K (rPlus K) (.dat (.list ds)) (.dat (.list es)) S (.dat (.list (ds ++ es))) S := ro_of_rol (rol_cat (.dat _) (.dat _) hl)
theorem rc_listD : Rc K (rListOf K) [.dat (.list ds)] S (.dat (.list ds)) S := rc_of_rcl (rcl_listL (.dat _))
theorem rc_listT : Rc K (rListOf K) [.dat (.tuple ds)] S (.dat (.list ds)) S := rc_of_rcl rcl_listT
theorem rc_sortL : Rc K (rSortU K) [.dat (.list (ns.map PyData.int))] S (.dat (.list ((sortI ns).map PyData.int))) S := rc_of_rcl (rcl_sortL (.dat _))
theorem rc_sortT : Rc K (rSortU K) [.dat (.tuple (ns.map PyData.int))] S (.dat (.list ((sortI ns).map PyData.int))) S := rc_of_rcl rcl_sortT
theorem ee_slL {tl th : TO} {lo hi : Option Int} (h : Ee K te S x S1) (hl : Eo K tl S1 lo S2) (hh : Eo K th S2 hi S3) (hx : AsD S3 x (.list ds)) : Ee K (tSl (rSlU K) te tl th) S (.dat (.list (cutD ds lo hi))) S3 := ee_of_el (el_slU h hl hh hx)
theorem ee_revL (h : Ee K te S (.dat (.list ds)) S1) : Ee K (tRevL K te) S (.dat (.list ds.reverse)) S1 := ee_of_el (el_revL h (.dat _))
theorem ee_rng1 (h : Ee K te S (.dat (.int i)) S1) (hi : 0 ≤ i ∧ i ≤ 1000000) : Ee K (tLstRg (tRg1 te)) S (.dat (.list (rngD 0 i.toNat))) S1 := ee_of_el (el_rng1 h hi)
theorem ee_lst {tas : TA} (ha : Ed K tas S ds S1) (hz : ds.length ≤ 1000000) : Ee K (tLst tas) S (.dat (.list ds)) S1 := ee_of_el (el_lst ha hz)
theorem ee_tupz {tas : TA} (ha : Ed K tas S ds S1) (hz : ds.length ≤ 1000000) : Ee K (tTup tas) S (.dat (.tuple ds)) S1 := ee_tup ha hz
/-- a comprehension that leaves all as it is: what p lets, by f -/
theorem el_lcf {wi : TI} {vs : List Nat} {p : PyData → Bool} {f : PyData → PyData} (h : Ei K wi S ds S0) (hl : ds.length ≤ 1000000)
    (hs : ∀ (i : Nat) (d : PyData), ds[i]? = some d → ∃ Sg S2, Egc K vs g d { S0 with sl := wipeS S0.sl vs } Sg ∧ Et K t Sg (p d) S2 ∧ S2.ob = S0.ob ∧ (p d = true → ∃ S3, Ee K te S2 (.dat (f d)) S3 ∧ S3.ob = S0.ob)) : El K (tLc wi g t te vs) S ((ds.filter p).map f) S0 := by
  refine el_lc (obo := S0.ob) h (fun i acc ob => acc = ((ds.take i).filter p).map f ∧ ob = S0.ob) ⟨rfl, rfl⟩ ?_ hl ?_
  · rintro i d acc ob hd ⟨rfl, rfl⟩
    obtain ⟨Sg, S2, a1, a2, a3, a4⟩ := hs i d hd
    have e : ds.take (i + 1) = ds.take i ++ [d] := by
      rw [List.take_add_one, hd]
      rfl
    refine ⟨Sg, p d, S2, a1, a2, fun hb => ⟨?_, a3⟩, fun hb => ?_⟩
    · rw [e, List.filter_append, List.filter_cons, hb]
      simp
    · obtain ⟨S3, b1, b2⟩ := a4 hb
      refine ⟨f d, S3, b1, ?_, b2⟩
      rw [e, List.filter_append, List.filter_cons, hb]
      simp
  · rintro acc ob ⟨rfl, rfl⟩
    rw [List.take_of_length_le (Nat.le_refl _)]
    exact ⟨rfl, rfl⟩
theorem el_lcm {wi : TI} {vs : List Nat} {f : PyData → PyData} (h : Ei K wi S ds S0) (hl : ds.length ≤ 1000000)
    (hs : ∀ (i : Nat) (d : PyData), ds[i]? = some d → ∃ Sg, Egc K vs g d { S0 with sl := wipeS S0.sl vs } Sg ∧ ∃ S3, Ee K te Sg (.dat (f d)) S3 ∧ S3.ob = S0.ob ∧ Sg.ob = S0.ob) : El K (tLc wi g tYes te vs) S (ds.map f) S0 := by
  have := el_lcf (p := fun _ => true) (f := f) (g := g) (vs := vs) (t := tYes) (te := te) h hl fun i d hd => by
    obtain ⟨Sg, a1, S3, a2, a3, a4⟩ := hs i d hd
    exact ⟨Sg, Sg, a1, et_yes, a4, fun _ => ⟨S3, a2, a3⟩⟩
  rw [List.filter_eq_self.mpr fun _ _ => rfl] at this
  exact this
end
/-! ### within a comprehension the fragment is told -/
theorem pi_listK {X : Cx} (K : PySem.W.Frag) {tg l : Expr} {tl : TE} (e : X.K = K) (hl : PE X l tl) : PI X tg l (iList K tl) := e ▸ pi_list hl
theorem pi_tupK {X : Cx} (K : PySem.W.Frag) {tg l : Expr} {tl : TE} (e : X.K = K) (hl : PE X l tl) : PI X tg l (iTup K tl) := e ▸ pi_tup hl
theorem ixK {X : Cx} (K : PySem.W.Frag) {R : PySem.W.Frag → R2} (h : IxR X (R X.K)) (e : X.K = K) : IxR X (R K) := e ▸ h
theorem slK {X : Cx} (K : PySem.W.Frag) {R : PySem.W.Frag → V → Option Int → Option Int → Hp → VK → Prop} (h : SlR X (R X.K)) (e : X.K = K) : SlR X (R K) := e ▸ h
theorem callK {X : Cx} (K : PySem.W.Frag) {f : Value} {R : PySem.W.Frag → List V → Hp → VK → Prop} (h : CallR X f (R X.K)) (e : X.K = K) : CallR X f (R K) := e ▸ h
theorem pg_tupK {X : Cx} (K : PySem.W.Frag) {es : List Expr} {k : Nat} {pos : Pos} {t : TGs} {n : Nat} (e : X.K = K) (hc : X.calm = true) (h : PGs X es t)
    (hn : (assignEach es X.env).length = n := by rfl) (hst : (assignEach es X.env).findIdx? (·.1) = none := by rfl) : PG X (.Tuple es k pos) (gTup K n t) := e ▸ pg_tup hc h hn hst
/-! ### flat data: what == may see -/
structure Fl (k : Nat) (d : PyData) : Prop where
  c : d.canLay0 = true
  t : d.depth ≤ k
theorem fl_all {k : Nat} : ∀ {xs : List PyData}, (∀ x ∈ xs, Fl k x) → PyData.canLayAll0 xs = true ∧ PyData.depthAll xs ≤ k
  | [], _ => ⟨rfl, by simp [PyData.depthAll]⟩
  | x :: xs, h => by
    obtain ⟨h1, h2⟩ := fl_all (xs := xs) fun y hy => h y (List.mem_cons_of_mem _ hy)
    have h3 := h x List.mem_cons_self
    refine ⟨by simp [PyData.canLayAll0, h1, h3.c], ?_⟩
    unfold PyData.depthAll
    exact Nat.max_le.mpr ⟨h3.t, h2⟩
theorem Fl.mono {k j : Nat} {d : PyData} (h : Fl k d) (e : k ≤ j) : Fl j d := ⟨h.c, Nat.le_trans h.t e⟩
theorem Fl.int {k : Nat} {i : Int} : Fl k (.int i) := ⟨by simp [PyData.canLay0], Nat.zero_le _⟩
theorem Fl.bl {k : Nat} {b : Bool} : Fl k (.bool b) := ⟨by simp [PyData.canLay0], Nat.zero_le _⟩
theorem Fl.str {k : Nat} {x : Str} (h : PyData.strOk x = true := by decide +kernel) : Fl k (.str x) := ⟨by simpa [PyData.canLay0] using h, Nat.zero_le _⟩
theorem Fl.tup {k : Nat} {xs : List PyData} (h : ∀ x ∈ xs, Fl k x) : Fl (k + 1) (.tuple xs) := ⟨by simpa [PyData.canLay0] using (fl_all h).1, by simp only [PyData.depth]; have := (fl_all h).2; omega⟩
theorem Fl.lst {k : Nat} {xs : List PyData} (h : ∀ x ∈ xs, Fl k x) : Fl (k + 1) (.list xs) := ⟨by simpa [PyData.canLay0] using (fl_all h).1, by simp only [PyData.depth]; have := (fl_all h).2; omega⟩
theorem Fl.sh {k : Nat} {d : PyData} (h : Fl k d) (e : k ≤ 64 := by decide) : SeqAt.shaped d = true := by
  unfold SeqAt.shaped
  rw [h.c, Bool.true_and]
  exact decide_eq_true (Nat.le_trans h.t e)
theorem Fl.rI {k : Nat} {d : PyData} {ns : List Int} (h : d ∈ ns.map PyData.int) : Fl k d := by
  obtain ⟨i, _, rfl⟩ := List.mem_map.mp h
  exact .int
theorem Fl.ints {ns : List Int} : Fl 1 (.list (ns.map PyData.int)) := .lst fun x h => Fl.rI h
theorem Fl.intsT {ns : List Int} : Fl 1 (.tuple (ns.map PyData.int)) := .tup fun x h => Fl.rI h
theorem Fl.self {k : Nat} {d : PyData} (h : Fl k d) : PyData.eqv d d = true := SeqAt.eqv_refl d h.c
theorem eqv_ints : ∀ {ns ms : List Int}, PyData.eqvAll (ns.map PyData.int) (ms.map PyData.int) = decide (ns = ms)
  | [], [] => rfl
  | [], _ :: _ => rfl
  | _ :: _, [] => rfl
  | n :: ns, m :: ms => by
    show (PyData.eqv (.int n) (.int m) && PyData.eqvAll (ns.map PyData.int) (ms.map PyData.int)) = _
    rw [eqv_ints]
    show ((n == m) && decide (ns = ms)) = _
    by_cases e : n = m
    · subst e
      by_cases e2 : ns = ms
      · subst e2
        simp
      · rw [decide_eq_false e2, decide_eq_false (fun z => e2 (List.cons.inj z).2), Bool.and_false]
    · rw [decide_eq_false (fun z => e (List.cons.inj z).1), beq_eq_false_iff_ne.mpr e, Bool.false_and]
theorem eqv_listI {ns ms : List Int} : PyData.eqv (.list (ns.map PyData.int)) (.list (ms.map PyData.int)) = decide (ns = ms) := eqv_ints
theorem eqv_tupI {ns ms : List Int} : PyData.eqv (.tuple (ns.map PyData.int)) (.tuple (ms.map PyData.int)) = decide (ns = ms) := eqv_ints
theorem eqv_nilL {ds : List PyData} : PyData.eqv (.list ds) (.list []) = ds.isEmpty := by cases ds <;> rfl
theorem ro_neNil {K : PySem.W.Frag} {S : SS} {x y : SD} {ds : List PyData} {k : Nat} (hx : AsD S x (.list ds)) (hy : AsD S y (.list [])) (h : ∀ z ∈ ds, Fl k z) (hk : k + 1 ≤ 64 := by decide) : Ro K (rNeU K) x y S (.dat (.bool (!ds.isEmpty))) S := by
  have := ro_neD (K := K) hx hy ((Fl.lst h).sh hk) (by decide)
  rw [eqv_nilL] at this
  exact this
theorem cut_takeD {ds : List PyData} {c : Int} (h : 0 ≤ c) : cutD ds none (some c) = ds.take c.toNat := by
  unfold cutD
  have e1 : HT.sIx ds.length 0 none = 0 := rfl
  have e2 : HT.sIx ds.length ds.length (some c) = min c.toNat ds.length := by
    show (if c < 0 then (c + (ds.length : Int)).toNat else min c.toNat ds.length) = _
    rw [if_neg (by omega)]
  rw [e1, e2, List.drop_zero, Nat.sub_zero]
  by_cases q : c.toNat ≤ ds.length
  · rw [Nat.min_eq_left q]
  · rw [Nat.min_eq_right (by omega), List.take_of_length_le (Nat.le_refl _), List.take_of_length_le (by omega)]
/-- an own list that is not changed any more, seen as data from here on -/
theorem ts_ghost {K : PySem.W.Frag} {S : SS} {ts : TS} {E : DE} {i k : Nat} {ds : List PyData} (hi : S.sl[i]? = some (.own k)) (ho : S.ob[k]? = some (.lst ds)) (h : Ts K ts { S with sl := S.sl.set i (.dat (.list ds)), ob := S.ob.set k .gone } E) : Ts K ts S E := fun c Hf H σ fp ok D n r bk ct => by
  obtain ⟨x, e1, e2⟩ := ok.sr i _ hi
  cases x with
  | none => exact e2.elim
  | some v =>
    obtain ⟨a, xs, rfl, h1, h2, h3⟩ := ok.obL ho e2
    obtain ⟨hd, g2⟩ := ok.hd.freeze h1 ho h2
    have ok2 : Okk K c (upd Hf a (.lst xs)) H σ fp { S with ob := S.ob.set k .gone } := ⟨hd, ok.ln, fun j d e => by
      obtain ⟨x, q1, q2⟩ := ok.sr j d e
      exact ⟨x, q1, q2.mono g2.sm g2.pr⟩⟩
    have ok3 : Okk K c (upd Hf a (.lst xs)) H σ fp { S with sl := S.sl.set i (.dat (.list ds)), ob := S.ob.set k .gone } := by
      refine ⟨ok2.hd, by rw [List.length_set]; exact ok2.ln, fun j d e => ?_⟩
      by_cases hj : i = j
      · subst hj
        have hl : i < S.sl.length := (List.getElem?_eq_some_iff.mp hi).1
        have e' : (S.sl.set i (SD.dat (.list ds)))[i]? = some d := e
        rw [List.getElem?_set_self hl] at e'
        obtain rfl := Option.some.inj e'
        exact ⟨_, e1, Rp.lst upd_same (h3.mono g2.sm)⟩
      · have e' : (S.sl.set i (SD.dat (.list ds)))[j]? = some d := e
        rw [List.getElem?_set_ne hj] at e'
        exact ok2.sr j d e'
    exact h c _ H σ fp ok3 D (fun S' Hf' H' σ' fp' o g e => n S' Hf' H' σ' fp' o (g2.trans g) e) (fun x S' v Hf' H' σ' fp' o g q e => r x S' v Hf' H' σ' fp' o (g2.trans g) q e) (fun S' Hf' H' σ' fp' o g e => bk S' Hf' H' σ' fp' o (g2.trans g) e) fun S' Hf' H' σ' fp' o g e => ct S' Hf' H' σ' fp' o (g2.trans g) e
section
variable {K : PySem.W.Frag} {S : SS} {x y : SD} {d : PyData} {k : Nat}
theorem ro_neS_self {a : Str} : Ro K (rNeU K) (.dat (.str a)) (.dat (.str a)) S (.dat (.bool false)) S := by
  have := ro_neS (K := K) (S := S) (a := a) (b := a)
  rw [decide_eq_true rfl] at this
  exact this
theorem ro_eqS_self {a : Str} : Ro K (rEqU K) (.dat (.str a)) (.dat (.str a)) S (.dat (.bool true)) S := by
  have := ro_eqS (K := K) (S := S) (a := a) (b := a)
  rw [decide_eq_true rfl] at this
  exact this
theorem ro_neD_self (hx : AsD S x d) (hy : AsD S y d) (h : Fl k d) (hk : k ≤ 64 := by decide) : Ro K (rNeU K) x y S (.dat (.bool false)) S := by
  have := ro_neD (K := K) hx hy (h.sh hk) (h.sh hk)
  rw [h.self] at this
  exact this
theorem ro_eqD_self (hx : AsD S x d) (hy : AsD S y d) (h : Fl k d) (hk : k ≤ 64 := by decide) : Ro K (rEqU K) x y S (.dat (.bool true)) S := by
  have := ro_eqD (K := K) hx hy (h.sh hk) (h.sh hk)
  rw [h.self] at this
  exact this
end
end DL

set_option maxRecDepth 100000
set_option maxHeartbeats 1000000
/-! DLu: tuple(range(a, b, -1)), a walk down, whether a tuple is empty, a += b -/
namespace DL
open PySem PySem.Spec PyProof.Rows L2
/-! ### tuple(range(a, b, -1)) -/
def downV (i : Int) (n : Nat) : List V := (List.range n).map fun (k : Nat) => V.int (i + (k : Int) * (-1))
def tTupDn (ta : TA) : TE := fun σ H Q => ta σ H fun vs H1 => ∃ i j : Int, vs = [.int i, .int j, .int (-1)] ∧ (-1000000 ≤ i ∧ i ≤ 1000000 ∧ -1000000 ≤ j ∧ j ≤ 1000000) ∧ ∀ q, H1 q = none → Q (.ref q) (upd H1 q (.tup (downV i (i - j).toNat)))
theorem pe_tupDn {X : Cx} {a b c : Expr} {ta : TA} {p pos p2 pos2 : Pos} (hc : X.calm = true) (hg : Gl X "tuple") (hm : X.mg "tuple" = none) (hgr : Gl X "range") (hmr : X.mg "range" = none) (ha : PA X [a, b, c] ta)
    (n1 : starEach [a, b, c] X.env = (false, eval a X.env) :: starEach [b, c] X.env := by rfl) (n2 : (backTo pos2 (starEach [b, c] X.env)).any (·.1) = false := by rfl)
    (n3 : starEach [.Call (.Name "range" p2) [a, b, c] [] pos2] X.env = (false, eval (.Call (.Name "range" p2) [a, b, c] [] pos2) X.env) :: starEach [] X.env := by rfl) :
    PE X (.Call (.Name "tuple" p) [.Call (.Name "range" p2) [a, b, c] [] pos2] [] pos) (tTupDn ta) := by
  constructor
  intro pins s σ H Q I h
  have inner : wpAny (model X.prog X.w) X.A (eval (.Call (.Name "range" p2) [a, b, c] [] pos2) X.env) (fun x s' => ∃ (r : Addr) (i j : Int) (t u v : Tok) (H' : Hp), x = .ref r ∧ IsRange s'.heap r i j (-1) t u v ∧ Inv X pins σ H' s' ∧ (-1000000 ≤ i ∧ i ≤ 1000000 ∧ -1000000 ≤ j ∧ j ≤ 1000000) ∧ ∀ q, H' q = none → Q (.ref q) (upd H' q (.tup (downV i (i - j).toNat)))) X.xe s := by
    refine Call_ (ld_blt I hgr hmr boot_range (PyProof.Rows.callWith_type1 (thn (ha.run pos2 pins s σ H _ I h) fun us s1 ⟨vs, H1, I1, r1, q1⟩ => ?_) n1 n2))
    obtain ⟨i, j, e, bd, q⟩ := q1
    subst e
    cases r1 with
    | cons r rr => cases rr with
      | cons r' rr => cases rr with
        | cons r'' rr =>
          cases rr
          obtain ⟨t, rfl⟩ := r
          obtain ⟨t', rfl⟩ := r'
          obtain ⟨t'', rfl⟩ := r''
          exact call_range_3 (by decide) ⟨_, i, j, t, t', t'', H1, rfl, IsRange.new _ _ _ _ _ _ _, I1.kept (t' := s1.toks) fun _ _ e => Heap.get?_push_of_some _ e, bd, q⟩ (.inl (PyProof.noPylong_small (by decide)))
  refine Call_ (ld_blt I hg hm boot_tuple (PyProof.Rows.callWith_type1 (args_cons (thn inner fun x s1 ⟨r, i, j, t, u, v, H1, ex, hr, I1, bd, q⟩ => args_nil ?_) n3) n3))
  subst ex
  refine call_tuple_range (n := (i - j).toNat) (I1.ok.hd hc) hr (PySem.W.small_down (by omega) (by omega) (by omega) (by omega)) (PySem.W.rangeSize_downNat i j) (by omega) fun h' tk acc hk hi => ?_
  have I2 : Inv X pins σ H1 { s1 with heap := h', toks := tk } := I1.kept hk
  have len : acc.toList.length = (i - j).toNat := by rw [Array.length_toList]; exact hi.1
  have vals : Vals (downV i (i - j).toNat) acc.toList := by
    unfold downV
    rw [← len]
    refine vals_of_get acc.toList _ fun m w hw => ?_
    obtain ⟨t, rfl⟩ := hi.2 m w (by rw [← hw, Array.getElem?_toList])
    exact ⟨t, rfl⟩
  refine ⟨.ref h'.objs.size, upd H1 h'.objs.size (.tup (downV i (i - j).toNat)), I2.laid (t' := tk) (fun _ _ e => Heap.get?_push_of_some _ e) (Nat.le_refl _) (show ObjOk X.prog X.w _ _ _ (.tup (downV i (i - j).toNat)) from ⟨?_, acc.toList, vals, ?_⟩), rfl, q _ (I2.hok.fresh (Nat.le_refl _))⟩
  · unfold downV
    rw [List.length_map, List.length_range, sizeLine_eq]
    omega
  · rw [Array.toArray_toList]
    exact IsTup.new _ _
def downD (i : Int) (n : Nat) : List PyData := (List.range n).map fun (k : Nat) => PyData.int (i + (k : Int) * (-1))
theorem downD_len (i : Int) (n : Nat) : (downD i n).length = n := by
  unfold downD
  rw [List.length_map, List.length_range]
theorem downD_get {i : Int} {n k : Nat} {d : PyData} (h : (downD i n)[k]? = some d) : k < n ∧ d = .int (i + (k : Int) * (-1)) := by
  unfold downD at h
  rw [List.getElem?_map] at h
  by_cases hk : k < n
  · rw [List.getElem?_range hk] at h
    exact ⟨hk, (Option.some.inj h).symm⟩
  · rw [List.getElem?_eq_none (by rw [List.length_range]; omega)] at h
    cases h
section
variable {K : PySem.W.Frag} {S S0 S1 S2 S3 S4 : SS} {ta tb tc td te : TE} {t u : TT} {x y z w : SD} {d e : PyData} {i j l : Int} {ds es : List PyData} {ns : List Int} {k n : Nat} {E : DE} {g : TG} {a b : Bool} {tbd : TS}
theorem rp_down {Hf : Hp} (i : Int) (n : Nat) : RpA K Hf (downV i n) (downD i n) := by
  unfold downV downD
  induction (List.range n) with
  | nil => exact .nil
  | cons a r ih => exact .cons (.int _) ih
theorem ee_tupDn {tas : TA} (h : Ed K tas S [.int i, .int j, .int (-1)] S1) (hb : -1000000 ≤ i ∧ i ≤ 1000000 ∧ -1000000 ≤ j ∧ j ≤ 1000000) : Ee K (tTupDn tas) S (.dat (.tuple (downD i (i - j).toNat))) S1 := fun c Hf H σ fp ok Q q =>
  h c Hf H σ fp ok _ fun v Hf1 H1 fp1 ok1 g1 r1 => by
    cases r1 with
    | cons r1 rr => cases rr with
      | cons r2 rr => cases rr with
        | cons r3 rr =>
          cases rr
          cases r1
          cases r2
          cases r3
          refine ⟨i, j, rfl, hb, fun p hp => ?_⟩
          obtain ⟨ok2, g2⟩ := ok1.laid (.tup _) hp
          exact q _ _ _ _ ok2 (g1.trans g2) (Rp.tup (.inl (.inl upd_same)) (rp_down _ _))
theorem ei_down {tas : TA} (h : Ed K tas S [.int i, .int j, .int (-1)] S1) (hb : -1000000 ≤ i ∧ i ≤ 1000000 ∧ -1000000 ≤ j ∧ j ≤ 1000000) : Ei K (iRng3 tas) S (downD i (i - j).toNat) S1 := fun c Hf H σ fp ok R q => h c Hf H σ fp ok _ fun v Hf1 H1 fp1 ok1 g1 r1 => by
  cases r1 with
  | cons r1 rr => cases rr with
    | cons r2 rr => cases rr with
      | cons r3 rr =>
        cases rr
        cases r1
        cases r2
        cases r3
        refine ⟨i, j, -1, (i - j).toNat, rfl, RgC.neg (by omega) (by omega) (by omega) (by omega), q _ Hf1 H1 fp1 ok1 g1 (wk_of walk_rangeC (downD_len _ _) (fun _ _ _ _ => trivial) fun m d Hf2 H2 x H3 e1 e2 hd y => .inl ?_)⟩
        obtain ⟨rfl, rfl⟩ := y
        obtain ⟨_, rfl⟩ := downD_get hd
        exact ⟨rfl, .int _⟩
/-! ### whether a tuple is empty -/
def tTru (K : PySem.W.Frag) (ta : TE) : TT := fun σ H Q => ta σ H fun x H' => ∃ k, TruV K x H' k ∧ Q k H'
theorem pt_tru {X : Cx} {a : Expr} {ta : TE} (ha : PE X a ta) (he : ∀ whole, isTrue a X.env whole = (do let v ← whole; standAt a.pos; holding [v] (truthy v)) := by intro _; rfl) : PT X a (tTru X.K ta) := pt_truth ha he
theorem et_truT (h : Ee K te S (.dat (.tuple ds)) S1) : Et K (tTru K te) S (!ds.isEmpty) S1 := fun c Hf H σ fp ok Q q => h c Hf H σ fp ok _ fun v Hf1 H1 fp1 ok1 g1 r1 => by
  cases r1 with
  | @tup a xs _ h1 h2 =>
    refine ⟨_, .inr (.inl ⟨xs, sameT ok1.hd.ex h1, ?_⟩), q _ _ _ ok1 g1⟩
    cases h2 <;> rfl
theorem rc_min2 : Rc K (fun xs H Q => ∃ i j, xs = [.int i, .int j] ∧ Q (.int (if j < i then j else i)) H) [.dat (.int i), .dat (.int j)] S (.dat (.int (if j < i then j else i))) S := fun c Hf H σ fp ok vs r Q q => by
  obtain ⟨v, u, rfl, r1, r2⟩ := r.two
  cases r1
  cases r2
  exact ⟨i, j, rfl, q _ _ _ _ ok Gr.refl (Rp.int _)⟩
theorem rc_max2 : Rc K (fun xs H Q => ∃ i j, xs = [.int i, .int j] ∧ Q (.int (if j > i then j else i)) H) [.dat (.int i), .dat (.int j)] S (.dat (.int (if j > i then j else i))) S := fun c Hf H σ fp ok vs r Q q => by
  obtain ⟨v, u, rfl, r1, r2⟩ := r.two
  cases r1
  cases r2
  exact ⟨i, j, rfl, q _ _ _ _ ok Gr.refl (Rp.int _)⟩
theorem et_orF (h1 : Et K t S false S1) (h2 : Et K u S1 b S2) : Et K (tOr t u) S b S2 := fun c Hf H σ fp ok Q q => h1 c Hf H σ fp ok _ fun Hf1 H1 fp1 ok1 g1 => h2 c Hf1 H1 σ fp1 ok1 Q fun Hf2 H2 fp2 ok2 g2 => q Hf2 H2 fp2 ok2 (g1.trans g2)
theorem et_andT (h1 : Et K t S true S1) (h2 : Et K u S1 b S2) : Et K (tAnd t u) S b S2 := fun c Hf H σ fp ok Q q => h1 c Hf H σ fp ok _ fun Hf1 H1 fp1 ok1 g1 => h2 c Hf1 H1 σ fp1 ok1 Q fun Hf2 H2 fp2 ok2 g2 => q Hf2 H2 fp2 ok2 (g1.trans g2)
theorem ee_andT (h1 : Ee K ta S (.dat (.bool true)) S1) (h2 : Ee K tb S1 x S2) : Ee K (tAndV ta tb) S x S2 := fun c Hf H σ fp ok Q q => h1 c Hf H σ fp ok _ fun v Hf1 H1 fp1 ok1 g1 r1 => by
  cases r1
  exact ⟨true, rfl, h2 c Hf1 H1 σ fp1 ok1 Q fun v Hf2 H2 fp2 ok2 g2 r2 => q v Hf2 H2 fp2 ok2 (g1.trans g2) r2⟩
theorem ee_orF (h1 : Ee K ta S (.dat (.bool false)) S1) (h2 : Ee K tb S1 x S2) : Ee K (tOrV ta tb) S x S2 := fun c Hf H σ fp ok Q q => h1 c Hf H σ fp ok _ fun v Hf1 H1 fp1 ok1 g1 r1 => by
  cases r1
  exact ⟨false, rfl, h2 c Hf1 H1 σ fp1 ok1 Q fun v Hf2 H2 fp2 ok2 g2 r2 => q v Hf2 H2 fp2 ok2 (g1.trans g2) r2⟩
end
end DL

set_option maxRecDepth 100000
set_option maxHeartbeats 4000000
/-! DLset: set(..) of whole numbers, out of a list with any of them twice; sorted(set(..)) -/
namespace DL
open PySem PySem.Spec PyProof.Rows L2
abbrev mtSet (w : World) : Obj := { cls := .type "set", dict := none, data := .set #[] 0 (.fresh 0 0 (!w.params.followText "set-order")) }
section
variable {P : Program} {w : World} {A : Around} {E : Value → Shared → Prop} {s : Shared}
set_option maxHeartbeats 6400000 in
theorem set_of_lst {l : Addr} {items : Array Value} (ns : List Int) {Q : Value → Shared → Prop} (none_ : A.handled = none) (isl : s.heap.IsList l items) (nums : IntsAre items.toList ns) (few : ns.length + 1 < scanBound)
    (then_ : ∀ (h2 : Heap) (t2 c : Nat), SetR w h2 s.heap.objs.size (fun j => decide (j ∈ ns)) c → c ≤ ns.length → (∀ b o, s.heap.get? b = some o → h2.get? b = some o) → Q (.ref s.heap.objs.size) { s with heap := h2, toks := t2 }) : wpAny (model P w) A (call (.type "set") [.ref l]) Q E s := by
  have size : items.size = ns.length := (Array.length_toList (xs := items)).symm.trans (IntsAre.length nums)
  obtain ⟨_, _, hmro⟩ := F.called_set.mro
  have m1 := F.called_set.made; have m2 := F.called_set.sub
  refine wpAny_call (codeAny_of_tree (show wpAny _ _ (callAny (.type "set") _) _ _ _ from wpAny_pure ⟨Code.quiet_builtin _ (by decide +kernel), codeAny_builtin F.entry_type_call ?_⟩))
  rw [Around.under_plain (weight_type_call_type "set" [.ref l] []) rfl]
  have m3 := F.called_set.notType; have m4 := F.called_set.canCreate; have m5 := F.typeCall_set_1 (.ref l)
  repeat (any_goals (first | assumption | wp_step))
  refine codeAny_mono (code_set_led1 (.ref l) (E := E) (Q₁ := fun ob s1 => ob = .ref s.heap.objs.size ∧ s1 = { s with heap := s.heap.push (mtSet w) }) ⟨rfl, rfl⟩) fun r s1 hr => ?_
  rcases r with e | (_ | _ | _ | ob)
  · exact hr
  · exact hr.elim
  · exact hr.elim
  · exact hr.elim
  obtain ⟨rfl, rfl⟩ := hr
  have there : (s.heap.push (mtSet w)).get? s.heap.objs.size = some (mtSet w) := Heap.get?_push_size _ rfl
  have kind : Shared.TypeIs { s with heap := s.heap.push (mtSet w) } (.ref s.heap.objs.size) "set" := ⟨_, there, rfl⟩
  have n1 := F.called_set.init.lookup; have n2 := F.called_set.init.bind (.ref s.heap.objs.size)
  repeat (any_goals (first | assumption | wp_step))
  refine codeAny_mono (codeAny_call_builtin (R := wants (fun r s2 => r = .none ∧ ∃ h2 t2 c, s2 = { s with heap := h2, toks := t2 } ∧ SetR w h2 s.heap.objs.size (fun j => decide (j ∈ ns)) c ∧ c ≤ ns.length ∧ (∀ b o, s.heap.get? b = some o → h2.get? b = some o)) E) F.called_set.init.plain F.entry_set_init (check_set_init_1 kind ?_)) fun r2 s2 hr2 => ?_
  · obtain ⟨⟨oc, od, odt, osl⟩, at_, rfl, n, rfl⟩ := isl
    have at2 : (s.heap.push (mtSet w)).get? l = some { cls := .type "list", dict := od, data := .seq items n, slots := osl } := Heap.get?_push_of_some _ at_
    have isl2 : (s.heap.push (mtSet w)).IsList l items := ⟨_, at2, rfl, n, rfl⟩
    have k1 := F.sub_list_set; have k2 := F.sub_list_frozenset
    have k3 : (Value.type "list" == Value.type "dict") = false := by decide
    unfold Builtin.«set.__init__» noKeywords Builtin.Frozenset.updateFrom
    generalize hi : pyIter = IT
    wp_walk
    subst hi
    refine wpAny_pyIter_list isl2 (wpAny_bind (wpAny_runValue ?_))
    have low : l < s.heap.objs.size := Heap.lt_size at_
    have none3 : A.in1.in1.in1.handled = none := by simp [none_]
    have sz1 : (s.heap.push (mtSet w)).objs.size = s.heap.objs.size + 1 := Heap.size_push ..
    have apart : l ≠ (s.heap.push (mtSet w)).objs.size := by
      rw [sz1]
      exact Nat.ne_of_lt (Nat.lt_succ_of_lt low)
    have out : s.heap.objs.size ∉ [(s.heap.push (mtSet w)).objs.size, l] := by
      rw [sz1, List.mem_cons, List.mem_singleton, not_or]
      exact ⟨Nat.ne_of_lt (Nat.lt_succ_self _), Nat.ne_of_gt low⟩
    have each : ∀ (i : Nat) (v : Value), items[i]? = some v → ∃ k t, ns[i]? = some k ∧ v = .int k t := fun i v hv => by
      have lt : i < ns.length := size ▸ (Array.getElem?_eq_some_iff.mp hv).1
      obtain ⟨t, e⟩ := PyProof.Rows.IntsAre.int_at nums i v (by rw [Array.getElem?_toList]; exact hv)
      exact ⟨ns[i], t, List.getElem?_eq_getElem lt, by rw [e, List.getD_eq_getElem?_getD, List.getElem?_eq_getElem lt]; rfl⟩
    refine set_update_ints ((Walks.list none3 _ l apart items).toS) s.heap.objs.size out ns size few each (items.size - 0) 0 _ (by omega) (Nat.zero_le _) ⟨⟨_, Heap.get?_push_size _ rfl, rfl, rfl⟩, isl2.push _⟩ ⟨0, Nat.le_refl 0, setR_new_at (Heap.get?_push_of_some _ there)⟩ fun s3 c3 mv le st => ?_
    obtain ⟨h3, g3, d3, t3, o3⟩ := s3
    obtain rfl : g3 = s.gens := mv.gens
    obtain rfl : d3 = s.drawn := mv.drawn
    obtain rfl : o3 = s.os := mv.os
    rw [size] at le
    refine wpAny_pure (show wpAny _ _ (ret Value.none) _ _ _ from wpAny_pure ⟨rfl, h3, t3, c3, rfl, st, le, fun b o e => ?_⟩)
    have lb : b < s.heap.objs.size := Heap.lt_size e
    refine mv.heap b o ?_ (Heap.get?_push_of_some _ (Heap.get?_push_of_some _ e))
    rw [List.mem_cons, List.mem_singleton, not_or]
    exact ⟨Nat.ne_of_lt lb, by rw [sz1]; exact Nat.ne_of_lt (Nat.lt_succ_of_lt lb)⟩
  · rcases r2 with e | (_ | _ | _ | v)
    · exact hr2
    · exact hr2.elim
    · exact hr2.elim
    · exact hr2.elim
    obtain ⟨rfl, h2, t2, c, rfl, z1, z2, z3⟩ := hr2
    repeat (any_goals (first | assumption | wp_step))
    exact then_ _ _ _ z1 z2 z3
end
end DL

set_option maxRecDepth 100000
set_option maxHeartbeats 4000000
namespace DL
open PySem PySem.Spec PyProof.Rows L2
/-! ### as rules -/
def rSetI (K : PySem.W.Frag) (w : World) : List V → Hp → VK → Prop := fun xs H Q => ∃ (a : Addr) (ns : List Int), xs = [.ref a] ∧ (SqL K H a (ns.map V.int) ∨ SqT K H a (ns.map V.int)) ∧ ns.length ≤ 4000 ∧
  ∀ (p : Addr) (S : Int → Bool) (n : Nat), H p = none → (∀ k : Int, S k = true ↔ k ∈ ns) → (∀ us : List Int, (∀ k ∈ ns, k ∈ us) → n ≤ us.length) → Q (.ref p) (upd H p (SetO w p S n))
theorem nodup_le : ∀ {xs ys : List Int}, xs.Nodup → (∀ x ∈ xs, x ∈ ys) → xs.length ≤ ys.length
  | [], _, _, _ => Nat.zero_le _
  | x :: xs, ys, nd, h => by
    have hx := h x List.mem_cons_self
    have n2 := List.nodup_cons.mp nd
    have ih := nodup_le (xs := xs) (ys := ys.erase x) n2.2 fun y hy => (List.mem_erase_of_ne (fun e => by subst e; exact n2.1 hy)).mpr (h y (List.mem_cons_of_mem _ hy))
    have e := List.length_erase_of_mem hx
    have : 0 < ys.length := List.length_pos_of_mem hx
    rw [List.length_cons]
    omega
theorem setR_few {w : World} {h : Heap} {a : Addr} {ns : List Int} {c : Nat} (R : SetR w h a (fun j => decide (j ∈ ns)) c) (us : List Int) (hu : ∀ k ∈ ns, k ∈ us) : c ≤ us.length := by
  obtain ⟨o, es, ep, t, _, _, _, _, nd, mem, _, _, hn, _⟩ := R
  have := nodup_le nd (ys := us) fun x hx => hu x (of_decide_eq_true ((mem x).mpr hx))
  rw [List.length_map, Array.length_toList, hn] at this
  exact this
theorem cr_setI {X : Cx} (hc : X.calm = true) : CallR X (.type "set") (rSetI X.K X.w) := fun pins s σ H xs us Q I r h => by
  obtain ⟨a, ns, rfl, ha, few, q⟩ := h
  rw [Vals.ref1 r]
  have big : ns.length + 1 < scanBound := by
    unfold scanBound
    omega
  have fin : ∀ (h2 : Heap) (t2 c : Nat), SetR X.w h2 s.heap.objs.size (fun j => decide (j ∈ ns)) c → c ≤ ns.length → (∀ b o, s.heap.get? b = some o → h2.get? b = some o) → EP X pins σ Q (.ref s.heap.objs.size) { s with heap := h2, toks := t2 } := fun h2 t2 c R _ keep =>
    ⟨.ref _, upd H s.heap.objs.size (SetO X.w s.heap.objs.size (fun j => decide (j ∈ ns)) c), I.laid (t' := t2) keep (Nat.le_refl _) (setO_new R), rfl, q _ _ _ (I.hok.fresh (Nat.le_refl _)) (fun k => decide_eq_true_iff) (setR_few R)⟩
  rcases ha with ha | ha
  · obtain ⟨its, rv, p, _⟩ := I.list ha
    exact set_of_lst ns (I.ok.hd hc) p.isList (by simpa using rv.ints) big fin
  · obtain ⟨its, rv, p, _⟩ := I.tuple ha
    exact call_set_tupI ns (I.ok.hd hc) (show s.heap.IsTuple a its.toArray from p) (by simpa using rv.ints) big fin
/-! ### as data: sorted(set(..)) -/
def insI (x : Int) : List Int → List Int
  | [] => [x]
  | y :: ys => if x < y then x :: y :: ys else if x = y then y :: ys else y :: insI x ys
def setI (ns : List Int) : List Int := ns.foldr insI []
theorem insI_mem (x : Int) : ∀ {l : List Int} {k : Int}, k ∈ insI x l ↔ k = x ∨ k ∈ l
  | [], k => by simp [insI]
  | y :: ys, k => by
    unfold insI
    split
    · simp
    split
    · rename_i e
      subst e
      simp
    · rw [List.mem_cons, insI_mem x, List.mem_cons]
      constructor
      · rintro (h | h | h)
        · exact .inr (.inl h)
        · exact .inl h
        · exact .inr (.inr h)
      · rintro (h | h | h)
        · exact .inr (.inl h)
        · exact .inl h
        · exact .inr (.inr h)
theorem insI_sorted (x : Int) : ∀ {l : List Int}, l.Pairwise (· < ·) → (insI x l).Pairwise (· < ·)
  | [], _ => List.pairwise_singleton _ _
  | y :: ys, h => by
    have h2 := List.pairwise_cons.mp h
    unfold insI
    split
    · rename_i lt
      refine List.pairwise_cons.mpr ⟨fun z hz => ?_, h⟩
      rcases List.mem_cons.mp hz with e | hz
      · rw [e]
        exact lt
      · have := h2.1 z hz
        omega
    split
    · exact h
    · refine List.pairwise_cons.mpr ⟨fun z hz => ?_, insI_sorted x h2.2⟩
      rcases (insI_mem x).mp hz with e | hz
      · omega
      · exact h2.1 z hz
theorem setI_mem : ∀ {ns : List Int} {k : Int}, k ∈ setI ns ↔ k ∈ ns
  | [], k => Iff.rfl
  | n :: ns, k => by
    show k ∈ insI n (setI ns) ↔ _
    rw [insI_mem, setI_mem, List.mem_cons]
theorem setI_sorted : ∀ ns : List Int, (setI ns).Pairwise (· < ·)
  | [] => .nil
  | n :: ns => insI_sorted n (setI_sorted ns)
theorem lt_uniq : ∀ {xs ys : List Int}, xs.Pairwise (· < ·) → ys.Pairwise (· < ·) → (∀ k, k ∈ xs ↔ k ∈ ys) → xs = ys
  | [], [], _, _, _ => rfl
  | [], y :: ys, _, _, h => absurd ((h y).mpr List.mem_cons_self) (by simp)
  | x :: xs, [], _, _, h => absurd ((h x).mp List.mem_cons_self) (by simp)
  | x :: xs, y :: ys, h1, h2, h => by
    have a := List.pairwise_cons.mp h1
    have b := List.pairwise_cons.mp h2
    have e : x = y := by
      rcases List.mem_cons.mp ((h x).mp List.mem_cons_self) with e | m
      · exact e
      · rcases List.mem_cons.mp ((h y).mpr List.mem_cons_self) with e | m2
        · exact e.symm
        · have := b.1 x m
          have := a.1 y m2
          omega
    subst e
    rw [lt_uniq a.2 b.2 fun k => ?_]
    constructor
    · intro hk
      rcases List.mem_cons.mp ((h k).mp (List.mem_cons_of_mem _ hk)) with e | m
      · have := a.1 k hk
        omega
      · exact m
    · intro hk
      rcases List.mem_cons.mp ((h k).mpr (List.mem_cons_of_mem _ hk)) with e | m
      · have := b.1 k hk
        omega
      · exact m
section
variable {K : PySem.W.Frag} {w : World} {S S1 : SS} {te : TE} {x : SD} {ns us : List Int} {rc : List V → Hp → VK → Prop}
/-- sorted(set(x)), x a list or a tuple of whole numbers, few unlike ones -/
theorem el_sset {tas : TA} (h : Ea K tas S [x] S1) (hx : AsD S1 x (.list (ns.map PyData.int)) ∨ x = .dat (.tuple (ns.map PyData.int))) (hz : ns.length ≤ 4000) (hu : ∀ k ∈ ns, k ∈ us) (h64 : us.length < 64) :
    El K (tCB (rSortedSet w) (tCons (tCB (rSetI K w) tas) tNil)) S ((setI ns).map PyData.int) S1 := fun c Hf H σ fp ok Q q =>
  h c Hf H σ fp ok _ fun vs Hf1 H1 fp1 ok1 g1 r1 => by
    obtain ⟨v, rfl, rv⟩ := r1.one
    have key : ∃ a, v = .ref a ∧ (SqL K H1 a (ns.map V.int) ∨ SqT K H1 a (ns.map V.int)) := by
      rcases hx with hx | rfl
      · obtain ⟨a, xs, rfl, h1, h2⟩ := ok1.asL rv hx
        obtain rfl := RpA.ints_inv h2
        exact ⟨a, rfl, .inl (.inl (.inl h1))⟩
      · cases rv with
        | tup h1 h2 =>
          obtain rfl := RpA.ints_inv h2
          exact ⟨_, rfl, .inr (sameT ok1.hd.ex h1)⟩
    obtain ⟨a, rfl, ha⟩ := key
    refine ⟨a, ns, rfl, ha, hz, fun p M n hp hM hn => ?_⟩
    obtain ⟨ok2, g2⟩ := ok1.laid (SetO w p M n) hp
    have few := hn us hu
    refine ⟨p, M, n, rfl, upd_same, by omega, fun ms l e1 e2 e3 hl => ?_⟩
    have e : ms = setI ns := lt_uniq e1 (setI_sorted ns) fun k => (e2 k).trans ((hM k).trans setI_mem.symm)
    subst e
    obtain ⟨ok3, g3, al⟩ := ok2.alone hl (RpA.ints (setI ns))
    have G := g1.trans g2
    exact q l _ _ _ ok3 (G.trans g3) (none_back G.th hl) al
end
end DL

set_option maxRecDepth 100000
set_option maxHeartbeats 1000000
/-! DLv: in and not in, is True, the least of a tuple, l.extend(t) -/
namespace DL
open PySem PySem.Spec PyProof.Rows L2
/-! ### min(t), max(t) -/
def rMinT (K : PySem.W.Frag) : List V → Hp → VK → Prop := fun vs H Q => ∃ (a : Addr) (n : Int) (ns : List Int), vs = [V.ref a] ∧ (SqT K H a ((n :: ns).map V.int) ∨ SqL K H a ((n :: ns).map V.int)) ∧ Q (.int (ns.foldl min n)) H
def rMaxT (K : PySem.W.Frag) : List V → Hp → VK → Prop := fun vs H Q => ∃ (a : Addr) (n : Int) (ns : List Int), vs = [V.ref a] ∧ (SqT K H a ((n :: ns).map V.int) ∨ SqL K H a ((n :: ns).map V.int)) ∧ Q (.int (ns.foldl max n)) H
theorem reads_ints {h : Heap} : ∀ {us : List Value} {ns : List Int}, IntsAre us ns → ReadsAll h us (ns.map PyData.int) []
  | _, _, .nil => .nil
  | _, _, .cons n t r => .cons (as := []) (bs := []) (.int n t) (reads_ints r)
theorem alike_ints (ns : List Int) : PySem.W.AlikeAll (ns.map PyData.int) := ⟨fun x hx y hy => by
  obtain ⟨i, _, rfl⟩ := List.mem_map.mp hx
  obtain ⟨j, _, rfl⟩ := List.mem_map.mp hy
  rfl, fun x hx => by
  obtain ⟨i, _, rfl⟩ := List.mem_map.mp hx
  intro z
  cases z⟩
theorem depth_ints : ∀ ns : List Int, PyData.depthAll (ns.map PyData.int) = 0
  | [] => rfl
  | n :: ns => by
    show max (PyData.depth (.int n)) (PyData.depthAll (ns.map PyData.int)) = 0
    rw [depth_ints ns]
    rfl
theorem cr_minT {X : Cx} (hc : X.calm = true) (hu : X.A.units + 100 < cLine) : CallR X (.builtin "min") (rMinT X.K) := fun pins s σ H vs us Q I r h => by
  obtain ⟨a, n, ns, rfl, ha, q⟩ := h
  rw [Vals.ref1 r]
  have room : X.A.units + 1 + PyData.depthAll (PyData.int n :: ns.map PyData.int) < cLine := by
    rw [show PyData.depthAll (PyData.int n :: ns.map PyData.int) = 0 from depth_ints (n :: ns)]
    omega
  have fin : ∀ (v : Value) (h2 : Heap) (tk : Nat) (bs : List Addr), Reads h2 v (PySem.W.minD (.int n) (ns.map PyData.int)) bs → (∀ b o, s.heap.get? b = some o → h2.get? b = some o) → EP X pins σ Q v { s with heap := h2, toks := tk } := fun v h2 tk bs rd keep => by
    rw [PySem.W.minD_ints] at rd
    cases rd with
    | int i t => exact ⟨.int _, H, I.kept keep, ⟨t, rfl⟩, q⟩
  rcases ha with ha | ha
  · obtain ⟨its, rv, p, _⟩ := I.tuple ha
    exact PySem.W.min_tuple_data (I.ok.hd hc) (show s.heap.IsTuple a its.toArray from p) (by simpa using reads_ints rv.ints) (alike_ints (n :: ns)) room fun _ v h2 tk bs _ rd keep => fin v h2 tk bs rd keep
  · obtain ⟨its, rv, p, _⟩ := I.list ha
    exact PySem.W.min_list_data (I.ok.hd hc) p.isList (by simpa using reads_ints rv.ints) (alike_ints (n :: ns)) room fun _ v h2 tk bs _ rd keep => fin v h2 tk bs rd keep
theorem cr_maxT {X : Cx} (hc : X.calm = true) (hu : X.A.units + 100 < cLine) : CallR X (.builtin "max") (rMaxT X.K) := fun pins s σ H vs us Q I r h => by
  obtain ⟨a, n, ns, rfl, ha, q⟩ := h
  rw [Vals.ref1 r]
  have room : X.A.units + 1 + PyData.depthAll (PyData.int n :: ns.map PyData.int) < cLine := by
    rw [show PyData.depthAll (PyData.int n :: ns.map PyData.int) = 0 from depth_ints (n :: ns)]
    omega
  have fin : ∀ (v : Value) (h2 : Heap) (tk : Nat) (bs : List Addr), Reads h2 v (PySem.W.maxD (.int n) (ns.map PyData.int)) bs → (∀ b o, s.heap.get? b = some o → h2.get? b = some o) → EP X pins σ Q v { s with heap := h2, toks := tk } := fun v h2 tk bs rd keep => by
    rw [PySem.W.maxD_ints] at rd
    cases rd with
    | int i t => exact ⟨.int _, H, I.kept keep, ⟨t, rfl⟩, q⟩
  rcases ha with ha | ha
  · obtain ⟨its, rv, p, _⟩ := I.tuple ha
    exact PySem.W.max_tuple_data (I.ok.hd hc) (show s.heap.IsTuple a its.toArray from p) (by simpa using reads_ints rv.ints) (alike_ints (n :: ns)) room fun _ v h2 tk bs _ rd keep => fin v h2 tk bs rd keep
  · obtain ⟨its, rv, p, _⟩ := I.list ha
    exact PySem.W.max_list_data (I.ok.hd hc) p.isList (by simpa using reads_ints rv.ints) (alike_ints (n :: ns)) room fun _ v h2 tk bs _ rd keep => fin v h2 tk bs rd keep
/-! ### l.extend(t) -/
theorem ext_meets (l b : Addr) (xs ys : Array Value) (n m : Nat) (dd : Option Addr) (sl : Array (Option Value)) (short : ¬(!xs.isEmpty && Builtin.List.listTooLong (xs.size + ys.size)) = true) (z1 : xs.size ≤ sizeLine) (z2 : xs.size + ys.size ≤ sizeLine + 1) :
    Meets (Builtin.«list.extend» ⟨[.ref l, .ref b], []⟩) (fun _ R s => s.heap.get? l = some { cls := .type "list", dict := none, data := .seq xs n, slots := #[] } ∧ s.heap.get? b = some { cls := .type "tuple", dict := dd, data := .seq ys m, slots := sl } ∧ R (.ok (.ret Value.none)) { s with heap := s.heap.update l (Obj.mapSeq fun x => x ++ ys), toks := s.toks }) :=
  .of_wp fun prog w A R s h => by
    obtain ⟨hp, g, d, tk, os⟩ := s
    obtain ⟨a1, a2, go⟩ := h
    have f1 := AutoSeq1.idx_int; have f2 := AutoSeq1.sub_tuple_tuple; have f3 := AutoSeq1.sub_list_list; have f4 := AutoSeq1.sub_tuple_list; have f5 := AutoSeq1.sub_list_tuple
    have z3 : (xs ++ ys).size ≤ sizeLine + 1 := Array.size_append ▸ z2
    wp_walk using (wpAny_updateSeq a1 rfl (hz := z1) (_hz' := z3)), wpAny_loadPart' a1, wpAny_loadPart' a2
    exact ⟨_, rfl, go⟩
def rExtendT (K : PySem.W.Frag) : V → List V → Hp → VK → Prop := fun x vs H Q => ∃ l b xs zs, x = .ref l ∧ vs = [.ref b] ∧ H l = some (.lst xs) ∧ SqT K H b zs ∧ xs.length + zs.length ≤ sizeLine ∧ Q .non (upd H l (.lst (xs ++ zs)))
theorem mt_extendT {X : Cx} : MtR X "list.extend" (rExtendT X.K) := fun pins s σ H x vs v us Q I rx rv h => by
  obtain ⟨l, b, xs, zs, rfl, rfl, hl, hb, sz, q⟩ := h
  cases rx
  obtain ⟨u, rfl, ru⟩ := rv.one
  cases ru
  obtain ⟨z, its, n, r, fits, at_⟩ := I.lstM hl
  obtain ⟨its2, r2, ⟨⟨c2, d2, dt2, sl2⟩, at2, ec, n2, ed⟩, _⟩ := I.tuple hb
  obtain rfl : c2 = _ := ec
  obtain rfl : dt2 = _ := ed
  have both : its.toArray.size + its2.toArray.size ≤ sizeLine := by rw [List.size_toArray, List.size_toArray, ← r.length, ← r2.length]; exact sz
  have short : ¬ (!its.toArray.isEmpty && Builtin.List.listTooLong (its.toArray.size + its2.toArray.size)) = true := by rw [notLongL both, Bool.and_false]; simp
  refine call_meets F.slot_list_extend ⟨_, at_, rfl⟩ F.entry_list_extend (F.args_list_extend_2 _ _) (ext_meets l b its.toArray its2.toArray n n2 d2 sl2 short (by omega) (by omega)) ⟨at_, at2, ?_⟩
  exact ⟨.non, _, I.lset (its' := its ++ its2) hl at_ (by simp) (r.append r2) (by rw [List.length_append]; exact sz), rfl, q⟩
/-! ### the same over data -/
section
variable {K : PySem.W.Frag} {S S0 S1 S2 S3 : SS} {ta tb tc td te : TE} {x y z : SD} {d e : PyData} {i j : Int} {ds es : List PyData} {ns : List Int} {k n : Nat} {a b : Bool}
theorem rc_minT {n : Int} : Rc K (rMinT K) [.dat (.tuple ((n :: ns).map PyData.int))] S (.dat (.int (ns.foldl min n))) S := fun c Hf H σ fp ok vs r Q q => by
  obtain ⟨v, rfl, rv⟩ := r.one
  cases rv with
  | tup h1 h2 =>
    obtain rfl := RpA.ints_inv (ns := n :: ns) h2
    exact ⟨_, n, ns, rfl, .inl (sameT ok.hd.ex h1), q _ _ _ _ ok Gr.refl (Rp.int _)⟩
theorem rc_maxL {n : Int} (h : AsD S x (.list ((n :: ns).map PyData.int))) : Rc K (rMaxT K) [x] S (.dat (.int (ns.foldl max n))) S := fun c Hf H σ fp ok vs r Q q => by
  obtain ⟨v, rfl, rv⟩ := r.one
  obtain ⟨a, xs, rfl, h1, h2⟩ := ok.asL rv h
  obtain rfl := RpA.ints_inv (ns := n :: ns) h2
  exact ⟨_, n, ns, rfl, .inr (.inl (.inl h1)), q _ _ _ _ ok Gr.refl (Rp.int _)⟩
theorem foldmin_le : ∀ (ns : List Int) (n : Int), ns.foldl min n ≤ n ∧ ∀ x ∈ ns, ns.foldl min n ≤ x
  | [], n => ⟨Int.le_refl _, fun _ z => by cases z⟩
  | m :: ns, n => by
    obtain ⟨h1, h2⟩ := foldmin_le ns (min n m)
    refine ⟨?_, fun x hx => ?_⟩
    · show ns.foldl min (min n m) ≤ n
      omega
    · rcases List.mem_cons.mp hx with e | hx
      · rw [e]
        show ns.foldl min (min n m) ≤ m
        omega
      · exact h2 x hx
/-- i in a list or a tuple of whole numbers -/
theorem inV_ints (i : Int) : ∀ ns : List Int, inV (V.int i) (ns.map V.int) = decide (i ∈ ns)
  | [] => rfl
  | n :: ns => by
    show ((n == i) || inV (V.int i) (ns.map V.int)) = _
    rw [inV_ints i ns]
    by_cases h : n = i
    · subst h
      simp
    · have h2 : ¬ i = n := fun z => h z.symm
      simp [h, h2]
theorem flat_ints (ns : List Int) : (ns.map V.int).all flatV = true := by
  rw [List.all_eq_true]
  intro x hx
  obtain ⟨i, _, rfl⟩ := List.mem_map.mp hx
  rfl
theorem ro_inT : Ro K (rIn K false) (.dat (.int i)) (.dat (.tuple (ns.map PyData.int))) S (.dat (.bool (decide (i ∈ ns)))) S := fun c Hf H σ fp ok v u rv ru Q q => by
  cases rv
  cases ru with
  | tup h1 h2 =>
    obtain rfl := RpA.ints_inv h2
    refine ⟨_, _, rfl, .inr (sameT ok.hd.ex h1), rfl, flat_ints ns, ?_⟩
    rw [if_neg (by decide), inV_ints]
    exact q _ _ _ _ ok Gr.refl (Rp.bl _)
theorem ro_notInT : Ro K (rIn K true) (.dat (.int i)) (.dat (.tuple (ns.map PyData.int))) S (.dat (.bool (!decide (i ∈ ns)))) S := fun c Hf H σ fp ok v u rv ru Q q => by
  cases rv
  cases ru with
  | tup h1 h2 =>
    obtain rfl := RpA.ints_inv h2
    refine ⟨_, _, rfl, .inr (sameT ok.hd.ex h1), rfl, flat_ints ns, ?_⟩
    rw [if_pos rfl, inV_ints]
    exact q _ _ _ _ ok Gr.refl (Rp.bl _)
theorem ro_inL (hy : AsD S y (.list (ns.map PyData.int))) : Ro K (rIn K false) (.dat (.int i)) y S (.dat (.bool (decide (i ∈ ns)))) S := fun c Hf H σ fp ok v u rv ru Q q => by
  cases rv
  obtain ⟨a, xs, rfl, h1, h2⟩ := ok.asL ru hy
  obtain rfl := RpA.ints_inv h2
  refine ⟨_, _, rfl, .inl (.inl (.inl h1)), rfl, flat_ints ns, ?_⟩
  rw [if_neg (by decide), inV_ints]
  exact q _ _ _ _ ok Gr.refl (Rp.bl _)
theorem ro_isB : Ro K rIsB (.dat (.bool a)) (.dat (.bool b)) S (.dat (.bool (decide (a = b)))) S := fun c Hf H σ fp ok v u rv ru Q q => by
  cases rv
  cases ru
  exact ⟨a, b, rfl, rfl, q _ _ _ _ ok Gr.refl (Rp.bl _)⟩
theorem ro_notB : Ro K rNotB (.dat (.bool a)) (.dat (.bool b)) S (.dat (.bool (!decide (a = b)))) S := fun c Hf H σ fp ok v u rv ru Q q => by
  cases rv
  cases ru
  exact ⟨a, b, rfl, rfl, q _ _ _ _ ok Gr.refl (Rp.bl _)⟩
theorem ee_extendT (hl : Ee K ta S (.own k) S1) (he : Ee K te S1 (.dat (.tuple es)) S2) (ho1 : ∃ ds1, S1.ob[k]? = some (.lst ds1)) (ho : S2.ob[k]? = some (.lst ds)) (hz : ds.length + es.length ≤ 1000000) :
    Ee K (tBM K "list" (rExtendT K) ta (tCons te tNil)) S (.dat .none) { S2 with ob := S2.ob.set k (.lst (ds ++ es)) } := fun c Hf H σ fp ok Q q =>
  hl c Hf H σ fp ok _ fun v Hf1 H1 fp1 ok1 g1 r1 => by
    obtain ⟨ds1, ho1⟩ := ho1
    obtain ⟨a, xs, rfl, h1, h2, h3⟩ := ok1.obL ho1 r1
    refine ⟨.inl ⟨rfl, xs, .inl (.inl h2)⟩, he c Hf1 H1 σ fp1 ok1 _ fun u Hf2 H2 fp2 ok2 g2 r2 => ?_⟩
    obtain ⟨b, zs, e, k1, k2, k3⟩ := ok2.setL ho (r1.mono g2.sm g2.pr)
    cases e
    cases r2 with
    | @tup p ws _ w1 w2 =>
      obtain ⟨ok3, g3⟩ := k3 (zs ++ ws) (ds ++ es) (k2.append w2)
      refine ⟨_, p, zs, ws, rfl, rfl, k1, sameT ok2.hd.ex w1, ?_, q _ _ _ _ ok3 ((g1.trans g2).trans g3) Rp.non⟩
      rw [k2.len, w2.len]
      exact Nat.le_trans hz (by decide)
end
section
variable {K : PySem.W.Frag} {S S1 : SS} {E : DE} {tu tw : TS}
/-- two ways, one state behind them -/
theorem ts_seqTo (h : Ts K tu S { E with nx := fun S' => S' = S1 }) (k : Ts K tw S1 E) : Ts K (tSeq tu tw) S E := ts_seq (ts_mono h (fun S' e => by rw [show S' = S1 from e]; exact k) (fun _ _ z => z) (fun _ z => z) (fun _ z => z))
end
end DL

set_option maxRecDepth 100000
set_option maxHeartbeats 4000000
/-! DLy0: exceptions, low down: several clauses with names; isinstance of a caught error that has fields; calls of defs that raise. -/
namespace DL
open PySem PySem.Spec PyProof.Rows L2

/-- an except clause: its class, the slot of its name, its suite -/
abbrev Clause := Value × Nat × (Addr → Value → Option Addr → TS)
def behindAs (i : Nat) (D : Ends) : Ends := { nx := fun z G => D.nx (z.set i none) G, rt := D.rt, bk := fun z G => D.bk (z.set i none) G, ct := fun z G => D.ct (z.set i none) G }
/-- what clauses with names wish of an exception of the body, one after the other -/
def wNamed (K : PySem.W.Frag) (D : Ends) : List Clause → WX
  | [] => fun _ _ _ _ => False
  | (c, i, ts) :: r => fun cls d z G => ∃ b, PySem.W.exmOne K cls c = some b ∧ (b = true → ∀ e, G e = none → ts e cls d (behindAs i D) (z.set i (some (.ref e))) G) ∧ (b = false → wNamed K D r cls d z G)
inductive Clauses (X : Cx) : List ExceptHandler → List Clause → Prop
  | nil : Clauses X [] []
  | cons {x n : Str} {c : Value} {i : Nat} {ts : Addr → Value → Option Addr → TS} {f : Stmt} {more : List Stmt} {np p2 : Pos} {hs : List ExceptHandler} {l : List Clause} (hi : X.N[i]? = some n) (hl : X.env.kindOf n = some .local) (hc : Names X x c)
      (su : ∀ (e : Addr) (o : Obj) (cls : Value) (d : Option Addr) (pn : List (Addr × Obj)), Zc cls d o → (∃ vs, o.data = .fields vs) → PSs (X.suite e ((e, o) :: pn)) (f :: more) (ts e cls d)) (r : Clauses X hs l) :
      Clauses X (.ExceptHandler (some (.Name x np)) (some n) (f :: more) p2 :: hs) ((c, i, ts) :: l)
section
variable {X : Cx} {body : List Stmt} {h₀ : ExceptHandler} {hs : List ExceptHandler} {l : List Clause} {pos : Pos} {tb : WX → TS}
theorem handled_by {pins : List (Addr × Obj)} {z : L2.St} {G : Hp} {e : Addr} {B : Heap} {sI s2 : Shared} {cls : Value} {d : Option Addr} {D : Ends} {h3 : Heap}
    (st : X.stack = X.env :: X.outer) (fr : X.env.frame = some X.env.locals) (nd : X.N.Nodup) (J : Inv X pins z G sI) (ok : X.Ok)
    (nb : ∀ b o, sI.heap.get? b = some o → b ∉ frs X.stack → B.get? b = some o) (up : sI.heap.UpToSlots h3) (fl : HandSPX.FlyingZ B (X.env :: X.outer) e (Zc cls d) h3) (na : G e = none) (os : s2.os = sI.os) (ag : AllBare s2.gens) :
    ∀ {hs : List ExceptHandler} {l : List Clause}, Clauses X hs l → wNamed X.K D l cls d z G → wpAny (model X.prog X.w) X.A (handleBy (.ref e) X.env hs) (SP X pins D) X.xe { s2 with heap := h3 } := by
  have J3 : Inv X pins z G { s2 with heap := h3 } := J.landed nb fl.1 up os ag
  obtain ⟨o3, v3, g3, c3, d3⟩ := fl.there
  have out : ∀ {h : Heap} {o : Obj} {vs : Array Value}, h.FunFrames B (X.env :: X.outer) → h.get? e = some o → o.data = .fields vs → e ∉ frs (X.env :: X.outer) := fun ff g dd hm => by
    obtain ⟨_, o', g', hnf⟩ := ff.mem hm
    rw [g] at g'
    cases g'
    exact hnf _ dd
  have ne := out fl.2.2.1 g3 d3
  have nL : e ≠ X.env.locals := fun y => ne (List.mem_filterMap.mpr ⟨X.env, List.mem_cons_self, by rw [fr, y]⟩)
  have nF : e ∉ X.fs := fun hm => by
    obtain ⟨v, hv, q⟩ := List.mem_filterMap.mp hm
    exact ne (List.mem_filterMap.mpr ⟨v, List.mem_cons_of_mem _ hv, q⟩)
  have S3 := J3.suite g3 d3 na nL nF
  intro hs l hk
  induction hk with
  | nil => exact fun w => w.elim
  | @cons x n c i ts f more np p2 hs l hi hl hc su r ih =>
    rintro ⟨b, eb, yes, no⟩
    refine wpAny_handleBy_cons (codeAny_handlers_test ?_) (fun q => by cases q)
    have kind : PySem.W.Looks (model X.prog X.w) h3 (typeOf (.ref e)) cls := fun _ _ _ _ k q => wpAny_typeOf_ref (k _ _ g3) (by rw [c3.1]; exact q)
    have named : ∀ {Q E : Value → Shared → Prop}, Q c { s2 with heap := h3 } → wpAny (model X.prog X.w) (X.A.mark (some (.ref e))) (eval (.Name x np) X.env) Q E { s2 with heap := h3 } := fun q => by
      obtain ⟨hg, hd, hm | ⟨hm, hv, hn⟩⟩ := hc
      · exact ld_glob (X := X.suite e ((e, o3) :: (X.pn ++ pins))) S3 hg hm q hd
      · exact ld_blt (X := X.suite e ((e, o3) :: (X.pn ++ pins))) S3 hg hm hv q hn hd
    refine named ((PySem.W.exm_one (M := model X.prog X.w) J3.kIn kind eb).here ?_)
    cases b with
    | false => exact ih (no rfl)
    | true =>
      refine codeAny_handlers_suite_as (HandSPX.lands_againZ fl fun h4 fl4 up4 => ?_)
      have J4 : Inv X pins z G { s2 with heap := h4 } := J.landed nb fl4.1 (up.trans up4) os ag
      obtain ⟨o4, v4, g4, c4, d4⟩ := fl4.there
      have S4 := J4.suite g4 d4 na nL nF
      refine store_ok (X := X.suite e ((e, o4) :: (X.pn ++ pins))) (v := .ref e) S4 nd hi (.inl hl) rfl (fun s5 S5 => ?_) (.inr hl)
      refine wpAny_mono ((su e o4 cls d (X.pn ++ pins) c4 ⟨_, d4⟩).run [] s5 _ G _ S5 (yes rfl e na)) (fun fw s6 sp => ?_) fun _ _ y => y.elim
      have rest : ∀ {z6 : L2.St} {G6 : Hp} {Q : Shared → Prop}, Inv (X.suite e ((e, o4) :: (X.pn ++ pins))) [] z6 G6 s6 → (∀ s7, Inv X pins (z6.set i none) G6 s7 → Q s7) →
          wpAny (model X.prog X.w) X.A (do bindName X.env n .none; unbindBehindTheSuite X.env n p2) (fun _ s7 => Q s7) X.xe s6 := fun S6 k => gone_ok (S6.unsuite ok) nd hi hl k
      cases fw with
      | next =>
        obtain ⟨z6, G6, S6, q⟩ := sp
        exact rest S6 fun s7 J7 => ⟨_, _, J7, q⟩
      | brk =>
        obtain ⟨z6, G6, S6, q⟩ := sp
        exact rest S6 fun s7 J7 => ⟨_, _, J7, q⟩
      | cont =>
        obtain ⟨z6, G6, S6, q⟩ := sp
        exact rest S6 fun s7 J7 => ⟨_, _, J7, q⟩
      | ret u =>
        obtain ⟨v6, z6, G6, S6, r6, q⟩ := sp
        exact rest S6 fun s7 J7 => ⟨_, _, _, J7, r6, q⟩
/-- a try with such clauses -/
def tTryN (K : PySem.W.Frag) (tb : WX → TS) (l : List Clause) : TS := fun D z G => tb (wNamed K D l) D z G
theorem ps_try_named (st : X.stack = X.env :: X.outer) (fr : X.env.frame = some X.env.locals) (nd : X.N.Nodup)
    (hb : ∀ (W : WX) (pn : List (Addr × Obj)) (xe : Value → Shared → Prop), Takes (X.tr pn xe) W → PassesOwn (model X.prog X.w) X.A X.env xe → PSs (X.tr pn xe) body (tb W))
    (hh : Clauses X (h₀ :: hs) l) : PS X (.Try body (h₀ :: hs) [] [] pos) (tTryN X.K tb l) := by
  refine ⟨fun pins s z G D I h => ?_⟩
  have ok := I.ok
  have hfr : X.A.frames = some (X.env :: X.outer) := by rw [ok.frames, st]
  refine wpAny_Try_except (wpAny_mono ((hb (wNamed X.K D l) (X.pn ++ pins) (fun e s₁ => wpAny (model X.prog X.w) X.A (noteFrame e X.env) (fun _ s₂ => wpAny (model X.prog X.w) X.A (setFlight e none) (fun _ s₃ =>
    wpAny (model X.prog X.w) X.A (handleBy e X.env (h₀ :: hs)) (SP X pins D) X.xe s₃) X.xe s₂) X.xe s₁) (fun u s' xx => ?_) PassesOwn.looking).run [] s z G D (I.toTry _) h) (fun fw s1 sp => ?_) fun _ _ q => q)
  · obtain ⟨e, B, sI, pins', z', G', cls, d, rfl, J', nb, up, sky, na, os, ag, w⟩ := xx
    rw [show (X.tr (X.pn ++ pins) _).stack = X.env :: X.outer from st] at sky
    show wpAny (model X.prog X.w) X.A (noteFrame (.ref e) X.env) _ _ _
    exact Sky.land Zc.steady hfr fr sky fun h3 fl3 up3 => handled_by st fr nd (J'.ofTry ok) ok nb (up.trans up3) fl3 na os ag hh w
  · cases fw with
    | next =>
      obtain ⟨z', G', J', q⟩ := sp
      exact wpAny_execs_nil ⟨z', G', J'.ofTry ok, q⟩
    | brk =>
      obtain ⟨z', G', J', q⟩ := sp
      exact ⟨z', G', J'.ofTry ok, q⟩
    | cont =>
      obtain ⟨z', G', J', q⟩ := sp
      exact ⟨z', G', J'.ofTry ok, q⟩
    | ret u =>
      obtain ⟨v, z', G', J', r, q⟩ := sp
      exact ⟨v, z', G', J'.ofTry ok, r, q⟩
end

/-! ### isinstance of a caught error, whatever its dict -/
theorem call_isX {X : Cx} {e C : Addr} {cls : Value} {o : Obj} {d : Option Addr} {pn : List (Addr × Obj)} (T : L2.ExcC X.K C) (hz : Zc cls d o) (hf : ∃ vs, o.data = .fields vs) :
    CallR (X.suite e ((e, o) :: pn)) (.builtin "isinstance") (fun xs G Q => cls = .ref C ∧ (∀ a, d = some a → ∃ fs, G a = some (.xd fs)) ∧ rIsE X.K C e xs G Q) := by
  intro pins s z G xs us Q I r h
  obtain ⟨rfl, hx, c, cv, b, rfl, hcv, eb, q⟩ := h
  cases r with
  | cons rx rr =>
    cases rr with
    | cons rt rr =>
      cases rr
      cases rx
      obtain rfl := hcv _ rt
      obtain ⟨g, _⟩ := I.pin (e, o) (List.mem_append.mpr (.inl List.mem_cons_self))
      obtain ⟨vs, hv⟩ := hf
      have J : ∃ od, PySem.W.InstAt s.heap e o C od := by
        cases d with
        | none => exact ⟨none, g, hz.1, by unfold PySem.W.notCls; rw [hv] <;> rfl, by rw [hz.2]; exact trivial⟩
        | some a =>
          obtain ⟨fs, ea⟩ := hx a rfl
          have ho : ObjOk X.prog X.w G s.heap a (.xd fs) := I.hok a _ ea
          obtain ⟨mA, hns, _⟩ := ho
          obtain ⟨od, go, _⟩ := lookIn_ns hns
          exact ⟨some od, g, hz.1, by unfold PySem.W.notCls; rw [hv] <;> rfl, by rw [hz.2]; exact go⟩
      obtain ⟨od, J⟩ := J
      exact PySem.W.kia_one (PySem.W.kitx_exc (od := od) (by obtain ⟨cd, hc, _⟩ := PySem.W.any_some T.hd; rw [hc]; rfl) T.hg T.hk T.hs T.ha T.hn T.ht T.hm) I.kIn J eb (fun y => nomatch y) fun tk => ⟨.bl b, G, I.kept (t' := tk) fun _ _ y => y, rfl, q⟩

/-! ### ValueError's __init__ by an own class -/
theorem pe_ownInit {X : Cx} {x : Str} {B : Addr} {e : Expr} {es : List Expr} {ta : TA} {p1 p2 pos : Pos} {pl : Sem Bool} (hg : Gl X x) (hm : X.mg x = some (.ref B)) (gB : PySem.W.specialIn X.K (.ref B) "__getattribute__" = some (some (.builtin "type.__getattribute__"))) (rB : PySem.W.readsIn X.K B (.type "type") = true)
    (vB : PySem.W.findCls X.K (.ref B) (.type "type") "__init__" = some (.val (.builtin "ValueError.__init__"))) (ha : PA X (e :: es) ta)
    (hc : eval (.Call (.Attribute (.Name x p1) "__init__" p2) (e :: es) [] pos) X.env = (do
      let ov ← eval (.Name x p1) X.env
      standAt p2.atName
      let (f, first) ← holding [ov] (getMethod ov "__init__" pl)
      callWith pos f first (backTo pos (starEach (e :: es) X.env)) (backToKw pos (keywordEach [] X.env))) := by rfl)
    (hdb : (x == ("__debug__" : Str)) = false := by decide)
    (he : starEach (e :: es) X.env = (false, eval e X.env) :: starEach es X.env := by rfl) (hpl : (backTo pos (starEach es X.env)).any (·.1) = false := by rfl) :
    PE X (.Call (.Attribute (.Name x p1) "__init__" p2) (e :: es) [] pos) (tVeI X.K ta) := by
  refine ⟨fun pins s z G Q I h => ?_⟩
  refine PySem.W.methodCall_KW (ld_glob I hg hm ?_ hdb) hc
  refine PySem.W.method_cls I.kIn gB (PySem.W.cls_value I.kIn rB vB rfl ?_)
  show wpAny _ _ (callWith pos (Value.builtin "ValueError.__init__") [] (backTo pos (starEach (e :: es) X.env)) []) _ _ _
  refine PyProof.Rows.callWith_method1 (thn (ha.run pos pins _ z G _ (I.tok _) h) fun us s1 ⟨vs, H1, I1, r1, a, C, ws, ev, hl, T, ea, q⟩ => ?_) he hpl
  subst ev
  cases r1 with
  | @cons _ u0 _ ur ra rw' =>
    obtain rfl : u0 = Value.ref a := ra
    exact oinit_ok T I1 ea (by rw [← Paired.length rw', sizeLine_eq]; omega) fun s' J => ⟨.non, H1, J, rfl, q⟩
section
variable {X : Cx} {CX : CXT} {k : Nat} {f : Addr} {fd : FuncData} {ps ks : List Str} {sp : Sp} {E : L2.St → XK} {x : Str} {p pos : Pos} {e : Expr} {es : List Expr} {kws : List Keyword} {t tk : TA}
theorem end_ofS {pins : List (Addr × Obj)} {z : L2.St} {G : Hp} {s : Shared} {Q : VK} {r : Result} {s' : Shared} (hx : PassesAt CX X z (E z)) (I : Inv X pins z G s) (hq : CR CX X.stack X.prog X.w G s Q (E z) r s') :
    (match r with | .ok (.ret u) => EP X pins z Q u s' | .ok _ => False | .error e => X.xe e s') := by
  rcases r with e | fl
  · exact hx pins G s e s' I hq
  · rcases fl with _ | _ | _ | u
    · exact hq
    · exact hq
    · exact hq
    · exact I.after hq
/-- f(..), where it may raise: what is wished of that is told for the slots as they stand -/
theorem pe_callGS (F : FnG X.prog X.w X.K X.mg X.base CX k f fd ps sp) (hr : Room k X.A) (gd : X.A.guards = some []) (hg : Gl X x) (hm : X.mg x = some (.ref f)) (hk : PySem.W.keepIn X.K (.ref f) = true) (hb : Binds X.K fd ps []) (hx : ∀ z, PassesAt CX X z (E z))
    (ha : PA X (e :: es) t) (hdb : (x == ("__debug__" : Str)) = false := by decide) (he : starEach (e :: es) X.env = (false, eval e X.env) :: starEach es X.env := by rfl) (hpl : (backTo pos (starEach es X.env)).any (·.1) = false := by rfl) :
    PE X (.Call (.Name x p) (e :: es) [] pos) (tCallS sp E t) := by
  refine ⟨fun pins s z G Q I h => ?_⟩
  refine wpAny_Call_Name_kw (ld_glob I hg hm (PySem.W.callWith_K (h₀ := X.base) I.ok.mod.kin hk (thn (ha.run pos pins s z G _ I h) fun us s1 ⟨vs, H1, I1, r, q⟩ => ⟨I1.kIn, ?_⟩) he hpl) hdb)
  have hl : us.length = ps.length := r.length.symm.trans (F.len _ _ _ _ q)
  have b := hb s1 us I1.kIn (by rw [List.append_nil]; exact hl)
  rw [List.append_nil] at b
  refine wpAny_call (codeAny_mono (F.run X.A X.stack s1 H1 ⟨us, []⟩ us vs Q (E z) hr gd I1.env0 b r q) fun res s' hq => ?_)
  have := end_ofS (hx z) I1 hq
  rcases res with e | fl
  · exact this
  · rcases fl with _ | _ | _ | u
    all_goals exact this
variable {g : List Value → List Value → List Value} {gV : List V → List V → List V}
def tCallKS (sp : Sp) (gV : List V → List V → List V) (E : L2.St → XK) (tk : TA) : TE := fun z G Q => tk z G fun zs H1 => sp (gV [] zs) H1 Q (E z)
theorem pe_callKGS (F : FnG X.prog X.w X.K X.mg X.base CX k f fd ps sp) (hr : Room k X.A) (gd : X.A.guards = some []) (hg : Gl X x) (hm : X.mg x = some (.ref f)) (hk : PySem.W.keepIn X.K (.ref f) = true) (hb : KBinds X.K fd ps ks g gV) (hx : ∀ z, PassesAt CX X z (E z))
    (hkw : PK X kws tk) (hall : (backToKw pos (keywordEach kws X.env)).all (·.1.isSome) = true := by rfl) (hks : (backToKw pos (keywordEach kws X.env)).filterMap (·.1) = ks := by rfl)
    (hdb : (x == ("__debug__" : Str)) = false := by decide)
    (hpl : ((backTo pos (starEach [] X.env)).any (·.1) || (backToKw pos (keywordEach kws X.env)).any (·.1.isNone)) = false := by rfl) :
    PE X (.Call (.Name x p) [] kws pos) (tCallKS sp gV E tk) := by
  refine ⟨fun pins s z G Q I h => ?_⟩
  refine wpAny_Call_Name_kw (ld_glob I hg hm ?_ hdb)
  refine PySem.W.callWith_KW0 (h₀ := X.base) (first := []) I.ok.mod.kin hk hall ?_ hpl
  refine thn (hkw.run pos pins s z G _ I h) fun ws s2 ⟨zs, H2, I2, rz, q2⟩ => ⟨I2.kIn, ?_⟩
  rw [hks]
  have rr := hb.rel (vs := []) (us := []) .nil rz
  have hl : (g [] ws).length = ps.length := rr.length.symm.trans (F.len _ _ _ _ q2)
  refine wpAny_call (codeAny_mono (F.run X.A X.stack s2 H2 ⟨[], ks.zip ws⟩ (g [] ws) (gV [] zs) Q (E z) hr gd I2.env0 (hb.to s2 [] ws I2.kIn hl) rr q2) fun res s' hq => ?_)
  have := end_ofS (hx z) I2 hq
  rcases res with e | fl
  · exact this
  · rcases fl with _ | _ | _ | u
    all_goals exact this
end
theorem okGX {P : Program} {w : World} {K : PySem.W.Frag} {mg : Str → Option Value} {base : Heap} {x qual : Str} {st : Stmt} {f : Addr} {fd : FuncData} {N ps : List Str} {k : Nat} {sp : Sp} (F : Fun K x qual st f fd) (S : FnScope N ps (defScope st)) (len : ∀ vs H Q E, sp vs H Q E → vs.length = ps.length)
    (hbody : ∀ (cdv : Value) (A : Around) (outer : List Env) (s : Shared) (H : Hp) (vs : List V) (Q : VK) (E : XK), Room k (A.deeper (envOfC qual (defScope st) s.heap.objs.size f cdv)) → (A.deeper (envOfC qual (defScope st) s.heap.objs.size f cdv)).guards = some [] → sp vs H Q E →
      ∃ t, PSs (cxOf (L2.CX P w) P w K mg base N qual (defScope st) f cdv A outer s H E) (defBody st) t ∧ t { nx := fun _ H' => Q .non H', rt := Q } (start N vs) H) : FnG P w K mg base (L2.CX P w) (k + 1) f fd ps sp := by
  obtain ⟨oc, od, kV, doc, pm, an, cdv, ct, osl, rfl, lk, hcd⟩ := F.ex
  exact fng_of lk hcd S len fun A outer s H vs Q E hr hg hsp => hbody cdv A outer s H vs Q E hr hg hsp
end DL

set_option maxRecDepth 100000
set_option maxHeartbeats 2000000
/-! DLy: exceptions, over data. -/
namespace DL
open PySem PySem.Spec PyProof.Rows L2

/-! ### own error classes: what the written part says of them -/
structure ErrC (K : PySem.W.Frag) (mg : Str → Option Value) (x : Str) (C : Addr) : Prop where
  m : mg x = some (.ref C)
  kC : PySem.W.keepIn K (.ref C) = true
  exC : PySem.W.subIn K (.ref C) (.type "BaseException") = some true
  tyC : PySem.W.typeIn K (.ref C) = some (.type "type")
  hd : PySem.W.hasDictIn K C = true
  ga : PySem.W.findIn K (.ref C) "__getattribute__" = some (some (.builtin "BaseException.__getattribute__"))
  gg : PySem.W.findIn K (.ref C) "__getattr__" = some none
  cl : PySem.W.findIn K (.ref C) "__class__" = some (some (.builtin "object.__class__"))
  sn : PySem.W.specialIn K (.builtin "object.__class__") "__get__" = some (some (.builtin "getset_descriptor.__get__"))
  tk : PySem.W.takesIn K (.builtin "object.__class__") = some true
  mo : PySem.W.mroIn K C (.type "object") = some true
  own : PySem.W.subIn K (.ref C) (.ref C) = some true
theorem ErrC.ec {K : PySem.W.Frag} {mg : Str → Option Value} {x : Str} {C : Addr} (T : ErrC K mg x C) : L2.ExcC K C := ⟨T.ga, T.gg, T.exC, T.hd, T.cl, T.sn, T.tk, T.mo⟩
theorem ErrC.xf {K : PySem.W.Frag} {mg : Str → Option Value} {x : Str} {C : Addr} (T : ErrC K mg x C) : L2.XfC K C := ⟨T.ga, T.gg, T.exC, T.hd⟩
theorem ErrC.exm {K : PySem.W.Frag} {mg : Str → Option Value} {x : Str} {C : Addr} (T : ErrC K mg x C) {D : Value} {b : Bool} (h : PySem.W.subIn K D (.ref C) = some b) : PySem.W.exmOne K D (.ref C) = some b := PySem.W.exm_ref T.exC T.hd T.tyC h
abbrev veB : List Value := [.type "ValueError", .type "Exception", .type "BaseException", .type "object"]
/-- X(), X without own __init__ -/
theorem pmk_own0 {X : Cx} {C : Addr} {x : Str} {p pos : Pos} (q : PySem.W.excIn X.K C veB "ValueError.__new__" = true) (T : ErrC X.K X.mg x C) (hg : Gl X x) (hdb : (x == ("__debug__" : Str)) = false := by decide) :
    PMk X (.Call (.Name x p) [] [] pos) (fun _ H Q => Q (.ref C) none H) := by
  intro pins s z G Q I h
  refine wpAny_Call_Name_kw (ld_glob I hg T.m (PySem.W.callWith_K0 I.kIn T.kC ?_) hdb)
  obtain ⟨bm, N, nm, qn, bs, hdct, sn, sub, ab, col, dd, k0, k1, k2, k3, k5, mN, hC, hN, hni, OT⟩ := exc_obj I.kIn q
  refine wpAny_call_exc_subT PySem.F.excBase_ValueError OT hC hN hni (fun h' e hm => ?_) (by show 0 ≤ sizeLine; omega)
  exact mk_of I hm (raises_own T.exC T.tyC) h (I.hok.gone hm.new)

/-! ### errors as data -/
abbrev XF := Option (Str × PyData)
/-- an error's dict, of its field -/
def XD (K : PySem.W.Frag) (Hf : Hp) (d : Option Addr) : XF → Prop
  | none => d = none
  | some (n, x) => ∃ dd v, d = some dd ∧ Hf dd = some (.xd [(n, v)]) ∧ Rp K Hf v x
abbrev EX := Value → XF → Prop
def Tx (K : PySem.W.Frag) (W : WX) (ts : TS) (S : SS) (E : DE) (F : EX) : Prop := ∀ c Hf H σ fp, Okk K c Hf H σ fp S → ∀ D : Ends,
  (∀ S' Hf' H' σ' fp', Okk K c Hf' H' σ' fp' S' → Gr Hf H fp Hf' H' fp' → E.nx S' → D.nx σ' H') →
  (∀ r S' v Hf' H' σ' fp', Okk K c Hf' H' σ' fp' S' → Gr Hf H fp Hf' H' fp' → SRl K Hf' fp' (some v) r → E.rt r S' → D.rt v H') →
  (∀ S' Hf' H' σ' fp', Okk K c Hf' H' σ' fp' S' → Gr Hf H fp Hf' H' fp' → E.bk S' → D.bk σ' H') →
  (∀ S' Hf' H' σ' fp', Okk K c Hf' H' σ' fp' S' → Gr Hf H fp Hf' H' fp' → E.ct S' → D.ct σ' H') →
  (∀ cls x d S' Hf' H' σ' fp', Okk K c Hf' H' σ' fp' S' → Gr Hf H fp Hf' H' fp' → XD K Hf' d x → F cls x → W cls d σ' H') → ts D σ H
section
variable {K : PySem.W.Frag} {W : WX} {S S1 S2 : SS} {E : DE} {F : EX} {tu tw : TS} {t : TT} {te : TE} {b : Bool} {x : PyData} {n : Str} {C : Addr} {cls : Value} {xf : XF}
theorem tx_of (h : Ts K tu S E) : Tx K W tu S E F := fun c Hf H σ fp ok D n r bk ct _ => h c Hf H σ fp ok D n r bk ct
theorem tx_seq (h : Tx K W tu S { E with nx := fun S' => Tx K W tw S' E F } F) : Tx K W (tSeq tu tw) S E F := fun c Hf H σ fp ok D n r bk ct xx =>
  h c Hf H σ fp ok _ (fun S' Hf' H' σ' fp' ok' g q => q c Hf' H' σ' fp' ok' D (fun S2 Hf2 H2 σ2 fp2 ok2 g2 => n S2 Hf2 H2 σ2 fp2 ok2 (g.trans g2)) (fun r2 S2 v Hf2 H2 σ2 fp2 ok2 g2 => r r2 S2 v Hf2 H2 σ2 fp2 ok2 (g.trans g2))
    (fun S2 Hf2 H2 σ2 fp2 ok2 g2 => bk S2 Hf2 H2 σ2 fp2 ok2 (g.trans g2)) (fun S2 Hf2 H2 σ2 fp2 ok2 g2 => ct S2 Hf2 H2 σ2 fp2 ok2 (g.trans g2)) fun cls x d S2 Hf2 H2 σ2 fp2 ok2 g2 => xx cls x d S2 Hf2 H2 σ2 fp2 ok2 (g.trans g2)) r bk ct xx
theorem tx_if (h : Et K t S b S1) (h1 : b = true → Tx K W tu S1 E F) (h2 : b = false → Tx K W tw S1 E F) : Tx K W (tIfS t tu tw) S E F := fun c Hf H σ fp ok D n r bk ct xx =>
  h c Hf H σ fp ok _ fun Hf' H' fp' ok' g => by
    have go : ∀ {ts : TS}, Tx K W ts S1 E F → ts D σ H' := fun q => q c Hf' H' σ fp' ok' D (fun S2 Hf2 H2 σ2 fp2 ok2 g2 => n S2 Hf2 H2 σ2 fp2 ok2 (g.trans g2)) (fun r2 S2 v Hf2 H2 σ2 fp2 ok2 g2 => r r2 S2 v Hf2 H2 σ2 fp2 ok2 (g.trans g2))
      (fun S2 Hf2 H2 σ2 fp2 ok2 g2 => bk S2 Hf2 H2 σ2 fp2 ok2 (g.trans g2)) (fun S2 Hf2 H2 σ2 fp2 ok2 g2 => ct S2 Hf2 H2 σ2 fp2 ok2 (g.trans g2)) fun cls x d S2 Hf2 H2 σ2 fp2 ok2 g2 => xx cls x d S2 Hf2 H2 σ2 fp2 ok2 (g.trans g2)
    cases b with
    | true => exact go (h1 rfl)
    | false => exact go (h2 rfl)
theorem tx_raise0 (h : F (.ref C) none) : Tx K W (fun _ σ H => (fun (_ : L2.St) H Q => Q (.ref C) none H : L2.St → Hp → XK → Prop) σ H fun cls d H' => W cls d σ H') S E F := fun c Hf H σ fp ok D n r bk ct xx =>
  xx _ none none S Hf H σ fp ok Gr.refl rfl h
/-- an error's __init__: it says what it says to ValueError, and keeps one argument -/
def spI (K : PySem.W.Frag) (n : Str) : Sp := fun vs H Q _ => ∃ a C y, vs = [.ref a, y] ∧ OexC K C ∧ PySem.W.findIn K (.ref C) n = some none ∧ H a = some (exo a C none) ∧
  ∀ dx, H dx = none → dx ≠ a → Q .non (upd (upd H dx (exd dx [(n, y)])) a (exo a C (some dx)))
theorem tx_raise1 {ta : TA} (o : OexC K C) (no : PySem.W.findIn K (.ref C) n = some none) (h : Ed K ta S [x] S1) (k : F (.ref C) (some (n, x))) : Tx K W (fun _ σ H => tMkO C (spI K n) [] ta σ H fun cls d H' => W cls d σ H') S E F := fun c Hf H σ fp ok D nn r bk ct xx =>
  h c Hf H σ fp ok _ fun vs Hf1 H1 fp1 ok1 g1 sr => by
    cases sr with
    | cons h1 t =>
      cases t
      rename_i y
      refine ⟨by show 1 ≤ 1000; omega, fun a ha => ⟨a, C, y, rfl, o, no, upd_same, fun dx hdx hne => ⟨rfl, dx, [(n, y)], upd_same, ?_, ?_, ?_⟩⟩⟩
      · rw [upd_ne hne, upd_same]
      · rw [upd_ne hne] at hdx
        exact hdx
      · rw [upd_ne hne] at hdx
        have eq : upd (L2.del (upd (upd (upd H1 a (exo a C none)) dx (exd dx [(n, y)])) a (exo a C (some dx))) a) dx (.xd [(n, y)]) = upd H1 dx (.xd [(n, y)]) := by
          funext q
          by_cases e1 : q = dx
          · rw [e1, upd_same, upd_same]
          · rw [upd_ne e1, upd_ne e1]
            by_cases e2 : q = a
            · rw [e2, L2.del_same, ha]
            · rw [L2.del_ne e2, upd_ne e2, upd_ne e1, upd_ne e2]
        rw [eq]
        obtain ⟨ok2, g2⟩ := ok1.laid (.xd [(n, y)]) hdx
        have h1' : Rp K Hf1 y x := h1
        exact xx (.ref C) (some (n, x)) (some dx) S1 _ _ σ fp1 ok2 (g1.trans g2) ⟨dx, y, rfl, upd_same, h1'.mono g2.sm⟩ k
end

theorem init_reads {K : PySem.W.Frag} {n : Str} {a C : Addr} {y : V} {H : Hp} {Q : VK} (o : OexC K C) (no : PySem.W.findIn K (.ref C) n = some none) (ha : H a = some (exo a C none)) (q : ∀ dx, H dx = none → dx ≠ a → Q .non (upd (upd H dx (exd dx [(n, y)])) a (exo a C (some dx)))) {v : V} :
    tSeq (tDrop (tVeI K (tCons (tVar 0) (tCons (tC v) tNil)))) (tOst K n (tVar 0) (tVar 1)) { nx := fun _ H' => Q .non H', rt := Q } [some (.ref a), some y] H := by
  refine ⟨.ref a, rfl, a, C, [v], rfl, by show 1 ≤ 1000; omega, o, ha, ?_⟩
  exact ⟨y, rfl, .ref a, rfl, a, C, rfl, o, no, .inl ⟨ha, fun dx h1 h2 => q dx h1 h2⟩⟩
/-! ### a def that may raise -/
abbrev FX := List SD → Value → XF → Prop
def spX (K : PySem.W.Frag) (np : Nat) (R : FR) (RX : FX) : Sp := fun vs H Q E => vs.length = np ∧ (spD K np R vs H Q E ∨ ∃ Hf fp as ob cls x, Hd K (prot Hf H) Hf H fp ob ∧ (∀ o ∈ ob, ∀ ds, o ≠ .lst ds) ∧ SRA K Hf fp vs as ∧ ob = [] ∧ RX as cls x ∧
  ∀ d Hf' H' fp' ob', Hd K (prot Hf H) Hf' H' fp' ob' → Gr Hf H fp Hf' H' fp' → XD K Hf' d x → E cls d H')
section
variable {K : PySem.W.Frag} {S S1 S2 : SS} {W : WX} {np : Nat} {R : FR} {RX : FX} {ds : List PyData} {d : PyData} {cls : Value} {x : XF} {ta tk : TA}
variable {c : Addr → Prop} {Hf H : Hp} {σ : L2.St} {fp : List (List Addr)}
theorem body_ofX {N : List Str} {ts : TS} {vs : List V} {Q : VK} {E : XK} (h : spX K np R RX vs H Q E) (hN : np ≤ N.length)
    (hk : ∀ as ob r ob', R as ob r ob' → ob.length ≤ ob'.length ∧ ∀ k, r = .own k → k < ob'.length)
    (hb : ∀ as ob r ob', R as ob r ob' → as.length = np → Ts K ts (entry N.length as ob) { nx := fun S' => r = .dat .none ∧ ob' <+: S'.ob, rt := fun x S' => x = r ∧ ob' <+: S'.ob })
    (hx : ∀ as cls x, RX as cls x → as.length = np → Tx K (fun cls d _ H => E cls d H) ts (entry N.length as []) { nx := fun _ => False, rt := fun _ _ => False } fun c2 x2 => c2 = cls ∧ x2 = x) : ts { nx := fun _ H' => Q .non H', rt := Q } (L2.start N vs) H := by
  obtain ⟨hl, h | ⟨Hf, fp, as, ob, cls, x, hd, hno, sr, rfl, hR, k⟩⟩ := h
  · exact body_ofG h hN hk hb
  have la : as.length = np := by
    rw [← hl]
    exact (Paired.length sr).symm
  have ok : Okk K (prot Hf H) Hf H (L2.start N vs) fp (entry N.length as []) := by
    refine ⟨hd, ?_, fun i d e => ?_⟩
    · unfold L2.start entry
      simp only [List.length_append, List.length_map, List.length_replicate]
      omega
    · unfold entry at e
      by_cases hi : i < as.length
      · rw [List.getElem?_append_left hi] at e
        obtain ⟨v, h1, h2⟩ := sr.get e
        refine ⟨some v, ?_, h2⟩
        unfold L2.start
        rw [List.getElem?_append_left (by rw [List.length_map]; omega), List.getElem?_map, h1]
        rfl
      · rw [List.getElem?_append_right (by omega), List.getElem?_replicate] at e
        split at e
        · rename_i hlt
          obtain rfl := Option.some.inj e
          refine ⟨none, ?_, trivial⟩
          unfold L2.start
          rw [List.getElem?_append_right (by rw [List.length_map]; omega), List.getElem?_replicate, if_pos (by rw [List.length_map]; omega)]
        · cases e
  exact hx as cls x hR la _ Hf H _ fp ok _ (fun _ _ _ _ _ _ _ z => z.elim) (fun _ _ _ _ _ _ _ _ _ _ z => z.elim) (fun _ _ _ _ _ _ _ z => z.elim) (fun _ _ _ _ _ _ _ z => z.elim)
    fun c2 x2 d S' Hf' H' σ' fp' ok' g xd e => by
      obtain ⟨rfl, rfl⟩ := e
      exact k d Hf' H' fp' S'.ob ok'.hd g xd
/-- a call that gives data; one that raises -/
theorem spX_ret {E : XK} {vs : List V} (h : spD K np R vs H Q E) : spX K np R RX vs H Q E := ⟨h.1, .inl h⟩
theorem ee_callXD {E : L2.St → XK} (ha : Ed K ta S ds S1) (hl : ds.length = np) (hR : R (ds.map SD.dat) [] (.dat d) []) : Ee K (tCallS (spX K np R RX) E ta) S (.dat d) S1 := fun c Hf H σ fp ok Q q => by
  have h := ee_callD (E := E σ) ha hl hR c Hf H σ fp ok Q q
  refine ha c Hf H σ fp ok _ fun vs Hf1 H1 fp1 ok1 g1 sr => ?_
  have hp : spD K np R vs H1 Q (E σ) := sp_call0 (R := R) (r := .dat d) (ob' := []) ok1 sr (fun a h => by
    obtain ⟨x, _, rfl⟩ := List.mem_map.mp h
    trivial) (by rw [List.length_map]; exact hl) hR fun v Hf' H' fp' ok' g' rv => q v Hf' H' fp' (by rw [List.append_nil] at ok'; exact ok') (g1.trans g') rv
  exact spX_ret hp
theorem ee_callXK {E : L2.St → XK} {gV : List V → List V → List V} {es fs : List PyData} (hk : Ed K tk S es S2)
    (hg : ∀ (Hf : Hp) vs zs, RpA K Hf vs [] → RpA K Hf zs es → RpA K Hf (gV vs zs) fs) (hl : fs.length = np) (hR : R (fs.map SD.dat) [] (.dat d) []) : Ee K (tCallKS (spX K np R RX) gV E tk) S (.dat d) S2 := fun c Hf H σ fp ok Q q =>
  hk c Hf H σ fp ok _ fun zs Hf2 H2 fp2 ok2 g2 sr2 => by
    have rr := hg Hf2 [] zs .nil (SRA.rp sr2)
    have back : ∀ {ds : List PyData} {vs : List V}, RpA K Hf2 vs ds → SRA K Hf2 fp2 vs (ds.map SD.dat) := fun {ds} => by
      induction ds with
      | nil => intro vs h; cases h; exact .nil
      | cons d ds ih => intro vs h; cases h with
        | cons h t => exact .cons h (ih t)
    exact spX_ret (sp_call0 (R := R) (r := .dat d) (ob' := []) ok2 (back rr) (fun a h => by
      obtain ⟨x, _, rfl⟩ := List.mem_map.mp h
      trivial) (by rw [List.length_map]; exact hl) hR fun v Hf' H' fp' ok' g' rv => q v Hf' H' fp' (by rw [List.append_nil] at ok'; exact ok') (g2.trans g') rv)
/-- an expression that raises -/
def Ex (K : PySem.W.Frag) (W : WX) (te : TE) (S S1 : SS) (cls : Value) (x : XF) : Prop := ∀ (c : Addr → Prop) (Hf H : Hp) (σ : L2.St) (fp : List (List Addr)), Okk K c Hf H σ fp S →
  (∀ (d : Option Addr) (Hf' H' : Hp) (fp' : List (List Addr)) (ob' : List OO), Okk K c Hf' H' σ fp' { S1 with ob := S1.ob ++ ob' } → Gr Hf H fp Hf' H' fp' → XD K Hf' d x → W cls d σ H') → ∀ Q : VK, te σ H Q
theorem sp_raise {vs : List V} {as : List SD} {E : XK} {Q : VK} (ok : Okk K c Hf H σ fp S) (sr : SRA K Hf fp vs as) (hp : ∀ a ∈ as, Plain a) (hl : as.length = np) (hR : RX as cls x)
    (k : ∀ (d : Option Addr) (Hf' H' : Hp) (fp' : List (List Addr)) (ob' : List OO), Okk K c Hf' H' σ fp' { S with ob := S.ob ++ ob' } → Gr Hf H fp Hf' H' fp' → XD K Hf' d x → E cls d H') : spX K np R RX vs H Q E := by
  refine ⟨by rw [Paired.length sr]; exact hl, .inr ⟨Hf, [], as, [], cls, x, ⟨ok.hd.ex, rfl, fun k a o e => by simp at e, by simp, fun a h => by simp at h, fun k p o e => by simp at e, fun a z => z, fun k p ds e => by simp at e⟩, fun o h => by simp at h, sra_plain hp sr, rfl, hR, fun d Hf2 H2 fp2 ob2 hd2 g2 xd => ?_⟩⟩
  obtain ⟨hd, g⟩ := ok.hd.join hd2 g2
  refine k d Hf2 H2 (fp ++ fp2) ob2 ⟨hd, ok.ln, fun i d e => ?_⟩ g xd
  obtain ⟨x, h1, h2⟩ := ok.sr i d e
  exact ⟨x, h1, h2.mono g.sm g.pr⟩
theorem ex_call (ha : Ed K ta S ds S1) (hl : ds.length = np) (hR : RX (ds.map SD.dat) cls x) : Ex K W (tCallS (spX K np R RX) (WE W) ta) S S1 cls x := fun c Hf H σ fp ok k Q =>
  ha c Hf H σ fp ok _ fun vs Hf1 H1 fp1 ok1 g1 sr => sp_raise ok1 sr (fun a h => by
    obtain ⟨x, _, rfl⟩ := List.mem_map.mp h
    trivial) (by rw [List.length_map]; exact hl) hR fun d Hf' H' fp' ob' ok' g' xd => k d Hf' H' fp' ob' ok' (g1.trans g') xd
theorem ex_callK {gV : List V → List V → List V} {es fs : List PyData} (hk : Ed K tk S es S2) (hg : ∀ (Hf : Hp) vs zs, RpA K Hf vs [] → RpA K Hf zs es → RpA K Hf (gV vs zs) fs) (hl : fs.length = np) (hR : RX (fs.map SD.dat) cls x) :
    Ex K W (tCallKS (spX K np R RX) gV (WE W) tk) S S2 cls x := fun c Hf H σ fp ok k Q =>
  hk c Hf H σ fp ok _ fun zs Hf2 H2 fp2 ok2 g2 sr2 => by
    have rr := hg Hf2 [] zs .nil (SRA.rp sr2)
    have back : ∀ {ds : List PyData} {vs : List V}, RpA K Hf2 vs ds → SRA K Hf2 fp2 vs (ds.map SD.dat) := fun {ds} => by
      induction ds with
      | nil => intro vs h; cases h; exact .nil
      | cons d ds ih => intro vs h; cases h with
        | cons h t => exact .cons h (ih t)
    exact sp_raise ok2 (back rr) (fun a h => by
      obtain ⟨x, _, rfl⟩ := List.mem_map.mp h
      trivial) (by rw [List.length_map]; exact hl) hR fun d Hf' H' fp' ob' ok' g' xd => k d Hf' H' fp' ob' ok' (g2.trans g') xd
theorem ex_if {t : TT} {ta tb : TE} {b : Bool} (h : Et K t S b S1) (h1 : b = true → Ex K W ta S1 S2 cls x) (h2 : b = false → Ex K W tb S1 S2 cls x) : Ex K W (tIf t ta tb) S S2 cls x := fun c Hf H σ fp ok k Q =>
  h c Hf H σ fp ok _ fun Hf' H' fp' ok' g => by
    cases b with
    | true => exact h1 rfl c Hf' H' σ fp' ok' (fun d Hf2 H2 fp2 ob2 ok2 g2 => k d Hf2 H2 fp2 ob2 ok2 (g.trans g2)) Q
    | false => exact h2 rfl c Hf' H' σ fp' ok' (fun d Hf2 H2 fp2 ob2 ok2 g2 => k d Hf2 H2 fp2 ob2 ok2 (g.trans g2)) Q
end
/-- a list of data, told anew: what a suite returns -/
theorem laid_list {K : PySem.W.Frag} {c : Addr → Prop} {Hf H : Hp} {σ : L2.St} {fp : List (List Addr)} {S : SS} {xs : List V} {ds : List PyData} {p : Addr} (ok : Okk K c Hf H σ fp S) (r : RpA K Hf xs ds) (hp : H p = none) :
    Okk K c (upd Hf p (.lst xs)) (upd H p (.lst xs)) σ fp S ∧ Gr Hf H fp (upd Hf p (.lst xs)) (upd H p (.lst xs)) fp ∧ SRl K (upd Hf p (.lst xs)) fp (some (.ref p)) (.dat (.list ds)) := by
  obtain ⟨ok2, g2⟩ := ok.laid (.lst xs) hp
  exact ⟨ok2, g2, Rp.lst upd_same (r.mono g2.sm)⟩
end DL
namespace DL
open PySem PySem.Spec PyProof.Rows L2
theorem kit_own {K : PySem.W.Frag} {C D : Addr} {b : Bool} (ht : PySem.W.typeIn K (.ref D) = some (.type "type")) (hd : PySem.W.hasDictIn K D = true) (h : PySem.W.subIn K (.ref C) (.ref D) = some b) (hr : b = true := by rfl) : PySem.W.kitOne K (.ref C) (.ref D) = some true := by
  subst hr
  obtain ⟨cd, hc, _⟩ := PySem.W.any_some hd
  unfold PySem.W.kitOne
  split
  · rfl
  · unfold PySem.W.kitCls
    have e2 : ((PySem.W.clsIn K D).isSome && PySem.W.typeIn K (.ref D) == some (.type "type")) = true := by rw [hc, ht] <;> rfl
    show (if ((PySem.W.clsIn K D).isSome && PySem.W.typeIn K (.ref D) == some (.type "type")) = true then PySem.W.subIn K (.ref C) (.ref D) else none) = some true
    rw [if_pos e2]
    exact h
end DL

set_option maxRecDepth 100000
set_option maxHeartbeats 1000000
/-! DLz: bits of whole numbers, over data; reversed; the truth of a number. -/
namespace DL
open PySem PySem.Spec PyProof.Rows L2
/-! ### bits -/
theorem not_lo (b : Nat) : ¬ (0 ≤ Builtin.bitNot (b : Int)) := by
  unfold Builtin.bitNot
  omega
theorem not_not (x : Int) : Builtin.bitNot (Builtin.bitNot x) = x := by
  unfold Builtin.bitNot
  omega
theorem bor_nat (a b : Nat) : Builtin.bitOr (a : Int) (b : Int) = ((a ||| b : Nat) : Int) := by
  unfold Builtin.bitOr Builtin.bitAnd
  rw [decide_eq_false (not_lo a), decide_eq_false (not_lo b)]
  show Builtin.bitNot (Builtin.bitNot (((Builtin.bitNot (Builtin.bitNot (a : Int))).toNat ||| (Builtin.bitNot (Builtin.bitNot (b : Int))).toNat : Nat) : Int)) = _
  rw [not_not, not_not, not_not, Int.toNat_natCast, Int.toNat_natCast]
def dropN (a b : Nat) : Nat := Nat.bitwise (fun x y => x && !y) a b
theorem drop_bit (a b i : Nat) : (dropN a b).testBit i = (a.testBit i && !b.testBit i) := by
  unfold dropN
  rw [Nat.testBit_bitwise rfl]
theorem add_apart {x y : Nat} (h : x &&& y = 0) : x + y = x ||| y := by
  have hs : x + y < 2 ^ (x + y) := Nat.lt_two_pow_self
  have hx : x < 2 ^ (x + y) := by omega
  have hy : y < 2 ^ (x + y) := by omega
  have z : (BitVec.ofNat (x + y) x) &&& (BitVec.ofNat (x + y) y) = 0#(x + y) := by
    apply BitVec.eq_of_toNat_eq
    rw [BitVec.toNat_and, BitVec.toNat_ofNat, BitVec.toNat_ofNat, Nat.mod_eq_of_lt hx, Nat.mod_eq_of_lt hy, h]
    rfl
  have e := congrArg BitVec.toNat (BitVec.add_eq_or_of_and_eq_zero _ _ z)
  rw [BitVec.toNat_add, BitVec.toNat_or, BitVec.toNat_ofNat, BitVec.toNat_ofNat, Nat.mod_eq_of_lt hx, Nat.mod_eq_of_lt hy, Nat.mod_eq_of_lt hs] at e
  exact e
theorem drop_add (a b : Nat) : dropN a b + (a &&& b) = a := by
  have h0 : dropN a b &&& (a &&& b) = 0 := by
    apply Nat.eq_of_testBit_eq
    intro i
    rw [Nat.testBit_and, Nat.testBit_and, drop_bit, Nat.zero_testBit]
    cases a.testBit i <;> cases b.testBit i <;> rfl
  have h1 : dropN a b ||| (a &&& b) = a := by
    apply Nat.eq_of_testBit_eq
    intro i
    rw [Nat.testBit_or, Nat.testBit_and, drop_bit]
    cases a.testBit i <;> cases b.testBit i <;> rfl
  have h2 := add_apart h0
  omega
theorem drop_nat (a b : Nat) : Builtin.bitAnd (a : Int) (Builtin.bitNot (b : Int)) = ((dropN a b : Nat) : Int) := by
  unfold Builtin.bitAnd
  rw [decide_eq_true (Int.natCast_nonneg a), decide_eq_false (not_lo b)]
  show (a : Int) - (((a : Int).toNat &&& (Builtin.bitNot (Builtin.bitNot (b : Int))).toNat : Nat) : Int) = _
  rw [not_not, Int.toNat_natCast, Int.toNat_natCast]
  have := drop_add a b
  omega
section
variable {K : PySem.W.Frag} {S S1 : SS} {i j : Int} {a b : Nat}
theorem ro_bor : Ro K (rI0 fun i j => .int (Builtin.bitOr i j)) (.dat (.int (a : Int))) (.dat (.int (b : Int))) S (.dat (.int ((a ||| b : Nat) : Int))) S := ro_I0 fun _ => by
  rw [bor_nat]
  exact .int _
theorem ro_band : Ro K (rI0 fun i j => .int (Builtin.bitAnd i j)) (.dat (.int (a : Int))) (.dat (.int (b : Int))) S (.dat (.int ((a &&& b : Nat) : Int))) S := ro_I0 fun _ => by
  rw [PySem.W.os_band]
  exact .int _
theorem ro_bdrop : Ro K (rI0 fun i j => .int (Builtin.bitAnd i j)) (.dat (.int (a : Int))) (.dat (.int (Builtin.bitNot (b : Int)))) S (.dat (.int ((dropN a b : Nat) : Int))) S := ro_I0 fun _ => by
  rw [drop_nat]
  exact .int _
theorem ru_inv : Ru K (rU fun i => .int (Builtin.bitNot i)) (.dat (.int i)) S (.dat (.int (Builtin.bitNot i))) S := fun c Hf H σ fp ok v rv Q q => by
  cases rv
  exact ⟨i, rfl, q _ _ _ _ ok Gr.refl (Rp.int _)⟩
/-- 1 << b -/
theorem ro_shl1 (h : CPow 1 (b : Int)) : Ro K (rI CPow fun i j => .int (i * 2 ^ j.toNat)) (.dat (.int 1)) (.dat (.int (b : Int))) S (.dat (.int ((2 ^ b : Nat) : Int))) S := by
  have e : (1 : Int) * 2 ^ (b : Int).toNat = ((2 ^ b : Nat) : Int) := by
    rw [Int.toNat_natCast, Int.one_mul, Int.natCast_pow]
    rfl
  rw [← e]
  exact ro_I (fun _ => .int _) h
/-- a >> b -/
theorem ro_shr : Ro K (rI (fun _ j => 0 ≤ j) fun i j => .int (i / 2 ^ j.toNat)) (.dat (.int (a : Int))) (.dat (.int (b : Int))) S (.dat (.int ((a >>> b : Nat) : Int))) S := by
  have e : (a : Int) / 2 ^ (b : Int).toNat = ((a >>> b : Nat) : Int) := by
    rw [Int.toNat_natCast, Nat.shiftRight_eq_div_pow, Int.natCast_ediv, Int.natCast_pow]
    rfl
  rw [← e]
  exact ro_I (fun _ => .int _) (Int.natCast_nonneg b)
theorem bit_of (a b : Nat) : ((((a >>> b &&& 1 : Nat)) : Int) != 0) = a.testBit b := by
  unfold Nat.testBit
  have : (a >>> b &&& 1) = 1 &&& a >>> b := Nat.and_comm _ _
  rw [this]
  by_cases h : (1 &&& a >>> b) = 0
  · rw [h]
    rfl
  · rw [bne_iff_ne.mpr h, bne_iff_ne.mpr (show (((1 &&& a >>> b : Nat)) : Int) ≠ 0 by omega)]
theorem one_bit (q i : Nat) : (2 ^ q).testBit i = decide (q = i) := Nat.testBit_two_pow
/-! ### reversed(tuple), the truth of a number -/
theorem walk_back {K : PySem.W.Frag} {a : Addr} {xs : List V} : Walk (RT.ItvT K a xs.length) xs.length (fun H => SqT K H a xs) (fun i H x H' => H' = H ∧ xs[xs.length - 1 - i]? = some x) := by
  refine ⟨fun i H hi q => ?_, fun H q => Nat.le_refl _, fun i H x H' hi q y => ⟨y.1, y.2 xs q⟩⟩
  have lt : xs.length - 1 - i < xs.length := by omega
  exact ⟨hi, xs, xs[xs.length - 1 - i]'lt, q, List.getElem?_eq_getElem lt⟩
theorem ei_back {te : TE} {ds : List PyData} (h : Ee K te S (.dat (.tuple ds)) S1) : Ei K (RT.iRevA K te) S ds.reverse S1 := fun c Hf H σ fp ok R q => h c Hf H σ fp ok _ fun v Hf1 H1 fp1 ok1 g1 r1 => by
  cases r1 with
  | @tup a xs _ h1 h2 =>
    refine ⟨a, xs, rfl, .inr ⟨sameT ok1.hd.ex h1, q _ Hf1 H1 fp1 ok1 g1 (wk_of (walk_back (K := K)) (by rw [List.length_reverse]; exact h2.len.symm) (fun Hf2 H2 e1 e2 => sameT e2 (sameT e1 h1)) fun i d Hf2 H2 x H3 e1 e2 hd y => .inl ?_)⟩⟩
    obtain ⟨rfl, y⟩ := y
    have hi : i < ds.length := by
      have := (List.getElem?_eq_some_iff.mp hd).1
      rwa [List.length_reverse] at this
    rw [List.getElem?_reverse hi, ← h2.len] at hd
    obtain ⟨w, k1, k2⟩ := h2.get hd
    rw [y] at k1
    obtain rfl := Option.some.inj k1
    exact ⟨rfl, k2.mono e1⟩
theorem et_truI {te : TE} (h : Ee K te S (.dat (.int i)) S1) : Et K (tTru K te) S (i != 0) S1 := fun c Hf H σ fp ok Q q => h c Hf H σ fp ok _ fun v Hf1 H1 fp1 ok1 g1 r1 => by
  cases r1
  exact ⟨_, rfl, q _ _ _ ok1 g1⟩
end
end DL

set_option maxRecDepth 100000
set_option maxHeartbeats 2000000
/-! DLz2: comprehensions of two clauses, over data. -/
namespace DL
open PySem PySem.Spec PyProof.Rows L2
section
variable {K : PySem.W.Frag} {c : Addr → Prop} {Hf H Hf' H' : Hp} {σ : L2.St} {fp fp' : List (List Addr)} {S : SS} {Dl : Addr} {o : HO}
theorem Okk.grow (ok : Okk K (fun a => c a ∨ a = Dl) Hf H σ fp S) (nm : Dl ∉ fp.flatten) : Okk K (fun a => c a ∨ a = Dl) Hf (upd H Dl o) σ fp S := by
  have hfD : Hf Dl = none := (ok.hd.pt Dl (.inr rfl)).1
  refine ⟨⟨fun b x e => ?_, ok.hd.fl, fun k q x e1 e2 => (ok.hd.oo k q x e1 e2).mono (Same.refl _) fun b hb => upd_ne fun z => nm (mem_fl e1 (by rw [← z]; exact hb)), ok.hd.nd, fun a ha => ?_, ok.hd.nf, fun a z => ?_, ok.hd.np⟩, ok.ln, ok.sr⟩
  · rw [upd_ne (ne_of_none e hfD)]
    exact ok.hd.ex b x e
  · obtain ⟨x, e⟩ := ok.hd.al a ha
    exact ⟨x, by rw [upd_ne (show a ≠ Dl from fun z => nm (by rw [← z]; exact ha))]; exact e⟩
  · obtain ⟨z1, x, z2⟩ := ok.hd.pt a z
    refine ⟨z1, ?_⟩
    by_cases hb : a = Dl
    · rw [hb]
      exact ⟨_, upd_same⟩
    · exact ⟨x, by rw [upd_ne hb]; exact z2⟩
theorem Gr.grow (g : Gr Hf H fp Hf' H' fp') (hD : H Dl = none) : Gr Hf H fp Hf' (upd H' Dl o) fp' := by
  refine ⟨g.sm, g.pr, fun a x e n => ?_, g.nw, fun a x e => ?_⟩
  · rw [upd_ne (ne_of_none e hD)]
    exact g.fr a x e n
  · rw [upd_ne (ne_of_none e hD)]
    exact g.th a x e
/-- a list that is being made at Dl -/
structure Mk (K : PySem.W.Frag) (c : Addr → Prop) (Dl : Addr) (Hf H Hf1 : Hp) (fp : List (List Addr)) (Hf' H' : Hp) (fp' : List (List Addr)) (acc : List PyData) : Prop where
  gr : Gr Hf H fp Hf' H' fp'
  sm : Same Hf1 Hf'
  at_ : ∃ xs, H' Dl = some (.lst xs) ∧ RpA K Hf' xs acc
  nm : Dl ∉ fp'.flatten
theorem Mk.step {Hf1 Hf2 H2 : Hp} {fp2 : List (List Addr)} {acc : List PyData} (m : Mk K c Dl Hf H Hf1 fp Hf' H' fp' acc) (g : Gr Hf' H' fp' Hf2 H2 fp2) : Mk K c Dl Hf H Hf1 fp Hf2 H2 fp2 acc := by
  obtain ⟨xs, h1, h2⟩ := m.at_
  exact ⟨m.gr.trans g, m.sm.trans g.sm, ⟨xs, g.fr _ _ h1 m.nm, h2.mono g.sm⟩, fun z => (g.nw Dl z).elim m.nm fun y => by rw [h1] at y; cases y⟩
theorem Mk.add {Hf1 : Hp} {acc : List PyData} {xs : List V} {v : V} {d : PyData} (m : Mk K c Dl Hf H Hf1 fp Hf' H' fp' acc) (hD : H Dl = none) (hx : H' Dl = some (.lst xs)) (r : RpA K Hf' xs acc) (rv : Rp K Hf' v d) : Mk K c Dl Hf H Hf1 fp Hf' (upd H' Dl (.lst (xs ++ [v]))) fp' (acc ++ [d]) :=
  ⟨m.gr.grow hD, m.sm, ⟨_, upd_same, r.append (.cons rv .nil)⟩, m.nm⟩
def outL (es : PyData → List PyData) (p : PyData → PyData → Bool) (f : PyData → PyData → PyData) (ds : List PyData) : List PyData := ds.flatMap fun d => ((es d).filter (p d)).map (f d)
theorem outL_take {es : PyData → List PyData} {p : PyData → PyData → Bool} {f : PyData → PyData → PyData} {ds : List PyData} {i : Nat} {d : PyData} (h : ds[i]? = some d) : outL es p f (ds.take (i + 1)) = outL es p f (ds.take i) ++ ((es d).filter (p d)).map (f d) := by
  unfold outL
  rw [List.take_add_one, h, List.flatMap_append]
  simp
theorem outL_part {es : PyData → List PyData} {p : PyData → PyData → Bool} {f : PyData → PyData → PyData} {ds : List PyData} {i j : Nat} {d : PyData} (h : ds[i]? = some d) (h2 : j ≤ (es d).length) : (outL es p f (ds.take i) ++ (((es d).take j).filter (p d)).map (f d)).length ≤ (outL es p f ds).length := by
  have e : outL es p f ds = outL es p f (ds.take (i + 1)) ++ outL es p f (ds.drop (i + 1)) := by
    unfold outL
    rw [← List.flatMap_append, List.take_append_drop]
  rw [e, outL_take h, List.length_append, List.length_append, List.length_append, List.length_map, List.length_map]
  have := ((List.take_sublist j (es d)).filter (p d)).length_le
  omega
theorem part_succ {es : List PyData} {p : PyData → Bool} {f : PyData → PyData} {j : Nat} {e : PyData} (h : es[j]? = some e) : ((es.take (j + 1)).filter p).map f = if p e = true then ((es.take j).filter p).map f ++ [f e] else ((es.take j).filter p).map f := by
  rw [List.take_add_one, h, List.filter_append, List.map_append]
  show _ ++ ([e].filter p).map f = _
  by_cases hp : p e = true
  · rw [if_pos hp, List.filter_cons_of_pos hp]
    rfl
  · rw [if_neg hp, List.filter_cons_of_neg hp]
    exact List.append_nil _
theorem el_lc2 {wi wi1 : TI} {g g1 : TG} {t1 : TT} {te : TE} {vs vs1 : List Nat} {S0 : SS} {ds : List PyData} (es : PyData → List PyData) (p : PyData → PyData → Bool) (f : PyData → PyData → PyData)
    (h : Ei K wi S ds S0) (hl : (outL es p f ds).length ≤ 1000000)
    (hs : ∀ (i : Nat) (d : PyData), ds[i]? = some d → ∃ Sg, Egc K vs g d { S0 with sl := wipeS S0.sl vs } Sg ∧ Sg.ob = S0.ob ∧ Ei K wi1 Sg (es d) Sg ∧
      ∀ (j : Nat) (e : PyData), (es d)[j]? = some e → ∃ Sh S2, Egc K vs1 g1 e { Sg with sl := wipeS Sg.sl vs1 } Sh ∧ Et K t1 Sh (p d e) S2 ∧ S2.ob = S0.ob ∧ (p d e = true → ∃ S3, Ee K te S2 (.dat (f d e)) S3 ∧ S3.ob = S0.ob)) :
    El K (tLc2 wi g tYes wi1 g1 t1 te vs vs1) S (outL es p f ds) S0 := fun c Hf H σ fp ok Q q =>
  h c Hf H σ fp ok _ fun J Hf1 H1 fp1 ok1 g0 w Dl hD => by
    have hHD : H Dl = none := none_back g0.th hD
    have cD : Addr → Prop := fun a => c a ∨ a = Dl
    refine ⟨fun i m H' => m = ds.length - i ∧ i ≤ ds.length ∧ ∃ Hf' fp', Okk K (fun a => c a ∨ a = Dl) Hf' H' σ fp' S0 ∧ Mk K c Dl Hf H Hf1 fp Hf' H' fp' (outL es p f (ds.take i)), ⟨ds.length, by simp, Nat.zero_le _, Hf1, fp1, ?_⟩, ?_⟩
    · obtain ⟨ok2, g2, al⟩ := ok1.alone (xs := []) (ds := []) hD .nil
      refine ⟨⟨⟨ok2.hd.ex, ok2.hd.fl, ok2.hd.oo, ok2.hd.nd, ok2.hd.al, ok2.hd.nf, fun a z => ?_, fun k p ds' e1 e2 a ha z => ?_⟩, ok2.ln, ok2.sr⟩, g0.trans g2, Same.refl _, ⟨[], upd_same, .nil⟩, al.nm⟩
      · rcases z with z | rfl
        · exact ok2.hd.pt a z
        · exact ⟨al.hf, _, upd_same⟩
      · rcases z with z | rfl
        · exact ok2.hd.np k p ds' e1 e2 a ha z
        · exact al.nm (mem_fl e1 ha)
    · rintro i m H' ⟨rfl, hi, Hf', fp', ok', mk⟩
      by_cases hlt : i < ds.length
      · have hd := List.getElem?_eq_getElem hlt
        generalize ds[i] = d at hd
        refine .inr ⟨w.go i Hf' H' mk.sm ok'.hd.ex hlt, fun H2 => i + 1 ≤ ds.length ∧ ∃ Hf' fp', Okk K (fun a => c a ∨ a = Dl) Hf' H2 σ fp' S0 ∧ Mk K c Dl Hf H Hf1 fp Hf' H2 fp' (outL es p f (ds.take (i + 1))), fun H2 ⟨a1, a2⟩ => ⟨ds.length - (i + 1), by omega, rfl, a1, a2⟩, fun x H2 y => ?_⟩
        obtain ⟨Sg, hg, hob, hin, hs1⟩ := hs i d hd
        have fin : ∀ Hf2, Okk K (fun a => c a ∨ a = Dl) Hf2 H2 σ fp' S0 → Gr Hf' H' fp' Hf2 H2 fp' → Rp K Hf2 x d → g x (wipe σ vs) H2 fun σ2 H2 => wipe σ2 vs = wipe σ vs ∧ tYes σ2 H2 fun b H3 =>
            if b = true then wi1 σ2 H3 fun J1 H4 => ∃ W1 : Nat → Nat → Hp → Prop, (∃ m, W1 0 m H4) ∧ ∀ j k H5, W1 j k H5 →
              (J1.stop j H5 ∧ (i + 1 ≤ ds.length ∧ ∃ Hf' fp', Okk K (fun a => c a ∨ a = Dl) Hf' H5 σ fp' S0 ∧ Mk K c Dl Hf H Hf1 fp Hf' H5 fp' (outL es p f (ds.take (i + 1))))) ∨ (J1.go j H5 ∧ ∃ Nx1 : Hp → Prop, (∀ H', Nx1 H' → ∃ k', k' < k ∧ W1 (j + 1) k' H') ∧ ∀ x H', J1.yld j H5 x H' → g1 x (wipe σ2 vs1) H' fun σ3 H5 => wipe σ3 vs1 = wipe σ2 vs1 ∧ t1 σ3 H5 fun b H6 =>
                if b = true then te σ3 H6 fun y H7 => ∃ acc, H7 Dl = some (.lst acc) ∧ acc.length < sizeLine ∧ Nx1 (upd H7 Dl (.lst (acc ++ [y]))) else Nx1 H6)
            else (i + 1 ≤ ds.length ∧ ∃ Hf' fp', Okk K (fun a => c a ∨ a = Dl) Hf' H3 σ fp' S0 ∧ Mk K c Dl Hf H Hf1 fp Hf' H3 fp' (outL es p f (ds.take (i + 1)))) := fun Hf2 ok2 g2 rp => by
          have mk2 := mk.step g2
          refine hg _ Hf2 H2 _ fp' (ok2.wiped vs) x rp _ fun σ3 w3 ok3 => ⟨?_, ?_⟩
          · rw [w3, wipe_wipe σ vs vs fun _ h => h]
          unfold tYes
          dsimp only
          rw [if_pos rfl]
          refine hin _ Hf2 H2 σ3 fp' ok3 _ fun J1 Hf4 H4 fp4 ok4 g4 w4 => ?_
          have back : ∀ {Hf5 H5 : Hp} {fp5 : List (List Addr)} {σ5 : L2.St} {S5 : SS}, S5.ob = S0.ob → Okk K (fun a => c a ∨ a = Dl) Hf5 H5 σ5 fp5 S5 → Gr Hf2 H2 fp' Hf5 H5 fp5 → Okk K (fun a => c a ∨ a = Dl) Hf5 H5 σ fp5 S0 := fun e o5 g5 => by
            have z := ok2.heap o5 g5
            rw [e] at z
            exact z
          refine ⟨fun j k H5 => k = (es d).length - j ∧ j ≤ (es d).length ∧ ∃ Hf5 fp5, Okk K (fun a => c a ∨ a = Dl) Hf5 H5 σ3 fp5 Sg ∧ Okk K (fun a => c a ∨ a = Dl) Hf5 H5 σ fp5 S0 ∧ Same Hf4 Hf5 ∧ Mk K c Dl Hf H Hf1 fp Hf5 H5 fp5 (outL es p f (ds.take i) ++ (((es d).take j).filter (p d)).map (f d)), ⟨(es d).length, by simp, Nat.zero_le _, Hf4, fp4, ok4, back hob ok4 g4, Same.refl _, ?_⟩, ?_⟩
          · have z := mk2.step g4
            rw [List.take_zero]
            show Mk K c Dl Hf H Hf1 fp Hf4 H4 fp4 (_ ++ [])
            rw [List.append_nil]
            exact z
          · rintro j k H5 ⟨rfl, hj, Hf5, fp5, ok5, okS, s5, mk5⟩
            by_cases hjl : j < (es d).length
            · have he := List.getElem?_eq_getElem hjl
              generalize (es d)[j] = e at he
              have bound := outL_part (p := p) (f := f) hd (show j ≤ (es d).length by omega)
              refine .inr ⟨w4.go j Hf5 H5 s5 ok5.hd.ex hjl, fun H6 => j + 1 ≤ (es d).length ∧ ∃ Hf5 fp5, Okk K (fun a => c a ∨ a = Dl) Hf5 H6 σ3 fp5 Sg ∧ Okk K (fun a => c a ∨ a = Dl) Hf5 H6 σ fp5 S0 ∧ Same Hf4 Hf5 ∧ Mk K c Dl Hf H Hf1 fp Hf5 H6 fp5 (outL es p f (ds.take i) ++ (((es d).take (j + 1)).filter (p d)).map (f d)), fun H6 ⟨a1, a2⟩ => ⟨(es d).length - (j + 1), by omega, rfl, a1, a2⟩, fun x1 H6 y1 => ?_⟩
              obtain ⟨Sh, S2, hg1, ht1, e2, hy⟩ := hs1 j e he
              rw [part_succ he]
              have fin1 : ∀ Hf6, Okk K (fun a => c a ∨ a = Dl) Hf6 H6 σ3 fp5 Sg → Okk K (fun a => c a ∨ a = Dl) Hf6 H6 σ fp5 S0 → Gr Hf5 H5 fp5 Hf6 H6 fp5 → Rp K Hf6 x1 e → g1 x1 (wipe σ3 vs1) H6 fun σ4 H5 => wipe σ4 vs1 = wipe σ3 vs1 ∧ t1 σ4 H5 fun b H6 =>
                  if b = true then te σ4 H6 fun y H7 => ∃ acc, H7 Dl = some (.lst acc) ∧ acc.length < sizeLine ∧ (j + 1 ≤ (es d).length ∧ ∃ Hf5 fp5, Okk K (fun a => c a ∨ a = Dl) Hf5 (upd H7 Dl (.lst (acc ++ [y]))) σ3 fp5 Sg ∧ Okk K (fun a => c a ∨ a = Dl) Hf5 (upd H7 Dl (.lst (acc ++ [y]))) σ fp5 S0 ∧ Same Hf4 Hf5 ∧ Mk K c Dl Hf H Hf1 fp Hf5 (upd H7 Dl (.lst (acc ++ [y]))) fp5 (outL es p f (ds.take i) ++ (if p d e = true then (((es d).take j).filter (p d)).map (f d) ++ [f d e] else (((es d).take j).filter (p d)).map (f d))))
                  else (j + 1 ≤ (es d).length ∧ ∃ Hf5 fp5, Okk K (fun a => c a ∨ a = Dl) Hf5 H6 σ3 fp5 Sg ∧ Okk K (fun a => c a ∨ a = Dl) Hf5 H6 σ fp5 S0 ∧ Same Hf4 Hf5 ∧ Mk K c Dl Hf H Hf1 fp Hf5 H6 fp5 (outL es p f (ds.take i) ++ (if p d e = true then (((es d).take j).filter (p d)).map (f d) ++ [f d e] else (((es d).take j).filter (p d)).map (f d)))) := fun Hf6 ok6 okS6 g6 rp1 => by
                refine hg1 _ Hf6 H6 _ fp5 (ok6.wiped vs1) x1 rp1 _ fun σ5 w5 ok7 => ⟨?_, ?_⟩
                · rw [w5, wipe_wipe σ3 vs1 vs1 fun _ h => h]
                refine ht1 _ Hf6 H6 σ5 fp5 ok7 _ fun Hf8 H8 fp8 ok8 g8 => ?_
                have mk8 := (mk5.step g6).step g8
                have up : ∀ {Hf9 H9 : Hp} {fp9 : List (List Addr)} {σ9 : L2.St} {S9 : SS}, S9.ob = S0.ob → Okk K (fun a => c a ∨ a = Dl) Hf9 H9 σ9 fp9 S9 → Gr Hf6 H6 fp5 Hf9 H9 fp9 → Okk K (fun a => c a ∨ a = Dl) Hf9 H9 σ3 fp9 Sg ∧ Okk K (fun a => c a ∨ a = Dl) Hf9 H9 σ fp9 S0 := fun e9 o9 g9 => by
                  have z1 := ok6.heap o9 g9
                  have z2 := okS6.heap o9 g9
                  rw [e9] at z1 z2
                  rw [← hob] at z1
                  exact ⟨z1, z2⟩
                by_cases hp : p d e = true
                · rw [hp]
                  refine iteT ?_
                  obtain ⟨S3, hee, e3⟩ := hy hp
                  refine hee _ Hf8 H8 σ5 fp8 ok8 _ fun v Hf9 H9 fp9 ok9 g9 r9 => ?_
                  have mk9 := mk8.step g9
                  obtain ⟨xs, hx, hr⟩ := mk9.at_
                  obtain ⟨u1, u2⟩ := up e3 ok9 (g8.trans g9)
                  refine ⟨xs, hx, Nat.lt_of_le_of_lt (show xs.length ≤ 1000000 by rw [hr.len]; omega) (by decide), hjl, Hf9, fp9, u1.grow mk9.nm, u2.grow mk9.nm, ((s5.trans g6.sm).trans g8.sm).trans g9.sm, ?_⟩
                  rw [if_pos rfl, ← List.append_assoc]
                  exact mk9.add hHD hx hr r9
                · have hpf : p d e = false := by simpa using hp
                  rw [hpf]
                  refine iteF ?_
                  obtain ⟨u1, u2⟩ := up e2 ok8 g8
                  rw [if_neg (by decide)]
                  exact ⟨hjl, Hf8, fp8, u1, u2, (s5.trans g6.sm).trans g8.sm, mk8⟩
              rcases w4.yl j e Hf5 H5 x1 H6 s5 ok5.hd.ex he y1 with ⟨rfl, rp1⟩ | ⟨pp, o1, hp1, rfl, rp1⟩
              · exact fin1 Hf5 ok5 okS Gr.refl rp1
              · obtain ⟨k1, k2⟩ := ok5.laid o1 hp1
                exact fin1 _ k1 (okS.laid o1 hp1).1 k2 rp1
            · have ej : j = (es d).length := by omega
              subst ej
              refine .inl ⟨w4.st Hf5 H5 s5 ok5.hd.ex, hlt, Hf5, fp5, okS, ?_⟩
              rw [outL_take hd]
              rw [List.take_length] at mk5
              exact mk5
        rcases w.yl i d Hf' H' x H2 mk.sm ok'.hd.ex hd y with ⟨rfl, rp⟩ | ⟨pp, o2, hp, rfl, rp⟩
        · exact fin Hf' ok' Gr.refl rp
        · obtain ⟨ok2, g2⟩ := ok'.laid o2 hp
          exact fin _ ok2 g2 rp
      · have e : i = ds.length := by omega
        subst e
        rw [List.take_length] at mk
        refine .inl ⟨w.st Hf' H' mk.sm ok'.hd.ex, ?_⟩
        have hfD := (ok'.hd.pt Dl (.inr rfl)).1
        refine q Dl Hf' H' fp' (ok'.weak fun a z => .inl z) mk.gr hHD ⟨mk.at_, hfD, mk.nm, fun z => ?_⟩
        obtain ⟨_, o, z2⟩ := ok.hd.pt Dl z
        rw [hHD] at z2
        cases z2
end
end DL

set_option maxRecDepth 100000
set_option maxHeartbeats 2000000
/-! DLr: ranges that are kept, |=, items changed in place, lists of own lists. -/
namespace DL
open PySem PySem.Spec PyProof.Rows L2
theorem tuple_mulS (l : Addr) (items : Array Value) (n : Nat) (dd : Option Addr) (sl : Array (Option Value)) (x : Int) (u : Tok) (c0 : (decide (x < -(2 ^ 63)) || decide (x ≥ 2 ^ 63)) = false) (c1 : (items.isEmpty || x == 1) = true) :
    Meets (Builtin.«tuple.__mul__» ⟨[.ref l, .int x u], []⟩) (fun _ R s => s.heap.get? l = some { cls := .type "tuple", dict := dd, data := .seq items n, slots := sl } ∧ R (.ok (.ret (Value.ref l))) s) :=
  .of_wp fun prog w A R s h => by
    obtain ⟨hp, g, d, tk, os⟩ := s
    obtain ⟨hl, h⟩ := h
    have f1 := AutoSeq1.idx_int
    wp_walk using wpAny_loadPart' hl
    repeat (first
      | (refine wpAny_ite_false (decide_eq_false (by rw [c0]; exact Bool.false_ne_true)) ?_; wp_walk using wpAny_loadPart' hl)
      | (refine wpAny_ite_true (decide_eq_true c1) ?_; wp_walk using wpAny_loadPart' hl))
    exact ⟨_, rfl, h⟩
/-- a tuple times 1, an empty tuple times a number: the tuple itself -/
def rRepS (K : PySem.W.Frag) : R2 := fun x y H Q => ∃ l k xs, x = .ref l ∧ y = .int k ∧ SqT K H l xs ∧ (xs = [] ∨ k = 1) ∧ 0 ≤ k ∧ k ≤ 1000000 ∧ Q (.ref l) H
theorem op_repS {X : Cx} : OpR X (binaryOp .Mult) (rRepS X.K) := by
  intro pins s σ H x y v u Q I rx ry h
  obtain ⟨l, k, xs, rfl, rfl, hT, hk, h1, h2, q⟩ := h
  cases rx
  obtain ⟨t, rfl⟩ := ry
  obtain ⟨its, r, ⟨⟨cls, dd, data, sl⟩, ho, hc, n, hd⟩, hs⟩ := I.tuple hT
  simp only at hc hd
  subst hc hd
  have hle : its.length = xs.length := r.length.symm
  have c0 : (decide (k < -(2 ^ 63)) || decide (k ≥ 2 ^ 63)) = false := by
    rw [decide_eq_false (by omega), decide_eq_false (by omega)] <;> rfl
  have c1 : (its.toArray.isEmpty || k == 1) = true := by
    rcases hk with hk | hk
    · subst hk
      rw [List.eq_nil_of_length_eq_zero hle]
      rfl
    · subst hk
      exact Bool.or_true _
  refine wpAny_binaryOp_repeat_ref (T := "tuple") (U := "int") (by decide) ⟨_, ho, rfl⟩ (fun s' => typeIs_int s' k t) noFill_tuple_mul F.fills_int_mul F.slot_int_rmul repeat_tuple F.slot_int_index.lookup
    (call_meets F.slot_int_rmul (typeIs_int s k t) F.entry_int_rmul (F.args_int_rmul_2 _ _) (int_rmul_tuple k t l its.toArray n dd sl)
      ⟨ho, rfl, ⟨_, ho, rfl⟩, call_meets F.slot_tuple_mul ⟨_, ho, rfl⟩ F.entry_tuple_mul (F.args_tuple_mul_2 _ _) (tuple_mulS l its.toArray n dd sl k t c0 c1) ⟨ho, ?_⟩⟩)
  exact ⟨.ref l, H, I, rfl, q⟩
def rMulS (K : PySem.W.Frag) : R2 := fun x y H Q => rMulU K x y H Q ∨ rRepS K x y H Q
theorem op_mulS {X : Cx} : OpR X (binaryOp .Mult) (rMulS X.K) := opr_or op_mulU op_repS
section
variable {X : Cx} {pos : Pos} {tg : Expr}
theorem ip_or : PIp X .BitOr (ipI fun i j => Builtin.bitOr i j) := iop_or
theorem ip_and : PIp X .BitAnd (ipI fun i j => Builtin.bitAnd i j) := iop_and
theorem ip_xor : PIp X .BitXor (ipI fun i j => Builtin.bitXor i j) := iop_xor
theorem get_list : PGet X (rIxL X.K) := by
  intro pins s σ H x y v u Q I rx ry h
  obtain ⟨p, xs, i, z, rfl, rfl, hq, he, q⟩ := h
  cases rx
  obtain ⟨t, rfl⟩ := ry
  obtain ⟨its, r, pl, hz⟩ := I.list hq
  obtain ⟨j, h1, h2, h3, h4, h5⟩ := atI_get he
  obtain ⟨w, ew, rw'⟩ := r.get h2
  have hl := r.length
  have hn := line63
  have fin : EP X pins σ Q w s := ⟨z, H, I, rw', q⟩
  by_cases h0 : 0 ≤ i
  · have hj : i.toNat = j := by
      rw [seqIndex_of h0 h5] at h1
      exact Option.some.inj h1
    exact wpAny_getItem_list pl.isList h0 (by omega) (by rw [hj]; simpa using ew) fin
  · have hj : (i + (its.toArray.size : Int)).toNat = j := by
      rw [seqIndex_neg (by omega) h4] at h1
      rw [List.size_toArray, ← hl]
      exact Option.some.inj h1
    exact wpAny_getItem_list_neg pl.isList (by omega) (by rw [List.size_toArray] <;> omega) (by omega) (by rw [hj]; simpa using ew) fin
/-- range(n) as a value -/
def rRng1 : List V → Hp → VK → Prop := fun vs H Q => ∃ j, vs = [V.int j] ∧ ∀ p, H p = none → Q (.ref p) (upd H p (.rng 0 j))
theorem cr_range1 : CallR X (.type "range") rRng1 := by
  intro pins s σ H vs us Q I r h
  obtain ⟨j, rfl, q⟩ := h
  obtain ⟨u1, rfl, rj⟩ := vals1 r
  obtain ⟨t, rfl⟩ := rj
  refine call_range_1 ⟨.ref s.heap.objs.size, upd H s.heap.objs.size (.rng 0 j), I.laid (fun b o e => Heap.get?_push_of_some _ e) (Nat.le_refl _) ?_, rfl, q _ (I.hok.fresh (Nat.le_refl _))⟩
  exact ⟨_, _, _, Heap.get?_push_size _ rfl⟩
def rRng2 : List V → Hp → VK → Prop := fun vs H Q => ∃ i j, vs = [V.int i, V.int j] ∧ ∀ p, H p = none → Q (.ref p) (upd H p (.rng i j))
theorem cr_range2' : CallR X (.type "range") rRng2 := cr_range2
/-- a range that is kept, walked -/
def iRngV (te : TE) : TI := fun σ H R => te σ H fun x H1 => ∃ (a : Addr) (lo hi : Int), x = .ref a ∧ H1 a = some (.rng lo hi) ∧ (-(2 ^ 62) ≤ lo ∧ lo < 2 ^ 62 ∧ -(2 ^ 62) ≤ hi ∧ hi < 2 ^ 62) ∧ R (Itr lo (hi - lo).toNat) H1
theorem pi_rngV {l : Expr} {tl : TE} (hl : PE X l tl) : PI X tg l (iRngV tl) := by
  refine ⟨fun pins s σ H R I h => ?_⟩
  refine thn (hl.run pins s σ H _ I h) fun v s1 ⟨x, H1, I1, r1, q1⟩ => ?_
  obtain ⟨a, lo, hi, e, hq, ⟨h1, h2, h3, h4⟩, q⟩ := q1
  subst e
  cases r1
  obtain ⟨t, u, v, ho⟩ := I1.hok a _ hq
  refine wpAny_pyIter_range (show IsRange s1.heap a lo hi 1 t u v from ho) (small_one h1 h2 h3 h4) ?_
  refine ⟨s1.heap.objs.size, [s1.heap.objs.size], _, _, H1, rfl, I1.kept (t' := s1.toks) fun b o e => Heap.get?_push_of_some _ e, turn_range _ lo (hi - lo).toNat, ?_, fun b hb => ?_, q⟩
  · have e1 : lo + ((0 : Nat) : Int) * 1 = lo := by simp
    have e2 : (((hi - lo).toNat : Nat) : Int) - ((0 : Nat) : Int) = Builtin.Range.rangeSize lo hi 1 := by rw [rangeSize_one]; split <;> omega
    show IsRangeIter _ _ (lo + ((0 : Nat) : Int) * 1) ((((hi - lo).toNat : Nat) : Int) - ((0 : Nat) : Int)) 1
    rw [e1, e2]
    exact Heap.get?_push_size _ rfl
  · have e : b = s1.heap.objs.size := by simpa using hb
    subst e
    exact I1.fpOk (Nat.le_refl _) (I1.hok.fresh (Nat.le_refl _))
theorem pt_truK (K : PySem.W.Frag) {a : Expr} {ta : TE} (e : X.K = K) (ha : PE X a ta) (he : ∀ whole, isTrue a X.env whole = (do let v ← whole; standAt a.pos; holding [v] (truthy v)) := by intro _; rfl) : PT X a (tTru K ta) := e ▸ pt_tru ha he
end
def tLstDn (ta : TA) : TE := fun σ H Q => ta σ H fun vs H1 => ∃ i j : Int, vs = [.int i, .int j, .int (-1)] ∧ (-1000000 ≤ i ∧ i ≤ 1000000 ∧ -1000000 ≤ j ∧ j ≤ 1000000) ∧ ∀ q, H1 q = none → Q (.ref q) (upd H1 q (.lst (downV i (i - j).toNat)))
theorem pe_lstDn {X : Cx} {a b c : Expr} {ta : TA} {p pos p2 pos2 : Pos} (hc : X.calm = true) (hg : Gl X "list") (hm : X.mg "list" = none) (hgr : Gl X "range") (hmr : X.mg "range" = none) (ha : PA X [a, b, c] ta)
    (n1 : starEach [a, b, c] X.env = (false, eval a X.env) :: starEach [b, c] X.env := by rfl) (n2 : (backTo pos2 (starEach [b, c] X.env)).any (·.1) = false := by rfl)
    (n3 : starEach [.Call (.Name "range" p2) [a, b, c] [] pos2] X.env = (false, eval (.Call (.Name "range" p2) [a, b, c] [] pos2) X.env) :: starEach [] X.env := by rfl) :
    PE X (.Call (.Name "list" p) [.Call (.Name "range" p2) [a, b, c] [] pos2] [] pos) (tLstDn ta) := by
  constructor
  intro pins s σ H Q I h
  have inner : wpAny (model X.prog X.w) X.A (eval (.Call (.Name "range" p2) [a, b, c] [] pos2) X.env) (fun x s' => ∃ (r : Addr) (i j : Int) (t u v : Tok) (H' : Hp), x = .ref r ∧ IsRange s'.heap r i j (-1) t u v ∧ Inv X pins σ H' s' ∧ (-1000000 ≤ i ∧ i ≤ 1000000 ∧ -1000000 ≤ j ∧ j ≤ 1000000) ∧ ∀ q, H' q = none → Q (.ref q) (upd H' q (.lst (downV i (i - j).toNat)))) X.xe s := by
    refine Call_ (ld_blt I hgr hmr boot_range (PyProof.Rows.callWith_type1 (thn (ha.run pos2 pins s σ H _ I h) fun us s1 ⟨vs, H1, I1, r1, q1⟩ => ?_) n1 n2))
    obtain ⟨i, j, e, bd, q⟩ := q1
    subst e
    cases r1 with
    | cons r rr => cases rr with
      | cons r' rr => cases rr with
        | cons r'' rr =>
          cases rr
          obtain ⟨t, rfl⟩ := r
          obtain ⟨t', rfl⟩ := r'
          obtain ⟨t'', rfl⟩ := r''
          exact call_range_3 (by decide) ⟨_, i, j, t, t', t'', H1, rfl, IsRange.new _ _ _ _ _ _ _, I1.kept (t' := s1.toks) fun _ _ e => Heap.get?_push_of_some _ e, bd, q⟩ (.inl (PyProof.noPylong_small (by decide)))
  refine Call_ (ld_blt I hg hm boot_list (PyProof.Rows.callWith_type1 (args_cons (thn inner fun x s1 ⟨r, i, j, t, u, v, H1, ex, hr, I1, bd, q⟩ => args_nil ?_) n3) n3))
  subst ex
  refine call_list_range (n := (i - j).toNat) (I1.ok.hd hc) hr (PySem.W.small_down (by omega) (by omega) (by omega) (by omega)) (PySem.W.rangeSize_downNat i j) (by omega) fun h' tk acc c' hk e' hi => ?_
  have len : acc.toList.length = (i - j).toNat := by rw [Array.length_toList]; exact hi.1
  have vals : Vals (downV i (i - j).toNat) acc.toList := by
    unfold downV
    rw [← len]
    refine vals_of_get acc.toList _ fun m w hw => ?_
    obtain ⟨t, rfl⟩ := hi.2 m w (by rw [← hw, Array.getElem?_toList])
    exact ⟨t, rfl⟩
  refine ⟨.ref s1.heap.objs.size, upd H1 s1.heap.objs.size (.lst (downV i (i - j).toNat)), I1.laid hk (Nat.le_refl _) (show ObjOk X.prog X.w _ _ _ (.lst (downV i (i - j).toNat)) from ⟨?_, acc.toList, c', vals, ?_⟩), rfl, q _ (I1.hok.fresh (Nat.le_refl _))⟩
  · unfold downV
    rw [List.length_map, List.length_range, sizeLine_eq]
    omega
  · rw [Array.toArray_toList]
    exact e'
section
variable {K : PySem.W.Frag} {S S0 S1 S2 S3 S4 : SS} {ta tb te tc to ti : TE} {t u : TT} {x y z : SD} {d e : PyData} {a b : Bool} {r : R2} {i j l : Int} {k n : Nat} {wi : TI} {g : TG} {tbd ts : TS} {E : DE} {ds : List PyData} {vs : List Nat}
variable {c c' : Addr → Prop} {Hf H : Hp} {σ : L2.St} {fp : List (List Addr)}
theorem rc_rng1 : Rc K rRng1 [.dat (.int j)] S (.rng 0 j) S := fun c Hf H σ fp ok vs r Q q => by
  obtain ⟨v, rfl, rv⟩ := r.one
  cases rv
  refine ⟨j, rfl, fun p hp => ?_⟩
  obtain ⟨ok2, g2⟩ := ok.laid (.rng 0 j) hp
  exact q _ _ _ _ ok2 g2 ⟨p, rfl, upd_same⟩
theorem rc_rng2 : Rc K rRng2 [.dat (.int i), .dat (.int j)] S (.rng i j) S := fun c Hf H σ fp ok vs r Q q => by
  obtain ⟨v, u, rfl, rv, ru⟩ := r.two
  cases rv
  cases ru
  refine ⟨i, j, rfl, fun p hp => ?_⟩
  obtain ⟨ok2, g2⟩ := ok.laid (.rng i j) hp
  exact q _ _ _ _ ok2 g2 ⟨p, rfl, upd_same⟩
theorem ei_rngV {lo hi : Int} (h : Ee K te S (.rng lo hi) S1) (hn : -1000000 ≤ lo ∧ lo ≤ 1000000 ∧ -1000000 ≤ hi ∧ hi ≤ 1000000) : Ei K (iRngV te) S (rngD lo (hi - lo).toNat) S1 := fun c Hf H σ fp ok R q => h c Hf H σ fp ok _ fun v Hf1 H1 fp1 ok1 g1 r1 => by
  obtain ⟨a, rfl, ha⟩ := r1
  exact ⟨a, lo, hi, rfl, ok1.hd.ex _ _ ha, ⟨by omega, by omega, by omega, by omega⟩, q _ Hf1 H1 fp1 ok1 g1 wk_range⟩
/-- xs[i] op= e, whole numbers -/
theorem ts_augSI {f : Int → Int → Int} (hl : Ee K to S (.own k) S) (hi : Ee K ti S (.dat (.int i)) S) (he : Ee K te S (.dat (.int l)) S) (ho : S.ob[k]? = some (.lst ds)) (hx : ixN ds.length i = some n) (hd : ds[n]? = some (.int j))
    (kx : E.nx { S with ob := S.ob.set k (.lst (ds.set n (.int (f j l)))) }) : Ts K (tAugS to ti te (rIxL K) (ipI f) rSetL) S E := fun c Hf H σ fp ok D nn r bk ct =>
  hl c Hf H σ fp ok _ fun o Hf1 H1 fp1 ok1 g1 r1 => hi c Hf1 H1 σ fp1 ok1 _ fun u Hf2 H2 fp2 ok2 g2 r2 => by
    cases r2
    obtain ⟨b, zs, rfl, e0, k1, k2⟩ := ok2.obL ho (r1.mono g2.sm g2.pr)
    obtain ⟨w, w1, w2⟩ := k2.get hd
    cases w2
    refine ⟨b, zs, i, .int j, rfl, rfl, .inl (.inl k1), ?_, ?_⟩
    · show (ixN zs.length i).bind _ = _
      rw [k2.len, hx]
      exact w1
    refine he c Hf2 H2 σ fp2 ok2 _ fun y Hf3 H3 fp3 ok3 g3 r3 => ?_
    cases r3
    refine ⟨j, l, rfl, rfl, ?_⟩
    obtain ⟨b', zs', e, k1', k2', k3⟩ := ok3.setL ho (r1.mono (g2.trans g3).sm (g2.trans g3).pr)
    cases e
    obtain ⟨ok4, g4⟩ := k3 _ _ (k2'.set (Rp.int (f j l)) n)
    exact ⟨b, zs', i, n, rfl, rfl, k1', by rw [k2'.len]; exact hx, nn _ _ _ _ _ ok4 (((g1.trans g2).trans g3).trans g4) kx⟩
theorem el_lstDn {tas : TA} (h : Ed K tas S [.int i, .int j, .int (-1)] S1) (hb : -1000000 ≤ i ∧ i ≤ 1000000 ∧ -1000000 ≤ j ∧ j ≤ 1000000) : El K (tLstDn tas) S (downD i (i - j).toNat) S1 := fun c Hf H σ fp ok Q q =>
  h c Hf H σ fp ok _ fun v Hf1 H1 fp1 ok1 g1 r1 => by
    cases r1 with
    | cons r1 rr => cases rr with
      | cons r2 rr => cases rr with
        | cons r3 rr =>
          cases rr
          cases r1
          cases r2
          cases r3
          refine ⟨i, j, rfl, hb, fun p hp => ?_⟩
          obtain ⟨ok2, g2, al⟩ := ok1.alone hp (rp_down (K := K) (Hf := Hf1) i (i - j).toNat)
          exact q p _ _ _ ok2 (g1.trans g2) (none_back g1.th hp) al
/-! ### lists of own lists -/
theorem ro_ixOwn {ks : List Nat} (e : atI ks i = some k) : Ro K (rIx K) (.lown ks) (.dat (.int i)) S (.own k) S := fun c Hf H σ fp ok v u rv ru Q q => by
  obtain ⟨a, xs, rfl, h1, h2, h3⟩ := rv
  cases ru
  unfold atI at e
  cases hx : ixN ks.length i with
  | none =>
    rw [hx] at e
    cases e
  | some m =>
    rw [hx] at e
    have e' : ks[m]? = some k := e
    have hm : m < xs.length := by
      have := (List.getElem?_eq_some_iff.mp e').1
      omega
    refine .inl ⟨a, xs, i, xs[m], rfl, rfl, .inl (.inl (ok.hd.ex _ _ h1)), ?_, ?_⟩
    · unfold atI
      rw [h2, hx]
      exact List.getElem?_eq_getElem hm
    · obtain ⟨b, r, q1, q2⟩ := h3 m k xs[m] e' (List.getElem?_eq_getElem hm)
      rw [q2]
      exact q _ _ _ _ ok Gr.refl ⟨b, r, q1, rfl⟩
theorem SRA.app {vs us : List V} {ds es : List SD} (h : SRA K Hf fp vs ds) (h2 : SRA K Hf fp us es) : SRA K Hf fp (vs ++ us) (ds ++ es) := by
  induction h with
  | nil => exact h2
  | cons r t ih => exact .cons r ih
theorem ee_lcOwn {out : List Nat} {obo : List OO} (h : Ei K wi S ds S0) (Pv : Nat → List Nat → List OO → Prop) (h0 : Pv 0 [] S0.ob)
    (hs : ∀ i d acc ob, ds[i]? = some d → Pv i acc ob → ∃ Sg b S2, Egc K vs g d { S0 with ob := ob, sl := wipeS S0.sl vs } Sg ∧ Et K t Sg b S2 ∧ (b = false → Pv (i + 1) acc S2.ob) ∧ (b = true → ∃ y S3, Ee K te S2 (.own y) S3 ∧ Pv (i + 1) (acc ++ [y]) S3.ob))
    (hl : ds.length ≤ 1000000) (hd : ∀ acc ob, Pv ds.length acc ob → acc = out ∧ ob = obo) : Ee K (tLc wi g t te vs) S (.lown out) { S0 with ob := obo } := fun c Hf H σ fp ok Q q =>
  h c Hf H σ fp ok _ fun J Hf1 H1 fp1 ok1 g1 w Dl hD => by
    -- the new list at Dl stands apart
    refine ⟨fun i m H' => m = ds.length - i ∧ i ≤ ds.length ∧ ∃ acc ob Hf' fp' xs, Okk K (fun a => c a ∨ a = Dl) Hf' H' σ fp' { S0 with ob := ob } ∧ Gr Hf H fp Hf' H' fp' ∧ Same Hf1 Hf' ∧ H' Dl = some (.lst xs) ∧ SRA K Hf' fp' xs (acc.map SD.own) ∧ Dl ∉ fp'.flatten ∧ acc.length ≤ i ∧ Pv i acc ob, ⟨ds.length, by simp, Nat.zero_le _, [], S0.ob, Hf1, fp1, [], ?_⟩, ?_⟩
    · obtain ⟨ok2, g2, al⟩ := ok1.alone (xs := []) (ds := []) hD .nil
      refine ⟨⟨⟨ok2.hd.ex, ok2.hd.fl, ok2.hd.oo, ok2.hd.nd, ok2.hd.al, ok2.hd.nf, fun a z => ?_, fun k p ds' e1 e2 a ha z => ?_⟩, ok2.ln, ok2.sr⟩, g1.trans g2, Same.refl _, upd_same, .nil, al.nm, Nat.le_refl _, h0⟩
      · rcases z with z | rfl
        · exact ok2.hd.pt a z
        · exact ⟨al.hf, _, upd_same⟩
      · rcases z with z | rfl
        · exact ok2.hd.np k p ds' e1 e2 a ha z
        · exact al.nm (mem_fl e1 ha)
    · rintro i m H' ⟨rfl, hi, acc, ob, Hf', fp', xs, ok', g', s', hx, hr, nm, hacc, p⟩
      by_cases hlt : i < ds.length
      · refine .inr ⟨w.go i Hf' H' s' ok'.hd.ex hlt, fun H2 => i + 1 ≤ ds.length ∧ ∃ acc ob Hf' fp' xs, Okk K (fun a => c a ∨ a = Dl) Hf' H2 σ fp' { S0 with ob := ob } ∧ Gr Hf H fp Hf' H2 fp' ∧ Same Hf1 Hf' ∧ H2 Dl = some (.lst xs) ∧ SRA K Hf' fp' xs (acc.map SD.own) ∧ Dl ∉ fp'.flatten ∧ acc.length ≤ i + 1 ∧ Pv (i + 1) acc ob, fun H2 ⟨a1, a2⟩ => ⟨ds.length - (i + 1), by omega, rfl, a1, a2⟩, fun x H2 y => ?_⟩
        obtain ⟨Sg, b, S2, hg, ht, hf, hy⟩ := hs i ds[i] acc ob (List.getElem?_eq_getElem hlt) p
        have fin : ∀ Hf2, Okk K (fun a => c a ∨ a = Dl) Hf2 H2 σ fp' { S0 with ob := ob } → Gr Hf' H' fp' Hf2 H2 fp' → Rp K Hf2 x ds[i] → g x (wipe σ vs) H2 fun σ2 H2 => wipe σ2 vs = wipe σ vs ∧ t σ2 H2 fun b H3 =>
            if b = true then te σ2 H3 fun y H4 => ∃ acc, H4 Dl = some (.lst acc) ∧ acc.length < sizeLine ∧ (i + 1 ≤ ds.length ∧ ∃ acc' ob Hf' fp' xs, Okk K (fun a => c a ∨ a = Dl) Hf' (upd H4 Dl (.lst (acc ++ [y]))) σ fp' { S0 with ob := ob } ∧ Gr Hf H fp Hf' (upd H4 Dl (.lst (acc ++ [y]))) fp' ∧ Same Hf1 Hf' ∧ (upd H4 Dl (.lst (acc ++ [y]))) Dl = some (.lst xs) ∧ SRA K Hf' fp' xs (acc'.map SD.own) ∧ Dl ∉ fp'.flatten ∧ acc'.length ≤ i + 1 ∧ Pv (i + 1) acc' ob)
            else (i + 1 ≤ ds.length ∧ ∃ acc ob Hf' fp' xs, Okk K (fun a => c a ∨ a = Dl) Hf' H3 σ fp' { S0 with ob := ob } ∧ Gr Hf H fp Hf' H3 fp' ∧ Same Hf1 Hf' ∧ H3 Dl = some (.lst xs) ∧ SRA K Hf' fp' xs (acc.map SD.own) ∧ Dl ∉ fp'.flatten ∧ acc.length ≤ i + 1 ∧ Pv (i + 1) acc ob) := fun Hf2 ok2 g2 rp => by
          refine hg _ Hf2 H2 _ fp' (ok2.wiped vs) x rp _ fun σ3 w3 ok3 => ⟨?_, ?_⟩
          · rw [w3, wipe_wipe σ vs vs fun _ h => h]
          refine ht _ Hf2 H2 σ3 fp' ok3 _ fun Hf4 H4 fp4 ok4 g4 => ?_
          have hx2 : H2 Dl = some (.lst xs) := g2.fr _ _ hx nm
          have hx4 : H4 Dl = some (.lst xs) := g4.fr _ _ hx2 nm
          have nm4 : Dl ∉ fp4.flatten := fun m => (g4.nw Dl m).elim nm fun z => by
            rw [hx2] at z
            cases z
          cases b with
          | false =>
            refine iteF ⟨hlt, acc, S2.ob, Hf4, fp4, xs, ok2.heap ok4 g4, (g'.trans g2).trans g4, (s'.trans g2.sm).trans g4.sm, hx4, SRA.mono hr (g2.sm.trans g4.sm) g4.pr, nm4, by omega, hf rfl⟩
          | true =>
            refine iteT ?_
            obtain ⟨yd, S3, he, p3⟩ := hy rfl
            refine he _ Hf4 H4 σ3 fp4 ok4 _ fun v Hf5 H5 fp5 ok5 g5 r5 => ?_
            have hx5 : H5 Dl = some (.lst xs) := g5.fr _ _ hx4 nm4
            have nm5 : Dl ∉ fp5.flatten := fun m => (g5.nw Dl m).elim nm4 fun z => by
              rw [hx4] at z
              cases z
            have hxl : xs.length = acc.length := by rw [Paired.length hr, List.length_map]
            refine ⟨xs, hx5, Nat.lt_of_le_of_lt (show xs.length ≤ 1000000 by omega) (by decide), hlt, acc ++ [yd], S3.ob, Hf5, fp5, xs ++ [v], ?_, ?_, ((s'.trans g2.sm).trans g4.sm).trans g5.sm, upd_same, by rw [List.map_append]; exact SRA.app (SRA.mono hr ((g2.sm.trans g4.sm).trans g5.sm) (g4.pr.trans g5.pr)) (.cons r5 .nil), nm5, by rw [List.length_append, List.length_singleton]; omega, p3⟩
            · have okA := ok2.heap ok5 (g4.trans g5)
              have hfD : Hf5 Dl = none := (ok5.hd.pt Dl (.inr rfl)).1
              refine ⟨⟨fun b o e => ?_, okA.hd.fl, fun k q o e1 e2 => (okA.hd.oo k q o e1 e2).mono (Same.refl _) fun b hb => upd_ne fun z => nm5 (mem_fl e1 (by rw [← z]; exact hb)), okA.hd.nd, fun a ha => ?_, okA.hd.nf, fun a z => ?_, okA.hd.np⟩, okA.ln, okA.sr⟩
              · rw [upd_ne (ne_of_none e hfD)]
                exact okA.hd.ex b o e
              · obtain ⟨o, e⟩ := okA.hd.al a ha
                exact ⟨o, by rw [upd_ne (show a ≠ Dl from fun z => nm5 (by rw [← z]; exact ha))]; exact e⟩
              · obtain ⟨z1, o, z2⟩ := okA.hd.pt a z
                refine ⟨z1, ?_⟩
                by_cases hb : a = Dl
                · rw [hb]
                  exact ⟨_, upd_same⟩
                · exact ⟨o, by rw [upd_ne hb]; exact z2⟩
            · have G := ((g'.trans g2).trans g4).trans g5
              have hHD : H Dl = none := none_back g1.th hD
              refine ⟨G.sm, G.pr, fun a o e n => ?_, G.nw, fun a o e => ?_⟩
              · rw [upd_ne (ne_of_none e hHD)]
                exact G.fr a o e n
              · rw [upd_ne (ne_of_none e hHD)]
                exact G.th a o e
        rcases w.yl i ds[i] Hf' H' x H2 s' ok'.hd.ex (List.getElem?_eq_getElem hlt) y with ⟨rfl, rp⟩ | ⟨pp, o, hp, rfl, rp⟩
        · exact fin Hf' ok' Gr.refl rp
        · obtain ⟨ok2, g2⟩ := ok'.laid o hp
          exact fin _ ok2 g2 rp
      · have e : i = ds.length := by omega
        subst e
        obtain ⟨rfl, rfl⟩ := hd acc ob p
        refine .inl ⟨w.st Hf' H' s' ok'.hd.ex, ?_⟩
        have hfD := (ok'.hd.pt Dl (.inr rfl)).1
        have nc : ¬ c Dl := fun z => by
          obtain ⟨_, o, z2⟩ := ok.hd.pt Dl z
          rw [none_back g1.th hD] at z2
          cases z2
        have okW := ok'.weak (c' := c) fun a z => .inl z
        obtain ⟨hd2, g2⟩ := okW.hd.stop nm nc hfD hx
        refine q _ _ H' fp' ⟨hd2, okW.ln, fun i d e => ?_⟩ (g'.trans g2) ⟨Dl, xs, rfl, upd_same, by rw [Paired.length hr, List.length_map], fun i k x e1 e2 => ?_⟩
        · obtain ⟨x, q1, q2⟩ := okW.sr i d e
          exact ⟨x, q1, q2.mono g2.sm g2.pr⟩
        · obtain ⟨v, q1, q2⟩ := SRA.get hr (i := i) (d := .own k) (by rw [List.getElem?_map, e1]; rfl)
          rw [e2] at q1
          obtain rfl := Option.some.inj q1
          obtain ⟨a, r, q3, q4⟩ := q2
          exact ⟨a, r, q3, q4⟩

def gones (ob : List OO) (ks : List Nat) : List OO := ks.foldl (fun ob k => ob.set k .gone) ob
theorem gones_get : ∀ {ks : List Nat} {ob : List OO} {k : Nat}, k ∉ ks → (gones ob ks)[k]? = ob[k]?
  | [], _, _, _ => rfl
  | m :: ks, ob, k, h => by
    rw [List.mem_cons, not_or] at h
    show (gones (ob.set m .gone) ks)[k]? = _
    rw [gones_get h.2, List.getElem?_set_ne (Ne.symm h.1)]
theorem gones_len : ∀ (ks : List Nat) (ob : List OO), (gones ob ks).length = ob.length
  | [], _ => rfl
  | m :: ks, ob => by
    show (gones (ob.set m .gone) ks).length = _
    rw [gones_len ks, List.length_set]
/-- own lists are not changed any more -/
theorem frz_all : ∀ {ks : List Nat} {Hf : Hp} {ob : List OO} {sl : List SD}, Okk K c Hf H σ fp ⟨sl, ob⟩ → ks.Nodup → (∀ k ∈ ks, ∃ ds, ob[k]? = some (.lst ds)) →
    ∃ Hf', Okk K c Hf' H σ fp ⟨sl, gones ob ks⟩ ∧ Gr Hf H fp Hf' H fp ∧ ∀ k ∈ ks, ∀ ds, ob[k]? = some (.lst ds) → ∃ a, fp[k]? = some [a] ∧ Rp K Hf' (.ref a) (.list ds)
  | [], Hf, ob, sl, ok, _, _ => ⟨Hf, ok, Gr.refl, fun k h => by cases h⟩
  | m :: ks, Hf, ob, sl, ok, nd, hk => by
    obtain ⟨ds, ho⟩ := hk m List.mem_cons_self
    obtain ⟨hm, nd'⟩ := List.nodup_cons.mp nd
    obtain ⟨a, xs, h1, h2, h3⟩ := ok.hd.oo m _ (.lst ds) (List.getElem?_eq_getElem (by rw [ok.hd.fl]; exact (List.getElem?_eq_some_iff.mp ho).1)) ho
    have h1' : fp[m]? = some [a] := by
      rw [List.getElem?_eq_getElem (by rw [ok.hd.fl]; exact (List.getElem?_eq_some_iff.mp ho).1), h1]
    obtain ⟨hd, g2⟩ := ok.hd.freeze h1' ho h2
    have ok2 : Okk K c (upd Hf a (.lst xs)) H σ fp ⟨sl, ob.set m .gone⟩ := ⟨hd, ok.ln, fun i d e => by
      obtain ⟨x, q1, q2⟩ := ok.sr i d e
      exact ⟨x, q1, q2.mono g2.sm g2.pr⟩⟩
    obtain ⟨Hf', ok3, g3, h4⟩ := frz_all ok2 nd' fun k hk' => by
      obtain ⟨ds', e⟩ := hk k (List.mem_cons_of_mem _ hk')
      exact ⟨ds', by rw [List.getElem?_set_ne (fun z => hm (by rw [z]; exact hk'))]; exact e⟩
    refine ⟨Hf', ok3, g2.trans g3, fun k hk' ds' e => ?_⟩
    by_cases z : k = m
    · subst z
      rw [ho] at e
      cases e
      exact ⟨a, h1', Rp.lst (g3.sm _ _ upd_same) (h3.mono (g2.trans g3).sm)⟩
    · rcases List.mem_cons.mp hk' with q | q
      · exact absurd q z
      · exact h4 k q ds' (by rw [List.getElem?_set_ne (Ne.symm z)]; exact e)
theorem ts_frzL {m : Nat} {ks : List Nat} {dss : List (List PyData)} (hs : S.sl[m]? = some (.lown ks)) (nd : ks.Nodup) (hl : ks.length = dss.length) (ho : ∀ (i k : Nat) (ds : List PyData), ks[i]? = some k → dss[i]? = some ds → S.ob[k]? = some (.lst ds))
    (h : Ts K ts ⟨S.sl.set m (.dat (.list (dss.map .list))), gones S.ob ks⟩ E) : Ts K ts S E := fun c Hf H σ fp ok D n r bk ct => by
  have hk : ∀ k ∈ ks, ∃ ds, S.ob[k]? = some (.lst ds) := fun k hk => by
    obtain ⟨i, hi, e⟩ := List.mem_iff_getElem.mp hk
    exact ⟨dss[i], ho i k _ (by rw [List.getElem?_eq_getElem hi, e]) (List.getElem?_eq_getElem (by omega))⟩
  obtain ⟨Hf', ok2, g, h2⟩ := frz_all (sl := S.sl) (ob := S.ob) ok nd hk
  obtain ⟨y, q1, q2⟩ := ok2.sr m _ hs
  cases y with
  | none => exact q2.elim
  | some v =>
    obtain ⟨a, xs, rfl, e1, e2, e3⟩ := q2
    have rp : Rp K Hf' (.ref a) (.list (dss.map .list)) := by
      refine Rp.lst e1 ?_
      have key : ∀ (us : List V) (es : List (List PyData)), us.length = es.length → (∀ (i : Nat) u ds, us[i]? = some u → es[i]? = some ds → Rp K Hf' u (.list ds)) → RpA K Hf' us (es.map .list) := fun us => by
        induction us with
        | nil =>
          intro es h _
          cases es with
          | nil => exact .nil
          | cons _ _ => cases h
        | cons u us ih =>
          intro es h hh
          cases es with
          | nil => cases h
          | cons e es => exact .cons (hh 0 u e rfl rfl) (ih es (by simpa using h) fun i u ds a b => hh (i + 1) u ds (by simpa using a) (by simpa using b))
      refine key xs dss (e2.trans hl) fun i u ds a1 a2 => ?_
      have hi : i < ks.length := by
        have := (List.getElem?_eq_some_iff.mp a1).1
        omega
      obtain ⟨b, rr, q3, q4⟩ := e3 i ks[i] u (List.getElem?_eq_getElem hi) a1
      have o1 := ho i ks[i] ds (List.getElem?_eq_getElem hi) a2
      obtain ⟨a', q5, q6⟩ := h2 _ (List.getElem_mem hi) ds o1
      rw [q3] at q5
      cases q5
      rw [q4]
      exact q6
    refine h c Hf' H σ fp ⟨ok2.hd, by rw [List.length_set]; exact ok2.ln, fun j d e => ?_⟩ D (fun S' Hf2 H2 σ2 fp2 o g2 => n S' Hf2 H2 σ2 fp2 o (g.trans g2)) (fun x S' v Hf2 H2 σ2 fp2 o g2 => r x S' v Hf2 H2 σ2 fp2 o (g.trans g2)) (fun S' Hf2 H2 σ2 fp2 o g2 => bk S' Hf2 H2 σ2 fp2 o (g.trans g2)) fun S' Hf2 H2 σ2 fp2 o g2 => ct S' Hf2 H2 σ2 fp2 o (g.trans g2)
    by_cases hj : m = j
    · subst hj
      have hlt := (List.getElem?_eq_some_iff.mp hs).1
      rw [show (S.sl.set m (.dat (.list (dss.map .list))))[m]? = some (.dat (.list (dss.map .list))) from List.getElem?_set_self hlt] at e
      obtain rfl := Option.some.inj e
      exact ⟨_, q1, rp⟩
    · rw [show (S.sl.set m (.dat (.list (dss.map .list))))[j]? = S.sl[j]? from List.getElem?_set_ne hj] at e
      exact ok2.sr j d e
/-! ### comprehensions over what is listed otherwise -/
theorem el_lcfA {α : Type} {g : TG} {vs : List Nat} {t : TT} {dA f : α → PyData} {lst : List α} {p : α → Bool} (h : Ei K wi S (lst.map dA) S0) (hl : lst.length ≤ 1000000)
    (hs : ∀ x ∈ lst, ∃ Sg S2, Egc K vs g (dA x) { S0 with sl := wipeS S0.sl vs } Sg ∧ Et K t Sg (p x) S2 ∧ S2.ob = S0.ob ∧ (p x = true → ∃ S3, Ee K te S2 (.dat (f x)) S3 ∧ S3.ob = S0.ob)) : El K (tLc wi g t te vs) S ((lst.filter p).map f) S0 := by
  refine el_lc (obo := S0.ob) h (fun i acc ob => acc = ((lst.take i).filter p).map f ∧ ob = S0.ob) ⟨rfl, rfl⟩ ?_ (by rw [List.length_map]; exact hl) ?_
  · rintro i d acc ob hd ⟨rfl, rfl⟩
    rw [List.getElem?_map] at hd
    cases e : lst[i]? with
    | none =>
      rw [e] at hd
      cases hd
    | some x =>
      rw [e] at hd
      obtain rfl := Option.some.inj hd
      obtain ⟨Sg, S2, a1, a2, a3, a4⟩ := hs x (List.mem_of_getElem? e)
      have et : lst.take (i + 1) = lst.take i ++ [x] := by
        rw [List.take_add_one, e]
        rfl
      refine ⟨Sg, p x, S2, a1, a2, fun hb => ⟨?_, a3⟩, fun hb => ?_⟩
      · rw [et, List.filter_append, List.filter_cons_of_neg (by rw [hb]; exact Bool.false_ne_true)]
        show _ = ((lst.take i).filter p ++ []).map f
        rw [List.append_nil]
      · obtain ⟨S3, a5, a6⟩ := a4 hb
        refine ⟨f x, S3, a5, ?_, a6⟩
        rw [et, List.filter_append, List.filter_cons_of_pos hb, List.map_append]
        rfl
  · rintro acc ob ⟨rfl, rfl⟩
    rw [List.length_map, List.take_length]
    exact ⟨rfl, rfl⟩
theorem el_lcmA {α : Type} {g : TG} {vs : List Nat} {dA f : α → PyData} {lst : List α} (h : Ei K wi S (lst.map dA) S0) (hl : lst.length ≤ 1000000)
    (hs : ∀ x ∈ lst, ∃ Sg, Egc K vs g (dA x) { S0 with sl := wipeS S0.sl vs } Sg ∧ Sg.ob = S0.ob ∧ ∃ S3, Ee K te Sg (.dat (f x)) S3 ∧ S3.ob = S0.ob) : El K (tLc wi g tYes te vs) S (lst.map f) S0 := by
  have := el_lcfA (t := tYes) (p := fun _ => true) h hl fun x hx => by
    obtain ⟨Sg, a1, a2, S3, a3, a4⟩ := hs x hx
    exact ⟨Sg, Sg, a1, et_yes, a2, fun _ => ⟨S3, a3, a4⟩⟩
  rw [List.filter_eq_self.mpr fun _ _ => rfl] at this
  exact this
/-! ### an own list handed in, to be read -/
theorem Okk.toP (ok : Okk K c Hf H σ fp S) (ho : S.ob[k]? = some (.lst ds)) : Okk K c Hf H σ fp { S with ob := S.ob.set k (.lstP ds) } := by
  have hk := (List.getElem?_eq_some_iff.mp ho).1
  refine ⟨⟨ok.hd.ex, by rw [List.length_set]; exact ok.hd.fl, fun j p o h1 h2 => ?_, ok.hd.nd, ok.hd.al, fun j p o h1 h2 hx => ?_, ok.hd.pt, fun j p es h1 h2 => ?_⟩, ok.ln, ok.sr⟩
  · by_cases e : k = j
    · subst e
      rw [List.getElem?_set_self hk] at h2
      obtain rfl := Option.some.inj h2
      obtain ⟨a, xs, q⟩ := ok.hd.oo k p _ h1 ho
      exact ⟨a, xs, q⟩
    · rw [List.getElem?_set_ne e] at h2
      exact ok.hd.oo j p o h1 h2
  · by_cases e : k = j
    · subst e
      exact ok.hd.nf k p _ h1 ho (by intro z; cases z)
    · rw [List.getElem?_set_ne e] at h2
      exact ok.hd.nf j p o h1 h2 hx
  · by_cases e : k = j
    · subst e
      rw [List.getElem?_set_self hk] at h2
      cases h2
    · rw [List.getElem?_set_ne e] at h2
      exact ok.hd.np j p es h1 h2
theorem Okk.ofP (ok : Okk K c Hf H σ fp S) (ho : S.ob[k]? = some (.lstP ds)) (hc : ∀ p, fp[k]? = some p → ∀ a ∈ p, ¬ c a) : Okk K c Hf H σ fp { S with ob := S.ob.set k (.lst ds) } := by
  have hk := (List.getElem?_eq_some_iff.mp ho).1
  refine ⟨⟨ok.hd.ex, by rw [List.length_set]; exact ok.hd.fl, fun j p o h1 h2 => ?_, ok.hd.nd, ok.hd.al, fun j p o h1 h2 hx => ?_, ok.hd.pt, fun j p es h1 h2 => ?_⟩, ok.ln, ok.sr⟩
  · by_cases e : k = j
    · subst e
      rw [List.getElem?_set_self hk] at h2
      obtain rfl := Option.some.inj h2
      obtain ⟨a, xs, q⟩ := ok.hd.oo k p _ h1 ho
      exact ⟨a, xs, q⟩
    · rw [List.getElem?_set_ne e] at h2
      exact ok.hd.oo j p o h1 h2
  · by_cases e : k = j
    · subst e
      exact ok.hd.nf k p _ h1 ho (by intro z; cases z)
    · rw [List.getElem?_set_ne e] at h2
      exact ok.hd.nf j p o h1 h2 hx
  · by_cases e : k = j
    · subst e
      exact hc p h1
    · rw [List.getElem?_set_ne e] at h2
      exact ok.hd.np j p es h1 h2
theorem ee_callR {np : Nat} {E0 : XK} {tas : TA} {R : FR} {as asC : List SD} (ha : Ea K tas S asC S1) (he : asC = as.map (atK k)) (h0 : ∀ a ∈ as, ∀ j, a = .own j → j = 0) (hl : as.length = np) (ho : S1.ob[k]? = some (.lst ds)) (hR : R as [.lstP ds] (.dat d) [.lstP ds]) :
    Ee K (tCall (spD K np R) [] E0 tas) S (.dat d) S1 := fun c Hf H σ fp ok Q q =>
  ha c Hf H σ fp ok _ fun vs Hf1 H1 fp1 ok1 g1 sr => by
    have hk := (List.getElem?_eq_some_iff.mp ho).1
    subst he
    rw [List.append_nil]
    refine sp_call1 (k := k) (o := .lstP ds) (o' := .lstP ds) (ok1.toP ho) sr h0 hl (List.getElem?_set_self hk) (by intro z; cases z) (fun _ z => by cases z) hR fun v Hf' H' fp' ok' g' rv => ?_
    have eo : ((S1.ob.set k (.lstP ds)).set k (.lstP ds)).set k (.lst ds) = S1.ob := by
      rw [List.set_set, List.set_set]
      refine List.ext_getElem? fun i => ?_
      by_cases e : k = i
      · subst e
        rw [List.getElem?_set_self hk, ho]
      · rw [List.getElem?_set_ne e]
    have ok2 := ok'.ofP (k := k) (ds := ds) (by
      show ((S1.ob.set k (.lstP ds)).set k (.lstP ds))[k]? = _
      rw [List.set_set, List.getElem?_set_self hk]) fun p hp a hm => by
        have hkf : k < fp1.length := by rw [ok1.hd.fl]; exact hk
        have h1 : fp1[k]? = some fp1[k] := List.getElem?_eq_getElem hkf
        have h2 := pre_get g'.pr h1
        rw [hp] at h2
        obtain rfl := Option.some.inj h2
        exact ok1.hd.np k _ ds h1 ho a hm
    have ok3 : Okk K c Hf' H' σ fp' S1 := by
      have : ({ S1 with ob := ((S1.ob.set k (.lstP ds)).set k (.lstP ds)).set k (.lst ds) } : SS) = S1 := by rw [eo]
      rw [← this]
      exact ok2
    exact q v Hf' H' fp' ok3 (g1.trans g') rv
theorem rc_maxTu {n : Int} {ns : List Int} : Rc K (rMaxT K) [.dat (.tuple ((n :: ns).map PyData.int))] S (.dat (.int (ns.foldl max n))) S := fun c Hf H σ fp ok vs r Q q => by
  obtain ⟨v, rfl, rv⟩ := r.one
  cases rv with
  | tup h1 h2 =>
    obtain rfl := RpA.ints_inv (ns := n :: ns) h2
    exact ⟨_, n, ns, rfl, .inl (sameT ok.hd.ex h1), q _ _ _ _ ok Gr.refl (Rp.int _)⟩
theorem rc_minL {n : Int} {ns : List Int} (h : AsD S x (.list ((n :: ns).map PyData.int))) : Rc K (rMinT K) [x] S (.dat (.int (ns.foldl min n))) S := fun c Hf H σ fp ok vs r Q q => by
  obtain ⟨v, rfl, rv⟩ := r.one
  obtain ⟨a, xs, rfl, h1, h2⟩ := ok.asL rv h
  obtain rfl := RpA.ints_inv (ns := n :: ns) h2
  exact ⟨_, n, ns, rfl, .inr (.inl (.inl h1)), q _ _ _ _ ok Gr.refl (Rp.int _)⟩
theorem ro_mulS (h1 : 1 ≤ i) (h2 : i ≤ 1000) (hz : ds.length ≤ 1000) : Ro K (rMulS K) (.dat (.tuple ds)) (.dat (.int i)) S (.dat (.tuple (repD i.toNat ds))) S := by
  by_cases hs : ds = [] ∨ i = 1
  · intro c Hf H σ fp ok v u rv ru Q q
    cases ru
    cases rv with
    | @tup a xs _ e1 e2 =>
      have er : repD i.toNat ds = ds := by
        rcases hs with hs | hs
        · subst hs
          have : ∀ k, repD k [] = [] := fun k => by
            induction k with
            | zero => rfl
            | succ k ih => rw [repD_succ, ih]; rfl
          exact this _
        · subst hs
          exact List.append_nil _
      rw [er] at q
      refine .inr ⟨a, i, xs, rfl, rfl, sameT ok.hd.ex e1, ?_, by omega, by omega, q _ _ _ _ ok Gr.refl (Rp.tup e1 e2)⟩
      rcases hs with hs | hs
      · subst hs
        cases e2
        exact .inl rfl
      · exact .inr hs
  · rw [not_or] at hs
    have hz2 : ds.length * i.toNat ≤ 1000000 := by
      have := Nat.mul_le_mul hz (show i.toNat ≤ 1000 by omega)
      omega
    exact fun c Hf H σ fp ok v u rv ru Q q => .inl (ro_repT (K := K) (S := S) hs.1 (by omega) hz2 c Hf H σ fp ok v u rv ru Q q)
end
section
variable {X : Cx}
/-- a op b op2 c op3 d, asked -/
theorem pt_chain3 {op op2 op3 : CmpOp} {r r2 r3 : R2} {ta tb tc td : TE} {a b c d : Expr} {pos : Pos} (ho : OpR X (compareOp op) r) (ho2 : OpR X (compareOp op2) r2) (ho3 : OpR X (compareOp op3) r3) (ha : PE X a ta) (hb : PE X b tb) (hc : PE X c tc) (hd : PE X d td)
    (hm : lastMarks [op, op2, op3] [b, c, d] = false := by with_unfolding_all rfl) : PT X (.Compare a [op, op2, op3] [b, c, d] pos) (tTest (tChain3 r r2 r3 ta tb tc td)) := by
  constructor
  intro pins s σ H Q I h
  refine isTrue_chain (thn (ha.run pins s σ H _ I h) fun v s1 ⟨x, H1, I1, r1, q1⟩ => test_link (thn (hb.run pins s1 σ H1 _ I1 q1) fun u s2 ⟨y, H2, I2, k2, q2⟩ => thn (ho pins s2 σ H2 x y v u _ I2 r1 k2 q2) fun e s3 ⟨z, H3, I3, k3, k, ez, q3⟩ => ?_)) hm
  subst ez
  cases k3
  refine wpAny_truthy_bool ?_
  cases k with
  | false =>
    obtain ⟨kk, e, q⟩ := q3
    cases e
    exact ite_ff ⟨H3, I3, q⟩
  | true =>
    refine ite_tt (test_link (thn (hc.run pins s3 σ H3 _ I3 q3) fun u' s4 ⟨w, H4, I4, k4, q4⟩ => thn (ho2 pins s4 σ H4 y w u u' _ I4 k2 k4 q4) fun e' s5 ⟨z', H5, I5, k5, k', ez', q5⟩ => ?_))
    subst ez'
    cases k5
    refine wpAny_truthy_bool ?_
    cases k' with
    | false =>
      obtain ⟨kk, e, q⟩ := q5
      cases e
      exact ite_ff ⟨H5, I5, q⟩
    | true =>
      refine ite_tt (test_last (thn (hd.run pins s5 σ H5 _ I5 q5) fun v' s6 ⟨w', H6, I6, k6, q6⟩ => thn (ho3 pins s6 σ H6 w w' u' v' _ I6 k4 k6 q6) fun e3 s7 ⟨z7, H7, I7, k7, kk, ez7, q7⟩ => ?_))
      subst ez7
      cases k7
      exact wpAny_truthy_bool ⟨H7, I7, q7⟩
end
section
variable {K : PySem.W.Frag} {S : SS}
theorem rcl_listScr {ns : List Int} : RcL K (rListOf K) [.scr ns] S (ns.map PyData.int) S := fun c Hf H σ fp ok vs r Q q => by
  obtain ⟨v, rfl, rv⟩ := r.one
  obtain ⟨a, rfl, h⟩ := rv
  refine ⟨a, _, rfl, .inl (ok.hd.ex.seq h), fun p hp => ?_⟩
  obtain ⟨ok2, g2, al⟩ := ok.alone hp (RpA.ints ns)
  exact q p _ _ _ ok2 g2 hp al
end
end DL

set_option maxRecDepth 100000
set_option maxHeartbeats 1000000
/-! DLm: max with a default, the index of a number in a tuple and in a list, any -/
namespace DL
open PySem PySem.Spec PyProof.Rows L2
theorem maxD_ints : ∀ (ys : List Int) (x : Int), PySem.W.maxD (.int x) (ys.map PyData.int) = .int (ys.foldl max x)
  | [], x => rfl
  | y :: ys, x => by
    have ih := maxD_ints ys (max x y)
    show List.foldl _ (if PySem.W.dataLt (.int x) (.int y) = true then PyData.int y else PyData.int x) (ys.map PyData.int) = PyData.int (ys.foldl max (max x y))
    rw [← ih, PySem.W.dataLt_int]
    show List.foldl _ _ _ = List.foldl _ (PyData.int (max x y)) _
    congr 1
    by_cases h : x < y
    · rw [if_pos (decide_eq_true h), show max x y = y by omega]
    · rw [if_neg (by rw [decide_eq_false h]; exact Bool.false_ne_true), show max x y = x by omega]
def rMaxD (K : PySem.W.Frag) (vs zs : List V) (H : Hp) (Q : VK) : Prop := ∃ (a : Addr) (ns : List Int) (d : Int), vs = [V.ref a] ∧ zs = [V.int d] ∧ SqL K H a (ns.map V.int) ∧ Q (.int (ns.foldl max (match ns with | [] => d | n :: _ => n))) H
theorem call_maxD {X : Cx} (hc : X.calm = true) (hu : X.A.units + 100 < cLine) : CallRK X (.builtin "max") ["default"] (rMaxD X.K) := fun pins s σ H xs zs us ws Q I hv hz ⟨a, ns, d, e1, e2, hs, q⟩ => by
  subst e1
  subst e2
  obtain rfl := hv.ref1
  obtain ⟨its, r, pl, sz⟩ := I.list hs
  cases hz with
  | cons hd ht =>
    obtain ⟨t, rfl⟩ := hd
    cases ht
    have ia := Vals.ints r
    refine PySem.W.max_list_default (xs := ns.map PyData.int) (as := []) (I.ok.hd hc) pl.isList (reads_ints ia) ?_ ?_ (fun e h' tk k => ?_) fun y ys i v h' tk bs e _ rd k => ?_
    · refine ⟨fun x hx y hy => ?_, fun x hx => ?_⟩
      · obtain ⟨p, _, rfl⟩ := List.mem_map.mp hx
        obtain ⟨q, _, rfl⟩ := List.mem_map.mp hy
        rfl
      · obtain ⟨p, _, rfl⟩ := List.mem_map.mp hx
        intro z
        cases z
    · rw [depth_ints]
      omega
    · have : ns = [] := List.map_eq_nil_iff.mp e
      subst this
      exact ⟨.int d, H, I.kept k, ⟨t, rfl⟩, q⟩
    · obtain ⟨n, ms, rfl⟩ : ∃ n ms, ns = n :: ms := by
        cases ns with
        | nil => cases e
        | cons n ms => exact ⟨n, ms, rfl⟩
      cases e
      rw [maxD_ints] at rd
      cases rd
      refine ⟨.int (ms.foldl max n), H, I.kept k, ⟨_, rfl⟩, ?_⟩
      have : List.foldl max n (n :: ms) = List.foldl max n ms := by
        rw [List.foldl_cons, show max n n = n by omega]
      rw [← this]
      exact q
def rIndexTI (K : PySem.W.Frag) : V → List V → Hp → VK → Prop := fun x xs H Q => ∃ (p : Addr) (ns : List Int) (z : Int) (j : Nat), x = .ref p ∧ xs = [.int z] ∧ SqT K H p (ns.map V.int) ∧ ns[j]? = some z ∧ (∀ m, m < j → ns[m]? ≠ some z) ∧ Q (.int (j : Nat)) H
theorem mt_tup_indexI {X : Cx} : MtR X "tuple.index" (rIndexTI X.K) := fun pins s σ H x xs v us Q I hx hxs ⟨p, ns, z, j, e1, e2, hs, hj, hm, q⟩ => by
  subst e1
  subst e2
  obtain rfl : v = .ref p := hx
  obtain ⟨u, rfl, hu⟩ := vals1 hxs
  obtain ⟨its, r, ⟨o, h1, h2, n, h3⟩, sz⟩ := I.tuple hs
  have hl : its.length = ns.length := by
    have := r.length
    rw [List.length_map] at this
    exact this.symm
  have geti : ∀ (i : Nat) (w : Int), ns[i]? = some w → ∃ t, its[i]? = some (Value.int w t) := fun i w e => by
    obtain ⟨u', h1, h2⟩ := r.get (i := i) (x := V.int w) (by rw [List.getElem?_map, e]; rfl)
    obtain ⟨t, rfl⟩ := h2
    exact ⟨t, h1⟩
  have hjl : j < its.toArray.size := by
    have := (List.getElem?_eq_some_iff.mp hj).1
    rw [List.size_toArray]
    omega
  have at' : ∀ (i : Nat) (hi : i < its.toArray.size) (w : Int), ns[i]? = some w → eqU (V.int z) its.toArray[i] = (w == z) := fun i hi w e => by
    obtain ⟨t, ht⟩ := geti i w e
    have : its.toArray[i] = Value.int w t := by
      rw [List.size_toArray] at hi
      rw [List.getElem?_eq_getElem hi] at ht
      rw [List.getElem_toArray]
      exact Option.some.inj ht
    rw [this]
    rfl
  obtain ⟨cls, dict, data, slots⟩ := o
  cases h2
  cases h3
  refine call_meets PySem.F.slot_tuple_index ⟨_, h1, rfl⟩ PySem.F.entry_tuple_index (PySem.F.args_tuple_index_2 _ _) (TI.tuple_indexAt p its.toArray n dict slots u (eqU (V.int z)) j hjl ?_ ?_) ⟨h1, fun y hy => mem_eqAt hu rfl r (flat_ints ns) y (by simpa using hy), ?_⟩
  · rw [at' j hjl z hj]
    exact beq_self_eq_true z
  · intro m hm1 hm2
    have hml : m < ns.length := by
      rw [List.size_toArray] at hm1
      omega
    rw [at' m hm1 _ (List.getElem?_eq_getElem hml)]
    have := hm m hm2
    rw [List.getElem?_eq_getElem hml] at this
    exact beq_eq_false_iff_ne.mpr fun z => this (by rw [z])
  · exact ⟨.int (j : Nat), H, I.tok _, ⟨_, rfl⟩, q⟩

def rTupX (K : PySem.W.Frag) : List V → Hp → VK → Prop := fun xs H Q => ∃ p ys, xs = [V.ref p] ∧ SqL K H p ys ∧ ∀ (l : Addr) (o : Obj), H l = none → o.cls = .type "tuple" → o.dict = none → Q (.ref l) (upd H l (.frz o (.tup ys)))
theorem cb_tupleX {X : Cx} : CallR X (.type "tuple") (rTupX X.K) := fun pins s σ H xs us Q I hxs ⟨p, ys, e, hs, q⟩ => by
  subst e
  obtain rfl := hxs.ref1
  obtain ⟨its, r, pl, sz⟩ := I.list hs
  have sz2 : its.length ≤ sizeLine := by rw [← r.length]; exact sz
  refine call_tuple_list pl.isList (fun h' k => ?_) (by rw [List.size_toArray]; exact sz2)
  have I2 := I.kept (t' := s.toks) k
  have hn := HOk.fresh I2.hok (Nat.le_refl _)
  refine ⟨.ref h'.objs.size, _, I2.laid (a := h'.objs.size) (o := .frz { cls := .type "tuple", data := .seq its.toArray } (.tup ys)) (t' := s.toks) (fun b u e => Heap.get?_push_of_some _ e) (Nat.le_refl _) ?_, rfl, q _ _ hn rfl rfl⟩
  simp only [L2.ObjOk]
  exact ⟨Heap.get?_push_size _ rfl, sz, its, r, IsTup.new h' its.toArray⟩
theorem tyOk_tx0 {X : Cx} : TyOk X "tuple" (fun x H => ∃ (a : Addr) (o : Obj) (xs : List V), x = .ref a ∧ H a = some (.frz o (.tup xs)) ∧ o.cls = .type "tuple" ∧ o.dict = none) := fun pins σ H s x v I hx ⟨a, o, xs, e, h1, h2, h3⟩ => by
  subst e
  obtain rfl : v = .ref a := hx
  have q := I.hok a _ h1
  simp only [L2.ObjOk] at q
  refine ⟨⟨o, q.1, h2⟩, fun b e => ?_⟩
  cases e
  exact ⟨o, q.1, h3⟩
theorem mtK {X : Cx} (K : PySem.W.Frag) {id : String} {R : PySem.W.Frag → V → List V → Hp → VK → Prop} (h : MtR X id (R X.K)) (e : X.K = K) : MtR X id (R K) := e ▸ h
section
variable {K : PySem.W.Frag} {S S1 S2 : SS} {te td to_ : TE} {ns : List Int} {z : Int} {j : Nat}
theorem rp_boolsM {Hf : Hp} : ∀ {bs : List Bool} {xs : List V}, RpA K Hf xs (bs.map PyData.bool) → xs = bs.map V.bl
  | [], _, .nil => rfl
  | b :: bs, _, .cons h t => by
    cases h
    rw [rp_boolsM t]
    rfl
theorem rc_any {bs : List Bool} : Rc K (rAny K) [.dat (.list (bs.map PyData.bool))] S (.dat (.bool (bs.any id))) S := fun c Hf H σ fp ok vs r Q q => by
  obtain ⟨v, rfl, rv⟩ := r.one
  cases rv with
  | lst h1 h2 => exact ⟨_, bs, rfl, .inl (.inl (by rw [← rp_boolsM h2]; exact ok.hd.ex _ _ h1)), q _ _ _ _ ok Gr.refl (Rp.bl _)⟩
def maxDN (d : Int) (ns : List Int) : Int := ns.foldl max (match ns with | [] => d | n :: _ => n)
theorem ee_maxD {d : Int} (h : Ee K te S (.dat (.list (ns.map PyData.int))) S1) (hd : Ee K td S1 (.dat (.int d)) S2) : Ee K (tCKw (rMaxD K) (tCons te tNil) (tCons td tNil)) S (.dat (.int (maxDN d ns))) S2 := fun c Hf H σ fp ok Q q =>
  h c Hf H σ fp ok _ fun v Hf1 H1 fp1 ok1 g1 r1 => hd c Hf1 H1 σ fp1 ok1 _ fun u Hf2 H2 fp2 ok2 g2 r2 => by
    have r3 := r1.mono g2.sm g2.pr
    cases r2
    cases r3 with
    | lst h1 h2 => exact ⟨_, ns, d, rfl, rfl, .inl (.inl (by rw [← RpA.ints_inv h2]; exact ok2.hd.ex _ _ h1)), q _ _ _ _ ok2 (g1.trans g2) (Rp.int _)⟩
theorem rc_tupX {x : SD} (h : AsD S x (.list (ns.map PyData.int))) : Rc K (rTupX K) [x] S (.tx ns) S := fun c Hf H σ fp ok vs r Q q => by
  obtain ⟨v, rfl, rv⟩ := r.one
  obtain ⟨a, xs, rfl, h1, h2⟩ := ok.asL rv h
  have e := RpA.ints_inv h2
  subst e
  refine ⟨a, _, rfl, .inl (.inl h1), fun p o hp ho hd => ?_⟩
  obtain ⟨ok2, g2⟩ := ok.laid (.frz o (.tup (ns.map V.int))) hp
  exact q _ _ _ _ ok2 g2 ⟨p, o, rfl, upd_same, ho, hd⟩
/-- such a tuple is data -/
theorem ee_txD (h : Ee K te S (.tx ns) S1) : Ee K te S (.dat (.tuple (ns.map PyData.int))) S1 := fun c Hf H σ fp ok Q q =>
  h c Hf H σ fp ok _ fun v Hf1 H1 fp1 ok1 g1 r1 => by
    obtain ⟨a, o, rfl, h1, _⟩ := r1
    exact q _ _ _ _ ok1 g1 (Rp.tup (.inl (.inr ⟨o, h1⟩)) (RpA.ints ns))
def tyTX : V → Hp → Prop := fun x H => ∃ (a : Addr) (o : Obj) (xs : List V), x = .ref a ∧ H a = some (.frz o (.tup xs)) ∧ o.cls = .type "tuple" ∧ o.dict = none
theorem tyOk_tx {X : Cx} : TyOk X "tuple" tyTX := tyOk_tx0
theorem ee_indexT (h : Ee K to_ S (.tx ns) S1) (he : Ee K te S1 (.dat (.int z)) S2) (hj : ns[j]? = some z) (hm : ∀ m, m < j → ns[m]? ≠ some z) : Ee K (tMG tyTX (rIndexTI K) to_ (tCons te tNil)) S (.dat (.int (j : Int))) S2 := fun c Hf H σ fp ok Q q =>
  h c Hf H σ fp ok _ fun v Hf1 H1 fp1 ok1 g1 r1 => by
    obtain ⟨a, o, rfl, h1, h2, h3⟩ := r1
    refine ⟨⟨a, o, _, rfl, ok1.hd.ex _ _ h1, h2, h3⟩, he c Hf1 H1 σ fp1 ok1 _ fun u Hf2 H2 fp2 ok2 g2 r2 => ?_⟩
    cases r2
    exact ⟨_, ns, z, j, rfl, rfl, .inl (.inr ⟨o, ok2.hd.ex _ _ (g2.sm _ _ h1)⟩), hj, hm, q _ _ _ _ ok2 (g1.trans g2) (Rp.int _)⟩
theorem ee_indexL (h : Ee K to_ S (.dat (.list (ns.map PyData.int))) S1) (he : Ee K te S1 (.dat (.int z)) S2) (hj : ns[j]? = some z) (hm : ∀ m, m < j → ns[m]? ≠ some z) : Ee K (tBM K "list" (rIndex K) to_ (tCons te tNil)) S (.dat (.int (j : Int))) S2 := fun c Hf H σ fp ok Q q =>
  h c Hf H σ fp ok _ fun v Hf1 H1 fp1 ok1 g1 r1 => by
    cases r1 with
    | lst h1 h2 =>
      have e := RpA.ints_inv h2
      subst e
      refine ⟨.inl ⟨rfl, _, .inl (.inl (ok1.hd.ex _ _ h1))⟩, he c Hf1 H1 σ fp1 ok1 _ fun u Hf2 H2 fp2 ok2 g2 r2 => ?_⟩
      cases r2
      refine ⟨_, ns.map V.int, .int z, j, .int z, rfl, rfl, .inl (.inl (ok2.hd.ex _ _ (g2.sm _ _ h1))), rfl, flat_ints ns, by rw [List.getElem?_map, hj]; rfl, beq_self_eq_true z, fun m z' hm1 hz' => ?_, q _ _ _ _ ok2 (g1.trans g2) (Rp.int _)⟩
      rw [List.getElem?_map] at hz'
      cases e : ns[m]? with
      | none =>
        rw [e] at hz'
        cases hz'
      | some w =>
        rw [e] at hz'
        obtain rfl := Option.some.inj hz'
        exact beq_eq_false_iff_ne.mpr fun y => hm m hm1 (by rw [e, y])
end
/-- a tuple written out, kept as it is -/
def tTupX (t : TA) : TE := fun σ H Q => t σ H fun xs H1 => xs.length ≤ sizeLine ∧ ∀ (p : Addr) (o : Obj), H1 p = none → o.cls = .type "tuple" → o.dict = none → Q (.ref p) (upd H1 p (.frz o (.tup xs)))
theorem pe_tupX {X : Cx} {es : List Expr} {t : TA} {pos : Pos} {x1 : Nat} (h : PA X es t) : PE X (.Tuple es x1 pos) (tTupX t) := ⟨fun pins s σ H Q I hq => wpAny_Tuple_spliced (thn (h.run pos pins s σ H _ I hq) fun us s1 ⟨xs, H1, I1, r, sz, q⟩ => by
  refine ⟨by rw [← r.length]; exact sz, .ref s1.heap.objs.size, _, I1.laid (a := s1.heap.objs.size) (o := .frz { cls := .type "tuple", data := .seq us.toArray } (.tup xs)) (t' := s1.toks) (fun b u e => Heap.get?_push_of_some _ e) (Nat.le_refl _) ?_, rfl, q _ _ (HOk.fresh I1.hok (Nat.le_refl _)) rfl rfl⟩
  simp only [L2.ObjOk]
  exact ⟨Heap.get?_push_size _ rfl, sz, us, r, IsTup.new s1.heap us.toArray⟩)⟩
section
variable {K : PySem.W.Frag} {S S1 : SS} {ta : TA} {ns : List Int}
theorem ee_tupX (h : Ed K ta S (ns.map PyData.int) S1) (hz : ns.length ≤ 1000000 := by first | decide | (simp; done)) : Ee K (tTupX ta) S (.tx ns) S1 := fun c Hf H σ fp ok Q q =>
  h c Hf H σ fp ok _ fun vs Hf1 H1 fp1 ok1 g1 r1 => by
    have r2 := SRA.rp r1
    have e := RpA.ints_inv r2
    subst e
    refine ⟨by rw [List.length_map]; exact Nat.le_trans hz (by decide), fun p o hp ho hd => ?_⟩
    obtain ⟨ok2, g2⟩ := ok1.laid (.frz o (.tup (ns.map V.int))) hp
    exact q _ _ _ _ ok2 (g1.trans g2) ⟨p, o, rfl, upd_same, ho, hd⟩
/-- a call of data alone, that gives such a tuple -/
theorem ee_callT {S : SS} {R : FR} {np : Nat} {E : XK} {ds : List PyData} (ha : Ed K ta S ds S1) (hl : ds.length = np) (hR : R (ds.map SD.dat) [] (.tx ns) []) : Ee K (tCall (spD K np R) [] E ta) S (.tx ns) S1 := by
  have h := ee_call0 (np := np) (E := E) (R := R) (r := .tx ns) (ob' := []) ha (fun a h => by
    obtain ⟨x, _, rfl⟩ := List.mem_map.mp h
    trivial) (by rw [List.length_map]; exact hl) hR
  rw [List.append_nil] at h
  exact h
/-- a tuple of three, the one in the middle such a tuple -/
theorem ee_tupQ {d1 d3 : PyData} (ha : Ea K ta S [.dat d1, .tx ns, .dat d3] S1) : Ee K (tTup ta) S (.tq d1 ns d3) S1 := fun c Hf H σ fp ok Q q =>
  ha c Hf H σ fp ok _ fun vs Hf1 H1 fp1 ok1 g1 r1 => by
    cases r1 with
    | @cons v1 _ _ _ q1 r1 => cases r1 with
      | @cons v2 _ _ _ q2 r1 => cases r1 with
        | @cons v3 _ _ _ q3 r1 =>
          cases r1
          obtain ⟨b, o, rfl, h2, h3, h4⟩ := q2
          refine ⟨by show 3 ≤ sizeLine; rw [sizeLine_eq]; omega, fun p hp => ?_⟩
          obtain ⟨ok2, g2⟩ := ok1.laid (.tup [v1, .ref b, v3]) hp
          exact q _ _ _ _ ok2 (g1.trans g2) ⟨p, v1, b, o, v3, rfl, upd_same, Rp.mono g2.sm q1, g2.sm _ _ h2, h3, h4, Rp.mono g2.sm q3⟩
theorem ro_ixQ {d1 d3 : PyData} : Ro K (rIx K) (.tq d1 ns d3) (.dat (.int 1)) S (.tx ns) S := fun c Hf H σ fp ok v u rv ru Q q => by
  obtain ⟨a, v1, b, o, v3, rfl, h1, h2, h3, h4, h5, h6⟩ := rv
  cases ru
  exact .inr (.inl ⟨_, _, 1, .ref b, rfl, rfl, sameT ok.hd.ex (.inl (.inl h1)), rfl, q _ _ _ _ ok Gr.refl ⟨b, o, rfl, h3, h4, h5⟩⟩)
theorem ee_tqD {te : TE} {d1 d3 : PyData} (h : Ee K te S (.tq d1 ns d3) S1) : Ee K te S (.dat (.tuple [d1, .tuple (ns.map PyData.int), d3])) S1 := fun c Hf H σ fp ok Q q =>
  h c Hf H σ fp ok _ fun v Hf1 H1 fp1 ok1 g1 r1 => by
    obtain ⟨a, v1, b, o, v3, rfl, h1, h2, h3, h4, h5, h6⟩ := r1
    exact q _ _ _ _ ok1 g1 (Rp.tup (.inl (.inl h1)) (.cons h2 (.cons (Rp.tup (.inl (.inr ⟨o, h3⟩)) (RpA.ints ns)) (.cons h6 .nil))))
theorem ee_callQ {S : SS} {R : FR} {np : Nat} {E : XK} {ds : List PyData} {d1 d3 : PyData} (ha : Ed K ta S ds S1) (hl : ds.length = np) (hR : R (ds.map SD.dat) [] (.tq d1 ns d3) []) : Ee K (tCall (spD K np R) [] E ta) S (.tq d1 ns d3) S1 := by
  have h := ee_call0 (np := np) (E := E) (R := R) (r := .tq d1 ns d3) (ob' := []) ha (fun a h => by
    obtain ⟨x, _, rfl⟩ := List.mem_map.mp h
    trivial) (by rw [List.length_map]; exact hl) hR
  rw [List.append_nil] at h
  exact h
end
theorem et_truL {K : PySem.W.Frag} {S S1 : SS} {te : TE} {ds : List PyData} (h : Ee K te S (.dat (.list ds)) S1) : Et K (tTru K te) S (!ds.isEmpty) S1 := fun c Hf H σ fp ok Q q => h c Hf H σ fp ok _ fun v Hf1 H1 fp1 ok1 g1 r1 => by
  cases r1 with
  | @lst a xs _ h1 h2 =>
    refine ⟨_, .inl ⟨xs, .inl (.inl (ok1.hd.ex _ _ h1)), ?_⟩, q _ _ _ ok1 g1⟩
    cases h2 <;> rfl
/-- data in a list of data -/
theorem ro_inD {K : PySem.W.Frag} {S : SS} {x y : SD} {d : PyData} {ds : List PyData} (hx : AsD S x d) (hy : AsD S y (.list ds)) (h1 : SeqAt.shaped d = true) (h2 : SeqAt.shaped (.list ds) = true) : Ro K (rInD K) x y S (.dat (.bool (ds.any fun z => PyData.eqv z d))) S := fun c Hf H σ fp ok v u rv ru Q q =>
  ⟨d, ds, ok.asDp rv hx (shaped_noDict h1), ok.asDp ru hy (shaped_noDict h2), h1, h2, q _ _ _ _ ok Gr.refl (Rp.bl _)⟩
theorem rc_allM {K : PySem.W.Frag} {S : SS} {bs : List Bool} : Rc K (rAll K) [.dat (.list (bs.map PyData.bool))] S (.dat (.bool (bs.all id))) S := fun c Hf H σ fp ok vs r Q q => by
  obtain ⟨v, rfl, rv⟩ := r.one
  cases rv with
  | lst h1 h2 => exact ⟨_, bs, rfl, .inl (.inl (by rw [← rp_boolsM h2]; exact ok.hd.ex _ _ h1)), q _ _ _ _ ok Gr.refl (Rp.bl _)⟩
/-- three names at once -/
theorem ts_par3 {K : PySem.W.Frag} {S S1 : SS} {x y z : SD} {i j l : Nat} {tas : TA} {E : DE} (h : Ea K tas S [x, y, z] S1) (k : E.nx { S1 with sl := ((S1.sl.set i x).set j y).set l z }) : Ts K (tPar3 i j l tas) S E := fun c Hf H σ fp ok D n r bk ct =>
  h c Hf H σ fp ok _ fun vs Hf1 H1 fp1 ok1 g1 r1 => by
    cases r1 with
    | cons r1 rr => cases rr with
      | cons r2 rr => cases rr with
        | cons r3 rr => cases rr with
          | nil => exact ⟨_, _, _, rfl, n _ Hf1 H1 _ fp1 (((ok1.put r1).put r2).put r3) g1 k⟩
/-- two ways that come to one place -/
theorem ts_join {K : PySem.W.Frag} {S : SS} {E : DE} {tu tw : TS} (Pv : SS → Prop) (h : Ts K tu S { E with nx := Pv }) (k : ∀ S', Pv S' → Ts K tw S' E) : Ts K (tSeq tu tw) S E :=
  ts_seq (ts_mono h (fun S hS => k S hS) (fun _ _ z => z) (fun _ z => z) fun _ z => z)
/-- a comprehension of two clauses over lists that are told by their sources -/
theorem outL_map {α β : Type} {dA : α → PyData} {uA : PyData → α} {dB : β → PyData} {uB : PyData → β} (ha : ∀ a, uA (dA a) = a) (hb : ∀ b, uB (dB b) = b) (es : α → List β) (p : α → β → Bool) (f : α → β → PyData) (lst : List α) :
    outL (fun d => (es (uA d)).map dB) (fun d e => p (uA d) (uB e)) (fun d e => f (uA d) (uB e)) (lst.map dA) = lst.flatMap fun a => ((es a).filter (p a)).map (f a) := by
  unfold outL
  rw [List.flatMap_map]
  congr 1
  funext a
  show (((es (uA (dA a))).map dB).filter fun e => p (uA (dA a)) (uB e)).map (fun e => f (uA (dA a)) (uB e)) = _
  rw [ha, List.filter_map, List.map_map]
  have e1 : ((fun e => p a (uB e)) ∘ dB) = p a := by
    funext b
    show p a (uB (dB b)) = _
    rw [hb]
  have e2 : ((fun e => f a (uB e)) ∘ dB) = f a := by
    funext b
    show f a (uB (dB b)) = _
    rw [hb]
  rw [e1, e2]
theorem el_lc2A {K : PySem.W.Frag} {S : SS} {α β : Type} {wi wi1 : TI} {g g1 : TG} {t1 : TT} {te : TE} {vs vs1 : List Nat} {S0 : SS} {dA : α → PyData} (uA : PyData → α) {dB : β → PyData} (uB : PyData → β) {lst : List α} (es : α → List β) (p : α → β → Bool) (f : α → β → PyData)
    (ha : ∀ a, uA (dA a) = a) (hb : ∀ b, uB (dB b) = b) (h : Ei K wi S (lst.map dA) S0) (hl : (lst.flatMap fun a => ((es a).filter (p a)).map (f a)).length ≤ 1000000)
    (hs : ∀ a ∈ lst, ∃ Sg, Egc K vs g (dA a) { S0 with sl := wipeS S0.sl vs } Sg ∧ Sg.ob = S0.ob ∧ Ei K wi1 Sg ((es a).map dB) Sg ∧
      ∀ b ∈ es a, ∃ Sh S2, Egc K vs1 g1 (dB b) { Sg with sl := wipeS Sg.sl vs1 } Sh ∧ Et K t1 Sh (p a b) S2 ∧ S2.ob = S0.ob ∧ (p a b = true → ∃ S3, Ee K te S2 (.dat (f a b)) S3 ∧ S3.ob = S0.ob)) :
    El K (tLc2 wi g tYes wi1 g1 t1 te vs vs1) S (lst.flatMap fun a => ((es a).filter (p a)).map (f a)) S0 := by
  rw [← outL_map ha hb es p f lst] at hl ⊢
  refine el_lc2 _ _ _ h hl fun i d hd => ?_
  rw [List.getElem?_map] at hd
  obtain ⟨a, ea, rfl⟩ := Option.map_eq_some_iff.mp hd
  obtain ⟨Sg, h1, h2, h3, h4⟩ := hs a (List.mem_of_getElem? ea)
  refine ⟨Sg, h1, h2, by show Ei K wi1 Sg ((es (uA (dA a))).map dB) Sg; rw [ha]; exact h3, fun j e he => ?_⟩
  rw [ha] at he
  rw [List.getElem?_map] at he
  obtain ⟨b, eb, rfl⟩ := Option.map_eq_some_iff.mp he
  obtain ⟨Sh, S2, k1, k2, k3, k4⟩ := h4 b (List.mem_of_getElem? eb)
  refine ⟨Sh, S2, k1, by rw [ha, hb]; exact k2, k3, fun z => ?_⟩
  rw [ha, hb] at z ⊢
  exact k4 z
/-! ### own dicts as sets of numbers -/
def setKV (ks : List Int) : List (Key × V) := ks.map fun z => (Sum.inl z, V.bl true)
def addS (ks : List Int) (z : Int) : List Int := if z ∈ ks then ks else ks ++ [z]
theorem setKV_key (ks : List Int) : (setKV ks).map (·.1) = ks.map Sum.inl := by
  unfold setKV
  rw [List.map_map]
  rfl
theorem put_setKV (ks : List Int) (z : Int) : putK (setKV ks) (Sum.inl z) (V.bl true) = setKV (addS ks z) := by
  unfold putK addS
  have e : ((setKV ks).any fun kv => decide (kv.1 = Sum.inl z)) = decide (z ∈ ks) := by
    unfold setKV
    rw [List.any_map]
    induction ks with
    | nil => rfl
    | cons a ks ih =>
      rw [List.any_cons, ih]
      by_cases h : a = z
      · subst h
        simp
      · have h2 : ¬ (z = a) := fun e => h e.symm
        simp [h, h2]
  rw [e]
  by_cases h : z ∈ ks
  · rw [if_pos (decide_eq_true h), if_pos h]
    unfold setKV
    rw [List.map_map]
    refine List.map_congr_left fun a _ => ?_
    show (if (Sum.inl a : Key) = Sum.inl z then ((Sum.inl a : Key), V.bl true) else (Sum.inl a, V.bl true)) = _
    split <;> rfl
  · rw [if_neg (by rw [decide_eq_false h]; decide), if_neg h]
    unfold setKV
    rw [List.map_append]
    rfl
def rSortDI : List V → Hp → VK → Prop := fun xs H Q => ∃ (a : Addr) (kvs : List (Key × V)) (ks : List Int), xs = [.ref a] ∧ Rd H a (.dK kvs) ∧ kvs.map (·.1) = ks.map Sum.inl ∧ ks.length < 64 ∧ ∀ (ys : List Int) (p : Addr), ys.Perm ks → ys.Pairwise (· ≤ ·) → H p = none → Q (.ref p) (upd H p (.lst (ys.map V.int)))
theorem cr_sortDI {X : Cx} (hcalm : X.calm = true) : CallR X (.builtin "sorted") rSortDI := call_sortedDI hcalm
section
variable {K : PySem.W.Frag} {S S1 : SS} {E : DE} {c : Addr → Prop} {Hf H : Hp} {σ : L2.St} {fp : List (List Addr)}
/-- found = {} -/
theorem ts_newset {n : Nat} (kx : ∀ a, E.nx { S with sl := S.sl.set n (.own S.ob.length), ob := S.ob ++ [.raw a (.dK (setKV []))] }) : Ts K (tAsg tDNewK (gName n)) S E := fun c Hf H σ fp ok D nx r bk ct p hp => by
  obtain ⟨ok1, g1⟩ := ok.newR (.dK []) hp
  have ok5 := ok1.put_sl (k := S.ob.length) (i := n) (a := p) (o := .dK []) List.getElem?_concat_length
  exact nx _ _ _ _ _ ok5 g1 (kx p)
/-- found[e] = True -/
theorem ts_putset {i k : Nat} {a : Addr} {ks : List Int} {z : Int} {tk : TE} (hs : S.sl[i]? = some (.own k)) (hk : Ee K tk S (.dat (.int z)) S) (ho : S.ob[k]? = some (.raw a (.dK (setKV ks)))) (hz : ks.length ≤ 100000) (kx : E.nx { S with ob := S.ob.set k (.raw a (.dK (setKV (addS ks z)))) }) :
    Ts K (sDPut (tVar i) tk (tC (.bl true))) S E := fun c Hf H σ fp ok D n r bk ct =>
  ee_bl (K := K) (S := S) (b := true) c Hf H σ fp ok _ fun x Hf1 H1 fp1 ok1 g1 r1 => ee_var hs (fun z => by cases z) c Hf1 H1 σ fp1 ok1 _ fun v Hf2 H2 fp2 ok2 g2 r2 => hk c Hf2 H2 σ fp2 ok2 _ fun y Hf3 H3 fp3 ok3 g3 r3 => by
    cases r1
    cases r3
    obtain rfl := ok2.rawV ho r2
    refine ⟨a, _, rfl, DPut.k (k := Sum.inl z) (ok3.raw ho).2 (by unfold setKV; rw [List.length_map]; exact Nat.lt_of_le_of_lt hz (by decide)), ?_⟩
    rw [put_setKV]
    obtain ⟨ok4, g4⟩ := ok3.putR (o' := .dK (setKV (addS ks z))) ho
    exact n _ _ _ _ _ ok4 (((g1.trans g2).trans g3).trans g4) kx
theorem pair_eq : ∀ {xs ys : List Int}, xs.Perm ys → xs.Pairwise (· ≤ ·) → ys.Pairwise (· ≤ ·) → xs = ys := fun h h1 h2 => h.eq_of_pairwise (fun a b _ _ p q => Int.le_antisymm p q) h1 h2
/-- sorted(found) -/
theorem rcl_sortset {k : Nat} {a : Addr} {ks ys : List Int} (ho : S.ob[k]? = some (.raw a (.dK (setKV ks)))) (hl : ks.length < 64) (hp : ys.Perm ks) (hy : ys.Pairwise (· ≤ ·)) : RcL K rSortDI [.own k] S (ys.map PyData.int) S := fun c Hf H σ fp ok vs r Q q => by
  obtain ⟨v, rfl, rv⟩ := r.one
  obtain rfl := ok.rawV ho rv
  refine ⟨a, setKV ks, ks, rfl, .inl (ok.raw ho).2, setKV_key ks, hl, fun zs p hz hs hn => ?_⟩
  obtain rfl := pair_eq (hz.trans hp.symm) hs hy
  obtain ⟨ok2, g2, al⟩ := ok.alone hn (RpA.ints zs)
  exact q p _ _ _ ok2 g2 hn al
end
/-- a test that may do something in its second part -/
theorem et_andS2 {K : PySem.W.Frag} {S S1 S2 : SS} {t u : TT} {a b : Bool} (h1 : Et K t S a S1) (h2 : a = true → Et K u S1 b S2) (h3 : a = false → S2 = S1) : Et K (tAnd t u) S (a && b) S2 := by
  cases a with
  | true => exact et_andT h1 (h2 rfl)
  | false =>
    rw [h3 rfl]
    exact et_and (b := b) h1 (fun z => by cases z)
theorem et_orS {K : PySem.W.Frag} {S S1 S2 : SS} {t u : TT} {a b : Bool} (h1 : Et K t S a S1) (h2 : a = false → Et K u S1 b S2) (h3 : a = true → S2 = S1) : Et K (tOr t u) S (a || b) S2 := by
  cases a with
  | false => exact et_orF h1 (h2 rfl)
  | true =>
    rw [h3 rfl]
    exact et_or (b := b) h1 (fun z => by cases z)
/-! ### xs.insert(i, y); range(a, b, 2) -/
def rInsert : V → List V → Hp → VK → Prop := fun x vs H Q => ∃ (l : Addr) (xs : List V) (i : Int) (y : V), x = .ref l ∧ vs = [.int i, y] ∧ H l = some (.lst xs) ∧ xs.length < sizeLine ∧ 0 ≤ i ∧ i < 2 ^ 63 ∧
    Q .non (upd H l (.lst (xs.take i.toNat ++ [y] ++ xs.drop i.toNat)))
theorem mt_insertN {X : Cx} : MtR X "list.insert" rInsert := mt_insert
section
variable {K : PySem.W.Frag} {S S1 S2 S3 : SS} {ta te ti : TE} {c : Addr → Prop} {Hf H : Hp} {σ : L2.St} {fp : List (List Addr)}
theorem ee_insert {k : Nat} {ds : List PyData} {i : Int} {d : PyData} (hl : Ee K ta S (.own k) S1) (hi : Ee K ti S1 (.dat (.int i)) S2) (he : Ee K te S2 (.dat d) S3) (ho1 : ∃ ds1, S1.ob[k]? = some (.lst ds1)) (ho : S3.ob[k]? = some (.lst ds)) (h0 : 0 ≤ i) (h1 : i ≤ 1000000) (hz : ds.length < 1000000) :
    Ee K (tBM K "list" rInsert ta (tCons ti (tCons te tNil))) S (.dat .none) { S3 with ob := S3.ob.set k (.lst (ds.take i.toNat ++ [d] ++ ds.drop i.toNat)) } := fun c Hf H σ fp ok Q q =>
  hl c Hf H σ fp ok _ fun v Hf1 H1 fp1 ok1 g1 r1 => by
    obtain ⟨ds1, ho1⟩ := ho1
    obtain ⟨a, xs, rfl, q1, q2, q3⟩ := ok1.obL ho1 r1
    refine ⟨.inl ⟨rfl, xs, .inl (.inl q2)⟩, hi c Hf1 H1 σ fp1 ok1 _ fun w Hf2 H2 fp2 ok2 g2 r2 => he c Hf2 H2 σ fp2 ok2 _ fun u Hf3 H3 fp3 ok3 g3 r3 => ?_⟩
    cases r2
    obtain ⟨b, zs, e, k1, k2, k3⟩ := ok3.setL ho (r1.mono (g2.trans g3).sm (g2.trans g3).pr)
    cases e
    obtain ⟨ok4, g4⟩ := k3 (zs.take i.toNat ++ [u] ++ zs.drop i.toNat) (ds.take i.toNat ++ [d] ++ ds.drop i.toNat) (((k2.take _).append (.cons r3 .nil)).append (k2.drop _))
    refine ⟨_, zs, i, u, rfl, rfl, k1, ?_, h0, by omega, q _ _ _ _ ok4 (((g1.trans g2).trans g3).trans g4) Rp.non⟩
    rw [k2.len]
    exact Nat.lt_of_lt_of_le hz (by decide)
end
/-- every second number -/
def twoN (lo hi : Int) : Nat := ((hi - lo + 1) / 2).toNat
def twoD (lo hi : Int) : List PyData := (List.range (twoN lo hi)).map fun (k : Nat) => .int (lo + (k : Int) * 2)
theorem twoN_in {lo hi : Int} {k : Nat} (h : k < twoN lo hi) : lo + (k : Int) * 2 < hi := by
  unfold twoN at h
  omega
theorem rsz2 (lo hi : Int) : Builtin.Range.rangeSize lo hi 2 = (twoN lo hi : Int) := by
  unfold Builtin.Range.rangeSize twoN
  rw [if_pos (by decide)]
  split <;> omega
theorem rg2 {lo hi : Int} (h1 : -1000000 ≤ lo ∧ lo ≤ 1000000 ∧ -1000000 ≤ hi ∧ hi ≤ 1000000) : RgC lo hi 2 (twoN lo hi) := by
  refine ⟨by decide, by decide, ?_, rsz2 lo hi⟩
  unfold Builtin.Range.small
  rw [rsz2]
  unfold twoN
  simp only [Builtin.Range.rangeFitsLong, Bool.and_eq_true, Bool.or_eq_true, decide_eq_true_eq, beq_iff_eq, show (2 : Int) > 0 by decide, if_true]
  omega
theorem ei_rng3 {K : PySem.W.Frag} {S S1 : SS} {tas : TA} {lo hi : Int} (h : Ed K tas S [.int lo, .int hi, .int 2] S1) (hn : -1000000 ≤ lo ∧ lo ≤ 1000000 ∧ -1000000 ≤ hi ∧ hi ≤ 1000000) : Ei K (iRng3 tas) S (twoD lo hi) S1 := fun c Hf H σ fp ok R q => h c Hf H σ fp ok _ fun v Hf1 H1 fp1 ok1 g1 r1 => by
  cases r1 with
  | cons r1 rr => cases rr with
    | cons r2 rr => cases rr with
      | cons r3 rr =>
        cases rr
        cases r1
        cases r2
        cases r3
        refine ⟨lo, hi, 2, twoN lo hi, rfl, rg2 hn, q _ Hf1 H1 fp1 ok1 g1 (wk_of walk_rangeC (by unfold twoD; rw [List.length_map, List.length_range]) (fun _ _ _ _ => trivial) fun i d Hf1 H1 x H2 e1 e2 hd y => .inl ?_)⟩
        obtain ⟨rfl, rfl⟩ := y
        unfold twoD at hd
        rw [List.getElem?_map] at hd
        obtain ⟨k, hk, rfl⟩ := Option.map_eq_some_iff.mp hd
        obtain ⟨_, e⟩ := List.getElem?_eq_some_iff.mp hk
        rw [List.getElem_range] at e
        subst e
        exact ⟨rfl, .int _⟩
/-! ### sorted(set(xs)), xs a list of tuples of numbers -/
theorem setOfT_calm {X : Cx} (hc : X.calm = true) (hu : X.A.units + 100 < cLine) : CallR X (.type "set") (rSetOfT X.K X.prog X.w) := cr_setOfT hc (by omega)
def intsD (ns : List Int) : PyData := .tuple (ns.map PyData.int)
section
variable {K : PySem.W.Frag} {P : Program} {w : World} {S S1 : SS} {x : SD} {te : TE} {c : Addr → Prop} {Hf H : Hp} {σ : L2.St} {fp : List (List Addr)}
theorem tups_of {Hf : Hp} : ∀ {xs : List (List Int)} {zs : List V}, RpA K Hf zs (xs.map intsD) → ∃ ks : List (Addr × List Int), zs = ks.map (fun p => V.ref p.1) ∧ ks.map (·.2) = xs ∧ ∀ p ∈ ks, SqT K Hf p.1 (p.2.map V.int)
  | [], _, .nil => ⟨[], rfl, rfl, fun _ z => by cases z⟩
  | ns :: xs, _, .cons h t => by
    obtain ⟨ks, e1, e2, e3⟩ := tups_of t
    cases h with
    | tup h1 h2 =>
      rename_i a us
      have := RpA.ints_inv h2
      subst this
      refine ⟨(a, ns) :: ks, by rw [e1]; rfl, by rw [List.map_cons, e2], fun p hp => ?_⟩
      rcases List.mem_cons.mp hp with rfl | hp
      · exact h1
      · exact e3 p hp
theorem rp_tups {Hf : Hp} : ∀ {ks : List (Addr × List Int)}, (∀ p ∈ ks, SqT K Hf p.1 (p.2.map V.int)) → RpA K Hf (ks.map fun p => V.ref p.1) ((ks.map (·.2)).map intsD)
  | [], _ => .nil
  | p :: ks, h => .cons (.tup (h p List.mem_cons_self) (RpA.ints p.2)) (rp_tups fun q hq => h q (List.mem_cons_of_mem _ hq))
theorem el_sortsetT {xs ys : List (List Int)} {d : Nat} {Bo : Int} (h : Ee K te S x S1) (hx : AsD S1 x (.list (xs.map intsD))) (hl : xs.length < 64) (hd : 1 ≤ d) (hb : ∀ ns ∈ xs, ns.length = d ∧ TS.Bd Bo ns)
    (hy : ∀ zs : List (List Int), zs.Nodup → (∀ z, z ∈ zs ↔ z ∈ xs) → zs.Pairwise (fun q r => TS.code Bo q ≤ TS.code Bo r) → zs = ys) :
    El K (tCB (rSortedT K P w) (tCons (tCB (rSetOfT K P w) (tCons te tNil)) tNil)) S (ys.map intsD) S1 := fun c Hf H σ fp ok Q q =>
  h c Hf H σ fp ok _ fun v Hf1 H1 fp1 ok1 g1 r1 => by
    obtain ⟨a, zs, rfl, h1, h2⟩ := ok1.asL r1 hx
    obtain ⟨ks, rfl, e2, e3⟩ := tups_of h2
    refine ⟨a, ks, rfl, .inl (.inl h1), fun p hp => sameT ok1.hd.ex (e3 p hp), by rw [← List.length_map (f := (·.2)), e2]; exact hl, fun s L hs hL hL2 => ?_⟩
    obtain ⟨ok2, g2⟩ := ok1.laid (SetTO P w s L) hs
    have memL : ∀ z, z ∈ L.map (·.2) ↔ z ∈ xs := fun z => by
      constructor
      · intro hz
        obtain ⟨p, hp, rfl⟩ := List.mem_map.mp hz
        rw [← e2]
        exact List.mem_map.mpr ⟨p, hL p hp, rfl⟩
      · intro hz
        rw [← e2] at hz
        obtain ⟨p, hp, rfl⟩ := List.mem_map.mp hz
        exact hL2 p hp
    have at2 : ∀ p ∈ L, SqT K (upd Hf1 s (SetTO P w s L)) p.1 (p.2.map V.int) := fun p hp => sameT g2.sm (e3 p (hL p hp))
    refine ⟨s, L, d, Bo, rfl, upd_same, fun p hp => sameT ok2.hd.ex (at2 p hp), hd, fun p hp => hb _ ((memL _).mp (List.mem_map.mpr ⟨p, hp, rfl⟩)), fun L' p hperm hnd hlt hpw hp => ?_⟩
    have ez : L'.map (·.2) = ys := by
      refine hy _ hnd (fun z => ?_) ?_
      · rw [← memL z]
        exact (hperm.map _).mem_iff
      · rw [List.pairwise_map]
        exact hpw
    obtain ⟨ok3, g3, al⟩ := ok2.alone (xs := L'.map fun q => V.ref q.1) (ds := ys.map intsD) hp (by
      rw [← ez]
      exact rp_tups fun p hp => at2 p (hperm.mem_iff.mp hp))
    exact q p _ _ _ ok3 ((g1.trans g2).trans g3) (none_back (g1.trans g2).th hp) al
end
theorem ei_rng1n {K : PySem.W.Frag} {S S1 : SS} {tas : TA} {n : Nat} (h : Ed K tas S [.int (n : Int)] S1) (hn : n ≤ 1000000) : Ei K (iRng1 tas) S (rngD 0 n) S1 := by
  have := ei_rng1 h (by omega)
  rw [Int.toNat_natCast] at this
  exact this
theorem el_rng2L {K : PySem.W.Frag} {S S1 S2 : SS} {ta tb : TE} {lo hi : Int} (h : Ee K ta S (.dat (.int lo)) S1) (h2 : Ee K tb S1 (.dat (.int hi)) S2) (hb : 0 ≤ lo ∧ lo ≤ 1000000 ∧ 0 ≤ hi ∧ hi ≤ 1000000) : El K (tLstRg (tRg2 ta tb)) S (rngD lo (hi - lo).toNat) S2 := fun c Hf H σ fp ok Q q =>
  h c Hf H σ fp ok _ fun v Hf1 H1 fp1 ok1 g1 r1 => h2 c Hf1 H1 σ fp1 ok1 _ fun u Hf2 H2 fp2 ok2 g2 r2 => by
    cases r1
    cases r2
    refine ⟨lo, hi, rfl, rfl, RgOk.of_le hb.1 (by omega) (by omega) hb.2.2.1, fun p hp => ?_⟩
    obtain ⟨ok3, g3, al⟩ := ok2.alone hp (rp_rng (K := K) lo hi)
    exact q p _ _ _ ok3 ((g1.trans g2).trans g3) (none_back (g1.trans g2).th hp) al
theorem ro_notBl {K : PySem.W.Frag} {S : SS} {a b : Bool} : Ro K rNotB (.dat (.bool a)) (.dat (.bool b)) S (.dat (.bool (!decide (a = b)))) S := fun c Hf H σ fp ok v u rv ru Q q => by
  cases rv
  cases ru
  exact ⟨a, b, rfl, rfl, q _ _ _ _ ok Gr.refl (Rp.bl _)⟩
theorem ro_isBl {K : PySem.W.Frag} {S : SS} {a b : Bool} : Ro K rIsB (.dat (.bool a)) (.dat (.bool b)) S (.dat (.bool (decide (a = b)))) S := fun c Hf H σ fp ok v u rv ru Q q => by
  cases rv
  cases ru
  exact ⟨a, b, rfl, rfl, q _ _ _ _ ok Gr.refl (Rp.bl _)⟩
theorem cut_dropD {ds : List PyData} {c : Int} (h : 0 ≤ c) : cutD ds (some c) none = ds.drop c.toNat := by
  unfold cutD
  have e1 : HT.sIx ds.length 0 (some c) = min c.toNat ds.length := by
    show (if c < 0 then (c + (ds.length : Int)).toNat else min c.toNat ds.length) = _
    rw [if_neg (by omega)]
  have e2 : HT.sIx ds.length ds.length none = ds.length := rfl
  rw [e1, e2]
  by_cases q : c.toNat ≤ ds.length
  · rw [Nat.min_eq_left q, List.take_of_length_le (by rw [List.length_drop]; exact Nat.le_refl _)]
  · rw [Nat.min_eq_right (by omega), Nat.sub_self, List.take_zero, List.drop_eq_nil_of_le (by omega)]
/-! ### the lowest bit -/
theorem ee_bits {K : PySem.W.Frag} {S S1 : SS} {te : TE} {i : Int} (h : Ee K te S (.dat (.int i)) S1) : Ee K (tBits te) S (.dat (.int (Builtin.Int.intBits i : Nat))) S1 := fun c Hf H σ fp ok Q q => h c Hf H σ fp ok _ fun v Hf1 H1 fp1 ok1 g1 r1 => by
  cases r1
  exact ⟨i, rfl, q _ _ _ _ ok1 g1 (Rp.int _)⟩
theorem bits_pow (k : Nat) : Builtin.Int.intBits ((2 ^ k : Nat) : Int) = k + 1 := by
  unfold Builtin.Int.intBits
  have h : ((2 ^ k : Nat) : Int) ≠ 0 := by
    have := Nat.two_pow_pos k
    omega
  rw [if_neg (by simpa using h)]
  congr 1
  rw [Int.natAbs_natCast]
  exact Nat.log2_two_pow
theorem low_form {a k : Nat} (h1 : a.testBit k = true) (h0 : ∀ i, i < k → a.testBit i = false) : a = 2 ^ (k + 1) * (a / 2 ^ (k + 1)) + 2 ^ k := by
  have e : a % 2 ^ (k + 1) = 2 ^ k := by
    refine Nat.eq_of_testBit_eq fun i => ?_
    rw [Nat.testBit_mod_two_pow, Nat.testBit_two_pow]
    by_cases q : i = k
    · subst q
      rw [h1]
      simp
    · by_cases q2 : i < k
      · rw [h0 i q2, decide_eq_false (show ¬ k = i from fun z => q z.symm), Bool.and_false]
      · rw [decide_eq_false (show ¬ i < k + 1 by omega), decide_eq_false (show ¬ k = i from fun z => q z.symm), Bool.false_and]
  have := Nat.div_add_mod a (2 ^ (k + 1))
  rw [e] at this
  exact this.symm
theorem band_neg {a k : Nat} (h1 : a.testBit k = true) (h0 : ∀ i, i < k → a.testBit i = false) : Builtin.bitAnd (a : Int) (-(a : Int)) = ((2 ^ k : Nat) : Int) := by
  have f := low_form h1 h0
  generalize a / 2 ^ (k + 1) = m at f
  have p := Nat.two_pow_pos k
  have ha : 0 < a := by omega
  have e : -(a : Int) = Builtin.bitNot ((a - 1 : Nat) : Int) := by
    show -(a : Int) = -((a - 1 : Nat) : Int) - 1
    omega
  rw [e, drop_nat]
  congr 1
  refine Nat.eq_of_testBit_eq fun i => ?_
  have e2 : a - 1 = 2 ^ (k + 1) * m + (2 ^ k - 1) := by omega
  have lt1 : 2 ^ k < 2 ^ (k + 1) := Nat.pow_lt_pow_right (by decide) (Nat.lt_succ_self k)
  rw [drop_bit, e2, f, Nat.testBit_two_pow_mul_add _ lt1, Nat.testBit_two_pow_mul_add _ (show 2 ^ k - 1 < 2 ^ (k + 1) by omega), Nat.testBit_two_pow]
  by_cases q : i < k + 1
  · rw [if_pos q, if_pos q, Nat.testBit_two_pow_sub_one]
    by_cases q2 : k = i
    · subst q2
      simp
    · rw [decide_eq_false q2, Bool.false_and]
  · rw [if_neg q, if_neg q, decide_eq_false (show ¬ k = i by omega)]
    cases m.testBit (i - (k + 1)) <;> rfl
/-! ### numbers in lists -/
theorem ro_notInL {K : PySem.W.Frag} {S : SS} {y : SD} {i : Int} {ns : List Int} (hy : AsD S y (.list (ns.map PyData.int))) : Ro K (rIn K true) (.dat (.int i)) y S (.dat (.bool (!decide (i ∈ ns)))) S := fun c Hf H σ fp ok v u rv ru Q q => by
  cases rv
  obtain ⟨a, xs, rfl, h1, h2⟩ := ok.asL ru hy
  obtain rfl := RpA.ints_inv h2
  refine ⟨_, _, rfl, .inl (.inl (.inl h1)), rfl, flat_ints ns, ?_⟩
  rw [if_pos rfl, inV_ints]
  exact q _ _ _ _ ok Gr.refl (Rp.bl _)
/-! ### a tuple times a number that may be nought -/
theorem tuple_mul0 (l : Addr) (items : Array Value) (n : Nat) (dd : Option Addr) (sl : Array (Option Value)) (x : Int) (u : Tok) (c0 : (decide (x < -(2 ^ 63)) || decide (x ≥ 2 ^ 63)) = false) (c1 : (items.isEmpty || x == 1) = false) (c2 : (decide (x ≤ 0) || items.isEmpty) = true) :
    Meets (Builtin.«tuple.__mul__» ⟨[.ref l, .int x u], []⟩) (fun _ R s => s.heap.get? l = some { cls := .type "tuple", dict := dd, data := .seq items n, slots := sl } ∧
      R (.ok (.ret (Value.ref s.heap.objs.size))) { s with heap := s.heap.push { cls := Value.type "tuple", data := Data.seq #[] }, toks := s.toks }) :=
  .of_wp fun prog w A R s h => by
    obtain ⟨hp, g, d, tk, os⟩ := s
    obtain ⟨hl, h⟩ := h
    have f1 := AutoSeq1.idx_int
    wp_walk using wpAny_loadPart' hl
    repeat (first
      | (refine wpAny_ite_false (decide_eq_false (by rw [c0]; exact Bool.false_ne_true)) ?_; wp_walk using wpAny_loadPart' hl)
      | (refine wpAny_ite_false (decide_eq_false (by rw [c1]; exact Bool.false_ne_true)) ?_; wp_walk using wpAny_loadPart' hl)
      | (refine wpAny_ite_true (decide_eq_true c2) ?_; wp_walk using wpAny_loadPart' hl))
    exact ⟨_, rfl, h⟩
def rRep0 (K : PySem.W.Frag) : R2 := fun x y H Q => ∃ l xs, x = .ref l ∧ y = .int 0 ∧ SqT K H l xs ∧ xs ≠ [] ∧ ∀ p, H p = none → Q (.ref p) (upd H p (.tup []))
theorem op_rep0 {X : Cx} : OpR X (binaryOp .Mult) (rRep0 X.K) := by
  intro pins s σ H x y v u Q I rx ry h
  obtain ⟨l, xs, rfl, rfl, hT, hne, q⟩ := h
  cases rx
  obtain ⟨t, rfl⟩ := ry
  obtain ⟨its, r, ⟨⟨cls, dd, data, sl⟩, ho, hc, n, hd⟩, hs⟩ := I.tuple hT
  simp only at hc hd
  subst hc hd
  have hle : its.length = xs.length := r.length.symm
  have hi : its.toArray.isEmpty = false := by
    cases its with
    | nil => exact absurd (List.eq_nil_of_length_eq_zero hle.symm) hne
    | cons a b => rfl
  have c1 : (its.toArray.isEmpty || (0 : Int) == 1) = false := by
    rw [hi]
    rfl
  refine wpAny_binaryOp_repeat_ref (T := "tuple") (U := "int") (by decide) ⟨_, ho, rfl⟩ (fun s' => typeIs_int s' 0 t) noFill_tuple_mul F.fills_int_mul F.slot_int_rmul repeat_tuple F.slot_int_index.lookup
    (call_meets F.slot_int_rmul (typeIs_int s 0 t) F.entry_int_rmul (F.args_int_rmul_2 _ _) (int_rmul_tuple 0 t l its.toArray n dd sl)
      ⟨ho, rfl, ⟨_, ho, rfl⟩, call_meets F.slot_tuple_mul ⟨_, ho, rfl⟩ F.entry_tuple_mul (F.args_tuple_mul_2 _ _) (tuple_mul0 l its.toArray n dd sl 0 t rfl c1 rfl) ⟨ho, ?_⟩⟩)
  refine ⟨.ref s.heap.objs.size, _, I.laid (t' := s.toks) (o := .tup []) (fun b ob q => Heap.get?_push_of_some _ q) (Nat.le_refl _) ?_, rfl, q _ (I.hok.fresh (Nat.le_refl _))⟩
  exact ⟨Nat.zero_le _, [], .nil, IsTup.new _ _⟩
def rMul0 (K : PySem.W.Frag) : R2 := fun x y H Q => rMulS K x y H Q ∨ rRep0 K x y H Q
theorem op_mul0 {X : Cx} : OpR X (binaryOp .Mult) (rMul0 X.K) := opr_or op_mulS op_rep0
theorem ro_mul0 {K : PySem.W.Frag} {S : SS} {ds : List PyData} {i : Int} (hne : ds ≠ []) (h1 : 0 ≤ i) (h2 : i ≤ 1000) (hz : ds.length ≤ 1000) : Ro K (rMul0 K) (.dat (.tuple ds)) (.dat (.int i)) S (.dat (.tuple (repD i.toNat ds))) S := by
  by_cases h0 : i = 0
  · subst h0
    intro c Hf H σ fp ok v u rv ru Q q
    cases ru
    cases rv with
    | @tup a xs _ e1 e2 =>
      refine .inr ⟨a, xs, rfl, rfl, sameT ok.hd.ex e1, fun e => hne (by subst e; cases e2; rfl), fun p hp => ?_⟩
      obtain ⟨ok2, g2⟩ := ok.laid (.tup _) hp
      exact q _ _ _ _ ok2 g2 (Rp.tup (.inl (.inl upd_same)) .nil)
  · intro c Hf H σ fp ok v u rv ru Q q
    exact .inl (ro_mulS (by omega) h2 hz c Hf H σ fp ok v u rv ru Q q)
/-! ### data in a tuple of data -/
def rNotInT (K : PySem.W.Frag) : R2 := fun x y H Q => ∃ d ds, Dp K H x d ∧ Dp K H y (.tuple ds) ∧ SeqAt.shaped d = true ∧ SeqAt.shaped (.tuple ds) = true ∧ Q (.bl (!ds.any fun z => PyData.eqv z d)) H
theorem op_notInT {X : Cx} (hu : X.A.units + 65 < cLine) : OpR X (compareOp .NotIn) (rNotInT X.K) := by
  intro pins s σ H x y v u Q I rx ry h
  obtain ⟨d, ds, hd, he, sd, se, q⟩ := h
  obtain ⟨as, r1⟩ := Dp.reads I d x v hd rx
  obtain ⟨bs, r2⟩ := Dp.reads I (.tuple ds) y u he ry
  exact SeqAt.notIn_tuple_reads r2 r1 (SeqAt.canLay_of_shaped se) (SeqAt.canLay_of_shaped sd) (room_in_shaped sd hu) ⟨.bl _, H, I, rfl, q⟩
theorem ro_notInTD {K : PySem.W.Frag} {S : SS} {x y : SD} {d : PyData} {ds : List PyData} (hx : AsD S x d) (hy : AsD S y (.tuple ds)) (h1 : SeqAt.shaped d = true) (h2 : SeqAt.shaped (.tuple ds) = true) : Ro K (rNotInT K) x y S (.dat (.bool (!ds.any fun z => PyData.eqv z d))) S := fun c Hf H σ fp ok v u rv ru Q q =>
  ⟨d, ds, ok.asDp rv hx (shaped_noDict h1), ok.asDp ru hy (shaped_noDict h2), h1, h2, q _ _ _ _ ok Gr.refl (Rp.bl _)⟩
/-! ### a walk down -/
def dnD (lo hi : Int) : List PyData := (List.range (lo - hi).toNat).map fun (k : Nat) => .int (lo + (k : Int) * (-1))
theorem rszD (lo hi : Int) : Builtin.Range.rangeSize lo hi (-1) = ((lo - hi).toNat : Int) := by
  unfold Builtin.Range.rangeSize
  rw [if_neg (by decide)]
  split <;> (try rw [show (-(-1) : Int) = 1 from rfl, Int.ediv_one]) <;> omega
theorem rgD {lo hi : Int} (h1 : -1000000 ≤ lo ∧ lo ≤ 1000000 ∧ -1000000 ≤ hi ∧ hi ≤ 1000000) : RgC lo hi (-1) (lo - hi).toNat := by
  refine ⟨by decide, by decide, ?_, rszD lo hi⟩
  unfold Builtin.Range.small
  rw [rszD]
  simp only [Builtin.Range.rangeFitsLong, Bool.and_eq_true, Bool.or_eq_true, decide_eq_true_eq, beq_iff_eq, show ¬ (-1 : Int) > 0 by decide, if_false]
  omega
theorem ei_rngDn {K : PySem.W.Frag} {S S1 : SS} {tas : TA} {lo hi : Int} (h : Ed K tas S [.int lo, .int hi, .int (-1)] S1) (hn : -1000000 ≤ lo ∧ lo ≤ 1000000 ∧ -1000000 ≤ hi ∧ hi ≤ 1000000) : Ei K (iRng3 tas) S (dnD lo hi) S1 := fun c Hf H σ fp ok R q => h c Hf H σ fp ok _ fun v Hf1 H1 fp1 ok1 g1 r1 => by
  cases r1 with
  | cons r1 rr => cases rr with
    | cons r2 rr => cases rr with
      | cons r3 rr =>
        cases rr
        cases r1
        cases r2
        cases r3
        refine ⟨lo, hi, -1, (lo - hi).toNat, rfl, rgD hn, q _ Hf1 H1 fp1 ok1 g1 (wk_of walk_rangeC (by unfold dnD; rw [List.length_map, List.length_range]) (fun _ _ _ _ => trivial) fun i d Hf1 H1 x H2 e1 e2 hd y => .inl ?_)⟩
        obtain ⟨rfl, rfl⟩ := y
        unfold dnD at hd
        rw [List.getElem?_map] at hd
        obtain ⟨k, hk, rfl⟩ := Option.map_eq_some_iff.mp hd
        obtain ⟨_, e⟩ := List.getElem?_eq_some_iff.mp hk
        rw [List.getElem_range] at e
        subst e
        exact ⟨rfl, .int _⟩
/-! ### lists or tuples walked -/
def iAny (K : PySem.W.Frag) (te : TE) : TI := fun σ H R => iTup K te σ H R ∨ iList K te σ H R
theorem pi_any {X : Cx} {tg l : Expr} {tl : TE} (h : PE X l tl) : PI X tg l (iAny X.K tl) := ⟨fun pins s σ H R I q => q.elim ((pi_tup h).run pins s σ H R I) ((pi_list h).run pins s σ H R I)⟩
theorem ei_anyT {K : PySem.W.Frag} {S S1 : SS} {te : TE} {ds : List PyData} (h : Ei K (iTup K te) S ds S1) : Ei K (iAny K te) S ds S1 := fun c Hf H σ fp ok R q => .inl (h c Hf H σ fp ok R q)
theorem ei_anyL {K : PySem.W.Frag} {S S1 : SS} {te : TE} {ds : List PyData} (h : Ei K (iList K te) S ds S1) : Ei K (iAny K te) S ds S1 := fun c Hf H σ fp ok R q => .inr (h c Hf H σ fp ok R q)
def iEnumA (K : PySem.W.Frag) (ta : TA) : TI := fun σ H R => iEnumT K ta σ H R ∨ iEnum K ta σ H R
theorem pi_enumA {X : Cx} {e : Expr} {ta : TA} {p pos tpos : Pos} {elts : List Expr} {kk : Nat} (hg : Gl X "enumerate") (hm : X.mg "enumerate" = none) (h : PA X [e] ta) (hs : starEach [e] X.env = [(false, eval e X.env)] := by rfl) : PI X (.Tuple elts kk tpos) (.Call (.Name "enumerate" p) [e] [] pos) (iEnumA X.K ta) :=
  ⟨fun pins s σ H R I q => q.elim ((pi_enumT hg hm h hs).run pins s σ H R I) ((pi_enum hg hm h hs).run pins s σ H R I)⟩
theorem ei_enumAT {K : PySem.W.Frag} {S S1 : SS} {ds : List PyData} {tas : TA} (h : Ed K tas S [.tuple ds] S1) : Ei K (iEnumA K tas) S (enumD ds) S1 := fun c Hf H σ fp ok R q => .inl (ei_enumT h c Hf H σ fp ok R q)
theorem ei_enumAL {K : PySem.W.Frag} {S S1 : SS} {ds : List PyData} {tas : TA} (h : Ed K tas S [.list ds] S1) : Ei K (iEnumA K tas) S (enumD ds) S1 := fun c Hf H σ fp ok R q => .inr (ei_enum h c Hf H σ fp ok R q)
/-! ### how many unlike numbers: len(set(x)) -/
def rLenSet (w : World) : List V → Hp → VK → Prop := fun xs H Q => ∃ (a : Addr) (S : Int → Bool) (n : Nat), xs = [.ref a] ∧ H a = some (SetO w a S n) ∧ Q (.int n) H
theorem cb_lenSet {X : Cx} : CallR X (.builtin "len") (rLenSet X.w) := fun pins s σ H xs us Q I r h => by
  obtain ⟨a, S, n, rfl, ha, q⟩ := h
  rw [Vals.ref1 r]
  obtain ⟨o, es, ep, t, h1, h2, h3, _, _, _, hs, hf, hn, _⟩ := setO_get I ha
  refine call_len_set h1 h2 h3 hf ?_ ?_
  · unfold scanBound at hs
    omega
  · rw [hn]
    exact ⟨.int n, H, I.tok _, ⟨_, rfl⟩, q⟩
def rSetX (K : PySem.W.Frag) (w : World) : List V → Hp → VK → Prop := fun xs H Q => ∃ (a : Addr) (ns : List Int), xs = [.ref a] ∧ (SqL K H a (ns.map V.int) ∨ SqT K H a (ns.map V.int)) ∧ ns.length ≤ 4000 ∧
  ∀ (p : Addr) (S : Int → Bool), H p = none → Q (.ref p) (upd H p (SetO w p S (setI ns).length))
theorem setR_all {w : World} {h : Heap} {a : Addr} {ns : List Int} {c : Nat} (R : SetR w h a (fun j => decide (j ∈ ns)) c) : c = (setI ns).length := by
  refine Nat.le_antisymm (setR_few R _ fun k hk => setI_mem.mpr hk) ?_
  obtain ⟨o, es, ep, t, _, _, _, _, nd, mem, _, _, hn, _⟩ := R
  have l : (es.toList.map keyOf).length = c := by rw [List.length_map, Array.length_toList, hn]
  rw [← l]
  exact nodup_le ((setI_sorted ns).imp fun h => Int.ne_of_lt h) fun x hx => (mem x).mp (decide_eq_true (setI_mem.mp hx))
theorem cr_setX {X : Cx} (hc : X.calm = true) : CallR X (.type "set") (rSetX X.K X.w) := fun pins s σ H xs us Q I r h => by
  obtain ⟨a, ns, rfl, ha, few, q⟩ := h
  rw [Vals.ref1 r]
  have big : ns.length + 1 < scanBound := by
    unfold scanBound
    omega
  have fin : ∀ (h2 : Heap) (t2 c : Nat), SetR X.w h2 s.heap.objs.size (fun j => decide (j ∈ ns)) c → c ≤ ns.length → (∀ b o, s.heap.get? b = some o → h2.get? b = some o) → EP X pins σ Q (.ref s.heap.objs.size) { s with heap := h2, toks := t2 } := fun h2 t2 c R _ keep => by
    have e := setR_all R
    subst e
    exact ⟨.ref _, upd H s.heap.objs.size (SetO X.w s.heap.objs.size (fun j => decide (j ∈ ns)) (setI ns).length), I.laid (t' := t2) keep (Nat.le_refl _) (setO_new R), rfl, q _ _ (I.hok.fresh (Nat.le_refl _))⟩
  rcases ha with ha | ha
  · obtain ⟨its, rv, p, _⟩ := I.list ha
    exact set_of_lst ns (I.ok.hd hc) p.isList (by simpa using rv.ints) big fin
  · obtain ⟨its, rv, p, _⟩ := I.tuple ha
    exact call_set_tupI ns (I.ok.hd hc) (show s.heap.IsTuple a its.toArray from p) (by simpa using rv.ints) big fin
theorem ee_lenSet {K : PySem.W.Frag} {w : World} {S S1 : SS} {te : TE} {ns : List Int} (h : Ee K te S (.dat (.tuple (ns.map PyData.int))) S1) (hz : ns.length ≤ 4000) : Ee K (tCB (rLenSet w) (tCons (tCB (rSetX K w) (tCons te tNil)) tNil)) S (.dat (.int ((setI ns).length : Int))) S1 := fun c Hf H σ fp ok Q q =>
  h c Hf H σ fp ok _ fun v Hf1 H1 fp1 ok1 g1 r1 => by
    cases r1 with
    | tup h1 h2 =>
      obtain rfl := RpA.ints_inv h2
      refine ⟨_, ns, rfl, .inr (sameT ok1.hd.ex h1), hz, fun p M hp => ?_⟩
      obtain ⟨ok2, g2⟩ := ok1.laid (SetO w p M (setI ns).length) hp
      exact ⟨p, M, _, rfl, upd_same, q _ _ _ _ ok2 (g1.trans g2) (Rp.int _)⟩
/-! ### a pair of values, one of them one's own -/
theorem ts_asgP {K : PySem.W.Frag} {S S1 : SS} {E : DE} {tas : TA} {x y : SD} {i j : Nat} (h : Ea K tas S [x, y] S1) (kx : E.nx { S1 with sl := (S1.sl.set i x).set j y }) : Ts K (tAsg (tTup tas) (gTup K 2 (gCons (gName i) (gCons (gName j) gNil)))) S E := fun c Hf H σ fp ok D n r bk ct =>
  h c Hf H σ fp ok _ fun vs Hf1 H1 fp1 ok1 g1 r1 => by
    cases r1 with
    | @cons v1 _ _ _ q1 r1 => cases r1 with
      | @cons v2 _ _ _ q2 r1 =>
        cases r1
        refine ⟨by show 2 ≤ sizeLine; rw [sizeLine_eq]; omega, fun p hp => ?_⟩
        obtain ⟨ok2, g2⟩ := ok1.laid (.tup [v1, v2]) hp
        refine ⟨p, [v1, v2], rfl, sameT ok2.hd.ex (.inl (.inl upd_same)), rfl, ?_⟩
        exact ⟨_, _, rfl, ⟨_, _, rfl, ⟨rfl, n _ _ _ _ _ ((ok2.put (x := x) (q1.mono g2.sm g2.pr)).put (x := y) (q2.mono g2.sm g2.pr)) (g1.trans g2) kx⟩⟩⟩
end DL

set_option maxRecDepth 100000
set_option maxHeartbeats 4000000
namespace K33
open PySem PySem.Spec PyProof.Rows L2 DL
def topS (i : Nat) : Stmt := PySem.Challenge.pw_tieskept_k33_whole_one_image_tells_all.main.body.getD i (.Pass ⟨0, 0, 0, 0⟩)
abbrev sout : Stmt := topS 1
abbrev scame : Stmt := topS 2
abbrev sexchanged : Stmt := topS 3
abbrev s_run : Stmt := topS 4
abbrev sdescending : Stmt := topS 6
abbrev sat_work : Stmt := topS 7
abbrev sis_far : Stmt := topS 13
abbrev sfirst_far : Stmt := topS 14
abbrev simage : Stmt := topS 16
abbrev skeeps_all : Stmt := topS 17
abbrev skept_all_gates : Stmt := topS 18
abbrev sword_lanes : Stmt := topS 20
abbrev srun_lanes : Stmt := topS 21
abbrev sfirst_told : Stmt := topS 22
abbrev slet_words : Stmt := topS 24
abbrev slet_rows : Stmt := topS 25
abbrev s_let_keys : Stmt := topS 26
abbrev sunlike_word : Stmt := topS 28
abbrev sleast_network : Stmt := topS 30
abbrev smended : Stmt := topS 31
abbrev s_near_network : Stmt := topS 32
abbrev s_law_loom : Stmt := topS 34
abbrev s_law_draw : Stmt := topS 35
abbrev s_law_pick : Stmt := topS 36
abbrev s_law_mixed : Stmt := topS 37
abbrev s_law_run : Stmt := topS 38
abbrev s_law_end : Stmt := topS 39
abbrev s_law_gate : Stmt := topS 40
abbrev s_law_kept : Stmt := topS 41
abbrev s_law_gates : Stmt := topS 42
abbrev s_law_weak : Stmt := topS 43
abbrev s_law_keys : Stmt := topS 44
abbrev s_law_back : Stmt := topS 45
abbrev s_law_mate : Stmt := topS 46
abbrev s_law_rows : Stmt := topS 47
abbrev s_law_are_alike : Stmt := topS 48
abbrev s_law_are_left : Stmt := topS 49
abbrev slaw : Stmt := topS 50
/-- a def of the top, as it stands -/
structure Df (K : PySem.W.Frag) (mg : Str → Option Value) (x : Str) (st : Stmt) (ps : List Str) where
  f : Addr
  fd : FuncData
  F : Fun K x x st f fd
  b : Binds K fd ps []
  m : mg x = some (.ref f)
/-- the built-ins are what they are -/
structure Bi (mg : Str → Option Value) : Prop where
  z_abs : mg "abs" = none
  z_enumerate : mg "enumerate" = none
  z_int : mg "int" = none
  z_len : mg "len" = none
  z_list : mg "list" = none
  z_max : mg "max" = none
  z_min : mg "min" = none
  z_range : mg "range" = none
  z_repr : mg "repr" = none
  z_sorted : mg "sorted" = none
  z_tuple : mg "tuple" = none
def clsBody : Stmt → List Stmt
  | .ClassDef _ _ _ b _ _ _ _ _ _ _ => b
  | _ => []
abbrev sIUnmendable : Stmt := (clsBody (topS 11)).getD 0 (.Pass ⟨0, 0, 0, 0⟩)
/-- the errors and constants of the program, as they stand -/
structure Cls (K : PySem.W.Frag) (mg : Str → Option Value) where
  aTiesError : Addr
  eTiesError : ErrC K mg "TiesError" aTiesError
  aUnfit : Addr
  eUnfit : ErrC K mg "Unfit" aUnfit
  aUnmendable : Addr
  eUnmendable : ErrC K mg "Unmendable" aUnmendable
  qUnfit : PySem.W.excIn K aUnfit veB "ValueError.__new__" = true
  oUnmendable : OexC K aUnmendable
  fUnmendable : Addr
  fdUnmendable : FuncData
  iUnmendable : PySem.W.findIn K (.ref aUnmendable) "__init__" = some (some (.ref fUnmendable))
  tUnmendable : PySem.W.typeIn K (.ref fUnmendable) = some (.type "function")
  FUnmendable : Fun K "__init__" "Unmendable.__init__" sIUnmendable fUnmendable fdUnmendable
  bUnmendable : Binds K fdUnmendable ["self", "word"] []
  noUnmendable_word : PySem.W.findIn K (.ref aUnmendable) "word" = some none
  gB : PySem.W.specialIn K (.ref aTiesError) "__getattribute__" = some (some (.builtin "type.__getattribute__"))
  rB : PySem.W.readsIn K aTiesError (.type "type") = true
  vB : PySem.W.findCls K (.ref aTiesError) (.type "type") "__init__" = some (.val (.builtin "ValueError.__init__"))
  kUnfit : PySem.W.kitOne K (.ref aUnfit) (.ref aTiesError) = some true
  sUnfit_Unmendable : PySem.W.subIn K (.ref aUnfit) (.ref aUnmendable) = some false
  kUnmendable : PySem.W.kitOne K (.ref aUnmendable) (.ref aTiesError) = some true
  sUnmendable_Unfit : PySem.W.subIn K (.ref aUnmendable) (.ref aUnfit) = some false
theorem scIUnmendable : FnScope ["self", "word"] ["self", "word"] (defScope sIUnmendable) := ⟨rfl, rfl, rfl, by decide +kernel, rfl, by decide +kernel, by decide +kernel⟩
theorem okInitUnmendable {P : Program} {w : World} {K : PySem.W.Frag} {mg : Str → Option Value} {base : Heap} (Cc : Cls K mg) : FnOk P w K mg base CX0 1 Cc.fUnmendable Cc.fdUnmendable ["self", "word"] (spI K "word") := by
  refine Cc.FUnmendable.ok scIUnmendable (fun vs H Q E h => by obtain ⟨a, C, y, rfl, _⟩ := h; rfl) (fun cdv A outer s H vs Q E hr h => ?_)
  refine ⟨_, (pss_cons (ps_expr (pe_ownInit (by rfl) Cc.eTiesError.m Cc.gB Cc.rB Cc.vB (pa_cons (pv 0) (pa_cons pe_str pa_nil))))
    (pss_one (ps_ost (f := "word") (pv 0) (pv 1)))), ?_⟩
  obtain ⟨a, C, y, rfl, o, no, ha, q⟩ := h
  exact init_reads o no ha q
section
variable {K : PySem.W.Frag}
def isIB : PyData → Bool
  | .int _ => true
  | .bool _ => true
  | _ => false
def isB : PyData → Bool
  | .bool _ => true
  | _ => false
def isI : PyData → Bool
  | .int _ => true
  | _ => false
def isT : PyData → Bool
  | .tuple _ => true
  | _ => false
def isL : PyData → Bool
  | .list _ => true
  | _ => false
def isS : PyData → Bool
  | .str _ => true
  | _ => false
theorem kit_int (d : PyData) : PySem.W.kitOne K (.type (tyD d)) (.type "int") = some (isIB d) := by
  cases d with
  | none => exact kit_ty (a := "NoneType") (b := "int") (r := false) (by decide +kernel)
  | bool x => exact kit_ty (a := "bool") (b := "int") (r := true) (by decide +kernel)
  | int x => exact kit_ty (a := "int") (b := "int") (r := true) (by decide +kernel)
  | str x => exact kit_ty (a := "str") (b := "int") (r := false) (by decide +kernel)
  | list x => exact kit_ty (a := "list") (b := "int") (r := false) (by decide +kernel)
  | tuple x => exact kit_ty (a := "tuple") (b := "int") (r := false) (by decide +kernel)
  | dict x => exact kit_ty (a := "dict") (b := "int") (r := false) (by decide +kernel)
theorem kit_bool (d : PyData) : PySem.W.kitOne K (.type (tyD d)) (.type "bool") = some (isB d) := by
  cases d with
  | none => exact kit_ty (a := "NoneType") (b := "bool") (r := false) (by decide +kernel)
  | bool x => exact kit_ty (a := "bool") (b := "bool") (r := true) (by decide +kernel)
  | int x => exact kit_ty (a := "int") (b := "bool") (r := false) (by decide +kernel)
  | str x => exact kit_ty (a := "str") (b := "bool") (r := false) (by decide +kernel)
  | list x => exact kit_ty (a := "list") (b := "bool") (r := false) (by decide +kernel)
  | tuple x => exact kit_ty (a := "tuple") (b := "bool") (r := false) (by decide +kernel)
  | dict x => exact kit_ty (a := "dict") (b := "bool") (r := false) (by decide +kernel)
theorem kit_tuple (d : PyData) : PySem.W.kitOne K (.type (tyD d)) (.type "tuple") = some (isT d) := by
  cases d with
  | none => exact kit_ty (a := "NoneType") (b := "tuple") (r := false) (by decide +kernel)
  | bool x => exact kit_ty (a := "bool") (b := "tuple") (r := false) (by decide +kernel)
  | int x => exact kit_ty (a := "int") (b := "tuple") (r := false) (by decide +kernel)
  | str x => exact kit_ty (a := "str") (b := "tuple") (r := false) (by decide +kernel)
  | list x => exact kit_ty (a := "list") (b := "tuple") (r := false) (by decide +kernel)
  | tuple x => exact kit_ty (a := "tuple") (b := "tuple") (r := true) (by decide +kernel)
  | dict x => exact kit_ty (a := "dict") (b := "tuple") (r := false) (by decide +kernel)
theorem kit_list (d : PyData) : PySem.W.kitOne K (.type (tyD d)) (.type "list") = some (isL d) := by
  cases d with
  | none => exact kit_ty (a := "NoneType") (b := "list") (r := false) (by decide +kernel)
  | bool x => exact kit_ty (a := "bool") (b := "list") (r := false) (by decide +kernel)
  | int x => exact kit_ty (a := "int") (b := "list") (r := false) (by decide +kernel)
  | str x => exact kit_ty (a := "str") (b := "list") (r := false) (by decide +kernel)
  | list x => exact kit_ty (a := "list") (b := "list") (r := true) (by decide +kernel)
  | tuple x => exact kit_ty (a := "tuple") (b := "list") (r := false) (by decide +kernel)
  | dict x => exact kit_ty (a := "dict") (b := "list") (r := false) (by decide +kernel)
theorem kit_str (d : PyData) : PySem.W.kitOne K (.type (tyD d)) (.type "str") = some (isS d) := by
  cases d with
  | none => exact kit_ty (a := "NoneType") (b := "str") (r := false) (by decide +kernel)
  | bool x => exact kit_ty (a := "bool") (b := "str") (r := false) (by decide +kernel)
  | int x => exact kit_ty (a := "int") (b := "str") (r := false) (by decide +kernel)
  | str x => exact kit_ty (a := "str") (b := "str") (r := true) (by decide +kernel)
  | list x => exact kit_ty (a := "list") (b := "str") (r := false) (by decide +kernel)
  | tuple x => exact kit_ty (a := "tuple") (b := "str") (r := false) (by decide +kernel)
  | dict x => exact kit_ty (a := "dict") (b := "str") (r := false) (by decide +kernel)
theorem isI_eq (d : PyData) : (isIB d && !isB d) = isI d := by cases d <;> rfl
end
theorem huX {k : Nat} {A : Around} (hr : Room k A) : A.units + 100 < cLine := by
  have := hr.un
  omega
end K33

set_option maxRecDepth 100000
set_option maxHeartbeats 4000000
namespace K33
open PySem PySem.Spec PyProof.Rows L2 DL
theorem ix_at {xs : List PyData} {i : Nat} {z : Int} {d : PyData} (h : xs[i]? = some d) (e : z = (i : Int)) : atI xs z = some d := by
  rw [e]
  exact atI_nat h
theorem getD_at {xs : List PyData} {i : Nat} {d : PyData} (h : xs[i]? = some d) : xs.getD i .none = d := by
  rw [List.getD_eq_getElem?_getD, h]
  rfl
def toI : PyData → Int
  | .int i => i
  | _ => 0
/-! ### the well and its draws -/
structure Well where
  deep : List Int
  s : Int
  t : Int
def Well.oo (W : Well) : OO := .well W.deep W.s W.t
def mixed (s t : Int) : Int :=
  let a := (s + 2654435761 * t) % 4294967279
  let b := (a * a + 40503 * t + 17) % 4294967231
  (b * b + s) % 4294967197
def draw (m : Int) (W : Well) : Int × Well :=
  if m < 2 then (0, W)
  else match W.deep.getLast? with
    | some x => (x % m, { W with deep := if m ≤ x then W.deep.dropLast ++ [x / m] else W.deep.dropLast })
    | none => (mixed W.s (W.t + 1) / 128 % m, { W with t := W.t + 1 })
theorem draw_lo (m : Int) (W : Well) : 0 ≤ (draw m W).1 := by
  unfold draw
  by_cases h : m < 2
  · rw [if_pos h]
    exact Int.le_refl 0
  · rw [if_neg h]
    cases W.deep.getLast? with
    | some x => exact Int.emod_nonneg _ (by omega)
    | none => exact Int.emod_nonneg _ (by omega)
theorem draw_hi {m : Int} (W : Well) (hm : 1 ≤ m) : (draw m W).1 < m := by
  unfold draw
  by_cases h : m < 2
  · rw [if_pos h]
    show (0 : Int) < m
    omega
  · rw [if_neg h]
    cases W.deep.getLast? with
    | some x => exact Int.emod_lt_of_pos _ (by omega)
    | none => exact Int.emod_lt_of_pos _ (by omega)
theorem draw_at (m : Int) (W : Well) : ∃ v W', draw m W = (v, W') ∧ 0 ≤ v ∧ (1 ≤ m → v < m) := ⟨(draw m W).1, (draw m W).2, rfl, draw_lo m W, draw_hi W⟩
section
variable {P : Program} {w : World} {K : PySem.W.Frag} {mg : Str → Option Value} {base : Heap}
def R_draw : FR := fun as ob r ob' => ∃ m W v W', as = [.own 0, .dat (.int m)] ∧ m ≤ 2000000000000 ∧ W.deep.length ≤ 100 ∧ ob = [W.oo] ∧ draw m W = (v, W') ∧ r = .dat (.int v) ∧ ob' = [W'.oo]
theorem div_ok {i m : Int} (h : 2 ≤ m) (h2 : m ≤ 2000000000000) : CDivW i m := by
  refine wide_div (b := 41) (by omega) ?_ (by decide) (by decide)
  rw [show (2 : Nat) ^ 41 = 2199023255552 from by decide]
  omega
theorem h1of {A : Around} (h : A.units + 100 < cLine) : A.units + 1 < cLine := by omega
theorem sc_law_draw : FnScope ["loom", "many", "cell", "one"] ["loom", "many"] (defScope s_law_draw) := ⟨rfl, rfl, rfl, by decide +kernel, rfl, by decide +kernel, by decide +kernel⟩
theorem ok_law_draw (D : Df K mg "_law_draw" s_law_draw ["loom", "many"]) (B : Bi mg) (Cc : Cls K mg) : FnG P w K mg base CX0 1 D.f D.fd ["loom", "many"] (spD K 2 R_draw) := by
  refine okG D.F sc_law_draw (fun vs H Q E h => h.1) (fun cdv A outer s H vs Q E hr gd h => ?_)
  have hu := huX hr
  refine ⟨_, (pss_cons (ps_if (pt_cmpR (op_ltU hu) (pv 1) pe_int (nomark _)) (pss_one (ps_ret pe_int)) pss_nil)
      (pss_cons (ps_if (pt_cmpR (op_neU hu) (pe_dget (h1of hu) (pv 0) pe_str (fun _ _ => rfl)) (pe_lst pa_nil) (nomark _)) (pss_cons (ps_set (i := 2) sc_law_draw.nd rfl (Or.inl rfl) (pe_bm0 PySem.F.plainAttrs_list PySem.F.slot_list_pop PySem.F.type_list_pop mt_pop (pe_dget (h1of hu) (pv 0) pe_str (fun _ _ => rfl))))
        (pss_cons (ps_if (pt_cmpR op_geU (pv 2) (pv 1) (nomark _)) (pss_one (ps_expr (pe_bm PySem.F.plainAttrs_list PySem.F.slot_list_append PySem.F.type_list_append mt_append (pe_dget (h1of hu) (pv 0) pe_str (fun _ _ => rfl)) (pa_cons (pe_op op_divU (pv 2) (pv 1)) pa_nil)))) pss_nil)
        (pss_one (ps_ret (pe_op op_modU (pe_callTy cb_int (by rfl) B.z_int (by decide +kernel) (pa_cons (pv 2) pa_nil)) (pv 1)))))) pss_nil)
      (pss_cons (ps_dput (h1of hu) (pv 0) pe_str (pe_op op_plus (pe_dget (h1of hu) (pv 0) pe_str (fun _ _ => rfl)) pe_int) rfl)
      (pss_cons (ps_set (i := 3) sc_law_draw.nd rfl (Or.inl rfl) (pe_op op_modU (pe_callTy cb_int (by rfl) B.z_int (by decide +kernel) (pa_cons (pe_op op_plus (pe_dget (h1of hu) (pv 0) pe_str (fun _ _ => rfl)) (pe_op op_mulU pe_int (pe_dget (h1of hu) (pv 0) pe_str (fun _ _ => rfl)))) pa_nil)) pe_int))
      (pss_cons (ps_set (i := 3) sc_law_draw.nd rfl (Or.inl rfl) (pe_op op_modU (pe_callTy cb_int (by rfl) B.z_int (by decide +kernel) (pa_cons (pe_op op_plus (pe_op op_plus (pe_op op_mulU (pv 3) (pv 3)) (pe_op op_mulU pe_int (pe_dget (h1of hu) (pv 0) pe_str (fun _ _ => rfl)))) pe_int) pa_nil)) pe_int))
      (pss_cons (ps_set (i := 3) sc_law_draw.nd rfl (Or.inl rfl) (pe_op op_modU (pe_callTy cb_int (by rfl) B.z_int (by decide +kernel) (pa_cons (pe_op op_plus (pe_op op_mulU (pv 3) (pv 3)) (pe_dget (h1of hu) (pv 0) pe_str (fun _ _ => rfl))) pa_nil)) pe_int))
      (pss_one (ps_ret (pe_op op_modU (pe_callTy cb_int (by rfl) B.z_int (by decide +kernel) (pa_cons (pe_op op_divU (pv 3) pe_int) pa_nil)) (pv 1)))))))))), ?_⟩
  refine body_of h (by decide) fun as ob r ob' hR hl => ?_
  obtain ⟨m, W, v, W', rfl, hm, hd, rfl, hdr, rfl, rfl⟩ := hR
  obtain ⟨deep, s0, t0⟩ := W
  have hd' : deep.length ≤ 100 := hd
  have hS : (entry 4 [SD.own 0, .dat (.int m)] [Well.oo ⟨deep, s0, t0⟩]) = ⟨[.own 0, .dat (.int m), .un, .un], [.well deep s0 t0]⟩ := rfl
  refine ts_seq (ts_if (et_test (ee_op (ee_var rfl) ee_int ro_lt)) (fun hb => ?_) fun hb => ts_next ?_)
  · have hlt : m < 2 := of_decide_eq_true hb
    have e : draw m ⟨deep, s0, t0⟩ = (0, ⟨deep, s0, t0⟩) := by
      unfold draw
      rw [if_pos hlt]
    rw [e] at hdr
    obtain ⟨rfl, rfl⟩ := Prod.mk.inj hdr
    exact ts_ret ee_int ⟨rfl, rfl⟩
  · have hge : ¬ m < 2 := of_decide_eq_false hb
    refine ts_seq (ts_if (et_test (ee_wne (ee_var rfl) rfl)) (fun hc => ?_) fun hc => ts_next ?_)
    · have hne : deep ≠ [] := by
        intro z
        rw [z] at hc
        cases hc
      obtain ⟨ds, x, rfl⟩ : ∃ ds x, deep = ds ++ [x] := ⟨deep.dropLast, deep.getLast hne, (List.dropLast_concat_getLast hne).symm⟩
      have e : draw m ⟨ds ++ [x], s0, t0⟩ = (x % m, ⟨if m ≤ x then ds ++ [x / m] else ds, s0, t0⟩) := by
        unfold draw
        rw [if_neg hge]
        show (match (ds ++ [x]).getLast? with
          | some x_1 => _
          | none => _) = _
        rw [List.getLast?_concat]
        show (x % m, (⟨if m ≤ x then (ds ++ [x]).dropLast ++ [x / m] else (ds ++ [x]).dropLast, s0, t0⟩ : Well)) = _
        rw [List.dropLast_concat]
      rw [e] at hdr
      obtain ⟨rfl, rfl⟩ := Prod.mk.inj hdr
      refine ts_seq (ts_asg (ee_wpop (ee_var rfl) rfl) ?_)
      have fin : ∀ (nx0 : SS → Prop) (es : List Int), (if m ≤ x then ds ++ [x / m] else ds) = es → Ts K (tRet (tOp rMod' (tCB rInt1 (tCons (tVar 2) tNil)) (tVar 1))) ⟨[.own 0, .dat (.int m), .dat (.int x), .un], [.well es s0 t0]⟩
          { nx := nx0, rt := fun y S' => y = .dat (.int (x % m)) ∧ S'.ob = [Well.oo ⟨if m ≤ x then ds ++ [x / m] else ds, s0, t0⟩] } := fun nx0 es he => by
        rw [he]
        exact ts_ret (ee_op (ee_cb (ea_cons (ee_var rfl) ea_nil) rc_intI) (ee_var rfl) (ro_mod (by omega))) ⟨rfl, rfl⟩
      refine ts_seq (ts_if (et_test (ee_op (ee_var rfl) (ee_var rfl) ro_ge)) (fun hx => ts_drop (ee_wapp (ee_var rfl) ⟨_, _, _, rfl⟩ (ee_op (ee_var rfl) (ee_var rfl) (ro_div (div_ok (by omega) hm))) rfl rfl ?_) ?_) fun hx => ts_next ?_)
      · rw [List.length_append] at hd'
        omega
      · exact fin _ _ (by rw [if_pos (of_decide_eq_true hx)])
      · exact fin _ _ (by rw [if_neg (of_decide_eq_false hx)])
    · have hn : deep = [] := by
        cases deep with
        | nil => rfl
        | cons y ys => cases hc
      subst hn
      have e : draw m ⟨[], s0, t0⟩ = (mixed s0 (t0 + 1) / 128 % m, ⟨[], s0, t0 + 1⟩) := by
        unfold draw
        rw [if_neg hge]
        rfl
      rw [e] at hdr
      obtain ⟨rfl, rfl⟩ := Prod.mk.inj hdr
      have bd : ∀ y k : Int, 0 < k → k < 2 ^ 32 → -(2 ^ 64) < y % k ∧ y % k < 2 ^ 64 := fun y k h1 h2 => by
        have := Int.emod_nonneg y (show k ≠ 0 by omega)
        have := Int.emod_lt_of_pos y h1
        omega
      refine ts_seq (ts_wturn (ee_op (ee_wT (ee_var rfl) rfl) ee_int ro_add) (ee_var rfl) rfl ?_)
      refine ts_seq (ts_asg (ee_op (ee_cb (ea_cons (ee_op (ee_wS (ee_var rfl) rfl) (ee_op ee_int (ee_wT (ee_var rfl) rfl) (ro_mulL (by decide))) ro_add) ea_nil) rc_intI) ee_int (ro_mod (by decide))) ?_)
      refine ts_seq (ts_asg (ee_op (ee_cb (ea_cons (ee_op (ee_op (ee_op (ee_var rfl) (ee_var rfl) (ro_mulL (bd _ _ (by decide) (by decide)))) (ee_op ee_int (ee_wT (ee_var rfl) rfl) (ro_mulL (by decide))) ro_add) ee_int ro_add) ea_nil) rc_intI) ee_int (ro_mod (by decide))) ?_)
      refine ts_seq (ts_asg (ee_op (ee_cb (ea_cons (ee_op (ee_op (ee_var rfl) (ee_var rfl) (ro_mulL (bd _ _ (by decide) (by decide)))) (ee_wS (ee_var rfl) rfl) ro_add) ea_nil) rc_intI) ee_int (ro_mod (by decide))) ?_)
      exact ts_ret (ee_op (ee_cb (ea_cons (ee_op (ee_var rfl) ee_int (ro_div (div_ok (by decide) (by decide)))) ea_nil) rc_intI) (ee_var rfl) (ro_mod (by omega))) ⟨rfl, rfl⟩
end
end K33

set_option maxRecDepth 100000
set_option maxHeartbeats 4000000
namespace K33
open PySem PySem.Spec PyProof.Rows L2 DL
/-! ### the well of a script -/
def cellOf (x : Int) : Int := 2 * (if x < 0 then -x else x) + (if decide (x < 0) = true then 1 else 0)
def cellsOf (ns : List Int) : List Int := (ns.take 63).map cellOf
def stirOne (s c : Int) : Int := (s * 48271 + c + 7) % 4294967291
def wellOf (ns : List Int) : Well := ⟨(cellsOf ns).filter fun c => decide ((10 : Int) ^ (15 : Int).toNat ≤ c), (cellsOf ns).foldl stirOne (35753 + 5 * (ns.length : Int)), 0⟩
theorem well_small (ns : List Int) : (wellOf ns).deep.length ≤ 100 := by
  have h1 : (wellOf ns).deep.length ≤ (cellsOf ns).length := List.length_filter_le _ _
  have h2 : (cellsOf ns).length ≤ 63 := by
    unfold cellsOf
    rw [List.length_map, List.length_take]
    omega
  omega
theorem draw_deep (m : Int) (W : Well) (h : W.deep.length ≤ 100) : (draw m W).2.deep.length ≤ 100 := by
  unfold draw
  by_cases h1 : m < 2
  · rw [if_pos h1]
    exact h
  · rw [if_neg h1]
    cases hg : W.deep.getLast? with
    | none => exact h
    | some x =>
      have hne : W.deep ≠ [] := fun z => by
        rw [z] at hg
        cases hg
      have hl : 0 < W.deep.length := List.length_pos_iff.mpr hne
      show (if m ≤ x then W.deep.dropLast ++ [x / m] else W.deep.dropLast).length ≤ 100
      split
      · rw [List.length_append, List.length_dropLast, List.length_singleton]
        omega
      · rw [List.length_dropLast]
        omega
theorem take_snoc {α : Type} {l : List α} {i : Nat} {x : α} (h : l[i]? = some x) : l.take (i + 1) = l.take i ++ [x] := by
  rw [List.take_add_one, h]
  rfl
theorem int_at {ns : List Int} {i : Nat} {d : PyData} (h : (ns.map PyData.int)[i]? = some d) : ∃ x, ns[i]? = some x ∧ d = .int x := by
  rw [List.getElem?_map] at h
  cases e : ns[i]? with
  | none =>
    rw [e] at h
    cases h
  | some x =>
    rw [e] at h
    exact ⟨x, rfl, (Option.some.inj h).symm⟩
section
variable {P : Program} {w : World} {K : PySem.W.Frag} {mg : Str → Option Value} {base : Heap}
def IsScr (d : SD) (ns : List Int) : Prop := d = .scr ns ∨ d = .dat (.list (ns.map PyData.int))
theorem el_slW {K : PySem.W.Frag} {S S1 S2 S3 : SS} {te : TE} {tl th : TO} {lo hi : Option Int} {d : SD} {ns : List Int} (hd : IsScr d ns) (h : Ee K te S d S1) (hl : Eo K tl S1 lo S2) (hh : Eo K th S2 hi S3) : El K (tSl (rSlU K) te tl th) S (cutD (ns.map PyData.int) lo hi) S3 := by
  rcases hd with rfl | rfl
  · exact el_slScr h hl hh
  · exact el_slU h hl hh (.dat _)
theorem rc_lenW {K : PySem.W.Frag} {S : SS} {d : SD} {ns : List Int} (hd : IsScr d ns) : Rc K (DL.rLen K) [d] S (.dat (.int ns.length)) S := by
  rcases hd with rfl | rfl
  · exact rc_lenScr
  · have := rc_lenL (K := K) (S := S) (x := .dat (.list (ns.map PyData.int))) (ds := ns.map PyData.int) (.dat _)
    rw [List.length_map] at this
    exact this
def R_well : FR := fun as ob r ob' => ∃ d ns, as = [d] ∧ IsScr d ns ∧ ob = [] ∧ r = .own 0 ∧ ob' = [(wellOf ns).oo]
theorem sc_law_loom : FnScope ["script", "cell", "cells", "stirred"] ["script"] (defScope s_law_loom) := ⟨rfl, rfl, rfl, by decide +kernel, rfl, by decide +kernel, by decide +kernel⟩
theorem ok_law_loom (D : Df K mg "_law_loom" s_law_loom ["script"]) (B : Bi mg) (Cc : Cls K mg) : FnG P w K mg base CX0 1 D.f D.fd ["script"] (spD K 1 R_well) := by
  refine okG D.F sc_law_loom (fun vs H Q E h => h.1) (fun cdv A outer s H vs Q E hr gd h => ?_)
  have hu := huX hr
  refine ⟨_, (pss_cons (ps_par (i := 2) (j := 3) (by rfl) sc_law_loom.nd rfl rfl (by decide) rfl rfl (pa_cons (pe_lc (own := [("cell", 1)]) (g := gName 1) (tt := tYes) (by rfl) sc_law_loom.nd (pi_list (pe_slice sl_any (pv 0) po_none (po_some pe_int))) (blkOk_by (own := [("cell", 1)]) (N := ["script", "cell", "cells", "stirred"]) (sc := defScope s_law_loom) (by decide +kernel)) (fun _ _ _ _ _ => (pg_name (i := 1) sc_law_loom.nd rfl (Or.inl rfl))) (fun _ _ _ _ _ => pts_nil) (fun _ _ _ _ _ => (pe_op (opK K (R := rPlus) op_plus rfl) (pe_op (opK K (R := rMulU) op_mulU rfl) pe_int (pe_callB cb_abs (by rfl) B.z_abs (by decide +kernel) (pa_cons (pv 1) pa_nil))) (pe_callTy cb_int (by rfl) B.z_int (by decide +kernel) (pa_cons (pe_cmpR (opK K (R := rLtU) (op_ltU hu) rfl) (pv 1) pe_int (nomark _)) pa_nil))))) (pa_cons (pe_op op_plus pe_int (pe_op op_mulU pe_int (pe_callB cb_len (by rfl) B.z_len PySem.boot_len (pa_cons (pv 0) pa_nil)))) pa_nil)) (by rfl))
      (pss_cons (ps_for PassesOwn.never rfl (pi_list (pv 2)) (pg_name (i := 1) sc_law_loom.nd rfl (Or.inl rfl))
        (pss_one (ps_set (i := 3) sc_law_loom.nd rfl (Or.inl rfl) (pe_op op_modU (pe_callTy cb_int (by rfl) B.z_int (by decide +kernel) (pa_cons (pe_op op_plus (pe_op op_plus (pe_op op_mulU (pv 3) pe_int) (pv 1)) pe_int) pa_nil)) pe_int))))
      (pss_one (ps_ret (pe_disp (pps_cons pe_str (pe_lc (own := [("cell", 1)]) (g := gName 1) (by rfl) sc_law_loom.nd (pi_list (pv 2)) (blkOk_by (own := [("cell", 1)]) (N := ["script", "cell", "cells", "stirred"]) (sc := defScope s_law_loom) (by decide +kernel)) (fun _ _ _ _ _ => (pg_name (i := 1) sc_law_loom.nd rfl (Or.inl rfl))) (fun _ _ _ _ _ => (pts_one (pt_cmpR op_geU (pv 1) (pe_op op_powU pe_int pe_int) (nomark _)))) (fun _ _ _ _ _ => (pv 1))) (pps_cons pe_str (pv 3) (pps_cons pe_str pe_int pps_nil))) (by rfl) (by rfl) (fun z => by cases z) (by decide)))))), ?_⟩
  refine body_of h (by decide) fun as ob r ob' hR hl => ?_
  obtain ⟨dz, ns, rfl, hdz, rfl, rfl, rfl⟩ := hR
  have hdn : dz ≠ .un := by rcases hdz with rfl | rfl <;> intro z <;> cases z
  have hc63 : (ns.take 63).length ≤ 63 := by
    rw [List.length_take]
    omega
  refine ts_seq (ts_par (x := .dat (.list ((cellsOf ns).map PyData.int))) (y := .dat (.int (35753 + 5 * (ns.length : Int)))) (S1 := ⟨[dz, .un, .un, .un], []⟩)
    (ea_cons (S1 := ⟨[dz, .un, .un, .un], []⟩) (ee_of_el (el_lc (S0 := ⟨[dz, .un, .un, .un], []⟩) (ds := (ns.take 63).map PyData.int) ?_ (fun i acc ob => acc = ((cellsOf ns).take i).map PyData.int ∧ ob = []) ⟨rfl, rfl⟩ ?_ ?_ ?_)) (ea_cons (ee_op ee_int (ee_op ee_int (ee_cb (ea_cons (ee_var rfl hdn) ea_nil) (rc_lenW hdz)) (ro_mulL (by decide))) ro_add) ea_nil)) ?_)
  · have := ei_list (ee_of_el (el_slW (K := K) hdz (ee_var (i := 0) (S := ⟨[dz, .un, .un, .un], []⟩) rfl hdn) eo_none (eo_some (ee_int (j := 63)))))
    rw [show (63 : Int) = ((63 : Nat) : Int) from rfl, cut_take] at this
    exact this
  · rintro i d acc ob hd ⟨rfl, rfl⟩
    obtain ⟨x, hx, rfl⟩ := int_at hd
    refine ⟨_, true, _, egc_name (by decide), et_yes, (fun z => by cases z), fun _ => ⟨.int (cellOf x), _, ee_op (ee_op ee_int (ee_cb (ea_cons (ee_var rfl) ea_nil) rc_abs) (ro_mulL (by decide))) (ee_cb (ea_cons (ee_op (ee_var rfl) ee_int ro_lt) ea_nil) rc_intB) ro_add, ?_, rfl⟩⟩
    rw [take_snoc (x := cellOf x) (by unfold cellsOf; rw [List.getElem?_map, hx]; rfl), List.map_append]
    rfl
  · rw [List.length_map]
    omega
  · rintro acc ob ⟨rfl, rfl⟩
    refine ⟨?_, rfl⟩
    rw [List.length_map, List.take_of_length_le]
    unfold cellsOf
    rw [List.length_map]
    exact Nat.le_refl _
  · have hlc : (cellsOf ns).length ≤ 63 := by
      unfold cellsOf
      rw [List.length_map]
      exact hc63
    refine ts_seq (ts_for (ei_list (ds := (cellsOf ns).map PyData.int) (ee_var rfl)) (fun i S => ∃ z, S = ⟨[dz, z, .dat (.list ((cellsOf ns).map PyData.int)), .dat (.int (((cellsOf ns).take i).foldl stirOne (35753 + 5 * (ns.length : Int))))], []⟩) ⟨.un, rfl⟩ ?_ ?_)
    · rintro i d S' hd ⟨z, rfl⟩
      obtain ⟨x, hx, rfl⟩ := int_at hd
      refine ⟨_, eg_name, ts_asg (ee_op (ee_cb (ea_cons (ee_op (ee_op (ee_op (ee_var rfl) ee_int (ro_mulR (by decide))) (ee_var rfl) ro_add) ee_int ro_add) ea_nil) rc_intI) ee_int (ro_mod (by decide))) ⟨.dat (.int x), ?_⟩⟩
      rw [take_snoc hx, List.foldl_append]
      rfl
    · rintro S' ⟨z, rfl⟩
      rw [List.length_map, List.take_of_length_le (Nat.le_refl _)]
      refine ts_ret (ee_newwell (ds := (wellOf ns).deep) (s := (wellOf ns).s) (t := 0) (S1 := ⟨[dz, z, .dat (.list ((cellsOf ns).map PyData.int)), .dat (.int ((cellsOf ns).foldl stirOne (35753 + 5 * (ns.length : Int))))], []⟩) (el_lc (ei_list (ds := (cellsOf ns).map PyData.int) (ee_var rfl)) (fun i acc ob => acc = (((cellsOf ns).take i).filter fun c => decide ((10 : Int) ^ (15 : Int).toNat ≤ c)).map PyData.int ∧ ob = []) ⟨rfl, rfl⟩ ?_ ?_ ?_) (ee_var rfl) ee_int) ⟨rfl, rfl⟩
      · rintro i d acc ob hd ⟨rfl, rfl⟩
        obtain ⟨x, hx, rfl⟩ := int_at hd
        refine ⟨_, decide ((10 : Int) ^ (15 : Int).toNat ≤ x), _, egc_name (by decide), et_test (ee_op (ee_var rfl) (ee_op ee_int ee_int ro_pow) ro_ge), fun hb => ⟨?_, rfl⟩, fun hb => ⟨.int x, _, ee_var rfl, ?_, rfl⟩⟩
        · rw [take_snoc hx, List.filter_append, List.filter_cons, hb]
          simp
        · rw [take_snoc hx, List.filter_append, List.filter_cons, hb]
          simp
      · rw [List.length_map]
        omega
      · rintro acc ob ⟨rfl, rfl⟩
        refine ⟨?_, rfl⟩
        rw [List.length_map, List.take_of_length_le (Nat.le_refl _)]
        rfl
/-! ### draws as one step -/
theorem ee_drw {E : XK} {ta : TA} {S S1 : SS} {m v : Int} {W W' : Well} {k : Nat} (ha : Ea K ta S [.own k, .dat (.int m)] S1) (ho : S1.ob[k]? = some W.oo) (hdr : draw m W = (v, W')) (hm : m ≤ 2000000000000) (hd : W.deep.length ≤ 100) :
    Ee K (tCall (spD K 2 R_draw) [] E ta) S (.dat (.int v)) { S1 with ob := S1.ob.set k W'.oo } :=
  ee_call1 (k := k) (as := [.own 0, .dat (.int m)]) (r := .dat (.int v)) (o' := W'.oo) ha rfl (fun a h j e => by
    subst e
    rcases List.mem_cons.mp h with e | e
    · cases e
      rfl
    · rw [List.mem_singleton] at e
      cases e) rfl ho (fun z => by cases z) (fun _ z => by cases z) ⟨m, W, v, W', rfl, hm, hd, rfl, hdr, rfl, rfl⟩
def R_pick : FR := fun as ob r ob' => ∃ W ds v W' d, as = [.own 0, .dat (.list ds)] ∧ ob = [W.oo] ∧ W.deep.length ≤ 100 ∧ ds.length ≤ 1000 ∧ draw ds.length W = (v, W') ∧ ds[v.toNat]? = some d ∧ r = .dat d ∧ ob' = [W'.oo]
theorem sc_law_pick : FnScope ["loom", "things"] ["loom", "things"] (defScope s_law_pick) := ⟨rfl, rfl, rfl, by decide +kernel, rfl, by decide +kernel, by decide +kernel⟩
theorem ok_law_pick (D : Df K mg "_law_pick" s_law_pick ["loom", "things"]) (B : Bi mg) (Cc : Cls K mg) (D_law_draw : Df K mg "_law_draw" s_law_draw ["loom", "many"]) : FnG P w K mg base CX0 2 D.f D.fd ["loom", "things"] (spD K 2 R_pick) := by
  have ok_law_draw : FnG P w K mg base CX0 1 _ _ _ _ := ok_law_draw D_law_draw B Cc
  refine okG D.F sc_law_pick (fun vs H Q E h => h.1) (fun cdv A outer s H vs Q E hr gd h => ?_)
  have hu := huX hr
  refine ⟨_, (pss_one (ps_ret (pe_ix ix_seq (pv 1) (pe_callG (ok_law_draw) (hr.mono (by decide)) gd (by rfl) D_law_draw.m D_law_draw.F.kp D_law_draw.b .nil pass0 (pa_cons (pv 0) (pa_cons (pe_callB cb_len (by rfl) B.z_len PySem.boot_len (pa_cons (pv 1) pa_nil)) pa_nil))) (fun _ _ => rfl)))), ?_⟩
  refine body_of h (by decide) fun as ob r ob' hR hl => ?_
  obtain ⟨W, ds, v, W', d, rfl, rfl, hd, hz, hdr, he, rfl, rfl⟩ := hR
  have h0 : 0 ≤ v := by
    have := draw_lo (ds.length : Int) W
    rw [hdr] at this
    exact this
  refine ts_ret (ee_op (ee_var rfl) (ee_drw (ea_cons (ee_var rfl) (ea_cons (ee_cb (ea_cons (ee_var rfl) ea_nil) (rc_lenL (.dat _))) ea_nil)) rfl hdr (by omega) hd) (ro_ixL (.dat _) ?_)) ⟨rfl, rfl⟩
  exact ix_at he (by omega)
theorem ee_dr {E : XK} {ta : TA} {S S1 : SS} {m : Int} {W : Well} {k : Nat} (ha : Ea K ta S [.own k, .dat (.int m)] S1) (ho : S1.ob[k]? = some W.oo) (hm : m ≤ 2000000000000) (hd : W.deep.length ≤ 100) :
    Ee K (tCall (spD K 2 R_draw) [] E ta) S (.dat (.int (draw m W).1)) { S1 with ob := S1.ob.set k (draw m W).2.oo } := ee_drw ha ho rfl hm hd
end
section
variable {P : Program} {w : World} {K : PySem.W.Frag} {mg : Str → Option Value} {base : Heap}
theorem ee_pck {E : XK} {ta : TA} {S S1 : SS} {ds : List PyData} {v : Int} {d : PyData} {W W' : Well} {k : Nat} (ha : Ea K ta S [.own k, .dat (.list ds)] S1) (ho : S1.ob[k]? = some W.oo) (hdr : draw ds.length W = (v, W')) (he : ds[v.toNat]? = some d) (hm : ds.length ≤ 1000) (hd : W.deep.length ≤ 100) :
    Ee K (tCall (spD K 2 R_pick) [] E ta) S (.dat d) { S1 with ob := S1.ob.set k W'.oo } :=
  ee_call1 (k := k) (as := [.own 0, .dat (.list ds)]) (r := .dat d) (o' := W'.oo) ha rfl (fun a h j e => by
    subst e
    rcases List.mem_cons.mp h with e | e
    · cases e
      rfl
    · rw [List.mem_singleton] at e
      cases e) rfl ho (fun z => by cases z) (fun _ z => by cases z) ⟨W, ds, v, W', d, rfl, rfl, hd, hm, hdr, he, rfl, rfl⟩
theorem ee_w1 {E : XK} {ta : TA} {S S1 : SS} {R : FR} {np k : Nat} {W W' : Well} {d : PyData} (ds : List PyData) (ha : Ea K ta S (.own k :: ds.map SD.dat) S1) (ho : S1.ob[k]? = some W.oo) (hl : ds.length + 1 = np) (hR : R (.own 0 :: ds.map SD.dat) [W.oo] (.dat d) [W'.oo]) :
    Ee K (tCall (spD K np R) [] E ta) S (.dat d) { S1 with ob := S1.ob.set k W'.oo } := by
  refine ee_call1 (k := k) (as := .own 0 :: ds.map SD.dat) (r := .dat d) (o' := W'.oo) ha ?_ (fun a h j e => ?_) ?_ ho (fun z => by cases z) (fun _ z => by cases z) hR
  · rw [List.map_cons, List.map_map]
    rfl
  · subst e
    rcases List.mem_cons.mp h with e | e
    · cases e
      rfl
    · obtain ⟨x, _, e⟩ := List.mem_map.mp e
      cases e
  · rw [List.length_cons, List.length_map]
    exact hl
end
end K33

set_option maxRecDepth 100000
set_option maxHeartbeats 4000000
namespace K33
open PySem PySem.Spec PyProof.Rows L2 DL
/-! ### values whose text is short -/
structure Nc (k b : Nat) (d : PyData) : Prop where
  s : d.showable = true
  t : d.depth ≤ k
  z : d.shown.length ≤ b
theorem Nc.mono {k b k' b' : Nat} {d : PyData} (h : Nc k b d) (h1 : k ≤ k') (h2 : b ≤ b') : Nc k' b' d := ⟨h.s, Nat.le_trans h.t h1, Nat.le_trans h.z h2⟩
theorem piled_le {b : Nat} : ∀ {ts : List Str}, (∀ t ∈ ts, t.length ≤ b) → piled ts ≤ ts.length * (b + 2)
  | [], _ => Nat.zero_le _
  | t :: r, h => by
    rw [piled_cons, List.length_cons, Nat.succ_mul]
    have := h t List.mem_cons_self
    have := piled_le (ts := r) fun x hx => h x (List.mem_cons_of_mem _ hx)
    omega
theorem tupleText_le (ts : List Str) : (tupleText ts).length ≤ piled ts + 3 := by
  unfold tupleText
  rw [strLen_append, strLen_append]
  have e1 : ((("(" : String) : Str)).length = 1 := rfl
  have e3 : (((if ts.length == 1 then ",)" else ")" : String) : Str)).length ≤ 2 := by split <;> decide
  rw [e1]
  by_cases h : ts = []
  · subst h
    have : (Str.join ", " []).length = 0 := rfl
    omega
  · have := join_length_add ts h
    omega
theorem listText_le : ∀ ts : List Str, (listText ts).length ≤ piled ts + 2
  | [] => by decide
  | t :: r => by
    have h := textFrom_length_pos r 1 (("[" : Str) ++ (if (0 : Nat) > 0 then ", " else "" : String) ++ t) (Nat.succ_pos 0)
    have e : ((("[" : Str) ++ (if (0 : Nat) > 0 then ", " else "" : String) ++ t)).length = 1 + t.length := by
      rw [strLen_append, strLen_append]
      rfl
    have hX : (listText (t :: r)).length = (textFrom 0 "[" (t :: r)).length + 1 := by
      show (textFrom 0 "[" (t :: r) ++ "]").length = _
      rw [strLen_append]
      rfl
    have hY : (textFrom 0 "[" (t :: r)).length = (textFrom 1 (("[" : Str) ++ (if (0 : Nat) > 0 then ", " else "" : String) ++ t) r).length := rfl
    rw [piled_cons]
    omega
theorem shownAll_mem {b : Nat} : ∀ {xs : List PyData}, (∀ x ∈ xs, x.shown.length ≤ b) → ∀ t ∈ PyData.shownAll xs, t.length ≤ b
  | [], _, t, h => by
    unfold PyData.shownAll at h
    cases h
  | x :: xs, hx, t, h => by
    unfold PyData.shownAll at h
    rcases List.mem_cons.mp h with rfl | h
    · exact hx x List.mem_cons_self
    · exact shownAll_mem (fun y hy => hx y (List.mem_cons_of_mem _ hy)) t h
theorem shownAll_len : ∀ xs : List PyData, (PyData.shownAll xs).length = xs.length
  | [] => rfl
  | x :: xs => by
    unfold PyData.shownAll
    rw [List.length_cons, List.length_cons, shownAll_len xs]
theorem showableAll_of : ∀ {xs : List PyData}, (∀ x ∈ xs, x.showable = true) → PyData.showableAll xs = true
  | [], _ => rfl
  | x :: xs, h => by
    unfold PyData.showableAll
    rw [h x List.mem_cons_self, showableAll_of fun y hy => h y (List.mem_cons_of_mem _ hy)]
    rfl
theorem depthAll_of {k : Nat} : ∀ {xs : List PyData}, (∀ x ∈ xs, x.depth ≤ k) → PyData.depthAll xs ≤ k
  | [], _ => Nat.zero_le _
  | x :: xs, h => by
    unfold PyData.depthAll
    exact Nat.max_le.mpr ⟨h x List.mem_cons_self, depthAll_of fun y hy => h y (List.mem_cons_of_mem _ hy)⟩
theorem Nc.tup {k b m : Nat} {xs : List PyData} (h : ∀ x ∈ xs, Nc k b x) (hl : xs.length ≤ m) : Nc (k + 1) (m * (b + 2) + 3) (.tuple xs) := by
  refine ⟨by unfold PyData.showable; exact showableAll_of fun x hx => (h x hx).s, by unfold PyData.depth; exact Nat.succ_le_succ (depthAll_of fun x hx => (h x hx).t), ?_⟩
  unfold PyData.shown
  have h1 := tupleText_le (PyData.shownAll xs)
  have h2 := piled_le (b := b) (shownAll_mem fun x hx => (h x hx).z)
  rw [shownAll_len] at h2
  have h3 := Nat.mul_le_mul_right (b + 2) hl
  omega
theorem Nc.lst {k b m : Nat} {xs : List PyData} (h : ∀ x ∈ xs, Nc k b x) (hl : xs.length ≤ m) : Nc (k + 1) (m * (b + 2) + 3) (.list xs) := by
  refine ⟨by unfold PyData.showable; exact showableAll_of fun x hx => (h x hx).s, by unfold PyData.depth; exact Nat.succ_le_succ (depthAll_of fun x hx => (h x hx).t), ?_⟩
  unfold PyData.shown
  have h1 := listText_le (PyData.shownAll xs)
  have h2 := piled_le (b := b) (shownAll_mem fun x hx => (h x hx).z)
  rw [shownAll_len] at h2
  have h3 := Nat.mul_le_mul_right (b + 2) hl
  omega
theorem Nc.int {i : Int} {k : Nat} (h : i.natAbs.log2 < 1900) : Nc k 1901 (.int i) := by
  refine ⟨by unfold PyData.showable; exact decide_eq_true (by omega), Nat.zero_le _, ?_⟩
  unfold PyData.shown
  rw [PySem.ofString_length]
  exact int_text_length_le (by decide) h
theorem Nc.ints {i : Int} {k : Nat} (h : -1000 ≤ i ∧ i ≤ 1000) : Nc k 1901 (.int i) := Nc.int (by
  have h1 : i.natAbs < 2 ^ 10 := by
    rw [show (2 : Nat) ^ 10 = 1024 from rfl]
    omega
  by_cases h0 : i.natAbs = 0
  · rw [h0]
    decide
  · have := (Nat.log2_lt h0).mpr h1
    omega)
theorem Nc.non {k : Nat} : Nc k 1901 .none := ⟨rfl, Nat.zero_le _, by decide⟩
theorem Nc.bl {k : Nat} (b : Bool) : Nc k 1901 (.bool b) := by cases b <;> exact ⟨rfl, Nat.zero_le _, by decide⟩
theorem Nc.str {k : Nat} {x : Str} (h : (reprText x).length ≤ 1901 := by decide +kernel) : Nc k 1901 (.str x) := ⟨rfl, Nat.zero_le _, h⟩
theorem Nc.emp : Nc 1 1901 (.dict []) := ⟨rfl, by decide, by decide⟩
theorem nc_two {k : Nat} {x y : PyData} (h1 : Nc k 1901 x) (h2 : Nc k 1901 y) : Nc (k + 1) 3809 (.tuple [x, y]) := Nc.tup (b := 1901) (m := 2) (fun z hz => by
  rcases List.mem_cons.mp hz with rfl | hz
  · exact h1
  · rw [List.mem_singleton.mp hz]
    exact h2) (Nat.le_refl _)
theorem all_cons {P : PyData → Prop} {x : PyData} {xs : List PyData} (h : P x) (t : ∀ y ∈ xs, P y) : ∀ y ∈ x :: xs, P y := fun y hy => by
  rcases List.mem_cons.mp hy with rfl | hy
  · exact h
  · exact t y hy
theorem all_nil {P : PyData → Prop} : ∀ y ∈ ([] : List PyData), P y := fun _ h => by cases h
theorem rc_rep {K : PySem.W.Frag} {S : SS} {d : PyData} (h : Nc 60 16000000 d) : Rc K (rRepr K) [.dat d] S (.dat (.str d.shown)) S := rc_repr h.s (Nat.le_trans h.t (by decide)) (Nat.le_trans h.z (by decide))
def InKey (x : Int) : Prop := -1000000000000 ≤ x ∧ x ≤ 1000000000000
theorem Nc.key {i : Int} {k : Nat} (h : InKey i) : Nc k 1901 (.int i) := Nc.int (by
  obtain ⟨a, b⟩ := h
  have h1 : i.natAbs < 2 ^ 40 := by
    rw [show (2 : Nat) ^ 40 = 1099511627776 from rfl]
    omega
  by_cases h0 : i.natAbs = 0
  · rw [h0]
    decide
  · have := (Nat.log2_lt h0).mpr h1
    omega)
theorem nc_rowT {ns : List Int} {m : Nat} (h : ∀ x ∈ ns, InKey x) (hl : ns.length ≤ m) : Nc 1 (m * 1903 + 3) (.tuple (ns.map PyData.int)) := Nc.tup (k := 0) (fun x hx => by
  obtain ⟨i, h1, rfl⟩ := List.mem_map.mp hx
  exact Nc.key (h i h1)) (by rw [List.length_map]; exact hl)
theorem nc_rowL {ns : List Int} {m : Nat} (h : ∀ x ∈ ns, InKey x) (hl : ns.length ≤ m) : Nc 1 (m * 1903 + 3) (.list (ns.map PyData.int)) := Nc.lst (k := 0) (fun x hx => by
  obtain ⟨i, h1, rfl⟩ := List.mem_map.mp hx
  exact Nc.key (h i h1)) (by rw [List.length_map]; exact hl)
end K33

set_option maxRecDepth 100000
set_option maxHeartbeats 4000000
namespace K33
open PySem PySem.Spec PyProof.Rows L2 DL
/-! ### networks and rows -/
abbrev Gate := Int × Int
def gD (g : Gate) : PyData := .tuple [.int g.1, .int g.2]
def nD (net : List Gate) : PyData := .tuple (net.map gD)
def rD (row : List Int) : PyData := .tuple (row.map PyData.int)
def NetOk (n : Nat) (net : List Gate) : Prop := ∀ g ∈ net, 0 ≤ g.1 ∧ g.1 < g.2 ∧ g.2 < n
def rngI (n : Nat) : List Int := (List.range n).map fun (i : Nat) => (0 : Int) + (i : Int)
theorem rngI_len (n : Nat) : (rngI n).length = n := by
  unfold rngI
  rw [List.length_map, List.length_range]
theorem rngD_map (n : Nat) : rngD 0 n = (rngI n).map PyData.int := by
  unfold rngD rngI
  rw [List.map_map]
  rfl
theorem rngI_get {n i : Nat} (h : i < n) : (rngI n).getD i 0 = (i : Int) := by
  unfold rngI
  rw [List.getD_eq_getElem?_getD, List.getElem?_map, List.getElem?_range h]
  show (0 : Int) + (i : Int) = i
  omega
theorem at_int {ns : List Int} {i : Int} (h0 : 0 ≤ i) (h : i < ns.length) : atI (ns.map PyData.int) i = some (.int (ns.getD i.toNat 0)) := by
  have hn : i.toNat < ns.length := by omega
  refine ix_at (i := i.toNat) ?_ (by omega)
  rw [List.getElem?_map, List.getElem?_eq_getElem hn, List.getD_eq_getElem?_getD, List.getElem?_eq_getElem hn]
  rfl
def val (row : List Int) (p : Int) : Int := row.getD p.toNat 0
theorem val_at {row : List Int} {i : Nat} {x : Int} (h : row[i]? = some x) : val row (i : Int) = x := by
  unfold val
  rw [Int.toNat_natCast, List.getD_eq_getElem?_getD, h]
  rfl
def swp (pl : List Int) (i j : Nat) : List Int := (pl.set i (pl.getD j 0)).set j (pl.getD i 0)
def stepR (row : List Int) (k : Nat) (g : Gate) (s : List Int × List Int) : List Int × List Int :=
  if val row (s.1.getD g.2.toNat 0) < val row (s.1.getD g.1.toNat 0) then (swp s.1 g.1.toNat g.2.toNat, s.2 ++ [(k : Int)]) else s
def runK (row : List Int) (net : List Gate) : Nat → List Int × List Int
  | 0 => (rngI row.length, [])
  | k + 1 => stepR row k (net.getD k (0, 0)) (runK row net k)
def runP (row : List Int) (net : List Gate) : List Int := (runK row net net.length).1
def runS (row : List Int) (net : List Gate) : List Int := (runK row net net.length).2
def runO (row : List Int) (net : List Gate) : List Int := (runP row net).map (val row)
theorem swp_len (pl : List Int) (i j : Nat) : (swp pl i j).length = pl.length := by
  unfold swp
  rw [List.length_set, List.length_set]
theorem runK_len (row : List Int) (net : List Gate) : ∀ k, (runK row net k).1.length = row.length
  | 0 => rngI_len _
  | k + 1 => by
    show (stepR row k _ (runK row net k)).1.length = _
    unfold stepR
    split
    · rw [swp_len]
      exact runK_len row net k
    · exact runK_len row net k
theorem swp_get (pl : List Int) {i j : Nat} (hi : i < pl.length) (hj : j < pl.length) (m : Nat) : (swp pl i j).getD m 0 = if m = j then pl.getD i 0 else if m = i then pl.getD j 0 else pl.getD m 0 := by
  unfold swp
  rw [List.getD_eq_getElem?_getD, List.getD_eq_getElem?_getD, List.getD_eq_getElem?_getD, List.getD_eq_getElem?_getD, List.getElem?_set, List.getElem?_set, List.length_set]
  by_cases e : j = m
  · rw [if_pos e, if_pos hj, if_pos e.symm]
    rfl
  · rw [if_neg e, if_neg (show ¬ m = j from fun z => e z.symm)]
    by_cases e2 : i = m
    · rw [if_pos e2, if_pos hi, if_pos (show m = i from e2.symm)]
      rfl
    · rw [if_neg e2, if_neg (show ¬ m = i from fun z => e2 z.symm)]
theorem swp_perm (pl : List Int) {i j : Nat} (hi : i < pl.length) (hj : j < pl.length) : (swp pl i j).Perm pl := by
  unfold swp
  rw [List.getD_eq_getElem?_getD, List.getD_eq_getElem?_getD, List.getElem?_eq_getElem hi, List.getElem?_eq_getElem hj]
  exact List.set_set_perm hi hj
theorem gate_at {n : Nat} {net : List Gate} (h : NetOk n net) {k : Nat} (hk : k < net.length) : 0 ≤ (net.getD k (0, 0)).1 ∧ (net.getD k (0, 0)).1 < (net.getD k (0, 0)).2 ∧ (net.getD k (0, 0)).2 < n := by
  rw [List.getD_eq_getElem?_getD, List.getElem?_eq_getElem hk]
  exact h _ (List.getElem_mem hk)
theorem runK_perm {row : List Int} {net : List Gate} (h : NetOk row.length net) : ∀ k, k ≤ net.length → (runK row net k).1.Perm (rngI row.length)
  | 0, _ => List.Perm.refl _
  | k + 1, hk => by
    have ih := runK_perm h k (by omega)
    have g := gate_at h (k := k) (by omega)
    have l := runK_len row net k
    show (stepR row k _ (runK row net k)).1.Perm _
    unfold stepR
    split
    · exact (swp_perm _ (by omega) (by omega)).trans ih
    · exact ih
theorem rngI_mem {n : Nat} {p : Int} (h : p ∈ rngI n) : 0 ≤ p ∧ p < n := by
  unfold rngI at h
  obtain ⟨i, h1, h2⟩ := List.mem_map.mp h
  have := List.mem_range.mp h1
  omega
theorem runK_mem {row : List Int} {net : List Gate} (h : NetOk row.length net) {k : Nat} (hk : k ≤ net.length) {i : Nat} (hi : i < row.length) : 0 ≤ (runK row net k).1.getD i 0 ∧ (runK row net k).1.getD i 0 < row.length := by
  have l := runK_len row net k
  refine rngI_mem ((runK_perm h k hk).subset ?_)
  rw [List.getD_eq_getElem?_getD, List.getElem?_eq_getElem (by omega)]
  exact List.getElem_mem _
theorem spots_len (row : List Int) (net : List Gate) : ∀ k, (runK row net k).2.length ≤ k
  | 0 => Nat.le_refl _
  | k + 1 => by
    have := spots_len row net k
    show (stepR row k _ (runK row net k)).2.length ≤ _
    unfold stepR
    split
    · rw [List.length_append, List.length_singleton]
      omega
    · omega
theorem net_at {net : List Gate} {k : Nat} {d : PyData} (h : (net.map gD)[k]? = some d) : k < net.length ∧ d = .tuple [.int (net.getD k (0, 0)).1, .int (net.getD k (0, 0)).2] := by
  rw [List.getElem?_map] at h
  by_cases hk : k < net.length
  · rw [List.getElem?_eq_getElem hk] at h
    refine ⟨hk, ?_⟩
    rw [List.getD_eq_getElem?_getD, List.getElem?_eq_getElem hk]
    exact (Option.some.inj h).symm
  · rw [List.getElem?_eq_none (by omega)] at h
    cases h
section
variable {P : Program} {w : World} {K : PySem.W.Frag} {mg : Str → Option Value} {base : Heap}
def GoodIn (net : List Gate) (row : List Int) : Prop := NetOk row.length net ∧ net.length ≤ 2000 ∧ row.length ≤ 100
def R_run : FR := fun as ob r ob' => ∃ net row, as = [.dat (nD net), .dat (rD row)] ∧ GoodIn net row ∧ ob = [] ∧ r = .dat (.tuple [.list ((runP row net).map PyData.int), .list ((runS row net).map PyData.int)]) ∧ ob' = []
theorem sc_run : FnScope ["network", "row", "places", "spots", "spot", "i", "j"] ["network", "row"] (defScope s_run) := ⟨rfl, rfl, rfl, by decide +kernel, rfl, by decide +kernel, by decide +kernel⟩
theorem ok_run (D : Df K mg "_run" s_run ["network", "row"]) (B : Bi mg) (Cc : Cls K mg) : FnG P w K mg base CX0 1 D.f D.fd ["network", "row"] (spD K 2 R_run) := by
  refine okG D.F sc_run (fun vs H Q E h => h.1) (fun cdv A outer s H vs Q E hr gd h => ?_)
  have hu := huX hr
  refine ⟨_, (pss_cons (ps_set (i := 2) sc_run.nd rfl (Or.inl rfl) (pe_listRg rfl (by rfl) B.z_list (prg_1 (by rfl) B.z_range (pe_callB cb_len (by rfl) B.z_len PySem.boot_len (pa_cons (pv 1) pa_nil)))))
      (pss_cons (ps_set (i := 3) sc_run.nd rfl (Or.inl rfl) (pe_lst pa_nil))
      (pss_cons (ps_for PassesOwn.never rfl (pi_enumT (by rfl) B.z_enumerate (pa_cons (pv 0) pa_nil)) (pg_tup rfl (pgs_cons (pg_name (i := 4) sc_run.nd rfl (Or.inl rfl)) (pgs_cons (pg_tup rfl (pgs_cons (pg_name (i := 5) sc_run.nd rfl (Or.inl rfl)) (pgs_cons (pg_name (i := 6) sc_run.nd rfl (Or.inl rfl)) pgs_nil))) pgs_nil)))
        (pss_one (ps_if (pt_cmpR (op_gtU hu) (pe_ix ix_seq (pv 1) (pe_ix ix_seq (pv 2) (pv 5) (fun _ _ => rfl)) (fun _ _ => rfl)) (pe_ix ix_seq (pv 1) (pe_ix ix_seq (pv 2) (pv 6) (fun _ _ => rfl)) (fun _ _ => rfl)) (nomark _)) (pss_cons (ps_asg (pe_tup (pa_cons (pe_ix ix_seq (pv 2) (pv 6) (fun _ _ => rfl)) (pa_cons (pe_ix ix_seq (pv 2) (pv 5) (fun _ _ => rfl)) pa_nil))) (pg_tup rfl (pgs_cons (pg_sub (pv 2) (pv 5) set_list) (pgs_cons (pg_sub (pv 2) (pv 6) set_list) pgs_nil))))
          (pss_one (ps_expr (pe_bm PySem.F.plainAttrs_list PySem.F.slot_list_append PySem.F.type_list_append mt_append (pv 3) (pa_cons (pv 4) pa_nil))))) pss_nil)))
      (pss_one (ps_ret (pe_tup (pa_cons (pv 2) (pa_cons (pv 3) pa_nil)))))))), ?_⟩
  refine body_ofG h (by decide) (fun as ob r ob' hR => ?_) fun as ob r ob' hR hl => ?_
  · obtain ⟨net, row, rfl, _, rfl, rfl, rfl⟩ := hR
    exact ⟨Nat.le_refl _, fun _ z => by cases z⟩
  obtain ⟨net, row, rfl, ⟨hnet, hnl, hrl⟩, rfl, rfl, rfl⟩ := hR
  refine ts_seq (ts_asg (eo_of_el (el_rng1 (i := ((row.map PyData.int).length : Int)) (ee_cb (ea_cons (ee_var rfl) ea_nil) rc_lenT) (by rw [List.length_map]; omega))) ?_)
  refine ts_seq (ts_asg (eo_of_el (el_lst ed_nil)) ?_)
  refine ts_seq (ts_for (ei_enumT (ed_cons (ee_var rfl) ed_nil)) (fun k S => ∃ a b c, S = ⟨[.dat (nD net), .dat (rD row), .own 0, .own 1, a, b, c], [.lst ((runK row net k).1.map PyData.int), .lst ((runK row net k).2.map PyData.int)]⟩) ⟨.un, .un, .un, ?_⟩ ?_ ?_)
  · have e : rngD 0 ((row.map PyData.int).length : Int).toNat = (rngI row.length).map PyData.int := by
      rw [rngD_map, Int.toNat_natCast, List.length_map]
    show (⟨[.dat (nD net), .dat (rD row), .own 0, .own 1, .un, .un, .un], [.lst (rngD 0 ((row.map PyData.int).length : Int).toNat), .lst []]⟩ : SS) = _
    rw [e]
    rfl
  · rintro k d S' hd ⟨a, b, c, rfl⟩
    obtain ⟨e, he, rfl⟩ := enumD_get hd
    obtain ⟨hk, rfl⟩ := net_at he
    have hg := gate_at hnet hk
    generalize hgg : net.getD k (0, 0) = g at hg
    have l1 := runK_len row net k
    have m1 := runK_mem hnet (k := k) (by omega) (i := g.1.toNat) (by omega)
    have m2 := runK_mem hnet (k := k) (by omega) (i := g.2.toNat) (by omega)
    have sl := spots_len row net k
    have hs : runK row net (k + 1) = stepR row k g (runK row net k) := by
      rw [← hgg]
      rfl
    rw [hs]
    generalize runK row net k = st at l1 m1 m2 sl
    obtain ⟨pl, sp⟩ := st
    have l1 : pl.length = row.length := l1
    have sl : sp.length ≤ k := sl
    have i1 : atI (pl.map PyData.int) g.1 = some (.int (pl.getD g.1.toNat 0)) := at_int (by omega) (by omega)
    have i2 : atI (pl.map PyData.int) g.2 = some (.int (pl.getD g.2.toNat 0)) := at_int (by omega) (by omega)
    have v1 : atI (row.map PyData.int) (pl.getD g.1.toNat 0) = some (.int (val row (pl.getD g.1.toNat 0))) := at_int m1.1 m1.2
    have v2 : atI (row.map PyData.int) (pl.getD g.2.toNat 0) = some (.int (val row (pl.getD g.2.toNat 0))) := at_int m2.1 m2.2
    refine ⟨_, eg_tup (egs_cons eg_name (egs_cons (eg_tup (egs_cons eg_name (egs_cons eg_name egs_nil))) egs_nil)), ?_⟩
    refine ts_if (et_test (ee_op (ee_op (ee_var rfl) (ee_op (ee_var rfl) (ee_var rfl) (ro_ixL (.own rfl) i1)) (ro_ixT v1)) (ee_op (ee_var rfl) (ee_op (ee_var rfl) (ee_var rfl) (ro_ixL (.own rfl) i2)) (ro_ixT v2)) ro_gt)) (fun hb => ?_) fun hb => ?_
    · have n1 : ∀ ds : List PyData, ds.length = row.length → ixN ds.length g.1 = some g.1.toNat := fun ds e => by
        unfold ixN
        rw [if_pos (by omega), if_pos (by omega)]
      have n2 : ∀ ds : List PyData, ds.length = row.length → ixN ds.length g.2 = some g.2.toNat := fun ds e => by
        unfold ixN
        rw [if_pos (by omega), if_pos (by omega)]
      refine ts_seq (ts_asgG (ee_tup (ed_cons (ee_op (ee_var rfl) (ee_var rfl) (ro_ixL (.own rfl) i2)) (ed_cons (ee_op (ee_var rfl) (ee_var rfl) (ro_ixL (.own rfl) i1)) ed_nil)))
        (egh_tup (eghs_cons (egh_sub (ee_var rfl) (ee_var rfl) rfl (n1 _ (by rw [List.length_map]; exact l1))) (eghs_cons (egh_sub (ee_var rfl) (ee_var rfl) rfl (n2 _ (by rw [List.length_set, List.length_map]; exact l1))) eghs_nil))) ?_)
      refine ts_drop (ee_append (ee_var rfl) (ee_var rfl) ⟨_, rfl⟩ rfl (by rw [List.length_map]; omega)) ⟨.dat (.int (k : Int)), .dat (.int g.1), .dat (.int g.2), ?_⟩
      have e : stepR row k g (pl, sp) = (swp pl g.1.toNat g.2.toNat, sp ++ [(k : Int)]) := if_pos (of_decide_eq_true hb)
      rw [e]
      show (⟨_, [.lst (((pl.map PyData.int).set _ _).set _ _), .lst _]⟩ : SS) = ⟨_, [.lst ((swp pl g.1.toNat g.2.toNat).map PyData.int), .lst ((sp ++ [(k : Int)]).map PyData.int)]⟩
      unfold swp
      rw [List.map_set, List.map_set, List.map_append]
      rfl
    · have e : stepR row k g (pl, sp) = (pl, sp) := if_neg (of_decide_eq_false hb)
      rw [e]
      exact ts_next ⟨_, _, _, rfl⟩
  · rintro S' ⟨a, b, c, rfl⟩
    rw [enumD_len, List.length_map]
    exact ts_ret (ee_tup (ed_cons (ee_frz (ee_var rfl) rfl) (ed_cons (ee_frz (ee_var rfl) rfl) ed_nil))) ⟨rfl, List.nil_prefix⟩
def R_came : FR := fun as ob r ob' => ∃ net row, as = [.dat (nD net), .dat (rD row)] ∧ GoodIn net row ∧ ob = [] ∧ r = .dat (rD (runP row net)) ∧ ob' = []
def R_exchanged : FR := fun as ob r ob' => ∃ net row, as = [.dat (nD net), .dat (rD row)] ∧ GoodIn net row ∧ ob = [] ∧ r = .dat (rD (runS row net)) ∧ ob' = []
def R_out : FR := fun as ob r ob' => ∃ net row, as = [.dat (nD net), .dat (rD row)] ∧ GoodIn net row ∧ ob = [] ∧ r = .dat (rD (runO row net)) ∧ ob' = []
theorem sccame : FnScope ["network", "row", "places", "_"] ["network", "row"] (defScope scame) := ⟨rfl, rfl, rfl, by decide +kernel, rfl, by decide +kernel, by decide +kernel⟩
theorem okcame (D : Df K mg "came" scame ["network", "row"]) (B : Bi mg) (Cc : Cls K mg) (D_run : Df K mg "_run" s_run ["network", "row"]) : FnG P w K mg base CX0 2 D.f D.fd ["network", "row"] (spD K 2 R_came) := by
  have ok_run : FnG P w K mg base CX0 1 _ _ _ _ := ok_run D_run B Cc
  refine okG D.F sccame (fun vs H Q E h => h.1) (fun cdv A outer s H vs Q E hr gd h => ?_)
  have hu := huX hr
  refine ⟨_, (pss_cons (ps_asg (pe_callG (ok_run) (hr.mono (by decide)) gd (by rfl) D_run.m D_run.F.kp D_run.b .nil pass0 (pa_cons (pv 0) (pa_cons (pv 1) pa_nil))) (pg_tup rfl (pgs_cons (pg_name (i := 2) sccame.nd rfl (Or.inl rfl)) (pgs_cons (pg_name (i := 3) sccame.nd rfl (Or.inl rfl)) pgs_nil))))
      (pss_one (ps_ret (pe_callTy cb_tuple (by rfl) B.z_tuple (by decide +kernel) (pa_cons (pv 2) pa_nil))))), ?_⟩
  refine body_of h (by decide) fun as ob r ob' hR hl => ?_
  obtain ⟨net, row, rfl, hg, rfl, rfl, rfl⟩ := hR
  refine ts_seq (ts_asgG (ee_callD (ed_cons (ee_var rfl) (ed_cons (ee_var rfl) ed_nil)) rfl ⟨net, row, rfl, hg, rfl, rfl, rfl⟩) (egh_of (eg_tup (egs_cons eg_name (egs_cons eg_name egs_nil)))) ?_)
  exact ts_ret (ee_cb (ea_cons (ee_var rfl) ea_nil) (rc_tupL (.dat _))) ⟨rfl, rfl⟩
theorem scexchanged : FnScope ["network", "row", "_", "spots"] ["network", "row"] (defScope sexchanged) := ⟨rfl, rfl, rfl, by decide +kernel, rfl, by decide +kernel, by decide +kernel⟩
theorem okexchanged (D : Df K mg "exchanged" sexchanged ["network", "row"]) (B : Bi mg) (Cc : Cls K mg) (D_run : Df K mg "_run" s_run ["network", "row"]) : FnG P w K mg base CX0 2 D.f D.fd ["network", "row"] (spD K 2 R_exchanged) := by
  have ok_run : FnG P w K mg base CX0 1 _ _ _ _ := ok_run D_run B Cc
  refine okG D.F scexchanged (fun vs H Q E h => h.1) (fun cdv A outer s H vs Q E hr gd h => ?_)
  have hu := huX hr
  refine ⟨_, (pss_cons (ps_asg (pe_callG (ok_run) (hr.mono (by decide)) gd (by rfl) D_run.m D_run.F.kp D_run.b .nil pass0 (pa_cons (pv 0) (pa_cons (pv 1) pa_nil))) (pg_tup rfl (pgs_cons (pg_name (i := 2) scexchanged.nd rfl (Or.inl rfl)) (pgs_cons (pg_name (i := 3) scexchanged.nd rfl (Or.inl rfl)) pgs_nil))))
      (pss_one (ps_ret (pe_callTy cb_tuple (by rfl) B.z_tuple (by decide +kernel) (pa_cons (pv 3) pa_nil))))), ?_⟩
  refine body_of h (by decide) fun as ob r ob' hR hl => ?_
  obtain ⟨net, row, rfl, hg, rfl, rfl, rfl⟩ := hR
  refine ts_seq (ts_asgG (ee_callD (ed_cons (ee_var rfl) (ed_cons (ee_var rfl) ed_nil)) rfl ⟨net, row, rfl, hg, rfl, rfl, rfl⟩) (egh_of (eg_tup (egs_cons eg_name (egs_cons eg_name egs_nil)))) ?_)
  exact ts_ret (ee_cb (ea_cons (ee_var rfl) ea_nil) (rc_tupL (.dat _))) ⟨rfl, rfl⟩
theorem runP_mem {row : List Int} {net : List Gate} (h : NetOk row.length net) {p : Int} (hp : p ∈ runP row net) : 0 ≤ p ∧ p < row.length := rngI_mem ((runK_perm h _ (Nat.le_refl _)).subset hp)
theorem runP_len (row : List Int) (net : List Gate) : (runP row net).length = row.length := runK_len _ _ _
theorem runO_len (row : List Int) (net : List Gate) : (runO row net).length = row.length := by
  unfold runO
  rw [List.length_map, runP_len]
theorem mapI (f : Int → Int) (ns : List Int) : (ns.map PyData.int).map (fun d => PyData.int (f (toI d))) = (ns.map f).map PyData.int := by
  rw [List.map_map, List.map_map]
  rfl
theorem scout : FnScope ["network", "row", "place"] ["network", "row"] (defScope sout) := ⟨rfl, rfl, rfl, by decide +kernel, rfl, by decide +kernel, by decide +kernel⟩
theorem okout (D : Df K mg "out" sout ["network", "row"]) (B : Bi mg) (Cc : Cls K mg) (Dcame : Df K mg "came" scame ["network", "row"]) (D_run : Df K mg "_run" s_run ["network", "row"]) : FnG P w K mg base CX0 3 D.f D.fd ["network", "row"] (spD K 2 R_out) := by
  have okcame : FnG P w K mg base CX0 2 _ _ _ _ := okcame Dcame B Cc D_run
  refine okG D.F scout (fun vs H Q E h => h.1) (fun cdv A outer s H vs Q E hr gd h => ?_)
  have hu := huX hr
  refine ⟨_, (pss_one (ps_ret (pe_callTy cb_tuple (by rfl) B.z_tuple (by decide +kernel) (pa_cons (pe_lc (own := [("place", 2)]) (g := gName 2) (tt := tYes) (by rfl) scout.nd (pi_tup (pe_callG (okcame) (hr.mono (by decide)) gd (by rfl) Dcame.m Dcame.F.kp Dcame.b .nil pass0 (pa_cons (pv 0) (pa_cons (pv 1) pa_nil)))) (blkOk_by (own := [("place", 2)]) (N := ["network", "row", "place"]) (sc := defScope sout) (by decide +kernel)) (fun _ _ _ _ _ => (pg_name (i := 2) scout.nd rfl (Or.inl rfl))) (fun _ _ _ _ _ => pts_nil) (fun _ _ _ _ _ => (pe_ix (ixK K (R := rIx) ix_seq rfl) (pv 1) (pv 2) (fun _ _ => rfl)))) pa_nil)))), ?_⟩
  refine body_of h (by decide) fun as ob r ob' hR hl => ?_
  obtain ⟨net, row, rfl, hg, rfl, rfl, rfl⟩ := hR
  have e : rD (runO row net) = .tuple (((runP row net).map PyData.int).map fun d => .int (val row (toI d))) := by
    rw [mapI (val row)]
    rfl
  rw [e]
  refine ts_ret (ee_cb (ea_cons (ee_of_el (el_lcm (ds := (runP row net).map PyData.int) (ei_tup (ee_callD (ed_cons (ee_var rfl) (ed_cons (ee_var rfl) ed_nil)) rfl ⟨net, row, rfl, hg, rfl, rfl, rfl⟩)) ?_ fun i d hd => ?_)) ea_nil) (rc_tupL (.dat _))) ⟨rfl, rfl⟩
  · rw [List.length_map, runP_len]
    have := hg.2.2
    omega
  · obtain ⟨p, hp, rfl⟩ := int_at hd
    have m := runP_mem hg.1 (List.mem_of_getElem? hp)
    exact ⟨_, egc_name (by decide), _, ee_op (ee_var rfl) (ee_var rfl) (ro_ixT (at_int m.1 m.2)), rfl, rfl⟩
end
end K33

set_option maxRecDepth 100000
set_option maxHeartbeats 4000000
namespace K33
open PySem PySem.Spec PyProof.Rows L2 DL
theorem getD_mem {p : Int → Prop} {l : List Int} {i : Nat} (h : ∀ x ∈ l, p x) (h0 : p 0) : p (l.getD i 0) := by
  rw [List.getD_eq_getElem?_getD]
  by_cases e : i < l.length
  · rw [List.getElem?_eq_getElem e]
    exact h _ (List.getElem_mem e)
  · rw [List.getElem?_eq_none (by omega)]
    exact h0
/-- a row as a list or as a tuple -/
def KD (row : List Int) (d : PyData) : Prop := d = .list (row.map PyData.int) ∨ d = rD row
theorem ro_kd {K : PySem.W.Frag} {S : SS} {row : List Int} {kd d : PyData} {i : Int} (h : KD row kd) (e : atI (row.map PyData.int) i = some d) : Ro K (rIx K) (.dat kd) (.dat (.int i)) S (.dat d) S := by
  rcases h with rfl | rfl
  · exact ro_ixL (.dat _) e
  · exact ro_ixT e
theorem rc_kdlen {K : PySem.W.Frag} {S : SS} {row : List Int} {kd : PyData} (h : KD row kd) : Rc K (DL.rLen K) [.dat kd] S (.dat (.int (row.length : Int))) S := by
  rcases h with rfl | rfl
  · have := rc_lenL (K := K) (S := S) (.dat (.list (row.map PyData.int)))
    rw [List.length_map] at this
    exact this
  · have := rc_lenT (K := K) (S := S) (ds := row.map PyData.int)
    rw [List.length_map] at this
    exact this
/-- n, n - 1, .., 1 -/
def descI (n : Nat) : List Int := (List.range n).map fun (k : Nat) => (n : Int) - (k : Int)
theorem descI_len (n : Nat) : (descI n).length = n := by
  unfold descI
  rw [List.length_map, List.length_range]
theorem desc_down (n : Nat) : downD (n : Int) n = (descI n).map PyData.int := by
  unfold downD descI
  rw [List.map_map]
  refine List.map_congr_left fun k _ => ?_
  show PyData.int ((n : Int) + (k : Int) * (-1)) = .int ((n : Int) - (k : Int))
  rw [show (n : Int) + (k : Int) * (-1) = (n : Int) - (k : Int) by omega]
theorem descI_val {n : Nat} {p : Int} (h0 : 0 ≤ p) (h : p < n) : val (descI n) p = (n : Int) - p := by
  have : (descI n)[p.toNat]? = some ((n : Int) - p) := by
    unfold descI
    rw [List.getElem?_map, List.getElem?_range (by omega)]
    show some ((n : Int) - ((p.toNat : Nat) : Int)) = _
    rw [Int.toNat_of_nonneg h0]
  have := val_at this
  rw [Int.toNat_of_nonneg h0] at this
  exact this
def isFar (g : Gate) : Bool := decide (g.1 + 1 < g.2)
def gAt (net : List Gate) (s : Int) : Gate := net.getD s.toNat (0, 0)
def farS (net : List Gate) (sp : List Int) : List Int := sp.filter fun s => isFar (gAt net s)
def firstF (net : List Gate) (sp : List Int) : Int := ((farS net sp).head?).getD (net.length : Int)
def imgN (n : Nat) (net : List Gate) : List Int := runO (descI n) net
def kaN (n : Nat) (net : List Gate) : Int := firstF net (runS (descI n) net)
theorem gAt_at {net : List Gate} {s : Int} (h0 : 0 ≤ s) (h : s < net.length) : atI (net.map gD) s = some (gD (gAt net s)) := by
  have hs : s.toNat < net.length := by omega
  refine ix_at (i := s.toNat) ?_ (by omega)
  unfold gAt
  rw [List.getElem?_map, List.getElem?_eq_getElem hs, List.getD_eq_getElem?_getD, List.getElem?_eq_getElem hs]
  rfl
theorem runK_spot {row : List Int} {net : List Gate} : ∀ k, ∀ x ∈ (runK row net k).2, 0 ≤ x ∧ x < k
  | 0, x, hx => by cases hx
  | k + 1, x, hx => by
    have ih := runK_spot (row := row) (net := net) k
    have hx : x ∈ (stepR row k (net.getD k (0, 0)) (runK row net k)).2 := hx
    unfold stepR at hx
    split at hx
    · rcases List.mem_append.mp hx with hx | hx
      · have := ih x hx
        omega
      · have := List.mem_singleton.mp hx
        omega
    · have := ih x hx
      omega
theorem runS_len (row : List Int) (net : List Gate) : (runS row net).length ≤ net.length := spots_len row net net.length
theorem firstF_cons (net : List Gate) (s : Int) (sp : List Int) : firstF net (s :: sp) = if isFar (gAt net s) = true then s else firstF net sp := by
  unfold firstF farS
  rw [List.filter_cons]
  split <;> rfl
section
variable {P : Program} {w : World} {K : PySem.W.Frag} {mg : Str → Option Value} {base : Heap}
def R_desc : FR := fun as ob r ob' => ∃ n : Nat, as = [.dat (.int (n : Int))] ∧ n ≤ 1000 ∧ ob = [] ∧ r = .dat (rD (descI n)) ∧ ob' = []
theorem scdescending : FnScope ["n"] ["n"] (defScope sdescending) := ⟨rfl, rfl, rfl, by decide +kernel, rfl, by decide +kernel, by decide +kernel⟩
theorem okdescending (D : Df K mg "descending" sdescending ["n"]) (B : Bi mg) (Cc : Cls K mg) : FnG P w K mg base CX0 1 D.f D.fd ["n"] (spD K 1 R_desc) := by
  refine okG D.F scdescending (fun vs H Q E h => h.1) (fun cdv A outer s H vs Q E hr gd h => ?_)
  have hu := huX hr
  refine ⟨_, (pss_one (ps_ret (pe_tupDn rfl (by rfl) B.z_tuple (by rfl) B.z_range (pa_cons (pv 0) (pa_cons pe_int (pa_cons (pe_un un_negU pe_int) pa_nil)))))), ?_⟩
  refine body_of h (by decide) fun as ob r ob' hR hl => ?_
  obtain ⟨n, rfl, hn, rfl, rfl, rfl⟩ := hR
  have := ee_tupDn (K := K) (S := ⟨[.dat (.int (n : Int))], []⟩) (i := (n : Int)) (j := 0) (ed_cons (ee_var (i := 0) rfl) (ed_cons ee_int (ed_cons (ee_un ee_int ru_neg) ed_nil))) (by omega)
  rw [show ((n : Int) - 0).toNat = n by omega, desc_down] at this
  exact ts_ret this ⟨rfl, rfl⟩
def R_isfar : FR := fun as ob r ob' => ∃ g : Gate, as = [.dat (gD g)] ∧ ob = [] ∧ r = .dat (.bool (isFar g)) ∧ ob' = []
theorem scis_far : FnScope ["gate", "i", "j"] ["gate"] (defScope sis_far) := ⟨rfl, rfl, rfl, by decide +kernel, rfl, by decide +kernel, by decide +kernel⟩
theorem okis_far (D : Df K mg "is_far" sis_far ["gate"]) (B : Bi mg) (Cc : Cls K mg) : FnG P w K mg base CX0 1 D.f D.fd ["gate"] (spD K 1 R_isfar) := by
  refine okG D.F scis_far (fun vs H Q E h => h.1) (fun cdv A outer s H vs Q E hr gd h => ?_)
  have hu := huX hr
  refine ⟨_, (pss_cons (ps_asg (pv 0) (pg_tup rfl (pgs_cons (pg_name (i := 1) scis_far.nd rfl (Or.inl rfl)) (pgs_cons (pg_name (i := 2) scis_far.nd rfl (Or.inl rfl)) pgs_nil))))
      (pss_one (ps_ret (pe_cmpR (op_gtU hu) (pv 2) (pe_op op_plus (pv 1) pe_int) (nomark _))))), ?_⟩
  refine body_of h (by decide) fun as ob r ob' hR hl => ?_
  obtain ⟨g, rfl, rfl, rfl, rfl⟩ := hR
  refine ts_seq (ts_asgG (d := gD g) (ee_var rfl) (egh_of (eg_tup (egs_cons eg_name (egs_cons eg_name egs_nil)))) ?_)
  exact ts_ret (ee_op (ee_var rfl) (ee_op (ee_var rfl) ee_int ro_add) ro_gt) ⟨rfl, rfl⟩
def R_first : FR := fun as ob r ob' => ∃ (net : List Gate) (sp : List Int), as = [.dat (nD net), .dat (rD sp)] ∧ (∀ s ∈ sp, 0 ≤ s ∧ s < net.length) ∧ ob = [] ∧ r = .dat (.int (firstF net sp)) ∧ ob' = []
theorem scfirst_far : FnScope ["network", "spots", "spot"] ["network", "spots"] (defScope sfirst_far) := ⟨rfl, rfl, rfl, by decide +kernel, rfl, by decide +kernel, by decide +kernel⟩
theorem okfirst_far (D : Df K mg "first_far" sfirst_far ["network", "spots"]) (B : Bi mg) (Cc : Cls K mg) (Dis_far : Df K mg "is_far" sis_far ["gate"]) : FnG P w K mg base CX0 2 D.f D.fd ["network", "spots"] (spD K 2 R_first) := by
  have okis_far : FnG P w K mg base CX0 1 _ _ _ _ := okis_far Dis_far B Cc
  refine okG D.F scfirst_far (fun vs H Q E h => h.1) (fun cdv A outer s H vs Q E hr gd h => ?_)
  have hu := huX hr
  refine ⟨_, (pss_cons (ps_for PassesOwn.never rfl (pi_tup (pv 1)) (pg_name (i := 2) scfirst_far.nd rfl (Or.inl rfl))
        (pss_one (ps_if (pt_val (pe_callG (okis_far) (hr.mono (by decide)) gd (by rfl) Dis_far.m Dis_far.F.kp Dis_far.b .nil pass0 (pa_cons (pe_ix ix_seq (pv 0) (pv 2) (fun _ _ => rfl)) pa_nil))) (pss_one (ps_ret (pv 2))) pss_nil)))
      (pss_one (ps_ret (pe_callB cb_len (by rfl) B.z_len PySem.boot_len (pa_cons (pv 0) pa_nil))))), ?_⟩
  refine body_of h (by decide) fun as ob r ob' hR hl => ?_
  obtain ⟨net, sp, rfl, hsp, rfl, rfl, rfl⟩ := hR
  refine ts_seq (ts_for (ds := sp.map PyData.int) (ei_tup (ee_var rfl)) (fun i S => ∃ a, S = ⟨[.dat (nD net), .dat (rD sp), a], []⟩ ∧ firstF net sp = firstF net (sp.drop i)) ⟨.un, rfl, rfl⟩ ?_ ?_)
  · rintro i d S' hd ⟨a, rfl, e⟩
    obtain ⟨s, hs, rfl⟩ := int_at hd
    have hb := hsp s (List.mem_of_getElem? hs)
    have hdr : sp.drop i = s :: sp.drop (i + 1) := by
      obtain ⟨hi, h2⟩ := List.getElem?_eq_some_iff.mp hs
      rw [← h2]
      exact List.drop_eq_getElem_cons hi
    rw [hdr, firstF_cons] at e
    refine ⟨_, eg_name, ts_if (et_B (ee_callD (ed_cons (ee_op (ee_var rfl) (ee_var rfl) (ro_ixT (gAt_at hb.1 hb.2))) ed_nil) rfl ⟨gAt net s, rfl, rfl, rfl, rfl⟩)) (fun hb => ?_) fun hb => ts_next ⟨_, rfl, ?_⟩⟩
    · rw [if_pos hb] at e
      rw [e]
      exact ts_ret (ee_var rfl) ⟨rfl, rfl⟩
    · rw [if_neg (by rw [hb]; exact Bool.false_ne_true)] at e
      exact e
  · rintro S' ⟨a, rfl, e⟩
    rw [List.length_map, List.drop_length] at e
    rw [e]
    refine ts_ret (ee_eq (ee_cb (ea_cons (ee_var rfl) ea_nil) rc_lenT) ?_) ⟨rfl, rfl⟩
    rw [List.length_map]
    rfl
def NetIn (n : Nat) (net : List Gate) : Prop := NetOk n net ∧ net.length ≤ 2000 ∧ n ≤ 100
theorem NetIn.good {n : Nat} {net : List Gate} (h : NetIn n net) : GoodIn net (descI n) := ⟨by rw [descI_len]; exact h.1, h.2.1, by rw [descI_len]; exact h.2.2⟩
def R_image : FR := fun as ob r ob' => ∃ (n : Nat) (net : List Gate), as = [.dat (.int (n : Int)), .dat (nD net)] ∧ NetIn n net ∧ ob = [] ∧ r = .dat (rD (imgN n net)) ∧ ob' = []
theorem scimage : FnScope ["n", "network"] ["n", "network"] (defScope simage) := ⟨rfl, rfl, rfl, by decide +kernel, rfl, by decide +kernel, by decide +kernel⟩
theorem okimage (D : Df K mg "image" simage ["n", "network"]) (B : Bi mg) (Cc : Cls K mg) (Dout : Df K mg "out" sout ["network", "row"]) (Dcame : Df K mg "came" scame ["network", "row"]) (D_run : Df K mg "_run" s_run ["network", "row"]) (Ddescending : Df K mg "descending" sdescending ["n"]) : FnG P w K mg base CX0 4 D.f D.fd ["n", "network"] (spD K 2 R_image) := by
  have okout : FnG P w K mg base CX0 3 _ _ _ _ := okout Dout B Cc Dcame D_run
  have okdescending : FnG P w K mg base CX0 1 _ _ _ _ := okdescending Ddescending B Cc
  refine okG D.F scimage (fun vs H Q E h => h.1) (fun cdv A outer s H vs Q E hr gd h => ?_)
  have hu := huX hr
  refine ⟨_, (pss_one (ps_ret (pe_callG (okout) (hr.mono (by decide)) gd (by rfl) Dout.m Dout.F.kp Dout.b .nil pass0 (pa_cons (pv 1) (pa_cons (pe_callG (okdescending) (hr.mono (by decide)) gd (by rfl) Ddescending.m Ddescending.F.kp Ddescending.b .nil pass0 (pa_cons (pv 0) pa_nil)) pa_nil))))), ?_⟩
  refine body_of h (by decide) fun as ob r ob' hR hl => ?_
  obtain ⟨n, net, rfl, hi, rfl, rfl, rfl⟩ := hR
  exact ts_ret (ee_callD (ed_cons (ee_var rfl) (ed_cons (ee_callD (d := rD (descI n)) (ed_cons (ee_var rfl) ed_nil) rfl ⟨n, rfl, by have := hi.2.2; omega, rfl, rfl, rfl⟩) ed_nil)) rfl ⟨net, descI n, rfl, hi.good, rfl, rfl, rfl⟩) ⟨rfl, rfl⟩
def R_kept : FR := fun as ob r ob' => ∃ (n : Nat) (net : List Gate), as = [.dat (.int (n : Int)), .dat (nD net)] ∧ NetIn n net ∧ ob = [] ∧ r = .dat (.int (kaN n net)) ∧ ob' = []
theorem sckept_all_gates : FnScope ["n", "network"] ["n", "network"] (defScope skept_all_gates) := ⟨rfl, rfl, rfl, by decide +kernel, rfl, by decide +kernel, by decide +kernel⟩
theorem okkept_all_gates (D : Df K mg "kept_all_gates" skept_all_gates ["n", "network"]) (B : Bi mg) (Cc : Cls K mg) (Dexchanged : Df K mg "exchanged" sexchanged ["network", "row"]) (D_run : Df K mg "_run" s_run ["network", "row"]) (Ddescending : Df K mg "descending" sdescending ["n"]) (Dis_far : Df K mg "is_far" sis_far ["gate"]) (Dfirst_far : Df K mg "first_far" sfirst_far ["network", "spots"]) : FnG P w K mg base CX0 3 D.f D.fd ["n", "network"] (spD K 2 R_kept) := by
  have okexchanged : FnG P w K mg base CX0 2 _ _ _ _ := okexchanged Dexchanged B Cc D_run
  have okdescending : FnG P w K mg base CX0 1 _ _ _ _ := okdescending Ddescending B Cc
  have okfirst_far : FnG P w K mg base CX0 2 _ _ _ _ := okfirst_far Dfirst_far B Cc Dis_far
  refine okG D.F sckept_all_gates (fun vs H Q E h => h.1) (fun cdv A outer s H vs Q E hr gd h => ?_)
  have hu := huX hr
  refine ⟨_, (pss_one (ps_ret (pe_callG (okfirst_far) (hr.mono (by decide)) gd (by rfl) Dfirst_far.m Dfirst_far.F.kp Dfirst_far.b .nil pass0 (pa_cons (pv 1) (pa_cons (pe_callG (okexchanged) (hr.mono (by decide)) gd (by rfl) Dexchanged.m Dexchanged.F.kp Dexchanged.b .nil pass0 (pa_cons (pv 1) (pa_cons (pe_callG (okdescending) (hr.mono (by decide)) gd (by rfl) Ddescending.m Ddescending.F.kp Ddescending.b .nil pass0 (pa_cons (pv 0) pa_nil)) pa_nil))) pa_nil))))), ?_⟩
  refine body_of h (by decide) fun as ob r ob' hR hl => ?_
  obtain ⟨n, net, rfl, hi, rfl, rfl, rfl⟩ := hR
  exact ts_ret (ee_callD (ed_cons (ee_var rfl) (ed_cons (ee_callD (d := rD (runS (descI n) net)) (ed_cons (ee_var rfl) (ed_cons (ee_callD (d := rD (descI n)) (ed_cons (ee_var rfl) ed_nil) rfl ⟨n, rfl, by have := hi.2.2; omega, rfl, rfl, rfl⟩) ed_nil)) rfl ⟨net, descI n, rfl, hi.good, rfl, rfl, rfl⟩) ed_nil)) rfl ⟨net, runS (descI n) net, rfl, fun s hs => runK_spot _ s hs, rfl, rfl, rfl⟩) ⟨rfl, rfl⟩
def kaB (n : Nat) (net : List Gate) : Bool := decide (kaN n net = (net.length : Int))
def R_keeps : FR := fun as ob r ob' => ∃ (n : Nat) (net : List Gate), as = [.dat (.int (n : Int)), .dat (nD net)] ∧ NetIn n net ∧ ob = [] ∧ r = .dat (.bool (kaB n net)) ∧ ob' = []
theorem sckeeps_all : FnScope ["n", "network"] ["n", "network"] (defScope skeeps_all) := ⟨rfl, rfl, rfl, by decide +kernel, rfl, by decide +kernel, by decide +kernel⟩
theorem okkeeps_all (D : Df K mg "keeps_all" skeeps_all ["n", "network"]) (B : Bi mg) (Cc : Cls K mg) (Dexchanged : Df K mg "exchanged" sexchanged ["network", "row"]) (D_run : Df K mg "_run" s_run ["network", "row"]) (Ddescending : Df K mg "descending" sdescending ["n"]) (Dis_far : Df K mg "is_far" sis_far ["gate"]) (Dfirst_far : Df K mg "first_far" sfirst_far ["network", "spots"]) (Dkept_all_gates : Df K mg "kept_all_gates" skept_all_gates ["n", "network"]) : FnG P w K mg base CX0 4 D.f D.fd ["n", "network"] (spD K 2 R_keeps) := by
  have okkept_all_gates : FnG P w K mg base CX0 3 _ _ _ _ := okkept_all_gates Dkept_all_gates B Cc Dexchanged D_run Ddescending Dis_far Dfirst_far
  refine okG D.F sckeeps_all (fun vs H Q E h => h.1) (fun cdv A outer s H vs Q E hr gd h => ?_)
  have hu := huX hr
  refine ⟨_, (pss_one (ps_ret (pe_cmpR (op_eqU hu) (pe_callG (okkept_all_gates) (hr.mono (by decide)) gd (by rfl) Dkept_all_gates.m Dkept_all_gates.F.kp Dkept_all_gates.b .nil pass0 (pa_cons (pv 0) (pa_cons (pv 1) pa_nil))) (pe_callB cb_len (by rfl) B.z_len PySem.boot_len (pa_cons (pv 1) pa_nil)) (nomark _)))), ?_⟩
  refine body_of h (by decide) fun as ob r ob' hR hl => ?_
  obtain ⟨n, net, rfl, hi, rfl, rfl, rfl⟩ := hR
  refine ts_ret (ee_op (ee_callD (ed_cons (ee_var rfl) (ed_cons (ee_var rfl) ed_nil)) rfl ⟨n, net, rfl, hi, rfl, rfl, rfl⟩) (ee_eq (ee_cb (ea_cons (ee_var rfl) ea_nil) rc_lenT) (by rw [List.length_map])) ro_eqI) ⟨rfl, rfl⟩
/-! ### the law's own running -/
def R_lrun : FR := fun as ob r ob' => ∃ net row kd, as = [.dat (nD net), .dat kd] ∧ KD row kd ∧ GoodIn net row ∧ ob = [] ∧ r = .dat (.tuple [.list ((runP row net).map PyData.int), .list ((runS row net).map PyData.int)]) ∧ ob' = []
theorem sc_law_run : FnScope ["gates", "keys", "lines", "moved", "spot", "i", "j"] ["gates", "keys"] (defScope s_law_run) := ⟨rfl, rfl, rfl, by decide +kernel, rfl, by decide +kernel, by decide +kernel⟩
theorem ok_law_run (D : Df K mg "_law_run" s_law_run ["gates", "keys"]) (B : Bi mg) (Cc : Cls K mg) : FnG P w K mg base CX0 1 D.f D.fd ["gates", "keys"] (spD K 2 R_lrun) := by
  refine okG D.F sc_law_run (fun vs H Q E h => h.1) (fun cdv A outer s H vs Q E hr gd h => ?_)
  have hu := huX hr
  refine ⟨_, (pss_cons (ps_par (i := 2) (j := 3) (by rfl) sc_law_run.nd rfl rfl (by decide) rfl rfl (pa_cons (pe_listRg rfl (by rfl) B.z_list (prg_1 (by rfl) B.z_range (pe_callB cb_len (by rfl) B.z_len PySem.boot_len (pa_cons (pv 1) pa_nil)))) (pa_cons (pe_lst pa_nil) pa_nil)) (by rfl))
      (pss_cons (ps_for PassesOwn.never rfl (pi_enumT (by rfl) B.z_enumerate (pa_cons (pv 0) pa_nil)) (pg_tup rfl (pgs_cons (pg_name (i := 4) sc_law_run.nd rfl (Or.inl rfl)) (pgs_cons (pg_tup rfl (pgs_cons (pg_name (i := 5) sc_law_run.nd rfl (Or.inl rfl)) (pgs_cons (pg_name (i := 6) sc_law_run.nd rfl (Or.inl rfl)) pgs_nil))) pgs_nil)))
        (pss_one (ps_if (pt_cmpR (op_gtU hu) (pe_ix ix_seq (pv 1) (pe_ix ix_seq (pv 2) (pv 5) (fun _ _ => rfl)) (fun _ _ => rfl)) (pe_ix ix_seq (pv 1) (pe_ix ix_seq (pv 2) (pv 6) (fun _ _ => rfl)) (fun _ _ => rfl)) (nomark _)) (pss_cons (ps_asg (pe_tup (pa_cons (pe_ix ix_seq (pv 2) (pv 6) (fun _ _ => rfl)) (pa_cons (pe_ix ix_seq (pv 2) (pv 5) (fun _ _ => rfl)) pa_nil))) (pg_tup rfl (pgs_cons (pg_sub (pv 2) (pv 5) set_list) (pgs_cons (pg_sub (pv 2) (pv 6) set_list) pgs_nil))))
          (pss_one (ps_expr (pe_bm PySem.F.plainAttrs_list PySem.F.slot_list_append PySem.F.type_list_append mt_append (pv 3) (pa_cons (pv 4) pa_nil))))) pss_nil)))
      (pss_one (ps_ret (pe_tup (pa_cons (pv 2) (pa_cons (pv 3) pa_nil))))))), ?_⟩
  refine body_ofG h (by decide) (fun as ob r ob' hR => ?_) fun as ob r ob' hR hl => ?_
  · obtain ⟨net, row, kd, rfl, _, _, rfl, rfl, rfl⟩ := hR
    exact ⟨Nat.le_refl _, fun _ z => by cases z⟩
  obtain ⟨net, row, kd, rfl, hkd, ⟨hnet, hnl, hrl⟩, rfl, rfl, rfl⟩ := hR
  refine ts_seq (ts_par (x := .own 0) (y := .own 1) (S1 := ⟨[.dat (nD net), .dat kd, .un, .un, .un, .un, .un], [.lst (rngD 0 row.length), .lst []]⟩) (ea_cons (S1 := ⟨[.dat (nD net), .dat kd, .un, .un, .un, .un, .un], [.lst (rngD 0 row.length)]⟩) (eo_of_el (S1 := ⟨[.dat (nD net), .dat kd, .un, .un, .un, .un, .un], []⟩) (el_rng1 (i := (row.length : Int)) (ee_cb (ea_cons (ee_var rfl) ea_nil) (rc_kdlen hkd)) (by omega))) (ea_cons (eo_of_el (el_lst ed_nil)) ea_nil)) ?_)
  refine ts_seq (ts_for (ei_enumT (ed_cons (ee_var rfl) ed_nil)) (fun k S => ∃ a b c, S = ⟨[.dat (nD net), .dat kd, .own 0, .own 1, a, b, c], [.lst ((runK row net k).1.map PyData.int), .lst ((runK row net k).2.map PyData.int)]⟩) ⟨.un, .un, .un, ?_⟩ ?_ ?_)
  · rw [rngD_map]
    rfl
  · rintro k d S' hd ⟨a, b, c, rfl⟩
    obtain ⟨e, he, rfl⟩ := enumD_get hd
    obtain ⟨hk, rfl⟩ := net_at he
    have hg := gate_at hnet hk
    generalize hgg : net.getD k (0, 0) = g at hg
    have l1 := runK_len row net k
    have m1 := runK_mem hnet (k := k) (by omega) (i := g.1.toNat) (by omega)
    have m2 := runK_mem hnet (k := k) (by omega) (i := g.2.toNat) (by omega)
    have sl := spots_len row net k
    have hs : runK row net (k + 1) = stepR row k g (runK row net k) := by
      rw [← hgg]
      rfl
    rw [hs]
    generalize runK row net k = st at l1 m1 m2 sl
    obtain ⟨pl, sp⟩ := st
    have l1 : pl.length = row.length := l1
    have sl : sp.length ≤ k := sl
    have i1 : atI (pl.map PyData.int) g.1 = some (.int (pl.getD g.1.toNat 0)) := at_int (by omega) (by omega)
    have i2 : atI (pl.map PyData.int) g.2 = some (.int (pl.getD g.2.toNat 0)) := at_int (by omega) (by omega)
    have v1 : atI (row.map PyData.int) (pl.getD g.1.toNat 0) = some (.int (val row (pl.getD g.1.toNat 0))) := at_int m1.1 m1.2
    have v2 : atI (row.map PyData.int) (pl.getD g.2.toNat 0) = some (.int (val row (pl.getD g.2.toNat 0))) := at_int m2.1 m2.2
    refine ⟨_, eg_tup (egs_cons eg_name (egs_cons (eg_tup (egs_cons eg_name (egs_cons eg_name egs_nil))) egs_nil)), ?_⟩
    refine ts_if (et_test (ee_op (ee_op (ee_var rfl) (ee_op (ee_var rfl) (ee_var rfl) (ro_ixL (.own rfl) i1)) (ro_kd hkd v1)) (ee_op (ee_var rfl) (ee_op (ee_var rfl) (ee_var rfl) (ro_ixL (.own rfl) i2)) (ro_kd hkd v2)) ro_gt)) (fun hb => ?_) fun hb => ?_
    · have n1 : ∀ ds : List PyData, ds.length = row.length → ixN ds.length g.1 = some g.1.toNat := fun ds e => by
        unfold ixN
        rw [if_pos (by omega), if_pos (by omega)]
      have n2 : ∀ ds : List PyData, ds.length = row.length → ixN ds.length g.2 = some g.2.toNat := fun ds e => by
        unfold ixN
        rw [if_pos (by omega), if_pos (by omega)]
      refine ts_seq (ts_asgG (ee_tup (ed_cons (ee_op (ee_var rfl) (ee_var rfl) (ro_ixL (.own rfl) i2)) (ed_cons (ee_op (ee_var rfl) (ee_var rfl) (ro_ixL (.own rfl) i1)) ed_nil)))
        (egh_tup (eghs_cons (egh_sub (ee_var rfl) (ee_var rfl) rfl (n1 _ (by rw [List.length_map]; exact l1))) (eghs_cons (egh_sub (ee_var rfl) (ee_var rfl) rfl (n2 _ (by rw [List.length_set, List.length_map]; exact l1))) eghs_nil))) ?_)
      refine ts_drop (ee_append (ee_var rfl) (ee_var rfl) ⟨_, rfl⟩ rfl (by rw [List.length_map]; omega)) ⟨.dat (.int (k : Int)), .dat (.int g.1), .dat (.int g.2), ?_⟩
      have e : stepR row k g (pl, sp) = (swp pl g.1.toNat g.2.toNat, sp ++ [(k : Int)]) := if_pos (of_decide_eq_true hb)
      rw [e]
      show (⟨_, [.lst (((pl.map PyData.int).set _ _).set _ _), .lst _]⟩ : SS) = ⟨_, [.lst ((swp pl g.1.toNat g.2.toNat).map PyData.int), .lst ((sp ++ [(k : Int)]).map PyData.int)]⟩
      unfold swp
      rw [List.map_set, List.map_set, List.map_append]
      rfl
    · have e : stepR row k g (pl, sp) = (pl, sp) := if_neg (of_decide_eq_false hb)
      rw [e]
      exact ts_next ⟨_, _, _, rfl⟩
  · rintro S' ⟨a, b, c, rfl⟩
    rw [enumD_len, List.length_map]
    exact ts_ret (ee_tup (ed_cons (ee_frz (ee_var rfl) rfl) (ed_cons (ee_frz (ee_var rfl) rfl) ed_nil))) ⟨rfl, List.nil_prefix⟩
def endD (n : Nat) (net : List Gate) : PyData := .tuple [rD (imgN n net), .list ((farS net (runS (descI n) net)).map PyData.int)]
def R_end : FR := fun as ob r ob' => ∃ (n : Nat) (net : List Gate), as = [.dat (.int (n : Int)), .dat (nD net)] ∧ NetIn n net ∧ ob = [] ∧ r = .dat (endD n net) ∧ ob' = []
theorem sc_law_end : FnScope ["wide", "gates", "keys", "lines", "moved", "place", "spot"] ["wide", "gates"] (defScope s_law_end) := ⟨rfl, rfl, rfl, by decide +kernel, rfl, by decide +kernel, by decide +kernel⟩
theorem ok_law_end (D : Df K mg "_law_end" s_law_end ["wide", "gates"]) (B : Bi mg) (Cc : Cls K mg) (D_law_run : Df K mg "_law_run" s_law_run ["gates", "keys"]) : FnG P w K mg base CX0 2 D.f D.fd ["wide", "gates"] (spD K 2 R_end) := by
  have ok_law_run : FnG P w K mg base CX0 1 _ _ _ _ := ok_law_run D_law_run B Cc
  refine okG D.F sc_law_end (fun vs H Q E h => h.1) (fun cdv A outer s H vs Q E hr gd h => ?_)
  have hu := huX hr
  refine ⟨_, (pss_cons (ps_set (i := 2) sc_law_end.nd rfl (Or.inr rfl) (pe_lstDn rfl (by rfl) B.z_list (by rfl) B.z_range (pa_cons (pv 0) (pa_cons pe_int (pa_cons (pe_un un_negU pe_int) pa_nil)))))
      (pss_cons (ps_asg (pe_callG (ok_law_run) (hr.mono (by decide)) gd (by rfl) D_law_run.m D_law_run.F.kp D_law_run.b .nil pass0 (pa_cons (pv 1) (pa_cons (pv 2) pa_nil))) (pg_tup rfl (pgs_cons (pg_name (i := 3) sc_law_end.nd rfl (Or.inl rfl)) (pgs_cons (pg_name (i := 4) sc_law_end.nd rfl (Or.inl rfl)) pgs_nil))))
      (pss_one (ps_ret (pe_tup (pa_cons (pe_callTy cb_tuple (by rfl) B.z_tuple (by decide +kernel) (pa_cons (pe_lc (own := [("place", 5)]) (g := gName 5) (tt := tYes) (by rfl) sc_law_end.nd (pi_list (pv 3)) (blkOk_by (own := [("place", 5)]) (N := ["wide", "gates", "keys", "lines", "moved", "place", "spot"]) (sc := defScope s_law_end) (by decide +kernel)) (fun _ _ _ _ _ => (pg_name (i := 5) sc_law_end.nd rfl (Or.inl rfl))) (fun _ _ _ _ _ => pts_nil) (fun _ _ _ _ _ => (pe_ix (ixK K (R := rIx) ix_seq rfl) (pv 2) (pv 5) (fun _ _ => rfl)))) pa_nil)) (pa_cons (pe_lc (own := [("spot", 6)]) (g := gName 6) (by rfl) sc_law_end.nd (pi_list (pv 4)) (blkOk_by (own := [("spot", 6)]) (N := ["wide", "gates", "keys", "lines", "moved", "place", "spot"]) (sc := defScope s_law_end) (by decide +kernel)) (fun _ _ _ _ _ => (pg_name (i := 6) sc_law_end.nd rfl (Or.inl rfl))) (fun _ _ _ _ _ => (pts_one (pt_cmpR (opK K (R := rGtU) (op_gtU hu) rfl) (pe_ix (ixK K (R := rIx) ix_seq rfl) (pe_ix (ixK K (R := rIx) ix_seq rfl) (pv 1) (pv 6) (fun _ _ => rfl)) pe_int (fun _ _ => rfl)) (pe_op (opK K (R := rPlus) op_plus rfl) (pe_ix (ixK K (R := rIx) ix_seq rfl) (pe_ix (ixK K (R := rIx) ix_seq rfl) (pv 1) (pv 6) (fun _ _ => rfl)) pe_int (fun _ _ => rfl)) pe_int) (nomark _)))) (fun _ _ _ _ _ => (pv 6))) pa_nil))))))), ?_⟩
  refine body_of h (by decide) fun as ob r ob' hR hl => ?_
  obtain ⟨n, net, rfl, hi, rfl, rfl, rfl⟩ := hR
  have hn := hi.2.2
  have hg := hi.good
  refine ts_seq (ts_asg (x := .dat (.list ((descI n).map PyData.int))) (S1 := ⟨[.dat (.int (n : Int)), .dat (nD net), .un, .un, .un, .un, .un], []⟩) ?_ ?_)
  · have := ee_of_el (el_lstDn (K := K) (S := ⟨[.dat (.int (n : Int)), .dat (nD net), .un, .un, .un, .un, .un], []⟩) (i := (n : Int)) (j := 0) (ed_cons (ee_var (i := 0) rfl) (ed_cons ee_int (ed_cons (ee_un ee_int ru_neg) ed_nil))) (by omega))
    rw [show ((n : Int) - 0).toNat = n by omega, desc_down] at this
    exact this
  refine ts_seq (ts_asgG (d := .tuple [.list ((runP (descI n) net).map PyData.int), .list ((runS (descI n) net).map PyData.int)]) (S1 := ⟨[.dat (.int (n : Int)), .dat (nD net), .dat (.list ((descI n).map PyData.int)), .un, .un, .un, .un], []⟩) (ee_callD (ed_cons (ee_var rfl) (ed_cons (ee_var rfl) ed_nil)) rfl ⟨net, descI n, _, rfl, .inl rfl, hg, rfl, rfl, rfl⟩) (egh_of (eg_tup (egs_cons eg_name (egs_cons eg_name egs_nil)))) ?_)
  refine ts_ret (S1 := ⟨[.dat (.int (n : Int)), .dat (nD net), .dat (.list ((descI n).map PyData.int)), .dat (.list ((runP (descI n) net).map PyData.int)), .dat (.list ((runS (descI n) net).map PyData.int)), .un, .un], []⟩) (ee_tup (ed_cons (d := rD (imgN n net)) (S1 := ⟨[.dat (.int (n : Int)), .dat (nD net), .dat (.list ((descI n).map PyData.int)), .dat (.list ((runP (descI n) net).map PyData.int)), .dat (.list ((runS (descI n) net).map PyData.int)), .un, .un], []⟩) (ee_cb (ea_cons (ee_of_el ?_) ea_nil) (rc_tupL (.dat _))) (ed_cons (ee_of_el ?_) ed_nil))) ⟨rfl, rfl⟩
  · unfold imgN runO
    rw [List.map_map]
    refine el_lcmA (dA := PyData.int) (lst := runP (descI n) net) (S0 := ⟨[.dat (.int (n : Int)), .dat (nD net), .dat (.list ((descI n).map PyData.int)), .dat (.list ((runP (descI n) net).map PyData.int)), .dat (.list ((runS (descI n) net).map PyData.int)), .un, .un], []⟩) (ei_list (ee_var rfl)) (by rw [runP_len, descI_len]; omega) fun p hp => ?_
    have m := runP_mem hg.1 hp
    exact ⟨_, egc_name (by decide), rfl, _, ee_op (ee_var rfl) (ee_var rfl) (ro_ixL (.dat _) (at_int m.1 m.2)), rfl⟩
  · refine el_lcfA (dA := PyData.int) (lst := runS (descI n) net) (p := fun s => isFar (gAt net s)) (S0 := ⟨[.dat (.int (n : Int)), .dat (nD net), .dat (.list ((descI n).map PyData.int)), .dat (.list ((runP (descI n) net).map PyData.int)), .dat (.list ((runS (descI n) net).map PyData.int)), .un, .un], []⟩) (ei_list (ee_var rfl)) (by have := runS_len (descI n) net; have := hi.2.1; omega) fun s hs => ?_
    have hb := runK_spot _ s hs
    have ix : atI (net.map gD) s = some (gD (gAt net s)) := gAt_at hb.1 hb.2
    refine ⟨_, _, egc_name (by decide), et_test (ee_op (ee_op (ee_op (ee_var rfl) (ee_var rfl) (ro_ixT ix)) ee_int (ro_ixT (d := .int (gAt net s).2) rfl)) (ee_op (ee_op (ee_op (ee_var rfl) (ee_var rfl) (ro_ixT ix)) ee_int (ro_ixT (d := .int (gAt net s).1) rfl)) ee_int ro_add) ro_gt), rfl, fun _ => ⟨_, ee_var rfl, rfl⟩⟩
end
end K33

set_option maxRecDepth 100000
set_option maxHeartbeats 4000000
namespace K33
open PySem PySem.Spec PyProof.Rows L2 DL
/-! ### the law's networks -/
theorem ee_andS {K : PySem.W.Frag} {S S1 S2 : SS} {ta tb : TE} {a b : Bool} (h1 : Ee K ta S (.dat (.bool a)) S1) (h2 : a = true → Ee K tb S1 (.dat (.bool b)) S2) (h3 : a = false → S2 = S1) : Ee K (tAndV ta tb) S (.dat (.bool (a && b))) S2 := fun c Hf H σ fp ok Q q => h1 c Hf H σ fp ok _ fun v Hf1 H1 fp1 ok1 g1 r1 => by
  cases r1
  refine ⟨a, rfl, ?_⟩
  cases a with
  | true =>
    show tb σ H1 Q
    exact h2 rfl c Hf1 H1 σ fp1 ok1 Q fun v Hf2 H2 fp2 ok2 g2 r2 => q v Hf2 H2 fp2 ok2 (g1.trans g2) r2
  | false =>
    show Q (.bl false) H1
    exact q _ Hf1 H1 fp1 (by rw [h3 rfl]; exact ok1) g1 (Rp.bl _)
section
variable {α : Type}
def mapW (g : Well → α × Well) : Nat → Well → List α × Well
  | 0, W => ([], W)
  | k + 1, W => ((mapW g k W).1 ++ [(g (mapW g k W).2).1], (g (mapW g k W).2).2)
theorem mapW_len (g : Well → α × Well) (W : Well) : ∀ k, (mapW g k W).1.length = k
  | 0 => rfl
  | k + 1 => by
    show ((mapW g k W).1 ++ [_]).length = _
    rw [List.length_append, mapW_len g W k]
    rfl
theorem mapW_deep {g : Well → α × Well} (hg : ∀ W, W.deep.length ≤ 100 → (g W).2.deep.length ≤ 100) {W : Well} (h : W.deep.length ≤ 100) : ∀ k, (mapW g k W).2.deep.length ≤ 100
  | 0 => h
  | k + 1 => hg _ (mapW_deep hg h k)
theorem mapW_all {g : Well → α × Well} {p : α → Prop} (hg : ∀ W, p (g W).1) (W : Well) : ∀ k, ∀ x ∈ (mapW g k W).1, p x
  | 0, x, h => by cases h
  | k + 1, x, h => by
    rcases List.mem_append.mp h with h | h
    · exact mapW_all hg W k x h
    · rw [List.mem_singleton.mp h]
      exact hg _
theorem el_mapW {K : PySem.W.Frag} {wi : TI} {tg : TG} {te : TE} {vs : List Nat} {S S0 : SS} {g : Well → α × Well} {dB : α → PyData} {n : Nat} {W : Well} (h : Ei K wi S (rngD 0 n) S0) (ho : S0.ob = [W.oo]) (hn : n ≤ 100000) (hd : W.deep.length ≤ 100) (hg : ∀ W, W.deep.length ≤ 100 → (g W).2.deep.length ≤ 100)
    (hs : ∀ (i : Nat) (W' : Well), i < n → W'.deep.length ≤ 100 → ∃ Sg, Egc K vs tg (.int (0 + (i : Int))) { S0 with ob := [W'.oo], sl := wipeS S0.sl vs } Sg ∧ ∃ S3, Ee K te Sg (.dat (dB (g W').1)) S3 ∧ S3.ob = [(g W').2.oo]) : El K (tLc wi tg tYes te vs) S ((mapW g n W).1.map dB) { S0 with ob := [(mapW g n W).2.oo] } := by
  refine el_lc h (fun i acc ob => acc = (mapW g i W).1.map dB ∧ ob = [(mapW g i W).2.oo]) ⟨rfl, ho⟩ ?_ (by rw [rngD_len]; omega) ?_
  · rintro i d acc ob hdd ⟨rfl, rfl⟩
    obtain ⟨hi, rfl⟩ := rngD_get hdd
    obtain ⟨Sg, a1, S3, a2, a3⟩ := hs i _ hi (mapW_deep hg hd i)
    refine ⟨Sg, true, Sg, a1, et_yes, (fun z => by cases z), fun _ => ⟨_, S3, a2, ?_, a3⟩⟩
    show _ = ((mapW g i W).1 ++ [_]).map dB
    rw [List.map_append]
    rfl
  · rintro acc ob ⟨rfl, rfl⟩
    rw [rngD_len]
    exact ⟨rfl, rfl⟩
end
def gateOf (n : Nat) (b : Bool) (W : Well) : Gate × Well :=
  if b = true then (((draw ((n : Int) - 1) W).1, (draw ((n : Int) - 1) W).1 + 1 + 0), (draw ((n : Int) - 1) W).2)
  else (((draw ((n : Int) - 1) W).1, (draw ((n : Int) - 1) W).1 + 1 + (draw ((n : Int) - 1 - (draw ((n : Int) - 1) W).1) (draw ((n : Int) - 1) W).2).1), (draw ((n : Int) - 1 - (draw ((n : Int) - 1) W).1) (draw ((n : Int) - 1) W).2).2)
theorem gateOf_ok {n : Nat} (hn : 2 ≤ n) (b : Bool) (W : Well) : 0 ≤ (gateOf n b W).1.1 ∧ (gateOf n b W).1.1 < (gateOf n b W).1.2 ∧ (gateOf n b W).1.2 < n := by
  have h1 := draw_lo ((n : Int) - 1) W
  have h2 := draw_hi (m := (n : Int) - 1) W (by omega)
  unfold gateOf
  split
  · dsimp only
    omega
  · have h3 := draw_lo ((n : Int) - 1 - (draw ((n : Int) - 1) W).1) (draw ((n : Int) - 1) W).2
    have h4 := draw_hi (m := (n : Int) - 1 - (draw ((n : Int) - 1) W).1) (draw ((n : Int) - 1) W).2 (by omega)
    dsimp only
    omega
theorem gateOf_deep (n : Nat) (b : Bool) (W : Well) (h : W.deep.length ≤ 100) : (gateOf n b W).2.deep.length ≤ 100 := by
  unfold gateOf
  split
  · exact draw_deep _ _ h
  · exact draw_deep _ _ (draw_deep _ _ h)
structure Kp where
  st : List Int
  net : List Gate
  W : Well
def kpGate (n : Nat) (s : Kp) : Gate := (gateOf n (decide (0 < (draw 3 s.W).1)) (draw 3 s.W).2).1
def kpFall (st : List Int) (g : Gate) : Bool := decide (val st g.2 < val st g.1)
def kpMade (st : List Int) (g : Gate) : Gate := (g.1, if kpFall st g = true then g.1 + 1 else g.2)
def kpStep (n : Nat) (s : Kp) : Kp := ⟨if kpFall s.st (kpMade s.st (kpGate n s)) = true then swp s.st (kpGate n s).1.toNat (kpMade s.st (kpGate n s)).2.toNat else s.st, s.net ++ [kpMade s.st (kpGate n s)], (gateOf n (decide (0 < (draw 3 s.W).1)) (draw 3 s.W).2).2⟩
def kpL (n : Nat) (W : Well) : Nat → Kp
  | 0 => ⟨descI n, [], W⟩
  | k + 1 => kpStep n (kpL n W k)
theorem kpL_all {n : Nat} (hn : 2 ≤ n) {W : Well} (hW : W.deep.length ≤ 100) : ∀ k, (kpL n W k).st.length = n ∧ NetOk n (kpL n W k).net ∧ (kpL n W k).net.length = k ∧ (kpL n W k).W.deep.length ≤ 100
  | 0 => ⟨descI_len n, fun g h => (by cases h), rfl, hW⟩
  | k + 1 => by
    obtain ⟨h1, h2, h3, h4⟩ := kpL_all hn hW k
    have hg := gateOf_ok hn (decide (0 < (draw 3 (kpL n W k).W).1)) (draw 3 (kpL n W k).W).2
    show (kpStep n (kpL n W k)).st.length = n ∧ NetOk n (kpStep n (kpL n W k)).net ∧ (kpStep n (kpL n W k)).net.length = k + 1 ∧ (kpStep n (kpL n W k)).W.deep.length ≤ 100
    refine ⟨?_, fun g hg' => ?_, ?_, gateOf_deep _ _ _ (draw_deep _ _ h4)⟩
    · unfold kpStep
      dsimp only
      split
      · rw [swp_len]
        exact h1
      · exact h1
    · rcases List.mem_append.mp hg' with hg' | hg'
      · exact h2 g hg'
      · rw [List.mem_singleton.mp hg']
        unfold kpMade kpGate
        dsimp only
        split <;> omega
    · show ((kpL n W k).net ++ [_]).length = _
      rw [List.length_append, h3]
      rfl
def rowsR (n : Nat) (k : Nat) : List Gate := (List.range k).flatMap fun t => (List.range (n - 1 - t)).map fun (i : Nat) => ((i : Int), (i : Int) + 1)
theorem rowsR_succ (n k : Nat) : rowsR n (k + 1) = rowsR n k ++ (List.range (n - 1 - k)).map fun (i : Nat) => ((i : Int), (i : Int) + 1) := by
  unfold rowsR
  rw [List.range_succ, List.flatMap_append, List.flatMap_singleton]
theorem rowsR_ok (n k : Nat) : NetOk n (rowsR n k) := fun g hg => by
  unfold rowsR at hg
  obtain ⟨t, _, hg⟩ := List.mem_flatMap.mp hg
  obtain ⟨i, hi, rfl⟩ := List.mem_map.mp hg
  have := List.mem_range.mp hi
  dsimp only
  omega
theorem rowsR_len (n : Nat) : ∀ k, (rowsR n k).length ≤ k * n
  | 0 => Nat.zero_le _
  | k + 1 => by
    rw [rowsR_succ, List.length_append, List.length_map, List.length_range, Nat.succ_mul]
    have := rowsR_len n k
    omega
def nearB (way : Int) (W : Well) : Bool × Well := if decide (way = 4) = true then (decide (0 < (draw 4 W).1), (draw 4 W).2) else (false, W)
def anyG (n : Nat) (way : Int) (W : Well) : Gate × Well := gateOf n (nearB way W).1 (nearB way W).2
theorem nearB_deep (way : Int) (W : Well) (h : W.deep.length ≤ 100) : (nearB way W).2.deep.length ≤ 100 := by
  unfold nearB
  split
  · exact draw_deep _ _ h
  · exact h
theorem anyG_deep (n : Nat) (way : Int) (W : Well) (h : W.deep.length ≤ 100) : (anyG n way W).2.deep.length ≤ 100 := gateOf_deep _ _ _ (nearB_deep way W h)
def gatesOf (n m : Nat) (W : Well) : List Gate × Well :=
  if (draw 5 W).1 < 2 then ((kpL n (draw 5 W).2 m).net, (kpL n (draw 5 W).2 m).W)
  else if (draw 5 W).1 = 2 then
    ((kpL n (draw 5 W).2 m).net.take (draw ((m : Int) + 1) (kpL n (draw 5 W).2 m).W).1.toNat ++ [(gateOf n false (draw ((m : Int) + 1) (kpL n (draw 5 W).2 m).W).2).1] ++ (kpL n (draw 5 W).2 m).net.drop (draw ((m : Int) + 1) (kpL n (draw 5 W).2 m).W).1.toNat, (gateOf n false (draw ((m : Int) + 1) (kpL n (draw 5 W).2 m).W).2).2)
  else if (draw 5 W).1 = 3 ∨ (6 : Int) < n then mapW (anyG n (draw 5 W).1) m (draw 5 W).2
  else (if (draw 2 (mapW (anyG n (draw 5 W).1) m (draw 5 W).2).2).1 = 0 then rowsR n (n - 1) ++ (mapW (anyG n (draw 5 W).1) m (draw 5 W).2).1.take 4 else (mapW (anyG n (draw 5 W).1) m (draw 5 W).2).1.take 2 ++ rowsR n (n - 1), (draw 2 (mapW (anyG n (draw 5 W).1) m (draw 5 W).2).2).2)
theorem ok_app {n : Nat} {a b : List Gate} (h1 : NetOk n a) (h2 : NetOk n b) : NetOk n (a ++ b) := fun g hg => (List.mem_append.mp hg).elim (h1 g) (h2 g)
theorem ok_sub {n : Nat} {a b : List Gate} (h : NetOk n b) (s : ∀ x ∈ a, x ∈ b) : NetOk n a := fun g hg => h g (s g hg)
theorem gatesOf_ok {n m : Nat} (hn : 2 ≤ n) {W : Well} (hW : W.deep.length ≤ 100) : NetOk n (gatesOf n m W).1 := by
  have k := (kpL_all hn (draw_deep 5 W hW) m).2.1
  have a : NetOk n (mapW (anyG n (draw 5 W).1) m (draw 5 W).2).1 := mapW_all (p := fun g : Gate => 0 ≤ g.1 ∧ g.1 < g.2 ∧ g.2 < n) (fun W => gateOf_ok hn _ _) _ m
  unfold gatesOf
  split
  · exact k
  split
  · exact ok_app (ok_app (ok_sub k fun x hx => List.mem_of_mem_take hx) fun g hg => by rw [List.mem_singleton.mp hg]; exact gateOf_ok hn _ _) (ok_sub k fun x hx => List.mem_of_mem_drop hx)
  split
  · exact a
  · show NetOk n (if _ then _ else _)
    split
    · exact ok_app (rowsR_ok n _) (ok_sub a fun x hx => List.mem_of_mem_take hx)
    · exact ok_app (ok_sub a fun x hx => List.mem_of_mem_take hx) (rowsR_ok n _)
theorem gatesOf_deep {n m : Nat} (hn : 2 ≤ n) {W : Well} (hW : W.deep.length ≤ 100) : (gatesOf n m W).2.deep.length ≤ 100 := by
  have k := (kpL_all hn (draw_deep 5 W hW) m).2.2.2
  have a : (mapW (anyG n (draw 5 W).1) m (draw 5 W).2).2.deep.length ≤ 100 := mapW_deep (fun W h => anyG_deep n _ W h) (draw_deep 5 W hW) m
  unfold gatesOf
  split
  · exact k
  split
  · exact gateOf_deep _ _ _ (draw_deep _ _ k)
  split
  · exact a
  · exact draw_deep _ _ a
theorem gatesOf_len {n m : Nat} (hn : 2 ≤ n) {W : Well} (hW : W.deep.length ≤ 100) : (gatesOf n m W).1.length ≤ m + 1 + n * n := by
  have k := (kpL_all hn (draw_deep 5 W hW) m).2.2.1
  have a := mapW_len (anyG n (draw 5 W).1) (draw 5 W).2 m
  have r := rowsR_len n (n - 1)
  have r2 : (n - 1) * n ≤ n * n := Nat.mul_le_mul_right n (by omega)
  unfold gatesOf
  split
  · show (kpL n (draw 5 W).2 m).net.length ≤ _
    omega
  split
  · show (_ ++ _ ++ _ : List Gate).length ≤ _
    rw [List.length_append, List.length_append, List.length_take, List.length_drop, List.length_singleton]
    omega
  split
  · omega
  · show (if _ then _ else _ : List Gate).length ≤ _
    split
    · rw [List.length_append, List.length_take]
      omega
    · rw [List.length_append, List.length_take]
      omega
section
variable {P : Program} {w : World} {K : PySem.W.Frag} {mg : Str → Option Value} {base : Heap}
def R_gate : FR := fun as ob r ob' => ∃ (W : Well) (n : Nat) (b : Bool), as = [.own 0, .dat (.int (n : Int)), .dat (.bool b)] ∧ ob = [W.oo] ∧ W.deep.length ≤ 100 ∧ n ≤ 1000 ∧ r = .dat (gD (gateOf n b W).1) ∧ ob' = [(gateOf n b W).2.oo]
theorem sc_law_gate : FnScope ["loom", "wide", "is_near", "i"] ["loom", "wide", "is_near"] (defScope s_law_gate) := ⟨rfl, rfl, rfl, by decide +kernel, rfl, by decide +kernel, by decide +kernel⟩
theorem ok_law_gate (D : Df K mg "_law_gate" s_law_gate ["loom", "wide", "is_near"]) (B : Bi mg) (Cc : Cls K mg) (D_law_draw : Df K mg "_law_draw" s_law_draw ["loom", "many"]) : FnG P w K mg base CX0 2 D.f D.fd ["loom", "wide", "is_near"] (spD K 3 R_gate) := by
  have ok_law_draw : FnG P w K mg base CX0 1 _ _ _ _ := ok_law_draw D_law_draw B Cc
  refine okG D.F sc_law_gate (fun vs H Q E h => h.1) (fun cdv A outer s H vs Q E hr gd h => ?_)
  have hu := huX hr
  refine ⟨_, (pss_cons (ps_set (i := 3) sc_law_gate.nd rfl (Or.inl rfl) (pe_callG (ok_law_draw) (hr.mono (by decide)) gd (by rfl) D_law_draw.m D_law_draw.F.kp D_law_draw.b .nil pass0 (pa_cons (pv 0) (pa_cons (pe_op op_subU (pv 1) pe_int) pa_nil))))
      (pss_one (ps_ret (pe_tup (pa_cons (pv 3) (pa_cons (pe_op op_plus (pe_op op_plus (pv 3) pe_int) (pe_ifExp (pt_val (pv 2)) pe_int (pe_callG (ok_law_draw) (hr.mono (by decide)) gd (by rfl) D_law_draw.m D_law_draw.F.kp D_law_draw.b .nil pass0 (pa_cons (pv 0) (pa_cons (pe_op op_subU (pe_op op_subU (pv 1) pe_int) (pv 3)) pa_nil))))) pa_nil)))))), ?_⟩
  refine body_of h (by decide) fun as ob r ob' hR hl => ?_
  obtain ⟨W, n, b, rfl, rfl, hd, hn, rfl, rfl⟩ := hR
  have d1 := draw_deep ((n : Int) - 1) W hd
  have l1 := draw_lo ((n : Int) - 1) W
  refine ts_seq (ts_asg (ee_dr (W := W) (ea_cons (ee_var rfl) (ea_cons (ee_op (ee_var rfl) ee_int ro_sub) ea_nil)) rfl (by omega) hd) ?_)
  show Ts K _ ⟨[.own 0, .dat (.int (n : Int)), .dat (.bool b), .dat (.int (draw ((n : Int) - 1) W).1)], [(draw ((n : Int) - 1) W).2.oo]⟩ _
  unfold gateOf
  generalize (draw ((n : Int) - 1) W).1 = i at l1 ⊢
  generalize (draw ((n : Int) - 1) W).2 = W1 at d1 ⊢
  cases b with
  | true =>
    rw [if_pos rfl]
    exact ts_ret (ee_tup (ed_cons (ee_var rfl) (ed_cons (ee_op (ee_op (ee_var rfl) ee_int ro_add) (ee_if (b := true) (et_B (ee_var rfl)) (fun _ => ee_int) fun z => by cases z) ro_add) ed_nil))) ⟨rfl, rfl⟩
  | false =>
    rw [if_neg Bool.false_ne_true]
    refine ts_ret (S1 := ⟨[.own 0, .dat (.int (n : Int)), .dat (.bool false), .dat (.int i)], [(draw ((n : Int) - 1 - i) W1).2.oo]⟩) (ee_tup (ed_cons (ee_var rfl) (ed_cons (ee_op (S1 := ⟨[.own 0, .dat (.int (n : Int)), .dat (.bool false), .dat (.int i)], [W1.oo]⟩) (S2 := ⟨[.own 0, .dat (.int (n : Int)), .dat (.bool false), .dat (.int i)], [(draw ((n : Int) - 1 - i) W1).2.oo]⟩) (ee_op (ee_var rfl) ee_int ro_add) (ee_if (b := false) (S1 := ⟨[.own 0, .dat (.int (n : Int)), .dat (.bool false), .dat (.int i)], [W1.oo]⟩) (et_B (ee_var rfl)) (fun z => by cases z) fun _ => ee_dr (m := (n : Int) - 1 - i) (W := W1) (k := 0) (S1 := ⟨[.own 0, .dat (.int (n : Int)), .dat (.bool false), .dat (.int i)], [W1.oo]⟩) (ea_cons (ee_var rfl) (ea_cons (ee_op (ee_op (ee_var rfl) ee_int ro_sub) (ee_var rfl) ro_sub) ea_nil)) rfl (by omega) d1) ro_add) ed_nil))) ⟨rfl, rfl⟩
def R_kp : FR := fun as ob r ob' => ∃ (W : Well) (n m : Nat), as = [.own 0, .dat (.int (n : Int)), .dat (.int (m : Int))] ∧ ob = [W.oo] ∧ W.deep.length ≤ 100 ∧ 2 ≤ n ∧ n ≤ 100 ∧ m ≤ 1000 ∧ r = .dat (nD (kpL n W m).net) ∧ ob' = [(kpL n W m).W.oo]
theorem sc_law_kept : FnScope ["loom", "wide", "many", "state", "found", "turn", "i", "j"] ["loom", "wide", "many"] (defScope s_law_kept) := ⟨rfl, rfl, rfl, by decide +kernel, rfl, by decide +kernel, by decide +kernel⟩
theorem ok_law_kept (D : Df K mg "_law_kept" s_law_kept ["loom", "wide", "many"]) (B : Bi mg) (Cc : Cls K mg) (D_law_draw : Df K mg "_law_draw" s_law_draw ["loom", "many"]) (D_law_gate : Df K mg "_law_gate" s_law_gate ["loom", "wide", "is_near"]) : FnG P w K mg base CX0 3 D.f D.fd ["loom", "wide", "many"] (spD K 3 R_kp) := by
  have ok_law_draw : FnG P w K mg base CX0 1 _ _ _ _ := ok_law_draw D_law_draw B Cc
  have ok_law_gate : FnG P w K mg base CX0 2 _ _ _ _ := ok_law_gate D_law_gate B Cc D_law_draw
  refine okG D.F sc_law_kept (fun vs H Q E h => h.1) (fun cdv A outer s H vs Q E hr gd h => ?_)
  have hu := huX hr
  refine ⟨_, (pss_cons (ps_par (i := 3) (j := 4) (by rfl) sc_law_kept.nd rfl rfl (by decide) rfl rfl (pa_cons (pe_lstDn rfl (by rfl) B.z_list (by rfl) B.z_range (pa_cons (pv 1) (pa_cons pe_int (pa_cons (pe_un un_negU pe_int) pa_nil)))) (pa_cons (pe_lst pa_nil) pa_nil)) (by rfl))
      (pss_cons (ps_for PassesOwn.never rfl (pi_range1 (by rfl) B.z_range (pa_cons (pv 2) pa_nil)) (pg_name (i := 5) sc_law_kept.nd rfl (Or.inl rfl))
        (pss_cons (ps_asg (pe_callG (ok_law_gate) (hr.mono (by decide)) gd (by rfl) D_law_gate.m D_law_gate.F.kp D_law_gate.b .nil pass0 (pa_cons (pv 0) (pa_cons (pv 1) (pa_cons (pe_cmpR (op_gtU hu) (pe_callG (ok_law_draw) (hr.mono (by decide)) gd (by rfl) D_law_draw.m D_law_draw.F.kp D_law_draw.b .nil pass0 (pa_cons (pv 0) (pa_cons pe_int pa_nil))) pe_int (nomark _)) pa_nil)))) (pg_tup rfl (pgs_cons (pg_name (i := 6) sc_law_kept.nd rfl (Or.inl rfl)) (pgs_cons (pg_name (i := 7) sc_law_kept.nd rfl (Or.inl rfl)) pgs_nil))))
        (pss_cons (ps_set (i := 7) sc_law_kept.nd rfl (Or.inl rfl) (pe_ifExp (pt_cmpR (op_gtU hu) (pe_ix ix_seq (pv 3) (pv 6) (fun _ _ => rfl)) (pe_ix ix_seq (pv 3) (pv 7) (fun _ _ => rfl)) (nomark _)) (pe_op op_plus (pv 6) pe_int) (pv 7)))
        (pss_cons (ps_expr (pe_bm PySem.F.plainAttrs_list PySem.F.slot_list_append PySem.F.type_list_append mt_append (pv 4) (pa_cons (pe_tup (pa_cons (pv 6) (pa_cons (pv 7) pa_nil))) pa_nil)))
        (pss_one (ps_if (pt_cmpR (op_gtU hu) (pe_ix ix_seq (pv 3) (pv 6) (fun _ _ => rfl)) (pe_ix ix_seq (pv 3) (pv 7) (fun _ _ => rfl)) (nomark _)) (pss_one (ps_asg (pe_tup (pa_cons (pe_ix ix_seq (pv 3) (pv 7) (fun _ _ => rfl)) (pa_cons (pe_ix ix_seq (pv 3) (pv 6) (fun _ _ => rfl)) pa_nil))) (pg_tup rfl (pgs_cons (pg_sub (pv 3) (pv 6) set_list) (pgs_cons (pg_sub (pv 3) (pv 7) set_list) pgs_nil))))) pss_nil))))))
      (pss_one (ps_ret (pe_callTy cb_tuple (by rfl) B.z_tuple (by decide +kernel) (pa_cons (pv 4) pa_nil)))))), ?_⟩
  refine body_ofG h (by decide) (fun as ob r ob' hR => ?_) fun as ob r ob' hR hl => ?_
  · obtain ⟨W, n, m, rfl, rfl, _, _, _, _, rfl, rfl⟩ := hR
    exact ⟨Nat.le_refl _, fun _ z => by cases z⟩
  obtain ⟨W, n, m, rfl, rfl, hd, hn2, hn, hm, rfl, rfl⟩ := hR
  refine ts_seq (ts_par (x := .own 1) (y := .own 2) (S1 := ⟨[.own 0, .dat (.int (n : Int)), .dat (.int (m : Int)), .un, .un, .un, .un, .un], [W.oo, .lst ((descI n).map PyData.int), .lst []]⟩) (ea_cons (S1 := ⟨[.own 0, .dat (.int (n : Int)), .dat (.int (m : Int)), .un, .un, .un, .un, .un], [W.oo, .lst ((descI n).map PyData.int)]⟩) ?_ (ea_cons (eo_of_el (el_lst ed_nil)) ea_nil)) ?_)
  · have := eo_of_el (el_lstDn (K := K) (S := ⟨[.own 0, .dat (.int (n : Int)), .dat (.int (m : Int)), .un, .un, .un, .un, .un], [W.oo]⟩) (i := (n : Int)) (j := 0) (ed_cons (ee_var (i := 1) rfl) (ed_cons ee_int (ed_cons (ee_un ee_int ru_neg) ed_nil))) (by omega))
    rw [show ((n : Int) - 0).toNat = n by omega, desc_down] at this
    exact this
  refine ts_seq (ts_for (ei_rng1 (n := (m : Int)) (ed_cons (ee_var rfl) ed_nil) (by omega)) (fun k S => ∃ a b c, S = ⟨[.own 0, .dat (.int (n : Int)), .dat (.int (m : Int)), .own 1, .own 2, a, b, c], [(kpL n W k).W.oo, .lst ((kpL n W k).st.map PyData.int), .lst ((kpL n W k).net.map gD)]⟩) ⟨.un, .un, .un, rfl⟩ ?_ ?_)
  · rintro k d S' hdk ⟨a, b, c, rfl⟩
    obtain ⟨hk, rfl⟩ := rngD_get hdk
    obtain ⟨h1, h2, h3, h4⟩ := kpL_all hn2 hd k
    have hs : kpL n W (k + 1) = kpStep n (kpL n W k) := rfl
    rw [hs]
    generalize kpL n W k = s at h1 h2 h3 h4 ⊢
    obtain ⟨st, net, W1⟩ := s
    dsimp only at h1 h2 h3 h4 ⊢
    have d3 := draw_deep 3 W1 h4
    have hg := gateOf_ok hn2 (decide (0 < (draw 3 W1).1)) (draw 3 W1).2
    have dg := gateOf_deep n (decide (0 < (draw 3 W1).1)) (draw 3 W1).2 d3
    have egg : kpStep n ⟨st, net, W1⟩ = ⟨if kpFall st (kpMade st (gateOf n (decide (0 < (draw 3 W1).1)) (draw 3 W1).2).1) = true then swp st (gateOf n (decide (0 < (draw 3 W1).1)) (draw 3 W1).2).1.1.toNat (kpMade st (gateOf n (decide (0 < (draw 3 W1).1)) (draw 3 W1).2).1).2.toNat else st, net ++ [kpMade st (gateOf n (decide (0 < (draw 3 W1).1)) (draw 3 W1).2).1], (gateOf n (decide (0 < (draw 3 W1).1)) (draw 3 W1).2).2⟩ := rfl
    rw [egg]
    refine ⟨_, eg_name, ts_seq (ts_asgG (d := gD (gateOf n (decide (0 < (draw 3 W1).1)) (draw 3 W1).2).1) (S1 := ⟨[.own 0, .dat (.int (n : Int)), .dat (.int (m : Int)), .own 1, .own 2, .dat (.int (0 + (k : Int))), b, c], [(gateOf n (decide (0 < (draw 3 W1).1)) (draw 3 W1).2).2.oo, .lst (st.map PyData.int), .lst (net.map gD)]⟩) (ee_w1 (k := 0) (W := (draw 3 W1).2) (W' := (gateOf n (decide (0 < (draw 3 W1).1)) (draw 3 W1).2).2) (S1 := ⟨[.own 0, .dat (.int (n : Int)), .dat (.int (m : Int)), .own 1, .own 2, .dat (.int (0 + (k : Int))), b, c], [(draw 3 W1).2.oo, .lst (st.map PyData.int), .lst (net.map gD)]⟩) [.int (n : Int), .bool (decide (0 < (draw 3 W1).1))] (ea_cons (ee_var rfl) (ea_cons (ee_var rfl) (ea_cons (ee_op (ee_dr (W := W1) (k := 0) (S1 := ⟨[.own 0, .dat (.int (n : Int)), .dat (.int (m : Int)), .own 1, .own 2, .dat (.int (0 + (k : Int))), b, c], [W1.oo, .lst (st.map PyData.int), .lst (net.map gD)]⟩) (ea_cons (ee_var rfl) (ea_cons ee_int ea_nil)) rfl (by decide) h4) ee_int ro_gt) ea_nil))) rfl rfl ⟨(draw 3 W1).2, n, _, rfl, rfl, d3, by omega, rfl, rfl⟩) (egh_of (eg_tup (egs_cons eg_name (egs_cons eg_name egs_nil)))) ?_)⟩
    generalize (gateOf n (decide (0 < (draw 3 W1).1)) (draw 3 W1).2).2 = W2 at dg ⊢
    generalize (gateOf n (decide (0 < (draw 3 W1).1)) (draw 3 W1).2).1 = g at hg ⊢
    obtain ⟨i, j⟩ := g
    dsimp only at hg ⊢
    have a1 : atI (st.map PyData.int) i = some (.int (val st i)) := at_int (by omega) (by omega)
    have a2 : atI (st.map PyData.int) j = some (.int (val st j)) := at_int (by omega) (by omega)
    have hj' : i < (kpMade st (i, j)).2 ∧ (kpMade st (i, j)).2 < n := by
      unfold kpMade
      dsimp only
      split <;> omega
    refine ts_seq (ts_asg (x := .dat (.int (kpMade st (i, j)).2)) (S1 := ⟨[.own 0, .dat (.int (n : Int)), .dat (.int (m : Int)), .own 1, .own 2, .dat (.int (0 + (k : Int))), .dat (.int i), .dat (.int j)], [W2.oo, .lst (st.map PyData.int), .lst (net.map gD)]⟩) (ee_if (et_test (ee_op (ee_op (ee_var rfl) (ee_var rfl) (ro_ixL (.own rfl) a1)) (ee_op (ee_var rfl) (ee_var rfl) (ro_ixL (.own rfl) a2)) ro_gt)) (fun hb => ?_) fun hb => ?_) ?_)
    · have e : (kpMade st (i, j)).2 = i + 1 := if_pos hb
      rw [e]
      exact ee_op (ee_var rfl) ee_int ro_add
    · have e : (kpMade st (i, j)).2 = j := if_neg (by unfold kpFall; rw [hb]; exact Bool.false_ne_true)
      rw [e]
      exact ee_var rfl
    have em : kpMade st (i, j) = (i, (kpMade st (i, j)).2) := rfl
    rw [em]
    generalize (kpMade st (i, j)).2 = j2 at hj' ⊢
    have a3 : atI (st.map PyData.int) j2 = some (.int (val st j2)) := at_int (by omega) (by omega)
    refine ts_seq (ts_drop (ee_append (k := 2) (d := gD (i, j2)) (ds := net.map gD) (S1 := ⟨[.own 0, .dat (.int (n : Int)), .dat (.int (m : Int)), .own 1, .own 2, .dat (.int (0 + (k : Int))), .dat (.int i), .dat (.int j2)], [W2.oo, .lst (st.map PyData.int), .lst (net.map gD)]⟩) (ee_var rfl) (ee_tup (ed_cons (ee_var rfl) (ed_cons (ee_var rfl) ed_nil))) ⟨_, rfl⟩ rfl (by rw [List.length_map]; omega)) ?_)
    have n1 : ∀ ds : List PyData, ds.length = n → ixN ds.length i = some i.toNat := fun ds e => by
      unfold ixN
      rw [if_pos (by omega), if_pos (by omega)]
    have n2 : ∀ ds : List PyData, ds.length = n → ixN ds.length j2 = some j2.toNat := fun ds e => by
      unfold ixN
      rw [if_pos (by omega), if_pos (by omega)]
    have el : net.map gD ++ [gD (i, j2)] = (net ++ [(i, j2)]).map gD := by
      rw [List.map_append]
      rfl
    refine ts_if (b := kpFall st (i, j2)) (et_test (ee_op (ee_op (ee_var rfl) (ee_var rfl) (ro_ixL (.own rfl) a1)) (ee_op (ee_var rfl) (ee_var rfl) (ro_ixL (.own rfl) a3)) ro_gt)) (fun hb => ?_) fun hb => ?_
    · rw [if_pos hb]
      refine ts_asgG (ee_tup (ed_cons (ee_op (ee_var rfl) (ee_var rfl) (ro_ixL (.own rfl) a3)) (ed_cons (ee_op (ee_var rfl) (ee_var rfl) (ro_ixL (.own rfl) a1)) ed_nil)))
        (egh_tup (eghs_cons (egh_sub (ee_var rfl) (ee_var rfl) rfl (n1 _ (by rw [List.length_map]; exact h1))) (eghs_cons (egh_sub (ee_var rfl) (ee_var rfl) rfl (n2 _ (by rw [List.length_set, List.length_map]; exact h1))) eghs_nil))) ⟨.dat (.int (0 + (k : Int))), .dat (.int i), .dat (.int j2), ?_⟩
      show (⟨_, [_, .lst (((st.map PyData.int).set _ _).set _ _), .lst (net.map gD ++ [gD (i, j2)])]⟩ : SS) = ⟨_, [_, .lst ((swp st i.toNat j2.toNat).map PyData.int), .lst ((net ++ [(i, j2)]).map gD)]⟩
      rw [el]
      unfold swp
      rw [List.map_set, List.map_set]
      rfl
    · rw [if_neg (by rw [hb]; exact Bool.false_ne_true)]
      refine ts_next ⟨.dat (.int (0 + (k : Int))), .dat (.int i), .dat (.int j2), ?_⟩
      show (⟨_, [_, _, .lst (net.map gD ++ [gD (i, j2)])]⟩ : SS) = _
      rw [el]
  · rintro S' ⟨a, b, c, rfl⟩
    rw [rngD_len, Int.toNat_natCast]
    exact ts_ret (ee_cb (ea_cons (ee_var rfl) ea_nil) (rc_tupL (.own rfl))) ⟨rfl, ⟨[_, _], rfl⟩⟩
end
end K33

set_option maxRecDepth 100000
set_option maxHeartbeats 4000000
namespace K33
open PySem PySem.Spec PyProof.Rows L2 DL
theorem cut_take0 {ds : List PyData} {c : Int} (h : 0 ≤ c) : cutD ds none (some c) = ds.take c.toNat := cut_takeD h
theorem cut_drop0 {ds : List PyData} {c : Int} (h : 0 ≤ c) (h2 : c ≤ ds.length) : cutD ds (some c) none = ds.drop c.toNat := by
  unfold DL.cutD
  have e : HT.sIx ds.length 0 (some c) = c.toNat := by
    unfold HT.sIx
    dsimp only
    rw [if_neg (by omega)]
    omega
  have e2 : HT.sIx ds.length ds.length none = ds.length := rfl
  rw [e, e2, List.take_of_length_le (by rw [List.length_drop]; omega)]
section
variable {P : Program} {w : World} {K : PySem.W.Frag} {mg : Str → Option Value} {base : Heap}
def R_gates : FR := fun as ob r ob' => ∃ (W : Well) (n m : Nat), as = [.own 0, .dat (.int (n : Int)), .dat (.int (m : Int))] ∧ ob = [W.oo] ∧ W.deep.length ≤ 100 ∧ 2 ≤ n ∧ n ≤ 100 ∧ m ≤ 1000 ∧ r = .dat (nD (gatesOf n m W).1) ∧ ob' = [(gatesOf n m W).2.oo]
abbrev Sg (n m : Nat) (W : Well) (a b c d e f : SD) : SS := ⟨[.own 0, .dat (.int (n : Int)), .dat (.int (m : Int)), a, b, c, d, e, f], [W.oo]⟩
theorem sc_law_gates : FnScope ["loom", "wide", "many", "way", "found", "spot", "turn", "rows", "i"] ["loom", "wide", "many"] (defScope s_law_gates) := ⟨rfl, rfl, rfl, by decide +kernel, rfl, by decide +kernel, by decide +kernel⟩
theorem ok_law_gates (D : Df K mg "_law_gates" s_law_gates ["loom", "wide", "many"]) (B : Bi mg) (Cc : Cls K mg) (D_law_draw : Df K mg "_law_draw" s_law_draw ["loom", "many"]) (D_law_gate : Df K mg "_law_gate" s_law_gate ["loom", "wide", "is_near"]) (D_law_kept : Df K mg "_law_kept" s_law_kept ["loom", "wide", "many"]) : FnG P w K mg base CX0 4 D.f D.fd ["loom", "wide", "many"] (spD K 3 R_gates) := by
  have ok_law_draw : FnG P w K mg base CX0 1 _ _ _ _ := ok_law_draw D_law_draw B Cc
  have ok_law_gate : FnG P w K mg base CX0 2 _ _ _ _ := ok_law_gate D_law_gate B Cc D_law_draw
  have ok_law_kept : FnG P w K mg base CX0 3 _ _ _ _ := ok_law_kept D_law_kept B Cc D_law_draw D_law_gate
  refine okG D.F sc_law_gates (fun vs H Q E h => h.1) (fun cdv A outer s H vs Q E hr gd h => ?_)
  have hu := huX hr
  refine ⟨_, (pss_cons (ps_set (i := 3) sc_law_gates.nd rfl (Or.inr rfl) (pe_callG (ok_law_draw) (hr.mono (by decide)) gd (by rfl) D_law_draw.m D_law_draw.F.kp D_law_draw.b .nil pass0 (pa_cons (pv 0) (pa_cons pe_int pa_nil))))
      (pss_cons (ps_if (pt_cmpR (op_ltU hu) (pv 3) pe_int (nomark _)) (pss_one (ps_ret (pe_callG (ok_law_kept) (hr.mono (by decide)) gd (by rfl) D_law_kept.m D_law_kept.F.kp D_law_kept.b .nil pass0 (pa_cons (pv 0) (pa_cons (pv 1) (pa_cons (pv 2) pa_nil)))))) pss_nil)
      (pss_cons (ps_if (pt_cmpR (op_eqU hu) (pv 3) pe_int (nomark _)) (pss_cons (ps_par (i := 4) (j := 5) (by rfl) sc_law_gates.nd rfl rfl (by decide) rfl rfl (pa_cons (pe_callG (ok_law_kept) (hr.mono (by decide)) gd (by rfl) D_law_kept.m D_law_kept.F.kp D_law_kept.b .nil pass0 (pa_cons (pv 0) (pa_cons (pv 1) (pa_cons (pv 2) pa_nil)))) (pa_cons (pe_callG (ok_law_draw) (hr.mono (by decide)) gd (by rfl) D_law_draw.m D_law_draw.F.kp D_law_draw.b .nil pass0 (pa_cons (pv 0) (pa_cons (pe_op op_plus (pv 2) pe_int) pa_nil))) pa_nil)) (by rfl))
        (pss_one (ps_ret (pe_op op_plus (pe_op op_plus (pe_slice sl_any (pv 4) po_none (po_some (pv 5))) (pe_tup (pa_cons (pe_callG (ok_law_gate) (hr.mono (by decide)) gd (by rfl) D_law_gate.m D_law_gate.F.kp D_law_gate.b .nil pass0 (pa_cons (pv 0) (pa_cons (pv 1) (pa_cons pe_bl pa_nil)))) pa_nil))) (pe_slice sl_any (pv 4) (po_some (pv 5)) po_none))))) pss_nil)
      (pss_cons (ps_set (i := 4) sc_law_gates.nd rfl (Or.inl rfl) (pe_callTy cb_tuple (by rfl) B.z_tuple (by decide +kernel) (pa_cons (pe_lc (own := [("turn", 6)]) (g := gName 6) (tt := tYes) (by rfl) sc_law_gates.nd (pi_range1 (by rfl) B.z_range (pa_cons (pv 2) pa_nil)) (blkOk_by (own := [("turn", 6)]) (N := ["loom", "wide", "many", "way", "found", "spot", "turn", "rows", "i"]) (sc := defScope s_law_gates) (by decide +kernel)) (fun _ _ _ _ _ => (pg_name (i := 6) sc_law_gates.nd rfl (Or.inl rfl))) (fun _ _ _ _ _ => pts_nil) (fun _ _ _ _ _ => (pe_callG (ok_law_gate) (hr.mono (by decide)) gd (by rfl) D_law_gate.m D_law_gate.F.kp D_law_gate.b .nil pass0 (pa_cons (pv 0) (pa_cons (pv 1) (pa_cons (pe_and (pe_cmpR (opK K (R := rEqU) (op_eqU hu) rfl) (pv 3) pe_int (nomark _)) (pe_one (pe_cmpR (opK K (R := rGtU) (op_gtU hu) rfl) (pe_callG (ok_law_draw) (hr.mono (by decide)) gd (by rfl) D_law_draw.m D_law_draw.F.kp D_law_draw.b .nil pass0 (pa_cons (pv 0) (pa_cons pe_int pa_nil))) pe_int (nomark _)))) pa_nil)))))) pa_nil)))
      (pss_cons (ps_if (PW.pt (pw_or (pt_cmpR (op_eqU hu) (pv 3) pe_int (nomark _)) (pw_or1 (pt_cmpR (op_gtU hu) (pv 1) pe_int (nomark _))))) (pss_one (ps_ret (pv 4))) pss_nil)
      (pss_cons (ps_set (i := 7) sc_law_gates.nd rfl (Or.inl rfl) (pe_lst pa_nil))
      (pss_cons (ps_for PassesOwn.never rfl (pi_range1 (by rfl) B.z_range (pa_cons (pe_op op_subU (pv 1) pe_int) pa_nil)) (pg_name (i := 6) sc_law_gates.nd rfl (Or.inl rfl))
        (pss_one (ps_set (i := 7) sc_law_gates.nd rfl (Or.inl rfl) (pe_op op_plus (pv 7) (pe_lc (own := [("i", 8)]) (g := gName 8) (tt := tYes) (by rfl) sc_law_gates.nd (pi_range1 (by rfl) B.z_range (pa_cons (pe_op op_subU (pe_op op_subU (pv 1) pe_int) (pv 6)) pa_nil)) (blkOk_by (own := [("i", 8)]) (N := ["loom", "wide", "many", "way", "found", "spot", "turn", "rows", "i"]) (sc := defScope s_law_gates) (by decide +kernel)) (fun _ _ _ _ _ => (pg_name (i := 8) sc_law_gates.nd rfl (Or.inl rfl))) (fun _ _ _ _ _ => pts_nil) (fun _ _ _ _ _ => (pe_tup (pa_cons (pv 8) (pa_cons (pe_op (opK K (R := rPlus) op_plus rfl) (pv 8) pe_int) pa_nil)))))))))
      (pss_one (ps_ret (pe_ifExp (pt_cmpR (op_eqU hu) (pe_callG (ok_law_draw) (hr.mono (by decide)) gd (by rfl) D_law_draw.m D_law_draw.F.kp D_law_draw.b .nil pass0 (pa_cons (pv 0) (pa_cons pe_int pa_nil))) pe_int (nomark _)) (pe_op op_plus (pe_callTy cb_tuple (by rfl) B.z_tuple (by decide +kernel) (pa_cons (pv 7) pa_nil)) (pe_slice sl_any (pv 4) po_none (po_some pe_int))) (pe_op op_plus (pe_slice sl_any (pv 4) po_none (po_some pe_int)) (pe_callTy cb_tuple (by rfl) B.z_tuple (by decide +kernel) (pa_cons (pv 7) pa_nil))))))))))))), ?_⟩
  refine body_ofG h (by decide) (fun as ob r ob' hR => ?_) fun as ob r ob' hR hl => ?_
  · obtain ⟨W, n, m, rfl, rfl, _, _, _, _, rfl, rfl⟩ := hR
    exact ⟨Nat.le_refl _, fun _ z => by cases z⟩
  obtain ⟨W, n, m, rfl, rfl, hd, hn2, hn, hm, rfl, rfl⟩ := hR
  have d5 := draw_deep 5 W hd
  refine ts_seq (ts_asg (x := .dat (.int (draw 5 W).1)) (S1 := Sg n m (draw 5 W).2 .un .un .un .un .un .un) (ee_dr (m := 5) (k := 0) (S1 := Sg n m W .un .un .un .un .un .un) (W := W) (ea_cons (ee_var rfl) (ea_cons ee_int ea_nil)) rfl (by decide) hd) ?_)
  have e0 : gatesOf n m W = if (draw 5 W).1 < 2 then ((kpL n (draw 5 W).2 m).net, (kpL n (draw 5 W).2 m).W)
    else if (draw 5 W).1 = 2 then
      ((kpL n (draw 5 W).2 m).net.take (draw ((m : Int) + 1) (kpL n (draw 5 W).2 m).W).1.toNat ++ [(gateOf n false (draw ((m : Int) + 1) (kpL n (draw 5 W).2 m).W).2).1] ++ (kpL n (draw 5 W).2 m).net.drop (draw ((m : Int) + 1) (kpL n (draw 5 W).2 m).W).1.toNat, (gateOf n false (draw ((m : Int) + 1) (kpL n (draw 5 W).2 m).W).2).2)
    else if (draw 5 W).1 = 3 ∨ (6 : Int) < n then mapW (anyG n (draw 5 W).1) m (draw 5 W).2
    else (if (draw 2 (mapW (anyG n (draw 5 W).1) m (draw 5 W).2).2).1 = 0 then rowsR n (n - 1) ++ (mapW (anyG n (draw 5 W).1) m (draw 5 W).2).1.take 4 else (mapW (anyG n (draw 5 W).1) m (draw 5 W).2).1.take 2 ++ rowsR n (n - 1), (draw 2 (mapW (anyG n (draw 5 W).1) m (draw 5 W).2).2).2) := rfl
  rw [e0]
  show Ts K _ (Sg n m (draw 5 W).2 (.dat (.int (draw 5 W).1)) .un .un .un .un .un) _
  generalize (draw 5 W).1 = way
  generalize (draw 5 W).2 = W1 at d5 ⊢
  have kk := kpL_all hn2 d5 m
  have RK : R_kp [.own 0, .dat (.int (n : Int)), .dat (.int (m : Int))] [W1.oo] (.dat (nD (kpL n W1 m).net)) [(kpL n W1 m).W.oo] := ⟨W1, n, m, rfl, rfl, d5, hn2, hn, hm, rfl, rfl⟩
  refine ts_seq (ts_if (et_test (ee_op (ee_var rfl) ee_int ro_lt)) (fun hb => ?_) fun hb => ts_next ?_)
  · rw [if_pos (of_decide_eq_true hb)]
    exact ts_ret (ee_w1 (W := W1) (W' := (kpL n W1 m).W) [.int (n : Int), .int (m : Int)] (ea_cons (ee_var rfl) (ea_cons (ee_var rfl) (ea_cons (ee_var rfl) ea_nil))) rfl rfl RK) ⟨rfl, ⟨[], rfl⟩⟩
  rw [if_neg (of_decide_eq_false hb)]
  refine ts_seq (ts_if (et_test (ee_op (ee_var rfl) ee_int ro_eqI)) (fun hb => ?_) fun hb => ts_next ?_)
  · rw [if_pos (of_decide_eq_true hb)]
    have W2h := kk.2.2.2
    have nl := kk.2.2.1
    generalize (kpL n W1 m).W = W2 at W2h RK ⊢
    generalize (kpL n W1 m).net = net at nl RK ⊢
    have l1 := draw_lo ((m : Int) + 1) W2
    have l2 := draw_hi (m := (m : Int) + 1) W2 (by omega)
    have d3 := draw_deep ((m : Int) + 1) W2 W2h
    refine ts_seq (ts_par (x := .dat (nD net)) (y := .dat (.int (draw ((m : Int) + 1) W2).1)) (S1 := Sg n m (draw ((m : Int) + 1) W2).2 (.dat (.int way)) .un .un .un .un .un) (ea_cons (S1 := Sg n m W2 (.dat (.int way)) .un .un .un .un .un) (ee_w1 (k := 0) (S1 := Sg n m W1 (.dat (.int way)) .un .un .un .un .un) (W := W1) (W' := W2) [.int (n : Int), .int (m : Int)] (ea_cons (ee_var rfl) (ea_cons (ee_var rfl) (ea_cons (ee_var rfl) ea_nil))) rfl rfl RK) (ea_cons (ee_dr (k := 0) (S1 := Sg n m W2 (.dat (.int way)) .un .un .un .un .un) (m := (m : Int) + 1) (W := W2) (ea_cons (ee_var rfl) (ea_cons (ee_op (ee_var rfl) ee_int ro_add) ea_nil)) rfl (by omega) W2h) ea_nil)) ?_)
    generalize (draw ((m : Int) + 1) W2).2 = W3 at d3 ⊢
    generalize (draw ((m : Int) + 1) W2).1 = sp at l1 l2 ⊢
    have d4 := gateOf_deep n false W3 d3
    have RG : R_gate [.own 0, .dat (.int (n : Int)), .dat (.bool false)] [W3.oo] (.dat (gD (gateOf n false W3).1)) [(gateOf n false W3).2.oo] := ⟨W3, n, false, rfl, rfl, d3, by omega, rfl, rfl⟩
    have ex : nD (net.take sp.toNat ++ [(gateOf n false W3).1] ++ net.drop sp.toNat) = .tuple (cutD (net.map gD) none (some sp) ++ [gD (gateOf n false W3).1] ++ cutD (net.map gD) (some sp) none) := by
      rw [cut_take0 l1, cut_drop0 l1 (by rw [List.length_map]; omega)]
      unfold nD
      rw [List.map_append, List.map_append, List.map_take, List.map_drop]
      rfl
    rw [ex]
    have tl : (cutD (net.map gD) none (some sp)).length ≤ net.length := by
      rw [cut_take0 l1, List.length_take, List.length_map]
      omega
    have tl2 : (cutD (net.map gD) (some sp) none).length ≤ net.length := by
      rw [cut_drop0 l1 (by rw [List.length_map]; omega), List.length_drop, List.length_map]
      omega
    refine ts_ret (S1 := Sg n m (gateOf n false W3).2 (.dat (.int way)) (.dat (nD net)) (.dat (.int sp)) .un .un .un) (ee_op (S1 := Sg n m (gateOf n false W3).2 (.dat (.int way)) (.dat (nD net)) (.dat (.int sp)) .un .un .un) (S2 := Sg n m (gateOf n false W3).2 (.dat (.int way)) (.dat (nD net)) (.dat (.int sp)) .un .un .un) (ee_op (S1 := Sg n m W3 (.dat (.int way)) (.dat (nD net)) (.dat (.int sp)) .un .un .un) (S2 := Sg n m (gateOf n false W3).2 (.dat (.int way)) (.dat (nD net)) (.dat (.int sp)) .un .un .un) (ee_slT (ee_var rfl) eo_none (eo_some (ee_var rfl))) (ee_tup (ed_cons (ee_w1 (k := 0) (S1 := Sg n m W3 (.dat (.int way)) (.dat (nD net)) (.dat (.int sp)) .un .un .un) (W := W3) (W' := (gateOf n false W3).2) [.int (n : Int), .bool false] (ea_cons (ee_var rfl) (ea_cons (ee_var rfl) (ea_cons ee_bl ea_nil))) rfl rfl RG) ed_nil)) (ro_catT ?_)) (ee_slT (ee_var rfl) (eo_some (ee_var rfl)) eo_none) (ro_catT ?_)) ⟨rfl, ⟨[], rfl⟩⟩
    · show _ + 1 ≤ 1000000
      omega
    · rw [List.length_append]
      show _ + 1 + _ ≤ 1000000
      omega
  rw [if_neg (of_decide_eq_false hb)]
  have dm : (mapW (anyG n way) m W1).2.deep.length ≤ 100 := mapW_deep (fun W h => anyG_deep n _ W h) d5 m
  have ml := mapW_len (anyG n way) W1 m
  refine ts_seq (ts_asg (x := .dat (nD (mapW (anyG n way) m W1).1)) (S1 := Sg n m (mapW (anyG n way) m W1).2 (.dat (.int way)) .un .un .un .un .un) (ee_cb (ea_cons (ee_of_el (el_mapW (dB := gD) (S0 := Sg n m W1 (.dat (.int way)) .un .un .un .un .un) (ei_rng1 (n := (m : Int)) (ed_cons (ee_var rfl) ed_nil) (by omega)) rfl (by omega) d5 (fun W h => anyG_deep n _ W h) fun i W' hi hW' => ⟨_, egc_name (by decide), ?_⟩)) ea_nil) (rc_tupL (.dat _))) ?_)
  · have db := nearB_deep way W' hW'
    refine ⟨Sg n m (anyG n way W').2 (.dat (.int way)) .un .un (.dat (.int (0 + (i : Int)))) .un .un, ee_w1 (R := R_gate) (k := 0) (W := (nearB way W').2) (W' := (anyG n way W').2) (S1 := Sg n m (nearB way W').2 (.dat (.int way)) .un .un (.dat (.int (0 + (i : Int)))) .un .un) [.int (n : Int), .bool (nearB way W').1] (ea_cons (ee_var rfl) (ea_cons (ee_var rfl) (ea_cons ?_ ea_nil))) rfl rfl ⟨(nearB way W').2, n, (nearB way W').1, rfl, rfl, db, by omega, rfl, rfl⟩, rfl⟩
    have hq : ∀ b : Bool, decide (way = 4) = b → Ee K (tAndV (tOp (rEqU K) (tVar 3) (tC (.int 4))) (tOp (rGtU K) (tCall (spD K 2 R_draw) [] (fun _ _ _ => False) (tCons (tVar 0) (tCons (tC (.int 4)) tNil))) (tC (.int 0)))) (Sg n m W' (.dat (.int way)) .un .un (.dat (.int (0 + (i : Int)))) .un .un) (.dat (.bool (nearB way W').1)) (Sg n m (nearB way W').2 (.dat (.int way)) .un .un (.dat (.int (0 + (i : Int)))) .un .un) := fun b e => by
      cases b with
      | true =>
        have en : nearB way W' = (decide (0 < (draw 4 W').1), (draw 4 W').2) := by
          unfold nearB
          rw [if_pos e]
        rw [en]
        exact ee_eq (ee_andS (a := true) (b := decide (0 < (draw 4 W').1)) (S1 := Sg n m W' (.dat (.int way)) .un .un (.dat (.int (0 + (i : Int)))) .un .un) (by rw [← e]; exact ee_op (ee_var rfl) ee_int ro_eqI) (fun _ => ee_op (ee_dr (W := W') (ea_cons (ee_var rfl) (ea_cons ee_int ea_nil)) rfl (by decide) hW') ee_int ro_gt) fun z => by cases z) rfl
      | false =>
        have en : nearB way W' = (false, W') := by
          unfold nearB
          rw [if_neg (by rw [e]; exact Bool.false_ne_true)]
        rw [en]
        exact ee_eq (ee_andS (a := false) (b := false) (S1 := Sg n m W' (.dat (.int way)) .un .un (.dat (.int (0 + (i : Int)))) .un .un) (by rw [← e]; exact ee_op (ee_var rfl) ee_int ro_eqI) (fun z => by cases z) fun _ => rfl) rfl
    exact hq _ rfl
  generalize hM : mapW (anyG n way) m W1 = M at dm ml ⊢
  obtain ⟨fd, W2⟩ := M
  dsimp only at dm ml ⊢
  refine ts_seq (ts_if (b := decide (way = 3 ∨ (6 : Int) < n)) (et_eq (et_or (et_test (ee_op (ee_var rfl) ee_int ro_eqI)) fun _ => et_test (ee_op (ee_var rfl) ee_int ro_gt)) (by rw [Bool.decide_or])) (fun hb => ?_) fun hb => ts_next ?_)
  · rw [if_pos (of_decide_eq_true hb)]
    exact ts_ret (ee_var rfl) ⟨rfl, ⟨[], rfl⟩⟩
  rw [if_neg (of_decide_eq_false hb)]
  have rl : ∀ k, k ≤ n → (rowsR n k).length ≤ 10000 := fun k hk => by
    have h1 := rowsR_len n k
    have h2 : k * n ≤ 100 * 100 := Nat.mul_le_mul (by omega) hn
    omega
  refine ts_seq (ts_asg (ee_lst ed_nil (Nat.zero_le _)) (ts_seq (ts_for (ds := rngD 0 (n - 1)) (S0 := Sg n m W2 (.dat (.int way)) (.dat (nD fd)) .un .un (.dat (.list [])) .un) ?_ (fun k S => ∃ a, S = Sg n m W2 (.dat (.int way)) (.dat (nD fd)) .un a (.dat (.list ((rowsR n k).map gD))) .un) ⟨.un, rfl⟩ ?_ ?_)))
  · have := ei_rng1 (K := K) (S := Sg n m W2 (.dat (.int way)) (.dat (nD fd)) .un .un (.dat (.list [])) .un) (n := (n : Int) - 1) (ed_cons (ee_op (ee_var (i := 1) rfl) ee_int ro_sub) ed_nil) (by omega)
    rw [show ((n : Int) - 1).toNat = n - 1 by omega] at this
    exact this
  · rintro k d S' hdk ⟨a, rfl⟩
    obtain ⟨hk, rfl⟩ := rngD_get hdk
    have e1 : (0 : Int) + (k : Int) = (k : Int) := by omega
    rw [e1]
    have rk := rl k (by omega)
    refine ⟨_, eg_name, ts_asg (x := .dat (.list ((rowsR n (k + 1)).map gD))) (S1 := Sg n m W2 (.dat (.int way)) (.dat (nD fd)) .un (.dat (.int (k : Int))) (.dat (.list ((rowsR n k).map gD))) .un) ?_ ⟨.dat (.int (k : Int)), rfl⟩⟩
    rw [rowsR_succ, List.map_append]
    refine ee_op (S1 := Sg n m W2 (.dat (.int way)) (.dat (nD fd)) .un (.dat (.int (k : Int))) (.dat (.list ((rowsR n k).map gD))) .un) (S2 := Sg n m W2 (.dat (.int way)) (.dat (nD fd)) .un (.dat (.int (k : Int))) (.dat (.list ((rowsR n k).map gD))) .un) (ee_var rfl) (ee_of_el ?_) (ro_cat ?_)
    · rw [List.map_map]
      refine el_lcmA (dA := fun (i : Nat) => PyData.int (i : Int)) (lst := List.range (n - 1 - k)) (S0 := Sg n m W2 (.dat (.int way)) (.dat (nD fd)) .un (.dat (.int (k : Int))) (.dat (.list ((rowsR n k).map gD))) .un) ?_ (by rw [List.length_range]; omega) fun i hi => ⟨_, egc_name (by decide), rfl, _, ee_tup (ed_cons (ee_var rfl) (ed_cons (ee_op (ee_var rfl) ee_int ro_add) ed_nil)), rfl⟩
      have := ei_rng1 (K := K) (S := Sg n m W2 (.dat (.int way)) (.dat (nD fd)) .un (.dat (.int (k : Int))) (.dat (.list ((rowsR n k).map gD))) .un) (n := (n : Int) - 1 - (k : Int)) (ed_cons (ee_op (ee_op (ee_var (i := 1) rfl) ee_int ro_sub) (ee_var (i := 6) rfl) ro_sub) ed_nil) (by omega)
      rw [show ((n : Int) - 1 - (k : Int)).toNat = n - 1 - k by omega] at this
      have e2 : rngD 0 (n - 1 - k) = (List.range (n - 1 - k)).map fun (i : Nat) => PyData.int (i : Int) := by
        unfold rngD
        refine List.map_congr_left fun j _ => ?_
        rw [Int.zero_add]
      rw [e2] at this
      exact this
    · rw [List.length_map, List.length_map, List.length_map, List.length_range]
      omega
  · rintro S' ⟨a, rfl⟩
    rw [rngD_len]
    have rk := rl (n - 1) (by omega)
    have d6 := draw_deep 2 W2 dm
    have tk : ∀ k : Nat, cutD (fd.map gD) none (some (k : Int)) = (fd.take k).map gD := fun k => by
      rw [cut_take0 (by omega), Int.toNat_natCast, List.map_take]
    have l4 : (DL.cutD (fd.map gD) none (some 4)).length ≤ 1000 := by
      show (DL.cutD (fd.map gD) none (some ((4 : Nat) : Int))).length ≤ 1000
      rw [tk, List.length_map, List.length_take]
      omega
    have l2 : (DL.cutD (fd.map gD) none (some 2)).length ≤ 1000 := by
      show (DL.cutD (fd.map gD) none (some ((2 : Nat) : Int))).length ≤ 1000
      rw [tk, List.length_map, List.length_take]
      omega
    have ln : ∀ k : Nat, ((fd.take k).map gD).length ≤ 1000 := fun k => by
      rw [List.length_map, List.length_take]
      omega
    refine ts_ret (x := .dat (nD (if (draw 2 W2).1 = 0 then rowsR n (n - 1) ++ fd.take 4 else fd.take 2 ++ rowsR n (n - 1)))) (S1 := Sg n m (draw 2 W2).2 (.dat (.int way)) (.dat (nD fd)) .un a (.dat (.list ((rowsR n (n - 1)).map gD))) .un) (ee_if (S1 := Sg n m (draw 2 W2).2 (.dat (.int way)) (.dat (nD fd)) .un a (.dat (.list ((rowsR n (n - 1)).map gD))) .un) (et_test (ee_op (ee_dr (W := W2) (ea_cons (ee_var rfl) (ea_cons ee_int ea_nil)) rfl (by decide) dm) ee_int ro_eqI)) (fun hb => ?_) fun hb => ?_) ⟨rfl, ⟨[], rfl⟩⟩
    · rw [if_pos (of_decide_eq_true hb)]
      have e3 : nD (rowsR n (n - 1) ++ fd.take 4) = .tuple ((rowsR n (n - 1)).map gD ++ cutD (fd.map gD) none (some ((4 : Nat) : Int))) := by
        rw [tk]
        unfold nD
        rw [List.map_append]
      rw [e3]
      exact ee_op (ee_cb (ea_cons (ee_var rfl) ea_nil) (rc_tupL (.dat _))) (ee_slT (ee_var rfl) eo_none (eo_some ee_int)) (ro_catT (by rw [List.length_map]; omega))
    · rw [if_neg (of_decide_eq_false hb)]
      have e3 : nD (fd.take 2 ++ rowsR n (n - 1)) = .tuple (cutD (fd.map gD) none (some ((2 : Nat) : Int)) ++ (rowsR n (n - 1)).map gD) := by
        rw [tk]
        unfold nD
        rw [List.map_append]
      rw [e3]
      exact ee_op (ee_slT (ee_var rfl) eo_none (eo_some ee_int)) (ee_cb (ea_cons (ee_var rfl) ea_nil) (rc_tupL (.dat _))) (ro_catT (by rw [List.length_map]; omega))
end
end K33

set_option maxRecDepth 100000
set_option maxHeartbeats 4000000
namespace K33
open PySem PySem.Spec PyProof.Rows L2 DL
/-! ### rows of all ways -/
def maxI : List Int → Int
  | [] => 0
  | n :: ns => ns.foldl max n
theorem foldmax_le {b : Int} : ∀ (ns : List Int) (n : Int), n ≤ b → (∀ x ∈ ns, x ≤ b) → ns.foldl max n ≤ b
  | [], _, h, _ => h
  | m :: ns, n, h, hs => foldmax_le ns (max n m) (by have := hs m List.mem_cons_self; omega) fun x hx => hs x (List.mem_cons_of_mem _ hx)
theorem foldmax_ge : ∀ (ns : List Int) (n : Int), n ≤ ns.foldl max n ∧ ∀ x ∈ ns, x ≤ ns.foldl max n
  | [], n => ⟨Int.le_refl _, fun _ z => (by cases z)⟩
  | m :: ns, n => by
    obtain ⟨h1, h2⟩ := foldmax_ge ns (max n m)
    have h1' : max n m ≤ (m :: ns).foldl max n := h1
    refine ⟨by omega, fun x hx => ?_⟩
    rcases List.mem_cons.mp hx with rfl | hx
    · omega
    · exact h2 x hx
theorem maxI_le {b : Int} {l : List Int} (h0 : 0 ≤ b) (h : ∀ x ∈ l, x ≤ b) : maxI l ≤ b := by
  cases l with
  | nil => exact h0
  | cons n ns => exact foldmax_le ns n (h n List.mem_cons_self) fun x hx => h x (List.mem_cons_of_mem _ hx)
theorem maxI_ge {l : List Int} {x : Int} (h : x ∈ l) : x ≤ maxI l := by
  cases l with
  | nil => cases h
  | cons n ns =>
    obtain ⟨h1, h2⟩ := foldmax_ge ns n
    rcases List.mem_cons.mp h with rfl | h
    · exact h1
    · exact h2 x h
def upK (own key : Int) : Int := key + (if decide (own ≤ key) = true then 1 else 0)
def topN (keys : List Int) : Nat := (maxI keys + 1).toNat
def weakA (keys : List Int) : List (List Int) := (List.range (topN keys)).map fun (o : Nat) => keys ++ [(o : Int)]
def weakB (keys : List Int) (k : Nat) : List (List Int) := (List.range k).map fun (o : Nat) => keys.map (upK (o : Int)) ++ [(o : Int)]
def weakS (keys : List Int) : List (List Int) := weakA keys ++ weakB keys (topN keys + 1)
def weakN : Nat → List (List Int)
  | 0 => [[0]]
  | k + 1 => (weakN k).flatMap weakS
theorem weak_row : ∀ (k : Nat), ∀ row ∈ weakN k, row.length = k + 1 ∧ ∀ x ∈ row, 0 ≤ x ∧ x ≤ (k : Int)
  | 0, row, h => by
    rw [List.mem_singleton.mp h]
    refine ⟨rfl, fun x hx => ?_⟩
    rw [List.mem_singleton.mp hx]
    exact ⟨Int.le_refl _, Int.le_refl _⟩
  | k + 1, row, h => by
    obtain ⟨keys, hk, h⟩ := List.mem_flatMap.mp h
    obtain ⟨l1, l2⟩ := weak_row k keys hk
    have ht : topN keys ≤ k + 1 := by
      have := maxI_le (b := (k : Int)) (by omega) fun x hx => (l2 x hx).2
      unfold topN
      omega
    rcases List.mem_append.mp h with h | h
    · obtain ⟨o, ho, rfl⟩ := List.mem_map.mp h
      have := List.mem_range.mp ho
      refine ⟨by rw [List.length_append, l1]; rfl, fun x hx => ?_⟩
      rcases List.mem_append.mp hx with hx | hx
      · have := l2 x hx
        omega
      · rw [List.mem_singleton.mp hx]
        omega
    · obtain ⟨o, ho, rfl⟩ := List.mem_map.mp h
      have := List.mem_range.mp ho
      refine ⟨by rw [List.length_append, List.length_map, l1]; rfl, fun x hx => ?_⟩
      rcases List.mem_append.mp hx with hx | hx
      · obtain ⟨y, hy, rfl⟩ := List.mem_map.mp hx
        have := l2 y hy
        unfold upK
        split <;> omega
      · rw [List.mem_singleton.mp hx]
        omega
theorem weakS_len (keys : List Int) : (weakS keys).length = 2 * topN keys + 1 := by
  unfold weakS weakA weakB
  rw [List.length_append, List.length_map, List.length_map, List.length_range, List.length_range]
  omega
theorem top_le {k : Nat} {keys : List Int} (h : keys ∈ weakN k) : topN keys ≤ k + 1 := by
  have := maxI_le (b := (k : Int)) (by omega) fun x hx => ((weak_row k keys h).2 x hx).2
  unfold topN
  omega
theorem flat_le {α β : Type} {f : α → List β} {b : Nat} : ∀ {l : List α}, (∀ x ∈ l, (f x).length ≤ b) → (l.flatMap f).length ≤ l.length * b
  | [], _ => Nat.zero_le _
  | a :: l, h => by
    rw [List.flatMap_cons, List.length_append, List.length_cons, Nat.succ_mul]
    have := h a List.mem_cons_self
    have := flat_le (l := l) fun x hx => h x (List.mem_cons_of_mem _ hx)
    omega
theorem weak_len : ∀ k, k ≤ 4 → (weakN k).length ≤ 11 ^ k
  | 0, _ => Nat.le_refl _
  | k + 1, h => by
    have h1 := weak_len k (by omega)
    have h2 : ((weakN k).flatMap weakS).length ≤ (weakN k).length * 11 := flat_le fun x hx => by
      rw [weakS_len]
      have := top_le hx
      omega
    show ((weakN k).flatMap weakS).length ≤ _
    rw [Nat.pow_succ]
    exact Nat.le_trans h2 (Nat.mul_le_mul_right 11 h1)
theorem pow_small {k : Nat} (h : k ≤ 4) : 11 ^ k ≤ 14641 := by
  have : 11 ^ k ≤ 11 ^ 4 := Nat.pow_le_pow_right (by decide) h
  exact this
/-- words of 0 and 1 are among them -/
theorem word_weak : ∀ (k : Nat) (word : List Int), word.length = k + 1 → (∀ x ∈ word, x = 0 ∨ x = 1) → 0 ∈ word → word ∈ weakN k
  | 0, word, hl, _, h0 => by
    match word, hl with
    | [x], _ =>
      rw [← List.mem_singleton.mp h0]
      exact List.mem_singleton.mpr rfl
  | k + 1, word, hl, hb, h0 => by
    obtain ⟨init, last, rfl⟩ : ∃ init last, word = init ++ [last] := ⟨word.dropLast, word.getLast (by intro z; rw [z] at hl; cases hl), (List.dropLast_concat_getLast _).symm⟩
    have li : init.length = k + 1 := by
      rw [List.length_append, List.length_singleton] at hl
      omega
    have bi : ∀ x ∈ init, x = 0 ∨ x = 1 := fun x hx => hb x (List.mem_append_left _ hx)
    have bl : last = 0 ∨ last = 1 := hb last (List.mem_append_right _ (List.mem_singleton.mpr rfl))
    by_cases hz : (0 : Int) ∈ init
    · have ih := word_weak k init li bi hz
      refine List.mem_flatMap.mpr ⟨init, ih, ?_⟩
      have h1 : 0 ≤ maxI init := maxI_ge hz
      by_cases h1m : (1 : Int) ∈ init
      · have h2 : 1 ≤ maxI init := maxI_ge h1m
        refine List.mem_append_left _ (List.mem_map.mpr ⟨last.toNat, List.mem_range.mpr ?_, ?_⟩)
        · unfold topN
          omega
        · rw [Int.toNat_of_nonneg (by omega)]
      · have e : ∀ x ∈ init, x = 0 := fun x hx => (bi x hx).resolve_right fun z => h1m (z ▸ hx)
        rcases bl with bl | bl
        · refine List.mem_append_left _ (List.mem_map.mpr ⟨0, List.mem_range.mpr ?_, by rw [bl]; rfl⟩)
          unfold topN
          omega
        · refine List.mem_append_right _ (List.mem_map.mpr ⟨1, List.mem_range.mpr ?_, ?_⟩)
          · unfold topN
            omega
          · rw [bl]
            have : init.map (upK ((1 : Nat) : Int)) = init := by
              conv => rhs; rw [← List.map_id init]
              refine List.map_congr_left fun x hx => ?_
              rw [e x hx]
              rfl
            rw [this]
            rfl
    · have e : ∀ x ∈ init, x = 1 := fun x hx => (bi x hx).resolve_left fun z => hz (z ▸ hx)
      have l0 : last = 0 := by
        rcases List.mem_append.mp h0 with h | h
        · exact absurd h hz
        · exact (List.mem_singleton.mp h).symm
      have zs : List.replicate (k + 1) (0 : Int) ∈ weakN k := word_weak k _ List.length_replicate (fun x hx => .inl (List.eq_of_mem_replicate hx)) (List.mem_replicate.mpr ⟨by omega, rfl⟩)
      refine List.mem_flatMap.mpr ⟨_, zs, List.mem_append_right _ (List.mem_map.mpr ⟨0, List.mem_range.mpr (by omega), ?_⟩)⟩
      rw [l0, List.map_replicate]
      have : init = List.replicate (k + 1) 1 := List.eq_replicate_iff.mpr ⟨li, e⟩
      rw [this]
      rfl
/-! ### what is turned -/
def turnedB (row pl : List Int) : Bool := (List.range pl.length).any fun b => (pl.take b).any fun p => decide (val row p = val row (pl.getD b 0)) && decide (pl.getD b 0 < p)
def tb (net : List Gate) (row : List Int) (s : Nat) : Bool := turnedB row (runK row net s).1
def badB (n : Nat) (net : List Gate) (s : Nat) : Bool := (weakN (n - 1)).any fun row => tb net row s
theorem tb0 (net : List Gate) (row : List Int) : tb net row 0 = false := by
  unfold tb turnedB
  rw [List.any_eq_false]
  intro b hb
  have hb' := List.mem_range.mp hb
  have e : (runK row net 0).1 = rngI row.length := rfl
  rw [e] at hb' ⊢
  rw [rngI_len] at hb'
  rw [Bool.not_eq_true, List.any_eq_false]
  intro p hp
  rw [rngI_get hb']
  have h1 : p < (b : Int) := by
    obtain ⟨i, hi, he⟩ := List.mem_iff_getElem.mp hp
    rw [List.length_take, rngI_len] at hi
    rw [List.getElem_take] at he
    have : (rngI row.length).getD i 0 = p := by
      rw [List.getD_eq_getElem?_getD, List.getElem?_eq_getElem (by rw [rngI_len]; omega), he]
      rfl
    rw [rngI_get (by omega)] at this
    omega
  rw [decide_eq_false (show ¬ (b : Int) < p by omega), Bool.and_false]
  exact Bool.false_ne_true
section
variable {P : Program} {w : World} {K : PySem.W.Frag} {mg : Str → Option Value} {base : Heap}
def R_weak : FR := fun as ob r ob' => ∃ n : Nat, as = [.dat (.int (n : Int))] ∧ 1 ≤ n ∧ n ≤ 5 ∧ ob = [] ∧ r = .dat (.list ((weakN (n - 1)).map rD)) ∧ ob' = []
theorem tupI1 (o : Int) (keys : List Int) : rD (keys ++ [o]) = .tuple (keys.map PyData.int ++ [.int o]) := by
  unfold rD
  rw [List.map_append]
  rfl
theorem flat_take {α β : Type} {f : α → List β} {l : List α} {i : Nat} {x : α} (h : l[i]? = some x) : (l.take (i + 1)).flatMap f = (l.take i).flatMap f ++ f x := by
  rw [take_snoc h, List.flatMap_append, List.flatMap_singleton]
theorem sc_law_weak : FnScope ["wide", "found", "turn", "fresh", "keys", "top", "own", "key"] ["wide"] (defScope s_law_weak) := ⟨rfl, rfl, rfl, by decide +kernel, rfl, by decide +kernel, by decide +kernel⟩
theorem ok_law_weak (D : Df K mg "_law_weak" s_law_weak ["wide"]) (B : Bi mg) (Cc : Cls K mg) : FnG P w K mg base CX0 1 D.f D.fd ["wide"] (spD K 1 R_weak) := by
  refine okG D.F sc_law_weak (fun vs H Q E h => h.1) (fun cdv A outer s H vs Q E hr gd h => ?_)
  have hu := huX hr
  refine ⟨_, (pss_cons (ps_set (i := 1) sc_law_weak.nd rfl (Or.inl rfl) (pe_lst (pa_cons (pe_tup (pa_cons pe_int pa_nil)) pa_nil)))
      (pss_cons (ps_for PassesOwn.never rfl (pi_range1 (by rfl) B.z_range (pa_cons (pe_op op_subU (pv 0) pe_int) pa_nil)) (pg_name (i := 2) sc_law_weak.nd rfl (Or.inl rfl))
        (pss_cons (ps_set (i := 3) sc_law_weak.nd rfl (Or.inl rfl) (pe_lst pa_nil))
        (pss_cons (ps_for PassesOwn.never rfl (pi_list (pe_callTy cb_list (by rfl) B.z_list (by decide +kernel) (pa_cons (pv 1) pa_nil))) (pg_name (i := 4) sc_law_weak.nd rfl (Or.inr rfl))
          (pss_cons (ps_set (i := 5) sc_law_weak.nd rfl (Or.inl rfl) (pe_op op_plus (pe_callB (cr_maxT rfl hu) (by rfl) B.z_max (by decide +kernel) (pa_cons (pv 4) pa_nil)) pe_int))
          (pss_cons (ps_expr (pe_bm PySem.F.plainAttrs_list PySem.F.slot_list_extend PySem.F.type_list_extend mt_extend (pv 3) (pa_cons (pe_lc (own := [("own", 6)]) (g := gName 6) (tt := tYes) (by rfl) sc_law_weak.nd (pi_range1 (by rfl) B.z_range (pa_cons (pv 5) pa_nil)) (blkOk_by (own := [("own", 6)]) (N := ["wide", "found", "turn", "fresh", "keys", "top", "own", "key"]) (sc := defScope s_law_weak) (by decide +kernel)) (fun _ _ _ _ _ => (pg_name (i := 6) sc_law_weak.nd rfl (Or.inl rfl))) (fun _ _ _ _ _ => pts_nil) (fun _ _ _ _ _ => (pe_op (opK K (R := rPlus) op_plus rfl) (pv 4) (pe_tup (pa_cons (pv 6) pa_nil))))) pa_nil)))
          (pss_one (ps_for PassesOwn.never rfl (pi_range1 (by rfl) B.z_range (pa_cons (pe_op op_plus (pv 5) pe_int) pa_nil)) (pg_name (i := 6) sc_law_weak.nd rfl (Or.inr rfl))
            (pss_one (ps_expr (pe_bm PySem.F.plainAttrs_list PySem.F.slot_list_append PySem.F.type_list_append mt_append (pv 3) (pa_cons (pe_op op_plus (pe_callTy cb_tuple (by rfl) B.z_tuple (by decide +kernel) (pa_cons (pe_lc (own := [("key", 7)]) (g := gName 7) (tt := tYes) (by rfl) sc_law_weak.nd (pi_tup (pv 4)) (blkOk_by (own := [("key", 7)]) (N := ["wide", "found", "turn", "fresh", "keys", "top", "own", "key"]) (sc := defScope s_law_weak) (by decide +kernel)) (fun _ _ _ _ _ => (pg_name (i := 7) sc_law_weak.nd rfl (Or.inl rfl))) (fun _ _ _ _ _ => pts_nil) (fun _ _ _ _ _ => (pe_op (opK K (R := rPlus) op_plus rfl) (pv 7) (pe_callTy cb_int (by rfl) B.z_int (by decide +kernel) (pa_cons (pe_cmpR op_geU (pv 7) (pv 6) (nomark _)) pa_nil))))) pa_nil)) (pe_tup (pa_cons (pv 6) pa_nil))) pa_nil)))))))))
        (pss_one (ps_set (i := 1) sc_law_weak.nd rfl (Or.inl rfl) (pv 3))))))
      (pss_one (ps_ret (pv 1))))), ?_⟩
  refine body_ofG h (by decide) (fun as ob r ob' hR => ?_) fun as ob r ob' hR hl => ?_
  · obtain ⟨n, rfl, _, _, rfl, rfl, rfl⟩ := hR
    exact ⟨Nat.le_refl _, fun _ z => by cases z⟩
  obtain ⟨n, rfl, hn1, hn5, rfl, rfl, rfl⟩ := hR
  refine ts_seq (ts_asg (x := .dat (.list ((weakN 0).map rD))) (ee_lst (ds := (weakN 0).map rD) (ed_cons (ee_tup (ed_cons ee_int ed_nil)) ed_nil) (show (1 : Nat) ≤ 1000000 by decide)) ?_)
  refine ts_seq (ts_for (ds := rngD 0 (n - 1)) (S0 := ⟨[.dat (.int (n : Int)), .dat (.list ((weakN 0).map rD)), .un, .un, .un, .un, .un, .un], []⟩) ?_ (fun k S => ∃ a b c d e tl, S = ⟨[.dat (.int (n : Int)), .dat (.list ((weakN k).map rD)), a, b, c, d, e, .un], tl⟩) ⟨.un, .un, .un, .un, .un, [], rfl⟩ ?_ ?_)
  · have := ei_rng1 (K := K) (S := ⟨[.dat (.int (n : Int)), .dat (.list ((weakN 0).map rD)), .un, .un, .un, .un, .un, .un], []⟩) (n := (n : Int) - 1) (ed_cons (ee_op (ee_var (i := 0) rfl) ee_int ro_sub) ed_nil) (by omega)
    rw [show ((n : Int) - 1).toNat = n - 1 by omega] at this
    exact this
  · rintro k d S' hdk ⟨a, b, c, dd, e, tl, rfl⟩
    obtain ⟨hk, rfl⟩ := rngD_get hdk
    have hk' : k < n - 1 := hk
    have wl := weak_len k (by omega)
    have wp := pow_small (k := k) (by omega)
    refine ⟨_, eg_name, ts_seq (ts_asg (x := .own tl.length) (S1 := ⟨[.dat (.int (n : Int)), .dat (.list ((weakN k).map rD)), .dat (.int (0 + (k : Int))), b, c, dd, e, .un], tl ++ [.lst []]⟩) (eo_of_el (S1 := ⟨[.dat (.int (n : Int)), .dat (.list ((weakN k).map rD)), .dat (.int (0 + (k : Int))), b, c, dd, e, .un], tl⟩) (el_lst ed_nil)) ?_)⟩
    have at1 : ∀ x : OO, (tl ++ [x])[tl.length]? = some x := fun x => List.getElem?_concat_length
    have set1 : ∀ x y : OO, (tl ++ [x]).set tl.length y = tl ++ [y] := fun x y => by
      rw [List.set_append_right _ _ (Nat.le_refl _), Nat.sub_self]
      rfl
    generalize hq : SD.dat (PyData.int (0 + (k : Int))) = q
    have fl : ∀ i, ((weakN k).take i).flatMap weakS = ((weakN k).take i).flatMap weakS := fun _ => rfl
    have bl : ∀ i, (((weakN k).take i).flatMap weakS).length ≤ 14641 * 11 := fun i => by
      have h1 : (((weakN k).take i).flatMap weakS).length ≤ ((weakN k).take i).length * 11 := flat_le fun x hx => by
        rw [weakS_len]
        have := top_le (List.mem_of_mem_take hx)
        omega
      have h2 : ((weakN k).take i).length ≤ (weakN k).length := by
        rw [List.length_take]
        omega
      have h3 := Nat.mul_le_mul_right 11 (show ((weakN k).take i).length ≤ 14641 by omega)
      omega
    refine ts_seq (ts_for (ds := (weakN k).map rD) (S0 := ⟨[.dat (.int (n : Int)), .dat (.list ((weakN k).map rD)), q, .own tl.length, c, dd, e, .un], tl ++ [.lst []]⟩) (ei_list (ee_cb (ea_cons (ee_var rfl) ea_nil) rc_listD)) (fun i S => ∃ c dd e, S = ⟨[.dat (.int (n : Int)), .dat (.list ((weakN k).map rD)), q, .own tl.length, c, dd, e, .un], tl ++ [.lst ((((weakN k).take i).flatMap weakS).map rD)]⟩) ⟨c, dd, e, rfl⟩ ?_ ?_)
    · rintro i d S' hdi ⟨c, dd, e, rfl⟩
      have hm : ∃ keys, (weakN k)[i]? = some keys ∧ d = rD keys := by
        rw [List.getElem?_map] at hdi
        cases he : (weakN k)[i]? with
        | none =>
          rw [he] at hdi
          cases hdi
        | some x =>
          rw [he] at hdi
          exact ⟨x, rfl, (Option.some.inj hdi).symm⟩
      obtain ⟨keys, hkeys, rfl⟩ := hm
      have hmem := List.mem_of_getElem? hkeys
      have hrow := weak_row k keys hmem
      have htop := top_le hmem
      have hcons : ∃ n0 ns, keys = n0 :: ns := by
        cases keys with
        | nil =>
          have := hrow.1
          rw [List.length_nil] at this
          omega
        | cons a b => exact ⟨a, b, rfl⟩
      have htI : (topN keys : Int) = maxI keys + 1 := by
        obtain ⟨n0, ns, e0⟩ := hcons
        have h1 := maxI_ge (l := keys) (x := n0) (by rw [e0]; exact List.mem_cons_self)
        have h2 := hrow.2 n0 (by rw [e0]; exact List.mem_cons_self)
        unfold topN
        omega
      rw [flat_take hkeys, List.map_append]
      have bi := bl i
      generalize hX : (((weakN k).take i).flatMap weakS).map rD = X
      have bX : X.length ≤ 14641 * 11 := by
        rw [← hX, List.length_map]
        exact bi
      have ia : ∀ (S : SS) (h : S.sl[5]? = some (.dat (.int (topN keys : Int)))), Ei K (iRng1 (tCons (tVar 5) tNil)) S ((List.range (topN keys)).map fun (o : Nat) => PyData.int (o : Int)) S := fun S h => by
        have := ei_rng1 (K := K) (S := S) (n := (topN keys : Int)) (ed_cons (ee_var h) ed_nil) (by omega)
        rw [Int.toNat_natCast] at this
        have e2 : rngD 0 (topN keys) = (List.range (topN keys)).map fun (i : Nat) => PyData.int (i : Int) := by
          unfold rngD
          refine List.map_congr_left fun j _ => ?_
          rw [Int.zero_add]
        rw [e2] at this
        exact this
      refine ⟨_, eg_name, ts_seq (ts_asg (x := .dat (.int (topN keys : Int))) (S1 := ⟨[.dat (.int (n : Int)), .dat (.list ((weakN k).map rD)), q, .own tl.length, .dat (rD keys), dd, e, .un], tl ++ [.lst X]⟩) ?_ ?_)⟩
      · rw [htI]
        obtain ⟨n0, ns, e0⟩ := hcons
        subst e0
        exact ee_op (ee_cb (ea_cons (ee_var rfl) ea_nil) rc_maxTu) ee_int ro_add
      refine ts_seq (ts_drop (ee_extend (k := tl.length) (ds := X) (es := (weakA keys).map rD) (S1 := ⟨[.dat (.int (n : Int)), .dat (.list ((weakN k).map rD)), q, .own tl.length, .dat (rD keys), .dat (.int (topN keys : Int)), e, .un], tl ++ [.lst X]⟩) (S2 := ⟨[.dat (.int (n : Int)), .dat (.list ((weakN k).map rD)), q, .own tl.length, .dat (rD keys), .dat (.int (topN keys : Int)), e, .un], tl ++ [.lst X]⟩) (ee_var rfl) (ee_of_el ?_) (.dat _) ⟨_, at1 _⟩ (at1 _) ?_) ?_)
      · unfold weakA
        rw [List.map_map]
        have hia := ia ⟨[.dat (.int (n : Int)), .dat (.list ((weakN k).map rD)), q, .own tl.length, .dat (rD keys), .dat (.int (topN keys : Int)), e, .un], tl ++ [.lst X]⟩ rfl
        refine el_lcmA (K := K) (te := tOp (rPlus K) (tVar 4) (tTup (tCons (tVar 6) tNil))) (g := gName 6) (vs := [6]) (f := rD ∘ fun (o : Nat) => keys ++ [(o : Int)]) (dA := fun (o : Nat) => PyData.int (o : Int)) (lst := List.range (topN keys)) (S0 := ⟨[.dat (.int (n : Int)), .dat (.list ((weakN k).map rD)), q, .own tl.length, .dat (rD keys), .dat (.int (topN keys : Int)), e, .un], tl ++ [.lst X]⟩) hia (by rw [List.length_range]; omega) fun o ho => ⟨_, egc_name (by decide), rfl, _, ee_eq (ee_op (ee_var rfl) (ee_tup (ed_cons (ee_var rfl) ed_nil)) (ro_catT (ds := keys.map PyData.int) (es := [.int (o : Int)]) ?_)) (congrArg SD.dat (tupI1 (o : Int) keys).symm), rfl⟩
        rw [List.length_map, hrow.1]
        show k + 1 + 1 ≤ 1000000
        omega
      · unfold weakA
        rw [List.length_map, List.length_map, List.length_range]
        omega
      refine ts_for (ds := (List.range (topN keys + 1)).map fun (o : Nat) => PyData.int (o : Int)) (S0 := ⟨[.dat (.int (n : Int)), .dat (.list ((weakN k).map rD)), q, .own tl.length, .dat (rD keys), .dat (.int (topN keys : Int)), e, .un], tl ++ [.lst (X ++ (weakA keys).map rD)]⟩) ?_ (fun j S => ∃ e, S = ⟨[.dat (.int (n : Int)), .dat (.list ((weakN k).map rD)), q, .own tl.length, .dat (rD keys), .dat (.int (topN keys : Int)), e, .un], tl ++ [.lst (X ++ (weakA keys).map rD ++ (weakB keys j).map rD)]⟩) ⟨e, ?_⟩ ?_ ?_
      · have := ei_rng1 (K := K) (S := ⟨[.dat (.int (n : Int)), .dat (.list ((weakN k).map rD)), q, .own tl.length, .dat (rD keys), .dat (.int (topN keys : Int)), e, .un], tl ++ [.lst (X ++ (weakA keys).map rD)]⟩) (n := (topN keys : Int) + 1) (ed_cons (ee_op (ee_var (i := 5) rfl) ee_int ro_add) ed_nil) (by omega)
        rw [show ((topN keys : Int) + 1).toNat = topN keys + 1 by omega] at this
        have e2 : rngD 0 (topN keys + 1) = (List.range (topN keys + 1)).map fun (i : Nat) => PyData.int (i : Int) := by
          unfold rngD
          refine List.map_congr_left fun j _ => ?_
          rw [Int.zero_add]
        rw [e2] at this
        rw [set1]
        exact this
      · show (⟨_, tl ++ [.lst (X ++ (weakA keys).map rD)]⟩ : SS) = ⟨_, tl ++ [.lst (X ++ (weakA keys).map rD ++ [])]⟩
        rw [List.append_nil]
      · rintro j d S' hdj ⟨e, rfl⟩
        have hj : j < topN keys + 1 := by
          have := (List.getElem?_eq_some_iff.mp hdj).1
          rw [List.length_map, List.length_range] at this
          exact this
        have hdj' : d = PyData.int (j : Int) := by
          rw [List.getElem?_map, List.getElem?_range hj] at hdj
          exact (Option.some.inj hdj).symm
        subst hdj'
        have wb : weakB keys (j + 1) = weakB keys j ++ [keys.map (upK (j : Int)) ++ [(j : Int)]] := by
          unfold weakB
          rw [List.range_succ, List.map_append]
          rfl
        have wbl : (weakB keys j).length = j := by
          unfold weakB
          rw [List.length_map, List.length_range]
        have wal : (weakA keys).length = topN keys := by
          unfold weakA
          rw [List.length_map, List.length_range]
        generalize hY : X ++ (weakA keys).map rD ++ (weakB keys j).map rD = Y
        have bY : Y.length ≤ 14641 * 11 + 100 := by
          rw [← hY, List.length_append, List.length_append, List.length_map, List.length_map, wbl, wal]
          omega
        refine ⟨_, eg_name, ts_drop (ee_append (k := tl.length) (ds := Y) (d := rD (keys.map (upK (j : Int)) ++ [(j : Int)])) (S1 := ⟨[.dat (.int (n : Int)), .dat (.list ((weakN k).map rD)), q, .own tl.length, .dat (rD keys), .dat (.int (topN keys : Int)), .dat (.int (j : Int)), .un], tl ++ [.lst Y]⟩) (S2 := ⟨[.dat (.int (n : Int)), .dat (.list ((weakN k).map rD)), q, .own tl.length, .dat (rD keys), .dat (.int (topN keys : Int)), .dat (.int (j : Int)), .un], tl ++ [.lst Y]⟩) (ee_var rfl) ?_ ⟨_, at1 _⟩ (at1 _) (by omega)) ⟨.dat (.int (j : Int)), ?_⟩⟩
        · rw [tupI1]
          refine ee_op (S1 := ⟨[.dat (.int (n : Int)), .dat (.list ((weakN k).map rD)), q, .own tl.length, .dat (rD keys), .dat (.int (topN keys : Int)), .dat (.int (j : Int)), .un], tl ++ [.lst Y]⟩) (S2 := ⟨[.dat (.int (n : Int)), .dat (.list ((weakN k).map rD)), q, .own tl.length, .dat (rD keys), .dat (.int (topN keys : Int)), .dat (.int (j : Int)), .un], tl ++ [.lst Y]⟩) (ee_cb (ea_cons (ee_of_el ?_) ea_nil) (rc_tupL (.dat _))) (ee_tup (ed_cons (ee_var rfl) ed_nil)) (ro_catT ?_)
          · rw [List.map_map]
            refine el_lcmA (dA := PyData.int) (lst := keys) ?_ ?_ ?_
            · exact ei_tup (ee_var rfl)
            · rw [hrow.1]
              omega
            · exact fun x hx => ⟨_, egc_name (by decide), rfl, _, ee_op (ee_var rfl) (ee_cb (ea_cons (ee_op (ee_var rfl) (ee_var rfl) ro_ge) ea_nil) rc_intB) ro_add, rfl⟩
          · rw [List.length_map, List.length_map, hrow.1]
            show k + 1 + 1 ≤ 1000000
            omega
        · show (⟨_, (tl ++ [OO.lst Y]).set tl.length _⟩ : SS) = _
          rw [set1, wb, List.map_append, ← hY, List.append_assoc (X ++ (weakA keys).map rD)]
          rfl
      · rintro S' ⟨e, rfl⟩
        rw [List.length_map, List.length_range]
        refine ⟨.dat (rD keys), .dat (.int (topN keys : Int)), e, ?_⟩
        rw [List.append_assoc, ← List.map_append]
        rfl
    · rintro S' ⟨c, dd, e, rfl⟩
      rw [List.length_map, List.take_length]
      exact ts_asg (x := .dat (.list ((weakN (k + 1)).map rD))) (ee_frz (ds := (weakN (k + 1)).map rD) (S1 := ⟨[.dat (.int (n : Int)), .dat (.list ((weakN k).map rD)), q, .own tl.length, c, dd, e, .un], tl ++ [.lst ((weakN (k + 1)).map rD)]⟩) (ee_var rfl) (at1 _)) ⟨q, .own tl.length, c, dd, e, _, rfl⟩
  · rintro S' ⟨a, b, c, d, e, tl, rfl⟩
    rw [rngD_len]
    exact ts_ret (ee_var rfl) ⟨rfl, List.nil_prefix⟩
end
end K33

set_option maxRecDepth 100000
set_option maxHeartbeats 4000000
namespace K33
open PySem PySem.Spec PyProof.Rows L2 DL
section
variable {P : Program} {w : World} {K : PySem.W.Frag} {mg : Str → Option Value} {base : Heap}
def R_turned : FR := fun as ob r ob' => ∃ row pl, as = [.own 0, .dat (rD row)] ∧ ob = [.lstP (pl.map PyData.int)] ∧ pl.length ≤ 1000 ∧ (∀ p ∈ pl, 0 ≤ p ∧ p < (row.length : Int)) ∧ r = .dat (.bool (turnedB row pl)) ∧ ob' = [.lstP (pl.map PyData.int)]
def innB (row pl : List Int) (b : Nat) (p : Int) : Bool := decide (val row p = val row (pl.getD b 0)) && decide (pl.getD b 0 < p)
theorem turned_of {row pl : List Int} {b : Nat} {p : Int} (hb : b < pl.length) (hp : p ∈ pl.take b) (h : innB row pl b p = true) : turnedB row pl = true := by
  unfold turnedB
  rw [List.any_eq_true]
  refine ⟨b, List.mem_range.mpr hb, ?_⟩
  rw [List.any_eq_true]
  exact ⟨p, hp, h⟩
theorem turned_no {row pl : List Int} (h : ∀ b, b < pl.length → ∀ p ∈ pl.take b, innB row pl b p = false) : turnedB row pl = false := by
  unfold turnedB
  rw [List.any_eq_false]
  intro b hb
  rw [Bool.not_eq_true, List.any_eq_false]
  intro p hp
  have := h b (List.mem_range.mp hb) p hp
  unfold innB at this
  rw [this]
  exact Bool.false_ne_true
/-! ### which numbers of first gates fail -/
def badD (n : Nat) (net : List Gate) : List PyData := (List.range (net.length + 1)).map fun s => .bool (badB n net s)
def badS (net : List Gate) (rows : List (List Int)) : List PyData := (List.range (net.length + 1)).map fun s => .bool (rows.any fun row => tb net row s)
def badM (net : List Gate) (rows : List (List Int)) (row : List Int) (k : Nat) : List PyData := (List.range (net.length + 1)).map fun s => .bool ((rows.any fun row => tb net row s) || (decide (s ≤ k) && tb net row s))
theorem badM_len (net : List Gate) (rows : List (List Int)) (row : List Int) (k : Nat) : (badM net rows row k).length = net.length + 1 := by
  unfold badM
  rw [List.length_map, List.length_range]
theorem badM_0 (net : List Gate) (rows : List (List Int)) (row : List Int) : badM net rows row 0 = badS net rows := by
  unfold badM badS
  refine List.map_congr_left fun s _ => ?_
  by_cases h : s = 0
  · rw [h, tb0, Bool.and_false, Bool.or_false]
  · rw [decide_eq_false (by omega), Bool.false_and, Bool.or_false]
theorem badM_end (net : List Gate) (rows : List (List Int)) (row : List Int) : badM net rows row net.length = badS net (rows ++ [row]) := by
  unfold badM badS
  refine List.map_congr_left fun s hs => ?_
  have := List.mem_range.mp hs
  rw [decide_eq_true (by omega), Bool.true_and, List.any_append]
  show _ = PyData.bool (_ || (tb net row s || false))
  rw [Bool.or_false]
theorem range_setP {n p : Nat} {f g : Nat → PyData} (hp : p < n) (h : ∀ a, a < n → a ≠ p → g a = f a) : ((List.range n).map f).set p (g p) = (List.range n).map g := by
  refine List.ext_getElem? fun i => ?_
  by_cases e : p = i
  · subst e
    rw [List.getElem?_set_self (by rw [List.length_map, List.length_range]; exact hp), List.getElem?_map, List.getElem?_range hp]
    rfl
  · rw [List.getElem?_set_ne e, List.getElem?_map, List.getElem?_map]
    by_cases hi : i < n
    · rw [List.getElem?_range hi]
      show some (f i) = some (g i)
      rw [h i hi (Ne.symm e)]
    · rw [List.getElem?_eq_none (by rw [List.length_range]; omega)]
      rfl
theorem badM_succ (net : List Gate) (rows : List (List Int)) (row : List Int) {k : Nat} (hk : k < net.length) : (badM net rows row k).set (k + 1) (.bool ((rows.any fun row => tb net row (k + 1)) || tb net row (k + 1))) = badM net rows row (k + 1) := by
  have := range_setP (n := net.length + 1) (p := k + 1) (f := fun s => PyData.bool ((rows.any fun row => tb net row s) || (decide (s ≤ k) && tb net row s))) (g := fun s => PyData.bool ((rows.any fun row => tb net row s) || (decide (s ≤ k + 1) && tb net row s))) (by omega) fun a ha hne => by
    have : decide (a ≤ k + 1) = decide (a ≤ k) := by
      by_cases h : a ≤ k
      · rw [decide_eq_true h, decide_eq_true (by omega)]
      · rw [decide_eq_false h, decide_eq_false (by omega)]
    rw [this]
  rw [show (PyData.bool ((rows.any fun row => tb net row (k + 1)) || (decide (k + 1 ≤ k + 1) && tb net row (k + 1)))) = PyData.bool ((rows.any fun row => tb net row (k + 1)) || tb net row (k + 1)) from by rw [decide_eq_true (Nat.le_refl _), Bool.true_and]] at this
  exact this
theorem badM_at (net : List Gate) (rows : List (List Int)) (row : List Int) {k : Nat} (hk : k < net.length) : (badM net rows row k)[k + 1]? = some (.bool (rows.any fun row => tb net row (k + 1))) := by
  unfold badM
  rw [List.getElem?_map, List.getElem?_range (by omega)]
  show some (PyData.bool (_ || (decide (k + 1 ≤ k) && _))) = _
  rw [decide_eq_false (by omega), Bool.false_and, Bool.or_false]
theorem repD_bools (k : Nat) : repD k [.bool false] = (List.range k).map fun _ => PyData.bool false := by
  induction k with
  | zero => rfl
  | succ k ih =>
    rw [repD_succ, ih, List.map_const', List.map_const', List.length_range, List.length_range, List.replicate_succ]
    rfl
def R_bad : FR := fun as ob r ob' => ∃ (n : Nat) (net : List Gate), as = [.dat (.int (n : Int)), .dat (nD net)] ∧ 1 ≤ n ∧ n ≤ 5 ∧ NetOk n net ∧ net.length ≤ 1000 ∧ ob = [] ∧ r = .dat (.list (badD n net)) ∧ ob' = []
end
end K33

set_option maxRecDepth 100000
set_option maxHeartbeats 4000000
namespace K33
open PySem PySem.Spec PyProof.Rows L2 DL
/-! ### what the descending row tells -/
def gi (net : List Gate) (k : Nat) : Nat := (net.getD k (0, 0)).1.toNat
def gj (net : List Gate) (k : Nat) : Nat := (net.getD k (0, 0)).2.toNat
def plK (row : List Int) (net : List Gate) (k l : Nat) : Int := (runK row net k).1.getD l 0
def kyK (row : List Int) (net : List Gate) (k l : Nat) : Int := val row (plK row net k l)
def Ex (row : List Int) (net : List Gate) (k : Nat) : Prop := kyK row net k (gj net k) < kyK row net k (gi net k)
theorem gij {n : Nat} {net : List Gate} (h : NetOk n net) {k : Nat} (hk : k < net.length) : gi net k < gj net k ∧ gj net k < n := by
  have := gate_at h hk
  unfold gi gj
  omega
section
variable {n : Nat} {net : List Gate} {row : List Int}
theorem step_yes (h : NetOk row.length net) {k : Nat} (hk : k < net.length) (e : Ex row net k) (l : Nat) : plK row net (k + 1) l = if l = gj net k then plK row net k (gi net k) else if l = gi net k then plK row net k (gj net k) else plK row net k l := by
  have g := gate_at h hk
  have L := runK_len row net k
  have e1 : runK row net (k + 1) = stepR row k (net.getD k (0, 0)) (runK row net k) := rfl
  unfold plK
  rw [e1]
  unfold stepR
  rw [if_pos (show val row ((runK row net k).1.getD (net.getD k (0, 0)).2.toNat 0) < val row ((runK row net k).1.getD (net.getD k (0, 0)).1.toNat 0) from e)]
  exact swp_get _ (by omega) (by omega) l
theorem step_no {k : Nat} (e : ¬ Ex row net k) (l : Nat) : plK row net (k + 1) l = plK row net k l := by
  have e1 : runK row net (k + 1) = stepR row k (net.getD k (0, 0)) (runK row net k) := rfl
  unfold plK
  rw [e1]
  unfold stepR
  rw [if_neg (show ¬ val row ((runK row net k).1.getD (net.getD k (0, 0)).2.toNat 0) < val row ((runK row net k).1.getD (net.getD k (0, 0)).1.toNat 0) from e)]
theorem key_yes (h : NetOk row.length net) {k : Nat} (hk : k < net.length) (e : Ex row net k) (l : Nat) : kyK row net (k + 1) l = if l = gj net k then kyK row net k (gi net k) else if l = gi net k then kyK row net k (gj net k) else kyK row net k l := by
  unfold kyK
  rw [step_yes h hk e]
  split
  · rfl
  split <;> rfl
theorem key_no {k : Nat} (e : ¬ Ex row net k) (l : Nat) : kyK row net (k + 1) l = kyK row net k l := by
  unfold kyK
  rw [step_no e]
theorem rngI_nodup (n : Nat) : (rngI n).Nodup := by
  unfold rngI List.Nodup
  rw [List.pairwise_map]
  exact List.Pairwise.imp (fun h z => h (by omega)) (List.nodup_range (n := n))
theorem pl_get (h : NetOk row.length net) {k : Nat} (hk : k ≤ net.length) {a : Nat} (ha : a < row.length) : (runK row net k).1[a]? = some (plK row net k a) := by
  have L := runK_len row net k
  unfold plK
  rw [List.getD_eq_getElem?_getD, List.getElem?_eq_getElem (by omega)]
  rfl
theorem pl_inj (h : NetOk row.length net) {k : Nat} (hk : k ≤ net.length) {a b : Nat} (ha : a < row.length) (hb : b < row.length) (e : plK row net k a = plK row net k b) : a = b := by
  have nd : (runK row net k).1.Nodup := (runK_perm h k hk).nodup_iff.mpr (rngI_nodup _)
  have L := runK_len row net k
  have g1 := pl_get h hk ha
  have g2 := pl_get h hk hb
  rw [e] at g1
  obtain ⟨h1, e1⟩ := List.getElem?_eq_some_iff.mp g1
  obtain ⟨h2, e2⟩ := List.getElem?_eq_some_iff.mp g2
  rcases Nat.lt_trichotomy a b with q | q | q
  · exact absurd (e1.trans e2.symm) (List.pairwise_iff_getElem.mp nd a b h1 h2 q)
  · exact q
  · exact absurd (e2.trans e1.symm) (List.pairwise_iff_getElem.mp nd b a h2 h1 q)
theorem pl_mem (h : NetOk row.length net) {k : Nat} (hk : k ≤ net.length) {a : Nat} (ha : a < row.length) : 0 ≤ plK row net k a ∧ plK row net k a < row.length := runK_mem h hk ha
theorem pl_zero {a : Nat} (ha : a < row.length) : plK row net 0 a = (a : Int) := by
  have e : (runK row net 0).1 = rngI row.length := rfl
  unfold plK
  rw [e, rngI_get ha]
/-- the keys of the descending row -/
theorem dky (h : NetOk n net) {k : Nat} (hk : k ≤ net.length) {a : Nat} (ha : a < n) : kyK (descI n) net k a = (n : Int) - plK (descI n) net k a := by
  have h' : NetOk (descI n).length net := by rw [descI_len]; exact h
  have m := pl_mem h' hk (a := a) (by rw [descI_len]; exact ha)
  rw [descI_len] at m
  unfold kyK
  exact descI_val m.1 m.2
theorem dne (h : NetOk n net) {k : Nat} (hk : k ≤ net.length) {a b : Nat} (ha : a < n) (hb : b < n) (hab : a ≠ b) : kyK (descI n) net k a ≠ kyK (descI n) net k b := fun e => by
  have h' : NetOk (descI n).length net := by rw [descI_len]; exact h
  rw [dky h hk ha, dky h hk hb] at e
  exact hab (pl_inj h' hk (by rw [descI_len]; exact ha) (by rw [descI_len]; exact hb) (by omega))
/-- near as long as it works on the descending row -/
def Tame (n : Nat) (net : List Gate) (s : Nat) : Prop := ∀ k, k < s → Ex (descI n) net k → gj net k = gi net k + 1
theorem tame_inv (hl : row.length = n) (h : NetOk n net) {s : Nat} (hs : s ≤ net.length) (t : Tame n net s) : ∀ k, k ≤ s → ∀ a b, a < b → b < n → kyK (descI n) net k a < kyK (descI n) net k b → kyK row net k a ≤ kyK row net k b
  | 0, _ => fun a b hab hb e => by
    rw [dky h (Nat.zero_le _) (by omega), dky h (Nat.zero_le _) hb, pl_zero (by rw [descI_len]; omega), pl_zero (by rw [descI_len]; omega)] at e
    omega
  | k + 1, hk => fun a b hab hb e => by
    have ih := tame_inv hl h hs t k (by omega)
    have hr : NetOk row.length net := by rw [hl]; exact h
    have hd : NetOk (descI n).length net := by rw [descI_len]; exact h
    have g := gij h (k := k) (by omega)
    by_cases ed : Ex (descI n) net k
    · have near := t k (by omega) ed
      rw [key_yes hd (by omega) ed, key_yes hd (by omega) ed] at e
      have hmm : ∀ l, kyK row net (k + 1) l = if l = gj net k then max (kyK row net k (gi net k)) (kyK row net k (gj net k)) else if l = gi net k then min (kyK row net k (gi net k)) (kyK row net k (gj net k)) else kyK row net k l := fun l => by
        by_cases er : Ex row net k
        · have er' : kyK row net k (gj net k) < kyK row net k (gi net k) := er
          rw [key_yes hr (by omega) er]
          split
          · omega
          split
          · omega
          · rfl
        · have er' : ¬ kyK row net k (gj net k) < kyK row net k (gi net k) := er
          rw [key_no er]
          split
          · rename_i z
            rw [z]
            omega
          split
          · rename_i z
            rw [z]
            omega
          · rfl
      rw [hmm a, hmm b]
      have ed' : kyK (descI n) net k (gj net k) < kyK (descI n) net k (gi net k) := ed
      generalize gi net k = i at *
      generalize gj net k = j at *
      by_cases a1 : a = j
      · rw [if_pos a1] at e ⊢
        rw [if_neg (show ¬ b = j by omega), if_neg (show ¬ b = i by omega)] at e ⊢
        have h1 := ih i b (by omega) hb e
        have h2 := ih j b (by omega) hb (by omega)
        omega
      · rw [if_neg a1] at e ⊢
        by_cases a2 : a = i
        · rw [if_pos a2] at e ⊢
          by_cases b1 : b = j
          · rw [if_pos b1]
            omega
          · rw [if_neg b1] at e ⊢
            rw [if_neg (show ¬ b = i by omega)] at e ⊢
            have h2 := ih j b (by omega) hb e
            omega
        · rw [if_neg a2] at e ⊢
          by_cases b1 : b = j
          · rw [if_pos b1] at e ⊢
            have h1 := ih a i (by omega) (by omega) e
            omega
          · rw [if_neg b1] at e ⊢
            by_cases b2 : b = i
            · rw [if_pos b2] at e ⊢
              have h1 := ih a j (by omega) (by omega) e
              have h2 := ih a i (by omega) (by omega) (by omega)
              omega
            · rw [if_neg b2] at e ⊢
              exact ih a b hab hb e
    · rw [key_no ed, key_no ed] at e
      have nr : ¬ Ex row net k := fun er => by
        have ne := dne h (k := k) (by omega) (a := gi net k) (b := gj net k) (by omega) g.2 (by omega)
        have ed' : ¬ kyK (descI n) net k (gj net k) < kyK (descI n) net k (gi net k) := ed
        have := ih (gi net k) (gj net k) g.1 g.2 (by omega)
        have er' : kyK row net k (gj net k) < kyK row net k (gi net k) := er
        omega
      rw [key_no nr, key_no nr]
      exact ih a b hab hb e
theorem tame_ex (hl : row.length = n) (h : NetOk n net) {s : Nat} (hs : s ≤ net.length) (t : Tame n net s) {k : Nat} (hk : k < s) (er : Ex row net k) : Ex (descI n) net k := by
  have g := gij h (k := k) (by omega)
  refine Classical.byContradiction fun ed => ?_
  have ne := dne h (k := k) (by omega) (a := gi net k) (b := gj net k) (by omega) g.2 (by omega)
  have ed' : ¬ kyK (descI n) net k (gj net k) < kyK (descI n) net k (gi net k) := ed
  have := tame_inv hl h hs t k (by omega) (gi net k) (gj net k) g.1 g.2 (by omega)
  have er' : kyK row net k (gj net k) < kyK row net k (gi net k) := er
  omega
/-- equal keys keep their order -/
theorem tame_stable (hl : row.length = n) (h : NetOk n net) {s : Nat} (hs : s ≤ net.length) (t : Tame n net s) : ∀ k, k ≤ s → ∀ a b, a < b → b < n → kyK row net k a = kyK row net k b → plK row net k a < plK row net k b
  | 0, _ => fun a b hab hb _ => by
    rw [pl_zero (by omega), pl_zero (by omega)]
    omega
  | k + 1, hk => fun a b hab hb e => by
    have ih := tame_stable hl h hs t k (by omega)
    have hr : NetOk row.length net := by rw [hl]; exact h
    by_cases er : Ex row net k
    · have near := t k (by omega) (tame_ex hl h hs t (by omega) er)
      have er' : kyK row net k (gj net k) < kyK row net k (gi net k) := er
      rw [key_yes hr (by omega) er, key_yes hr (by omega) er] at e
      rw [step_yes hr (by omega) er, step_yes hr (by omega) er]
      have g := gij h (k := k) (by omega)
      generalize gi net k = i at *
      generalize gj net k = j at *
      by_cases a1 : a = j
      · rw [if_pos a1] at e ⊢
        rw [if_neg (show ¬ b = j by omega), if_neg (show ¬ b = i by omega)] at e ⊢
        exact ih i b (by omega) hb e
      · rw [if_neg a1] at e ⊢
        by_cases a2 : a = i
        · rw [if_pos a2] at e ⊢
          by_cases b1 : b = j
          · rw [if_pos b1] at e
            omega
          · rw [if_neg b1, if_neg (show ¬ b = i by omega)] at e ⊢
            exact ih j b (by omega) hb e
        · rw [if_neg a2] at e ⊢
          by_cases b1 : b = j
          · rw [if_pos b1] at e ⊢
            exact ih a i (by omega) (by omega) e
          · rw [if_neg b1] at e ⊢
            by_cases b2 : b = i
            · rw [if_pos b2] at e ⊢
              exact ih a j (by omega) (by omega) e
            · rw [if_neg b2] at e ⊢
              exact ih a b hab hb e
    · rw [key_no er, key_no er] at e
      rw [step_no er, step_no er]
      exact ih a b hab hb e
theorem tame_tb (hl : row.length = n) (h : NetOk n net) {s : Nat} (hs : s ≤ net.length) (t : Tame n net s) : tb net row s = false := by
  have L := runK_len row net s
  refine turned_no fun b hb p hp => ?_
  obtain ⟨a, ha, hpa⟩ := List.mem_iff_getElem.mp hp
  rw [List.length_take] at ha
  rw [List.getElem_take] at hpa
  have e : plK row net s a = p := by
    unfold plK
    rw [List.getD_eq_getElem?_getD, List.getElem?_eq_getElem (by omega), hpa]
    rfl
  unfold innB
  by_cases ev : val row p = val row ((runK row net s).1.getD b 0)
  · have := tame_stable hl h hs t s (Nat.le_refl _) a b (by omega) (by omega) (by unfold kyK; rw [e]; exact ev)
    rw [e] at this
    have this : p < (runK row net s).1.getD b 0 := this
    rw [decide_eq_false (show ¬ (runK row net s).1.getD b 0 < p by omega), Bool.and_false]
  · rw [decide_eq_false ev, Bool.false_and]
end
end K33

set_option maxRecDepth 100000
set_option maxHeartbeats 4000000
namespace K33
open PySem PySem.Spec PyProof.Rows L2 DL
/-! ### a far gate that works is seen for ever -/
section
variable {n : Nat} {net : List Gate}
def yF (n : Nat) (net : List Gate) (f m : Nat) : Int := if m < gi net f then 0 else if gj net f < m then 1 else if kyK (descI n) net f (gj net f) < kyK (descI n) net f m then 1 else 0
theorem yF_01 (f m : Nat) : yF n net f m = 0 ∨ yF n net f m = 1 := by
  unfold yF
  split
  · exact .inl rfl
  split
  · exact .inr rfl
  split
  · exact .inr rfl
  · exact .inl rfl
def xF (n : Nat) (net : List Gate) (f : Nat) : List Int := (List.range n).map fun (p : Nat) => yF n net f ((runK (descI n) net f).1.idxOf (p : Int))
theorem xF_len (f : Nat) : (xF n net f).length = n := by
  unfold xF
  rw [List.length_map, List.length_range]
theorem xF_01 (f : Nat) : ∀ x ∈ xF n net f, x = 0 ∨ x = 1 := fun x hx => by
  unfold xF at hx
  obtain ⟨p, _, rfl⟩ := List.mem_map.mp hx
  exact yF_01 f _
theorem hD (h : NetOk n net) : NetOk (descI n).length net := by rw [descI_len]; exact h
theorem xF_at (h : NetOk n net) {f : Nat} (hf : f ≤ net.length) {m : Nat} (hm : m < n) : val (xF n net f) (plK (descI n) net f m) = yF n net f m := by
  have mm := pl_mem (hD h) hf (a := m) (by rw [descI_len]; exact hm)
  rw [descI_len] at mm
  have hg := pl_get (hD h) hf (a := m) (by rw [descI_len]; exact hm)
  have hin : plK (descI n) net f m ∈ (runK (descI n) net f).1 := List.mem_of_getElem? hg
  have hlt := List.idxOf_lt_length_of_mem hin
  have L := runK_len (descI n) net f
  rw [descI_len] at L
  have e : (runK (descI n) net f).1.idxOf (plK (descI n) net f m) = m := by
    refine pl_inj (hD h) hf (by rw [descI_len]; omega) (by rw [descI_len]; exact hm) ?_
    have h1 := pl_get (hD h) hf (a := (runK (descI n) net f).1.idxOf (plK (descI n) net f m)) (by rw [descI_len]; omega)
    rw [List.getElem?_eq_getElem hlt] at h1
    exact (Option.some.inj h1).symm.trans (List.getElem_idxOf hlt)
  have hv : (xF n net f)[(plK (descI n) net f m).toNat]? = some (yF n net f m) := by
    unfold xF
    rw [List.getElem?_map, List.getElem?_range (by omega)]
    show some (yF n net f ((runK (descI n) net f).1.idxOf (((plK (descI n) net f m).toNat : Nat) : Int))) = _
    rw [Int.toNat_of_nonneg mm.1, e]
  have := val_at hv
  rw [Int.toNat_of_nonneg mm.1] at this
  exact this
theorem val_01 {x : List Int} (h : ∀ y ∈ x, y = 0 ∨ y = 1) (p : Int) : val x p = 0 ∨ val x p = 1 := by
  unfold val
  exact getD_mem (p := fun y => y = 0 ∨ y = 1) h (.inl rfl)
/-- the word ascends along the pairs that are in order on the descending row -/
theorem xF_asc (h : NetOk n net) {f : Nat} (hf : f < net.length) (t : Tame n net f) (ef : Ex (descI n) net f) : ∀ j k, k + j = f → ∀ a b, a < b → b < n → kyK (descI n) net k a < kyK (descI n) net k b → val (xF n net f) (plK (descI n) net k a) ≤ val (xF n net f) (plK (descI n) net k b)
  | 0, k, hk => fun a b hab hb e => by
    obtain rfl : k = f := by omega
    rw [xF_at h (by omega) (by omega), xF_at h (by omega) hb]
    have ef' : kyK (descI n) net k (gj net k) < kyK (descI n) net k (gi net k) := ef
    unfold yF
    by_cases a1 : a < gi net k
    · rw [if_pos a1]
      have := yF_01 (n := n) (net := net) k b
      unfold yF at this
      omega
    · rw [if_neg a1]
      by_cases a2 : gj net k < a
      · rw [if_pos a2, if_neg (show ¬ b < gi net k by omega), if_pos (show gj net k < b by omega)]
        exact Int.le_refl _
      · rw [if_neg a2, if_neg (show ¬ b < gi net k by omega)]
        by_cases b1 : gj net k < b
        · rw [if_pos b1]
          split <;> decide
        · rw [if_neg b1]
          by_cases c1 : kyK (descI n) net k (gj net k) < kyK (descI n) net k a
          · rw [if_pos c1, if_pos (by omega)]
            exact Int.le_refl _
          · rw [if_neg c1]
            split <;> decide
  | j + 1, k, hk => fun a b hab hb e => by
    have ih := xF_asc h hf t ef j (k + 1) (by omega)
    have g := gij h (k := k) (by omega)
    by_cases ed : Ex (descI n) net k
    · have near := t k (by omega) ed
      have ed' : kyK (descI n) net k (gj net k) < kyK (descI n) net k (gi net k) := ed
      have sy := step_yes (hD h) (show k < net.length by omega) ed
      have ky := key_yes (hD h) (show k < net.length by omega) ed
      have tau : ∀ l, ∃ l', plK (descI n) net (k + 1) l' = plK (descI n) net k l ∧ kyK (descI n) net (k + 1) l' = kyK (descI n) net k l ∧ l' = (if l = gi net k then gj net k else if l = gj net k then gi net k else l) := fun l => by
        refine ⟨_, ?_, ?_, rfl⟩
        · rw [sy]
          by_cases l1 : l = gi net k
          · rw [if_pos l1, if_pos rfl, l1]
          · rw [if_neg l1]
            by_cases l2 : l = gj net k
            · rw [if_pos l2, if_neg (by omega), if_pos rfl, l2]
            · rw [if_neg l2, if_neg l2, if_neg l1]
        · rw [ky]
          by_cases l1 : l = gi net k
          · rw [if_pos l1, if_pos rfl, l1]
          · rw [if_neg l1]
            by_cases l2 : l = gj net k
            · rw [if_pos l2, if_neg (by omega), if_pos rfl, l2]
            · rw [if_neg l2, if_neg l2, if_neg l1]
      obtain ⟨a', a1, a2, a3⟩ := tau a
      obtain ⟨b', b1, b2, b3⟩ := tau b
      rw [← a1, ← b1]
      refine ih a' b' ?_ ?_ (by rw [a2, b2]; exact e)
      · rw [a3, b3]
        have hne : ¬ (a = gi net k ∧ b = gj net k) := fun z => by
          rw [z.1, z.2] at e
          omega
        by_cases p1 : a = gi net k
        · rw [if_pos p1, if_neg (show ¬ b = gi net k by omega), if_neg (fun z => hne ⟨p1, z⟩)]
          omega
        · rw [if_neg p1]
          by_cases p2 : a = gj net k
          · rw [if_pos p2, if_neg (show ¬ b = gi net k by omega), if_neg (show ¬ b = gj net k by omega)]
            omega
          · rw [if_neg p2]
            by_cases q1 : b = gi net k
            · rw [if_pos q1]
              omega
            · rw [if_neg q1]
              by_cases q2 : b = gj net k
              · rw [if_pos q2]
                omega
              · rw [if_neg q2]
                exact hab
      · rw [b3]
        split
        · exact g.2
        split
        · omega
        · exact hb
    · have e' : kyK (descI n) net (k + 1) a < kyK (descI n) net (k + 1) b := by
        rw [key_no ed, key_no ed]
        exact e
      have := ih a b hab hb e'
      rw [step_no ed, step_no ed] at this
      exact this
/-- its own running goes along -/
theorem xF_run (h : NetOk n net) {f : Nat} (hf : f < net.length) (t : Tame n net f) (ef : Ex (descI n) net f) : ∀ k, k ≤ f → ∀ l, l < n → kyK (xF n net f) net k l = val (xF n net f) (plK (descI n) net k l)
  | 0, _ => fun l hl => by
    unfold kyK
    rw [pl_zero (by rw [xF_len]; exact hl), pl_zero (by rw [descI_len]; exact hl)]
  | k + 1, hk => fun l hl => by
    have ih := xF_run h hf t ef k (by omega)
    have g := gij h (k := k) (by omega)
    have hx : NetOk (xF n net f).length net := by rw [xF_len]; exact h
    have ii := ih (gi net k) (by omega)
    have ij := ih (gj net k) g.2
    by_cases ed : Ex (descI n) net k
    · have near := t k (by omega) ed
      have ed' : kyK (descI n) net k (gj net k) < kyK (descI n) net k (gi net k) := ed
      have sy := step_yes (hD h) (show k < net.length by omega) ed
      have ky := key_yes (hD h) (show k < net.length by omega) ed
      have c := xF_asc h hf t ef (f - (k + 1)) (k + 1) (by omega) (gi net k) (gj net k) g.1 g.2 (by
        rw [ky, ky, if_neg (show ¬ gi net k = gj net k by omega), if_pos rfl, if_pos rfl]
        exact ed')
      rw [sy, sy, if_neg (show ¬ gi net k = gj net k by omega), if_pos rfl, if_pos rfl] at c
      rw [sy]
      by_cases ex : Ex (xF n net f) net k
      · rw [key_yes hx (by omega) ex]
        by_cases l1 : l = gj net k
        · rw [if_pos l1, if_pos l1]
          exact ii
        · rw [if_neg l1, if_neg l1]
          by_cases l2 : l = gi net k
          · rw [if_pos l2, if_pos l2]
            exact ij
          · rw [if_neg l2, if_neg l2]
            exact ih l hl
      · have ex' : ¬ kyK (xF n net f) net k (gj net k) < kyK (xF n net f) net k (gi net k) := ex
        rw [key_no ex]
        by_cases l1 : l = gj net k
        · rw [if_pos l1, l1, ij]
          omega
        · rw [if_neg l1]
          by_cases l2 : l = gi net k
          · rw [if_pos l2, l2, ii]
            omega
          · rw [if_neg l2]
            exact ih l hl
    · have ne := dne h (k := k) (by omega) (a := gi net k) (b := gj net k) (by omega) g.2 (by omega)
      have ed' : ¬ kyK (descI n) net k (gj net k) < kyK (descI n) net k (gi net k) := ed
      have c := xF_asc h hf t ef (f - k) k (by omega) (gi net k) (gj net k) g.1 g.2 (by omega)
      have ex : ¬ Ex (xF n net f) net k := fun ex => by
        have ex' : kyK (xF n net f) net k (gj net k) < kyK (xF n net f) net k (gi net k) := ex
        omega
      rw [key_no ex, step_no ed]
      exact ih l hl
structure Seen (n : Nat) (net : List Gate) (x : List Int) (i j : Nat) (P Q M : Int) (s : Nat) : Prop where
  lo : ∀ l, l ≤ i → kyK x net s l = 0
  hi : ∀ l, j ≤ l → l < n → kyK x net s l = 1
  p : plK x net s i = P
  q : plK x net s j = Q
  m : ∃ l, i < l ∧ l < j ∧ plK x net s l = M
theorem seen_step {x : List Int} (hl : x.length = n) (h01 : ∀ y ∈ x, y = 0 ∨ y = 1) (h : NetOk n net) {i j : Nat} {P Q M : Int} (hij : i < j) (hj : j < n) {s : Nat} (hs : s < net.length) (w : Seen n net x i j P Q M s) : Seen n net x i j P Q M (s + 1) := by
  have g := gij h hs
  have hx : NetOk x.length net := by rw [hl]; exact h
  by_cases ex : Ex x net s
  · have ex' : kyK x net s (gj net s) < kyK x net s (gi net s) := ex
    have v1 : kyK x net s (gj net s) = 0 ∨ kyK x net s (gj net s) = 1 := val_01 h01 _
    have v2 : kyK x net s (gi net s) = 0 ∨ kyK x net s (gi net s) = 1 := val_01 h01 _
    have ia : i < gi net s := by
      refine Classical.byContradiction fun z => ?_
      have := w.lo (gi net s) (by omega)
      omega
    have jb : gj net s < j := by
      refine Classical.byContradiction fun z => ?_
      have := w.hi (gj net s) (by omega) g.2
      omega
    have ky := key_yes hx hs ex
    have sy := step_yes hx hs ex
    refine ⟨fun l hl' => ?_, fun l h1 h2 => ?_, ?_, ?_, ?_⟩
    · rw [ky, if_neg (by omega), if_neg (by omega)]
      exact w.lo l hl'
    · rw [ky, if_neg (by omega), if_neg (by omega)]
      exact w.hi l h1 h2
    · rw [sy, if_neg (by omega), if_neg (by omega)]
      exact w.p
    · rw [sy, if_neg (by omega), if_neg (by omega)]
      exact w.q
    · obtain ⟨l, l1, l2, l3⟩ := w.m
      by_cases e1 : l = gi net s
      · exact ⟨gj net s, by omega, jb, by rw [sy, if_pos rfl, ← e1]; exact l3⟩
      · by_cases e2 : l = gj net s
        · exact ⟨gi net s, ia, by omega, by rw [sy, if_neg (by omega), if_pos rfl, ← e2]; exact l3⟩
        · exact ⟨l, l1, l2, by rw [sy, if_neg e2, if_neg e1]; exact l3⟩
  · have ky := key_no ex
    have sy := step_no ex
    exact ⟨fun l hl' => by rw [ky]; exact w.lo l hl', fun l h1 h2 => by rw [ky]; exact w.hi l h1 h2, by rw [sy]; exact w.p, by rw [sy]; exact w.q, by obtain ⟨l, l1, l2, l3⟩ := w.m; exact ⟨l, l1, l2, by rw [sy]; exact l3⟩⟩
theorem tb_of {x : List Int} (hl : x.length = n) (h : NetOk n net) {s : Nat} (hs : s ≤ net.length) {a b : Nat} (hab : a < b) (hb : b < n) (ev : val x (plK x net s a) = val x (plK x net s b)) (lt : plK x net s b < plK x net s a) : tb net x s = true := by
  have L := runK_len x net s
  have ga := pl_get (row := x) (net := net) (by rw [hl]; exact h) hs (a := a) (by omega)
  refine turned_of (b := b) (p := plK x net s a) (by omega) ?_ ?_
  · refine List.mem_of_getElem? (i := a) ?_
    rw [List.getElem?_take, if_pos hab]
    exact ga
  · unfold innB
    show (decide (val x (plK x net s a) = val x (plK x net s b)) && decide (plK x net s b < plK x net s a)) = true
    rw [decide_eq_true ev, decide_eq_true lt]
    rfl
theorem far_turns (h : NetOk n net) {f : Nat} (hf : f < net.length) (t : Tame n net f) (ef : Ex (descI n) net f) (far : gi net f + 1 < gj net f) : ∃ x : List Int, x.length = n ∧ (∀ y ∈ x, y = 0 ∨ y = 1) ∧ 0 ∈ x ∧ ∀ s, f < s → s ≤ net.length → tb net x s = true := by
  have g := gij h hf
  have hx : NetOk (xF n net f).length net := by rw [xF_len]; exact h
  have ef' : kyK (descI n) net f (gj net f) < kyK (descI n) net f (gi net f) := ef
  have ky : ∀ l, l < n → kyK (xF n net f) net f l = yF n net f l := fun l hl => by
    rw [xF_run h hf t ef f (Nat.le_refl _) l hl, xF_at h (by omega) hl]
  have yi : yF n net f (gi net f) = 1 := by
    unfold yF
    rw [if_neg (Nat.lt_irrefl _), if_neg (by omega), if_pos ef']
  have yj : yF n net f (gj net f) = 0 := by
    unfold yF
    rw [if_neg (by omega), if_neg (Nat.lt_irrefl _), if_neg (by omega)]
  have ex : Ex (xF n net f) net f := by
    show kyK _ _ _ _ < kyK _ _ _ _
    rw [ky _ g.2, ky _ (by omega), yi, yj]
    decide
  have st := tame_stable (row := xF n net f) (xF_len f) h (by omega) t f (Nat.le_refl _)
  have kyn := key_yes hx hf ex
  have syn := step_yes hx hf ex
  refine ⟨xF n net f, xF_len f, xF_01 f, ?_, ?_⟩
  · have mm := pl_mem (hD h) (Nat.le_of_lt hf) (a := gj net f) (by rw [descI_len]; exact g.2)
    rw [descI_len] at mm
    have v := xF_at h (Nat.le_of_lt hf) g.2
    rw [yj] at v
    unfold val at v
    rw [List.getD_eq_getElem?_getD, List.getElem?_eq_getElem (by rw [xF_len]; omega)] at v
    rw [← show (xF n net f)[(plK (descI n) net f (gj net f)).toNat]'(by rw [xF_len]; omega) = 0 from v]
    exact List.getElem_mem _
  · have base : Seen n net (xF n net f) (gi net f) (gj net f) (plK (xF n net f) net f (gj net f)) (plK (xF n net f) net f (gi net f)) (plK (xF n net f) net f (gi net f + 1)) (f + 1) := by
      refine ⟨fun l hl => ?_, fun l h1 h2 => ?_, ?_, ?_, ⟨gi net f + 1, by omega, far, ?_⟩⟩
      · rw [kyn, if_neg (by omega)]
        by_cases e : l = gi net f
        · rw [if_pos e, ky _ g.2, yj]
        · rw [if_neg e, ky _ (by omega)]
          unfold yF
          rw [if_pos (by omega)]
      · rw [kyn]
        by_cases e : l = gj net f
        · rw [if_pos e, ky _ (by omega), yi]
        · rw [if_neg e, if_neg (by omega), ky _ h2]
          unfold yF
          rw [if_neg (by omega), if_pos (by omega)]
      · rw [syn, if_neg (by omega), if_pos rfl]
      · rw [syn, if_pos rfl]
      · rw [syn, if_neg (by omega), if_neg (by omega)]
    have all : ∀ d, f + 1 + d ≤ net.length → Seen n net (xF n net f) (gi net f) (gj net f) (plK (xF n net f) net f (gj net f)) (plK (xF n net f) net f (gi net f)) (plK (xF n net f) net f (gi net f + 1)) (f + 1 + d) := fun d => by
      induction d with
      | zero => exact fun _ => base
      | succ d ih =>
        intro hd
        have hd' : f + 1 + d + 1 ≤ net.length := hd
        exact seen_step (s := f + 1 + d) (xF_len f) (xF_01 f) h g.1 g.2 (by omega) (ih (by omega))
    intro s h1 h2
    have w := all (s - (f + 1)) (by omega)
    rw [show f + 1 + (s - (f + 1)) = s by omega] at w
    obtain ⟨l, l1, l2, l3⟩ := w.m
    have km := ky (gi net f + 1) (by omega)
    rcases yF_01 (n := n) (net := net) f (gi net f + 1) with y0 | y1
    · have lt := st (gi net f + 1) (gj net f) far g.2 (by rw [km, ky _ g.2, y0, yj])
      refine tb_of (xF_len f) h h2 (a := gi net f) (b := l) l1 (by omega) ?_ ?_
      · have k1 := w.lo (gi net f) (Nat.le_refl _)
        unfold kyK at k1
        rw [k1, l3]
        unfold kyK at km
        rw [km, y0]
      · rw [l3, w.p]
        exact lt
    · have lt := st (gi net f) (gi net f + 1) (by omega) (by omega) (by rw [km, ky _ (by omega), y1, yi])
      refine tb_of (xF_len f) h h2 (a := l) (b := gj net f) l2 g.2 ?_ ?_
      · have k1 := w.hi (gj net f) (Nat.le_refl _) g.2
        unfold kyK at k1
        rw [k1, l3]
        unfold kyK at km
        rw [km, y1]
      · rw [l3, w.q]
        exact lt
end
end K33

set_option maxRecDepth 100000
set_option maxHeartbeats 4000000
namespace K33
open PySem PySem.Spec PyProof.Rows L2 DL
/-! ### the first far gate that works -/
section
variable {n : Nat} {net : List Gate} {row : List Int}
theorem spot_mem {s : Int} : ∀ m, s ∈ (runK row net m).2 ↔ ∃ k : Nat, k < m ∧ s = (k : Int) ∧ Ex row net k
  | 0 => ⟨fun h => (by cases h), fun ⟨k, h, _⟩ => (by omega)⟩
  | m + 1 => by
    have ih := spot_mem (s := s) m
    have e1 : runK row net (m + 1) = stepR row m (net.getD m (0, 0)) (runK row net m) := rfl
    by_cases e : Ex row net m
    · have e2 : runK row net (m + 1) = _ := e1.trans (if_pos (show val row ((runK row net m).1.getD (net.getD m (0, 0)).2.toNat 0) < val row ((runK row net m).1.getD (net.getD m (0, 0)).1.toNat 0) from e))
      rw [e2, List.mem_append, ih, List.mem_singleton]
      constructor
      · rintro (⟨k, h1, h2⟩ | h)
        · exact ⟨k, by omega, h2⟩
        · exact ⟨m, by omega, h, e⟩
      · rintro ⟨k, h1, h2, h3⟩
        by_cases q : k = m
        · exact .inr (by rw [h2, q])
        · exact .inl ⟨k, by omega, h2, h3⟩
    · have e2 : runK row net (m + 1) = _ := e1.trans (if_neg (show ¬ val row ((runK row net m).1.getD (net.getD m (0, 0)).2.toNat 0) < val row ((runK row net m).1.getD (net.getD m (0, 0)).1.toNat 0) from e))
      rw [e2, ih]
      constructor
      · rintro ⟨k, h1, h2⟩
        exact ⟨k, by omega, h2⟩
      · rintro ⟨k, h1, h2, h3⟩
        by_cases q : k = m
        · rw [q] at h3
          exact absurd h3 e
        · exact ⟨k, by omega, h2, h3⟩
theorem spot_up : ∀ m, (runK row net m).2.Pairwise (· < ·)
  | 0 => .nil
  | m + 1 => by
    have ih := spot_up m
    have e1 : runK row net (m + 1) = stepR row m (net.getD m (0, 0)) (runK row net m) := rfl
    rw [e1]
    unfold stepR
    split
    · show ((runK row net m).2 ++ [(m : Int)]).Pairwise (· < ·)
      rw [List.pairwise_append]
      refine ⟨ih, List.pairwise_singleton _ _, fun a ha b hb => ?_⟩
      have := runK_spot m a ha
      rw [List.mem_singleton.mp hb]
      omega
    · exact ih
def kaP (n : Nat) (net : List Gate) (m : Nat) : Int := ((farS net (runK (descI n) net m).2).head?).getD (m : Int)
theorem gAt_far {k : Nat} (h : NetOk n net) (hk : k < net.length) : isFar (gAt net (k : Int)) = true ↔ gi net k + 1 < gj net k := by
  have g := gate_at h hk
  unfold isFar gAt gi gj
  rw [Int.toNat_natCast, decide_eq_true_iff]
  omega
theorem kaP_spec (h : NetOk n net) {m : Nat} (hm : m ≤ net.length) : ∃ f : Nat, kaP n net m = (f : Int) ∧ f ≤ m ∧ Tame n net f ∧ (f < m → Ex (descI n) net f ∧ gi net f + 1 < gj net f) := by
  unfold kaP
  cases hh : farS net (runK (descI n) net m).2 with
  | nil =>
    refine ⟨m, rfl, Nat.le_refl _, fun k hk e => ?_, fun z => absurd z (Nat.lt_irrefl _)⟩
    have g := gij h (k := k) (by omega)
    have hin : (k : Int) ∈ (runK (descI n) net m).2 := (spot_mem m).mpr ⟨k, hk, rfl, e⟩
    refine Classical.byContradiction fun z => ?_
    have : (k : Int) ∈ farS net (runK (descI n) net m).2 := List.mem_filter.mpr ⟨hin, (gAt_far h (by omega)).mpr (by omega)⟩
    rw [hh] at this
    cases this
  | cons s rest =>
    have hs : s ∈ farS net (runK (descI n) net m).2 := by
      rw [hh]
      exact List.mem_cons_self
    obtain ⟨h1, h2⟩ := List.mem_filter.mp hs
    obtain ⟨f, f1, rfl, f3⟩ := (spot_mem m).mp h1
    refine ⟨f, rfl, by omega, fun k hk e => ?_, fun _ => ⟨f3, (gAt_far h (by omega)).mp h2⟩⟩
    have g := gij h (k := k) (by omega)
    refine Classical.byContradiction fun z => ?_
    have hin : (k : Int) ∈ farS net (runK (descI n) net m).2 := List.mem_filter.mpr ⟨(spot_mem m).mpr ⟨k, by omega, rfl, e⟩, (gAt_far h (by omega)).mpr (by omega)⟩
    have up : (farS net (runK (descI n) net m).2).Pairwise (· < ·) := List.Pairwise.filter _ (spot_up m)
    rw [hh] at hin up
    rcases List.mem_cons.mp hin with q | q
    · omega
    · have := (List.pairwise_cons.mp up).1 _ q
      omega
theorem runK_take {m : Nat} : ∀ k, k ≤ m → m ≤ net.length → runK row (net.take m) k = runK row net k
  | 0, _, _ => rfl
  | k + 1, hk, hm => by
    have e1 : runK row net (k + 1) = stepR row k (net.getD k (0, 0)) (runK row net k) := rfl
    have e2 : runK row (net.take m) (k + 1) = stepR row k ((net.take m).getD k (0, 0)) (runK row (net.take m) k) := rfl
    rw [e1, e2, runK_take k (by omega) hm]
    congr 1
    rw [List.getD_eq_getElem?_getD, List.getD_eq_getElem?_getD, List.getElem?_take, if_pos (by omega)]
theorem ka_take {m : Nat} (hm : m ≤ net.length) : kaN n (net.take m) = kaP n net m := by
  have hl : (net.take m).length = m := by
    rw [List.length_take]
    omega
  unfold kaN firstF kaP runS
  rw [hl, runK_take m (Nat.le_refl _) hm]
  congr 2
  unfold farS
  refine List.filter_congr fun s hs => ?_
  have := runK_spot m s hs
  unfold gAt
  rw [List.getD_eq_getElem?_getD, List.getD_eq_getElem?_getD, List.getElem?_take, if_pos (by omega)]
theorem ka_all : kaN n net = kaP n net net.length := rfl
/-- the spot of the first far gate at work, or how many gates there are -/
structure First (n : Nat) (net : List Gate) (f : Nat) : Prop where
  eq : kaN n net = (f : Int)
  le : f ≤ net.length
  tame : Tame n net f
  far : f < net.length → Ex (descI n) net f ∧ gi net f + 1 < gj net f
theorem first_is (h : NetOk n net) : ∃ f, First n net f := by
  obtain ⟨f, h1, h2, h3, h4⟩ := kaP_spec h (Nat.le_refl net.length)
  exact ⟨f, h1, h2, h3, h4⟩
theorem first_B {f : Nat} (F : First n net f) : kaB n net = decide (f = net.length) := by
  unfold kaB
  rw [F.eq]
  by_cases e : f = net.length
  · rw [decide_eq_true e, decide_eq_true (by omega)]
  · rw [decide_eq_false e, decide_eq_false (by omega)]
theorem first_take {f : Nat} (h : NetOk n net) (F : First n net f) : kaB n (net.take f) = true := by
  obtain ⟨f', h1, h2, h3, h4⟩ := kaP_spec h F.le
  have hl : (net.take f).length = f := by
    rw [List.length_take]
    have := F.le
    omega
  unfold kaB
  rw [ka_take F.le, h1, hl, decide_eq_true_iff]
  by_cases e : f' = f
  · rw [e]
  · have q := h4 (by omega)
    have := F.tame f' (by omega) q.1
    omega
theorem first_next {f : Nat} (h : NetOk n net) (F : First n net f) (hf : f < net.length) : kaB n (net.take (f + 1)) = false := by
  obtain ⟨f', h1, h2, h3, h4⟩ := kaP_spec h (show f + 1 ≤ net.length by omega)
  have hl : (net.take (f + 1)).length = f + 1 := by
    rw [List.length_take]
    omega
  unfold kaB
  rw [ka_take (by omega), h1, hl, decide_eq_false_iff_not]
  intro z
  have e : f' = f + 1 := by omega
  have := h3 f (by omega) (F.far hf).1
  have := (F.far hf).2
  omega
theorem first_bad {f : Nat} (hn : 1 ≤ n) (h : NetOk n net) (F : First n net f) {s : Nat} (hs : s ≤ net.length) : badB n net s = decide (f < s) := by
  unfold badB
  by_cases e : f < s
  · rw [decide_eq_true e, List.any_eq_true]
    obtain ⟨h1, h2⟩ := F.far (by omega)
    obtain ⟨x, x1, x2, x3, x4⟩ := far_turns h (by omega) F.tame h1 h2
    exact ⟨x, word_weak (n - 1) x (by omega) x2 x3, x4 s e hs⟩
  · rw [decide_eq_false e, List.any_eq_false]
    intro row hrow
    have hl := (weak_row (n - 1) row hrow).1
    rw [tame_tb (row := row) (by omega) h hs (fun k hk => F.tame k (by omega))]
    exact Bool.false_ne_true
theorem first_max {f : Nat} (hn : 1 ≤ n) (h : NetOk n net) (F : First n net f) : maxI (((List.range (net.length + 1)).filter fun s => !badB n net s).map fun (s : Nat) => (s : Int)) = (f : Int) := by
  have e : ((List.range (net.length + 1)).filter fun s => !badB n net s) = (List.range (net.length + 1)).filter fun s => decide (s ≤ f) := List.filter_congr fun s hs => by
    have := List.mem_range.mp hs
    rw [first_bad hn h F (by omega)]
    by_cases q : f < s
    · rw [decide_eq_true q, decide_eq_false (by omega)]
      rfl
    · rw [decide_eq_false q, decide_eq_true (by omega)]
      rfl
  rw [e]
  have h1 : maxI (((List.range (net.length + 1)).filter fun s => decide (s ≤ f)).map fun (s : Nat) => (s : Int)) ≤ (f : Int) := maxI_le (by omega) fun x hx => by
    obtain ⟨s, hs, rfl⟩ := List.mem_map.mp hx
    have := of_decide_eq_true (List.mem_filter.mp hs).2
    omega
  have h2 := maxI_ge (l := ((List.range (net.length + 1)).filter fun s => decide (s ≤ f)).map fun (s : Nat) => (s : Int)) (x := (f : Int)) (List.mem_map.mpr ⟨f, List.mem_filter.mpr ⟨List.mem_range.mpr (by have := F.le; omega), decide_eq_true (Nat.le_refl _)⟩, rfl⟩)
  omega
theorem far_empty : (farS net (runS (descI n) net)).isEmpty = kaB n net := by
  unfold kaB kaN firstF
  cases hh : farS net (runS (descI n) net) with
  | nil => exact (decide_eq_true rfl).symm
  | cons s rest =>
    have hs : s ∈ farS net (runS (descI n) net) := by
      rw [hh]
      exact List.mem_cons_self
    have := runK_spot net.length s (List.mem_filter.mp hs).1
    refine (decide_eq_false ?_).symm
    show ¬ s = (net.length : Int)
    omega
theorem foldmin_eq {b : Int} : ∀ (ns : List Int), (∀ x ∈ ns, b ≤ x) → ns.foldl min b = b
  | [], _ => rfl
  | x :: ns, h => by
    have := h x List.mem_cons_self
    show ns.foldl min (min b x) = b
    rw [show min b x = b by omega]
    exact foldmin_eq ns fun y hy => h y (List.mem_cons_of_mem _ hy)
theorem far_min : ∃ m ms, farS net (runS (descI n) net) ++ [(net.length : Int)] = m :: ms ∧ ms.foldl min m = kaN n net := by
  unfold kaN firstF
  have up : (farS net (runS (descI n) net)).Pairwise (· < ·) := List.Pairwise.filter _ (spot_up net.length)
  have lt : ∀ s ∈ farS net (runS (descI n) net), s < (net.length : Int) := fun s hs => (runK_spot net.length s (List.mem_filter.mp hs).1).2
  cases hh : farS net (runS (descI n) net) with
  | nil => exact ⟨_, [], rfl, rfl⟩
  | cons s rest =>
    rw [hh] at up lt
    refine ⟨s, rest ++ [(net.length : Int)], rfl, foldmin_eq _ fun x hx => ?_⟩
    rcases List.mem_append.mp hx with hx | hx
    · have := (List.pairwise_cons.mp up).1 x hx
      omega
    · rw [List.mem_singleton.mp hx]
      have := lt s List.mem_cons_self
      omega
end
section
variable {P : Program} {w : World} {K : PySem.W.Frag} {mg : Str → Option Value} {base : Heap}
def dueN (n : Nat) (net : List Gate) : PyData := .list [rD (imgN n net), .bool (kaB n net), .int (kaN n net)]
theorem img_key {n : Nat} {net : List Gate} (hi : NetIn n net) : ∀ x ∈ imgN n net, InKey x := fun x hx => by
  unfold imgN runO at hx
  obtain ⟨p, hp, rfl⟩ := List.mem_map.mp hx
  have m := runP_mem hi.good.1 hp
  rw [descI_len] at m
  rw [descI_val m.1 m.2]
  have := hi.2.2
  unfold InKey
  omega
theorem nc_due {n : Nat} {net : List Gate} (hi : NetIn n net) : Nc 2 600003 (dueN n net) := by
  have hn := hi.2.2
  obtain ⟨f, F⟩ := first_is hi.1
  have hl := hi.2.1
  have l1 : (imgN n net).length ≤ 100 := by
    unfold imgN
    rw [runO_len, descI_len]
    exact hn
  exact (Nc.lst (k := 1) (b := 190303) (m := 3) (all_cons (nc_rowT (img_key hi) l1) (all_cons ((Nc.bl _).mono (Nat.le_refl _) (by decide)) (all_cons ((Nc.key (by rw [F.eq]; have := F.le; unfold InKey; omega)).mono (Nat.le_refl _) (by decide)) all_nil))) (Nat.le_refl _)).mono (Nat.le_refl _) (by decide)
end
end K33

set_option maxRecDepth 100000
set_option maxHeartbeats 4000000
namespace K33
open PySem PySem.Spec PyProof.Rows L2 DL
/-! ### things mixed by draws -/
def mixedOf {α : Type} (z : α) : Nat → List α → Well → List α × Well
  | 0, _, W => ([], W)
  | k + 1, xs, W => (xs.getD (draw xs.length W).1.toNat z :: (mixedOf z k (xs.eraseIdx (draw xs.length W).1.toNat) (draw xs.length W).2).1, (mixedOf z k (xs.eraseIdx (draw xs.length W).1.toNat) (draw xs.length W).2).2)
theorem erase_map {α β : Type} (f : α → β) : ∀ (xs : List α) (i : Nat), (xs.map f).eraseIdx i = (xs.eraseIdx i).map f
  | [], _ => rfl
  | _ :: _, 0 => rfl
  | x :: xs, i + 1 => congrArg (f x :: ·) (erase_map f xs i)
theorem mixed_map {α β : Type} (z : α) (f : α → β) : ∀ (k : Nat) (xs : List α) (W : Well), mixedOf (f z) k (xs.map f) W = ((mixedOf z k xs W).1.map f, (mixedOf z k xs W).2)
  | 0, _, _ => rfl
  | k + 1, xs, W => by
    have e : ∀ i, (xs.map f).getD i (f z) = f (xs.getD i z) := fun i => by
      rw [List.getD_eq_getElem?_getD, List.getD_eq_getElem?_getD, List.getElem?_map]
      cases xs[i]? <;> rfl
    have e2 : ∀ i, (xs.map f).eraseIdx i = (xs.eraseIdx i).map f := fun i => erase_map f xs i
    show (_ :: _, _) = (f _ :: _, _)
    rw [List.length_map, e, e2, mixed_map z f k]
    rfl
theorem mixed_deep {α : Type} (z : α) : ∀ (k : Nat) (xs : List α) (W : Well), W.deep.length ≤ 100 → (mixedOf z k xs W).2.deep.length ≤ 100
  | 0, _, _, h => h
  | k + 1, xs, W, h => mixed_deep z k _ _ (draw_deep _ _ h)
theorem draw_nat {n : Nat} (W : Well) (h : 0 < n) : (draw (n : Int) W).1.toNat < n := by
  have h1 := draw_lo (n : Int) W
  have h2 := draw_hi (m := (n : Int)) W (by omega)
  omega
theorem perm_erase {α : Type} (z : α) : ∀ {xs : List α} {i : Nat}, i < xs.length → (xs.getD i z :: xs.eraseIdx i).Perm xs
  | x :: xs, 0, _ => List.Perm.refl _
  | x :: xs, i + 1, h => by
    have ih := perm_erase z (xs := xs) (i := i) (by simpa using h)
    show (xs.getD i z :: x :: xs.eraseIdx i).Perm (x :: xs)
    exact (List.Perm.swap x (xs.getD i z) _).trans (ih.cons x)
theorem erase_len {α : Type} {xs : List α} {i : Nat} (h : i < xs.length) : (xs.eraseIdx i).length = xs.length - 1 := List.length_eraseIdx_of_lt h
theorem mixed_perm {α : Type} (z : α) : ∀ (k : Nat) (xs : List α) (W : Well), xs.length = k → (mixedOf z k xs W).1.Perm xs
  | 0, xs, _, h => by
    rw [List.length_eq_zero_iff.mp h]
    exact List.Perm.refl _
  | k + 1, xs, W, h => by
    have hi := draw_nat (n := xs.length) W (by omega)
    exact ((mixed_perm z k _ _ (by rw [erase_len hi, h]; rfl)).cons _).trans (perm_erase z hi)
section
variable {P : Program} {w : World} {K : PySem.W.Frag} {mg : Str → Option Value} {base : Heap}
def R_mixed : FR := fun as ob r ob' => ∃ W ds z, as = [.own 0, .dat (.list ds)] ∧ ob = [W.oo] ∧ W.deep.length ≤ 100 ∧ ds.length ≤ 1000 ∧ (∀ x ∈ ds, Fl 5 x) ∧ r = .dat (.list (mixedOf z ds.length ds W).1) ∧ ob' = [(mixedOf z ds.length ds W).2.oo]
theorem sc_law_mixed : FnScope ["loom", "things", "rest", "found"] ["loom", "things"] (defScope s_law_mixed) := ⟨rfl, rfl, rfl, by decide +kernel, rfl, by decide +kernel, by decide +kernel⟩
theorem ok_law_mixed (D : Df K mg "_law_mixed" s_law_mixed ["loom", "things"]) (B : Bi mg) (Cc : Cls K mg) (D_law_draw : Df K mg "_law_draw" s_law_draw ["loom", "many"]) : FnG P w K mg base CX0 2 D.f D.fd ["loom", "things"] (spD K 2 R_mixed) := by
  have ok_law_draw : FnG P w K mg base CX0 1 _ _ _ _ := ok_law_draw D_law_draw B Cc
  refine okG D.F sc_law_mixed (fun vs H Q E h => h.1) (fun cdv A outer s H vs Q E hr gd h => ?_)
  have hu := huX hr
  refine ⟨_, (pss_cons (ps_par (i := 2) (j := 3) (by rfl) sc_law_mixed.nd rfl rfl (by decide) rfl rfl (pa_cons (pe_callTy cb_list (by rfl) B.z_list (by decide +kernel) (pa_cons (pv 1) pa_nil)) (pa_cons (pe_lst pa_nil) pa_nil)) (by rfl))
      (pss_cons (ps_while PassesOwn.never (pt_cmpR (op_neU hu) (pv 2) (pe_lst pa_nil) (nomark _))
        (pss_one (ps_expr (pe_bm PySem.F.plainAttrs_list PySem.F.slot_list_append PySem.F.type_list_append mt_append (pv 3) (pa_cons (pe_bm PySem.F.plainAttrs_list PySem.F.slot_list_pop PySem.F.type_list_pop mt_popAt (pv 2) (pa_cons (pe_callG (ok_law_draw) (hr.mono (by decide)) gd (by rfl) D_law_draw.m D_law_draw.F.kp D_law_draw.b .nil pass0 (pa_cons (pv 0) (pa_cons (pe_callB cb_len (by rfl) B.z_len PySem.boot_len (pa_cons (pv 2) pa_nil)) pa_nil))) pa_nil)) pa_nil)))))
      (pss_one (ps_ret (pv 3))))), ?_⟩
  refine body_ofG h (by decide) (fun as ob r ob' hR => ?_) fun as ob r ob' hR hl => ?_
  · obtain ⟨W, ds, z, rfl, rfl, _, _, _, rfl, rfl⟩ := hR
    exact ⟨Nat.le_refl _, fun _ z => by cases z⟩
  obtain ⟨W, ds, z, rfl, rfl, hd, hz, hfl, rfl, rfl⟩ := hR
  refine ts_seq (ts_par (x := .own 1) (y := .own 2) (ea_cons (eo_of_el (el_cb (ea_cons (ee_var rfl) ea_nil) (rcl_listL (.dat _)))) (ea_cons (eo_of_el (el_lst ed_nil)) ea_nil)) ?_)
  refine ts_seq (ts_while (fun m S => ∃ rest found W', S = ⟨[.own 0, .dat (.list ds), .own 1, .own 2], [Well.oo W', .lst rest, .lst found]⟩ ∧ rest.length = m ∧ W'.deep.length ≤ 100 ∧ found.length + m ≤ 1000 ∧ (∀ x ∈ rest, Fl 5 x) ∧ found ++ (mixedOf z m rest W').1 = (mixedOf z ds.length ds W).1 ∧ (mixedOf z m rest W').2 = (mixedOf z ds.length ds W).2) ds.length ⟨ds, [], W, rfl, rfl, hd, by rw [List.length_nil]; omega, hfl, rfl, rfl⟩ ?_)
  rintro m S' ⟨rest, found, W', rfl, rfl, hd', hz', hfl', e1, e2⟩
  refine ⟨!rest.isEmpty, _, et_test (ee_op (ee_var rfl) (ee_of_el (el_lst ed_nil)) (ro_neNil (.own rfl) (.dat _) hfl')), fun hb => ?_, fun hb => ?_⟩
  · obtain ⟨k, hk⟩ : ∃ k, rest.length = k + 1 := by
      cases rest with
      | nil => cases hb
      | cons a b => exact ⟨b.length, rfl⟩
    have hi := draw_nat (n := rest.length) W' (by omega)
    have hlo := draw_lo (rest.length : Int) W'
    have hx : rest[(draw (rest.length : Int) W').1.toNat]? = some (rest.getD (draw (rest.length : Int) W').1.toNat z) := by
      rw [List.getD_eq_getElem?_getD, List.getElem?_eq_getElem hi]
      rfl
    have ee : mixedOf z rest.length rest W' = (rest.getD (draw rest.length W').1.toNat z :: (mixedOf z k (rest.eraseIdx (draw rest.length W').1.toNat) (draw rest.length W').2).1, (mixedOf z k (rest.eraseIdx (draw rest.length W').1.toNat) (draw rest.length W').2).2) := by
      conv => lhs; rw [hk]
      rfl
    rw [ee] at e1 e2
    have el := erase_len hi
    have d' := draw_deep (rest.length : Int) W' hd'
    refine ts_drop (ee_append (ds := found) (k := 2) (ee_var rfl) (ee_popAt (k := 1) (ds := rest) (n := (draw (rest.length : Int) W').1.toNat) (ee_var rfl) (ee_dr (W := W') (ea_cons (ee_var rfl) (ea_cons (ee_cb (ea_cons (ee_var rfl) ea_nil) (rc_lenL (.own rfl))) ea_nil)) rfl (by omega) hd') ⟨_, rfl⟩ rfl ?_ hx (by omega)) ⟨_, rfl⟩ rfl (by omega)) ⟨k, by omega, rest.eraseIdx (draw (rest.length : Int) W').1.toNat, found ++ [rest.getD (draw (rest.length : Int) W').1.toNat z], (draw (rest.length : Int) W').2, rfl, by omega, d', ?_, fun x hx => hfl' x (List.mem_of_mem_eraseIdx hx), ?_, e2⟩
    · unfold ixN
      rw [if_pos (by omega), if_pos (by omega)]
    · rw [List.length_append, List.length_singleton]
      omega
    · rw [List.append_assoc]
      exact e1
  · have hn : rest = [] := by
      cases rest with
      | nil => rfl
      | cons a b => cases hb
    subst hn
    rw [← e1, ← e2]
    refine ts_ret (ee_frz (ee_var rfl) rfl) ⟨?_, [.lst [], .gone], rfl⟩
    rw [show (mixedOf z ([] : List PyData).length [] W').1 = [] from rfl, List.append_nil]
end
end K33

set_option maxRecDepth 100000
set_option maxHeartbeats 4000000
namespace K33
open PySem PySem.Spec PyProof.Rows L2 DL
/-! ### the gates that exchange on the descending row -/
section
variable {n : Nat} {net : List Gate} {row : List Int}
theorem runK_app (row : List Int) (A B : List Gate) : ∀ k, k ≤ A.length → runK row (A ++ B) k = runK row A k := fun k hk => by
  have h := runK_take (net := A ++ B) (row := row) (m := A.length) k hk (by rw [List.length_append]; omega)
  rw [List.take_left] at h
  exact h.symm
def mvR (row : List Int) (g : Gate) (pl : List Int) : List Int := if val row (pl.getD g.2.toNat 0) < val row (pl.getD g.1.toNat 0) then swp pl g.1.toNat g.2.toNat else pl
theorem stepR_fst (row : List Int) (k : Nat) (g : Gate) (s : List Int × List Int) : (stepR row k g s).1 = mvR row g s.1 := by
  unfold stepR mvR
  split <;> rfl
theorem runP_snoc (row : List Int) (A : List Gate) (g : Gate) : runP row (A ++ [g]) = mvR row g (runP row A) := by
  unfold runP
  rw [List.length_append]
  have e : runK row (A ++ [g]) (A.length + 1) = stepR row A.length ((A ++ [g]).getD A.length (0, 0)) (runK row (A ++ [g]) A.length) := rfl
  show (runK row (A ++ [g]) (A.length + 1)).1 = _
  rw [e, stepR_fst, runK_app row A [g] A.length (Nat.le_refl _)]
  congr 1
  rw [List.getD_eq_getElem?_getD, List.getElem?_append_right (Nat.le_refl _), Nat.sub_self]
  rfl
theorem runK_yes {k : Nat} (e : Ex row net k) : runK row net (k + 1) = (swp (runK row net k).1 (gi net k) (gj net k), (runK row net k).2 ++ [(k : Int)]) := if_pos (show val row ((runK row net k).1.getD (net.getD k (0, 0)).2.toNat 0) < val row ((runK row net k).1.getD (net.getD k (0, 0)).1.toNat 0) from e)
theorem runK_no {k : Nat} (e : ¬ Ex row net k) : runK row net (k + 1) = runK row net k := if_neg (show ¬ val row ((runK row net k).1.getD (net.getD k (0, 0)).2.toNat 0) < val row ((runK row net k).1.getD (net.getD k (0, 0)).1.toNat 0) from e)
def atK (n : Nat) (net : List Gate) (k : Nat) : List Gate := (runK (descI n) net k).2.map (gAt net)
def atW (n : Nat) (net : List Gate) : List Gate := (runS (descI n) net).map (gAt net)
theorem atW_atK : atW n net = atK n net net.length := rfl
theorem gAt_nat (k : Nat) : gAt net (k : Int) = net.getD k (0, 0) := by
  unfold gAt
  rw [Int.toNat_natCast]
theorem at_run (hl : row.length = n) (h : NetOk n net) (t : Tame n net net.length) : ∀ k, k ≤ net.length → runP row (atK n net k) = (runK row net k).1
  | 0, _ => rfl
  | k + 1, hk => by
    have ih := at_run hl h t k (by omega)
    by_cases e : Ex (descI n) net k
    · have e1 : atK n net (k + 1) = atK n net k ++ [net.getD k (0, 0)] := by
        unfold atK
        rw [runK_yes e, List.map_append, List.map_singleton, gAt_nat]
      have e2 : runK row net (k + 1) = stepR row k (net.getD k (0, 0)) (runK row net k) := rfl
      rw [e1, runP_snoc, ih, e2, stepR_fst]
    · have e1 : atK n net (k + 1) = atK n net k := by
        unfold atK
        rw [runK_no e]
      have e2 : ¬ Ex row net k := fun z => e (tame_ex hl h (Nat.le_refl _) t (by omega) z)
      rw [e1, ih, runK_no e2]
theorem at_came (hl : row.length = n) (h : NetOk n net) (t : Tame n net net.length) : runP row (atW n net) = runP row net := at_run hl h t _ (Nat.le_refl _)
theorem at_mem {g : Gate} (hg : g ∈ atW n net) : ∃ k, k < net.length ∧ g = net.getD k (0, 0) ∧ Ex (descI n) net k := by
  obtain ⟨s, hs, rfl⟩ := List.mem_map.mp hg
  obtain ⟨k, hk, rfl, e⟩ := (spot_mem net.length).mp hs
  exact ⟨k, hk, gAt_nat k, e⟩
theorem at_ok (h : NetOk n net) : NetOk n (atW n net) := fun g hg => by
  obtain ⟨k, hk, rfl, _⟩ := at_mem hg
  exact gate_at h hk
theorem at_near (h : NetOk n net) (t : Tame n net net.length) : ∀ g ∈ atW n net, g.2 = g.1 + 1 := fun g hg => by
  obtain ⟨k, hk, rfl, e⟩ := at_mem hg
  have q := t k hk e
  have := gate_at h hk
  unfold gi gj at q
  omega
theorem near_tame (h : ∀ g ∈ net, g.2 = g.1 + 1) (ho : NetOk n net) : Tame n net net.length := fun k hk _ => by
  have hm : net.getD k (0, 0) ∈ net := by
    rw [List.getD_eq_getElem?_getD, List.getElem?_eq_getElem hk]
    exact List.getElem_mem hk
  have h1 := h _ hm
  have h2 := ho _ hm
  unfold gi gj
  omega
theorem at_len : (atW n net).length = (runS (descI n) net).length := by
  unfold atW
  rw [List.length_map]
/-! ### pairs that stand in order -/
def ascC : List Int → Nat
  | [] => 0
  | x :: xs => (xs.filter fun y => decide (x < y)).length + ascC xs
theorem ascC_swap {x y : Int} (h : y < x) : ∀ l1 l2 : List Int, ascC (l1 ++ y :: x :: l2) = ascC (l1 ++ x :: y :: l2) + 1
  | [], l2 => by
    show ((x :: l2).filter fun z => decide (y < z)).length + ((l2.filter fun z => decide (x < z)).length + ascC l2) = ((y :: l2).filter fun z => decide (x < z)).length + ((l2.filter fun z => decide (y < z)).length + ascC l2) + 1
    rw [List.filter_cons_of_pos (by simpa using h), List.filter_cons_of_neg (by simp; omega), List.length_cons]
    omega
  | a :: l1, l2 => by
    have ih := ascC_swap h l1 l2
    have e : ((l1 ++ y :: x :: l2).filter fun z => decide (a < z)).length = ((l1 ++ x :: y :: l2).filter fun z => decide (a < z)).length := List.Perm.length_eq (List.Perm.filter _ (List.Perm.append_left l1 (List.Perm.swap x y l2)))
    show ((l1 ++ y :: x :: l2).filter fun z => decide (a < z)).length + ascC (l1 ++ y :: x :: l2) = ((l1 ++ x :: y :: l2).filter fun z => decide (a < z)).length + ascC (l1 ++ x :: y :: l2) + 1
    rw [e, ih]
    omega
theorem ascC_le : ∀ l : List Int, ascC l ≤ l.length * l.length
  | [] => Nat.zero_le _
  | x :: l => by
    have h1 := List.length_filter_le (fun y => decide (x < y)) l
    have h2 := ascC_le l
    show (l.filter fun y => decide (x < y)).length + ascC l ≤ (l.length + 1) * (l.length + 1)
    rw [Nat.add_mul, Nat.mul_add]
    omega
theorem ascC_down : ∀ l : List Int, l.Pairwise (fun x y => y < x) → ascC l = 0
  | [], _ => rfl
  | x :: l, h => by
    obtain ⟨h1, h2⟩ := List.pairwise_cons.mp h
    show (l.filter fun y => decide (x < y)).length + ascC l = 0
    rw [ascC_down l h2, List.filter_eq_nil_iff.mpr fun y hy => by have := h1 y hy; simp; omega]
    rfl
theorem swp_adj : ∀ (pl : List Int) (i : Nat), i + 1 < pl.length → ∃ l1 a b l2, pl = l1 ++ a :: b :: l2 ∧ swp pl i (i + 1) = l1 ++ b :: a :: l2 ∧ pl.getD i 0 = a ∧ pl.getD (i + 1) 0 = b
  | [], _, h => absurd h (Nat.not_lt_zero _)
  | [_], _, h => by
    simp at h
  | a :: b :: l, 0, _ => ⟨[], a, b, l, rfl, rfl, rfl, rfl⟩
  | x :: y :: l, i + 1, h => by
    obtain ⟨l1, a, b, l2, h1, h2, h3, h4⟩ := swp_adj (y :: l) i (by simp at h ⊢; omega)
    refine ⟨x :: l1, a, b, l2, by rw [h1]; rfl, ?_, h3, h4⟩
    show x :: swp (y :: l) i (i + 1) = _
    rw [h2]
    rfl
theorem desc_start (n : Nat) : (rngI (descI n).length).map (val (descI n)) = descI n := by
  rw [descI_len]
  unfold rngI
  rw [List.map_map]
  show _ = (List.range n).map fun (k : Nat) => (n : Int) - (k : Int)
  refine List.map_congr_left fun i hi => ?_
  have := List.mem_range.mp hi
  show val (descI n) (0 + (i : Int)) = _
  rw [Int.zero_add, descI_val (by omega) (by omega)]
theorem desc_down2 (n : Nat) : (descI n).Pairwise (fun x y => y < x) := by
  unfold descI
  rw [List.pairwise_map]
  exact List.Pairwise.imp (fun h => by omega) List.pairwise_lt_range
theorem asc_run (h : NetOk n net) (t : Tame n net net.length) : ∀ k, k ≤ net.length → (runK (descI n) net k).2.length = ascC ((runK (descI n) net k).1.map (val (descI n)))
  | 0, _ => by
    show 0 = ascC ((rngI (descI n).length).map (val (descI n)))
    rw [desc_start, ascC_down _ (desc_down2 n)]
  | k + 1, hk => by
    have ih := asc_run h t k (by omega)
    by_cases e : Ex (descI n) net k
    · have q := t k (by omega) e
      have g := gij h (k := k) (by omega)
      have L := runK_len (descI n) net k
      rw [descI_len] at L
      obtain ⟨l1, a, b, l2, h1, h2, h3, h4⟩ := swp_adj (runK (descI n) net k).1 (gi net k) (by omega)
      have e' : val (descI n) b < val (descI n) a := by
        rw [← h3, ← h4, ← q]
        exact e
      rw [runK_yes e]
      show ((runK (descI n) net k).2 ++ [(k : Int)]).length = ascC ((swp (runK (descI n) net k).1 (gi net k) (gj net k)).map (val (descI n)))
      rw [q, h2, List.map_append, List.map_cons, List.map_cons, ascC_swap e', List.length_append, ih]
      rw [h1, List.map_append, List.map_cons, List.map_cons]
      rfl
    · rw [runK_no e]
      exact ih
theorem at_count (h : NetOk n net) (t : Tame n net net.length) : (atW n net).length = ascC (imgN n net) := by
  rw [at_len]
  exact asc_run h t _ (Nat.le_refl _)
theorem at_img (h : NetOk n net) (t : Tame n net net.length) : imgN n (atW n net) = imgN n net := by
  unfold imgN runO
  rw [at_came (descI_len n) h t]
theorem at_tame (h : NetOk n net) (t : Tame n net net.length) : Tame n (atW n net) (atW n net).length := near_tame (at_near h t) (at_ok h)
theorem at_again (h : NetOk n net) (t : Tame n net net.length) : (atW n (atW n net)).length = (atW n net).length := by
  rw [at_count (at_ok h) (at_tame h t), at_img h t, at_count h t]
theorem at_small (h : NetOk n net) (t : Tame n net net.length) : (atW n net).length ≤ n * n := by
  rw [at_count h t]
  have := ascC_le (imgN n net)
  unfold imgN at this ⊢
  rw [runO_len, descI_len] at this
  exact this
theorem imgN_len (n : Nat) (net : List Gate) : (imgN n net).length = n := by
  unfold imgN
  rw [runO_len, descI_len]
/-! ### networks that keep ties -/
theorem tame_of (h : NetOk n net) (k : kaB n net = true) : Tame n net net.length := by
  obtain ⟨f, F⟩ := first_is h
  rw [first_B F, decide_eq_true_iff] at k
  exact k ▸ F.tame
theorem tame_ka (h : NetOk n net) (t : Tame n net net.length) : kaB n net = true := by
  obtain ⟨f, F⟩ := first_is h
  rw [first_B F, decide_eq_true_iff]
  refine Classical.byContradiction fun z => ?_
  have hf : f < net.length := Nat.lt_of_le_of_ne F.le z
  have := t f hf (F.far hf).1
  have := (F.far hf).2
  omega
theorem kp_tame (hn : 2 ≤ n) {W : Well} (hW : W.deep.length ≤ 100) : ∀ k, (kpL n W k).st = (runP (descI n) (kpL n W k).net).map (val (descI n)) ∧ Tame n (kpL n W k).net (kpL n W k).net.length
  | 0 => ⟨(desc_start n).symm, fun k hk => absurd hk (Nat.not_lt_zero _)⟩
  | k + 1 => by
    obtain ⟨i1, i2⟩ := kp_tame hn hW k
    obtain ⟨a1, a2, a3, a4⟩ := kpL_all hn hW k
    have hg := gateOf_ok hn (decide (0 < (draw 3 (kpL n W k).W).1)) (draw 3 (kpL n W k).W).2
    show (kpStep n (kpL n W k)).st = (runP (descI n) (kpStep n (kpL n W k)).net).map (val (descI n)) ∧ Tame n (kpStep n (kpL n W k)).net (kpStep n (kpL n W k)).net.length
    generalize kpL n W k = s at i1 i2 a1 a2 a3 a4 hg ⊢
    have hg' : 0 ≤ (kpGate n s).1 ∧ (kpGate n s).1 < (kpGate n s).2 ∧ (kpGate n s).2 < n := hg
    have hst : (kpStep n s).st = if kpFall s.st (kpMade s.st (kpGate n s)) = true then swp s.st (kpGate n s).1.toNat (kpMade s.st (kpGate n s)).2.toNat else s.st := rfl
    have hnet : (kpStep n s).net = s.net ++ [kpMade s.st (kpGate n s)] := rfl
    rw [hst, hnet]
    generalize kpGate n s = g at hg' ⊢
    have m1 : (kpMade s.st g).1 = g.1 := rfl
    have m2 : (kpMade s.st g).2 = if kpFall s.st g = true then g.1 + 1 else g.2 := rfl
    have m3 : g.1 < (kpMade s.st g).2 ∧ (kpMade s.st g).2 < n := by
      rw [m2]
      split <;> omega
    have L : (runP (descI n) s.net).length = n := by rw [runP_len, descI_len]
    have hv : ∀ p : Int, 0 ≤ p → p < n → val s.st p = val (descI n) ((runP (descI n) s.net).getD p.toNat 0) := fun p h0 h1 => by
      rw [i1]
      unfold val
      rw [List.getD_eq_getElem?_getD, List.getElem?_map, List.getElem?_eq_getElem (show p.toNat < (runP (descI n) s.net).length by omega), List.getD_eq_getElem?_getD (l := runP (descI n) s.net), List.getElem?_eq_getElem (show p.toNat < (runP (descI n) s.net).length by omega)]
      rfl
    have fall : ∀ gg : Gate, 0 ≤ gg.1 → gg.1 < gg.2 → gg.2 < n → (kpFall s.st gg = true ↔ val (descI n) ((runP (descI n) s.net).getD gg.2.toNat 0) < val (descI n) ((runP (descI n) s.net).getD gg.1.toNat 0)) := fun gg h1 h2 h3 => by
      unfold kpFall
      rw [decide_eq_true_iff, hv _ (by omega) h3, hv _ h1 (by omega)]
    refine ⟨?_, fun j hj e => ?_⟩
    · rw [runP_snoc]
      unfold mvR
      by_cases f : kpFall s.st (kpMade s.st g) = true
      · rw [if_pos f, if_pos ((fall _ (by omega) (by omega) m3.2).mp f), m1]
        have m4 := m3
        generalize (kpMade s.st g).2 = gg at m4 ⊢
        rw [i1]
        unfold swp
        rw [List.map_set, List.map_set]
        have gd : ∀ q : Nat, q < n → ((runP (descI n) s.net).map (val (descI n))).getD q 0 = val (descI n) ((runP (descI n) s.net).getD q 0) := fun q hq => by
          rw [List.getD_eq_getElem?_getD, List.getElem?_map, List.getElem?_eq_getElem (show q < (runP (descI n) s.net).length by omega), List.getD_eq_getElem?_getD, List.getElem?_eq_getElem (show q < (runP (descI n) s.net).length by omega)]
          rfl
        rw [gd _ (by omega), gd _ (by omega)]
      · rw [if_neg f, if_neg fun z => f ((fall _ (by omega) (by omega) m3.2).mpr z)]
        exact i1
    · rw [List.length_append] at hj
      by_cases hjl : j < s.net.length
      · have e1 : gi (s.net ++ [kpMade s.st g]) j = gi s.net j := by
          unfold gi
          rw [List.getD_eq_getElem?_getD, List.getElem?_append_left hjl, ← List.getD_eq_getElem?_getD]
        have e2 : gj (s.net ++ [kpMade s.st g]) j = gj s.net j := by
          unfold gj
          rw [List.getD_eq_getElem?_getD, List.getElem?_append_left hjl, ← List.getD_eq_getElem?_getD]
        have e3 : Ex (descI n) s.net j := by
          unfold Ex kyK plK at e ⊢
          rw [runK_app _ _ _ j (by omega), e1, e2] at e
          exact e
        rw [e1, e2]
        exact i2 j hjl e3
      · have hjq : j = s.net.length := by
          have : [kpMade s.st g].length = 1 := rfl
          omega
        subst hjq
        have e0 : (s.net ++ [kpMade s.st g]).getD s.net.length (0, 0) = kpMade s.st g := by
          rw [List.getD_eq_getElem?_getD, List.getElem?_append_right (Nat.le_refl _), Nat.sub_self]
          rfl
        have e1 : gi (s.net ++ [kpMade s.st g]) s.net.length = g.1.toNat := by
          unfold gi
          rw [e0, m1]
        have e2 : gj (s.net ++ [kpMade s.st g]) s.net.length = (kpMade s.st g).2.toNat := by
          unfold gj
          rw [e0]
        have e3 : val (descI n) ((runP (descI n) s.net).getD (kpMade s.st g).2.toNat 0) < val (descI n) ((runP (descI n) s.net).getD g.1.toNat 0) := by
          unfold Ex kyK plK at e
          rw [runK_app _ _ _ _ (Nat.le_refl _), e1, e2] at e
          exact e
        rw [e1, e2]
        by_cases f : kpFall s.st g = true
        · rw [m2, if_pos f]
          omega
        · rw [m2, if_neg f] at e3
          exact absurd ((fall g hg'.1 hg'.2.1 hg'.2.2).mpr e3) f
theorem kp_keeps (hn : 2 ≤ n) {W : Well} (hW : W.deep.length ≤ 100) (m : Nat) : kaB n (kpL n W m).net = true := tame_ka (kpL_all hn hW m).2.1 (kp_tame hn hW m).2
/-! ### the pairs in order, row by row -/
def upA (ks : List Int) (n a : Nat) : List Nat := (List.range (n - (a + 1))).filter fun j => decide (ks.getD a 0 < ks.getD (a + 1 + j) 0)
def ascL (ks : List Int) (n k : Nat) : List Gate := (List.range k).flatMap fun a => (upA ks n a).map fun (j : Nat) => ((a : Int), ((a + 1 + j : Nat) : Int))
theorem ascL_succ (ks : List Int) (n k : Nat) : ascL ks n (k + 1) = ascL ks n k ++ (upA ks n k).map fun (j : Nat) => ((k : Int), ((k + 1 + j : Nat) : Int)) := by
  unfold ascL
  rw [List.range_succ, List.flatMap_append, List.flatMap_singleton]
theorem upA_len (ks : List Int) (n a : Nat) : (upA ks n a).length ≤ n := by
  have := List.length_filter_le (fun j => decide (ks.getD a 0 < ks.getD (a + 1 + j) 0)) (List.range (n - (a + 1)))
  unfold upA
  rw [List.length_range] at this
  omega
theorem ascL_le (ks : List Int) (n : Nat) : ∀ k, (ascL ks n k).length ≤ k * n
  | 0 => Nat.zero_le _
  | k + 1 => by
    have h1 := ascL_le ks n k
    have h2 := upA_len ks n k
    rw [ascL_succ, List.length_append, List.length_map, Nat.succ_mul]
    omega
theorem filt_at (p : Int → Bool) : ∀ l : List Int, ((List.range l.length).filter fun j => p (l.getD j 0)).length = (l.filter p).length := fun l => by
  have e : (List.range l.length).map (fun j => l.getD j 0) = l := by
    refine List.ext_getElem (by rw [List.length_map, List.length_range]) fun i h1 h2 => ?_
    rw [List.getElem_map, List.getElem_range, List.getD_eq_getElem?_getD, List.getElem?_eq_getElem h2]
    rfl
  have e2 : (l.filter p).length = (((List.range l.length).map (fun j => l.getD j 0)).filter p).length := by rw [e]
  rw [e2, List.filter_map, List.length_map]
  rfl
theorem asc_len : ∀ ks : List Int, ((List.range ks.length).flatMap fun a => (upA ks ks.length a).map fun (j : Nat) => ((a : Int), ((a + 1 + j : Nat) : Int))).length = ascC ks
  | [] => rfl
  | x :: ks => by
    have ih := asc_len ks
    rw [List.length_flatMap] at ih ⊢
    rw [List.length_cons, List.range_succ_eq_map, List.map_cons, List.sum_cons, List.map_map]
    show _ = (ks.filter fun y => decide (x < y)).length + ascC ks
    rw [← ih]
    congr 1
    · rw [List.length_map, ← filt_at (fun y => decide (x < y)) ks]
      unfold upA
      rw [show ks.length + 1 - (0 + 1) = ks.length by omega]
      congr 1
      refine List.filter_congr fun j _ => ?_
      rw [show 0 + 1 + j = j + 1 by omega]
      rfl
    · congr 1
      refine List.map_congr_left fun a _ => ?_
      show ((upA (x :: ks) (ks.length + 1) (a + 1)).map _).length = ((upA ks ks.length a).map _).length
      rw [List.length_map, List.length_map]
      unfold upA
      rw [show ks.length + 1 - (a + 1 + 1) = ks.length - (a + 1) by omega]
      congr 1
      refine List.filter_congr fun j _ => ?_
      rw [show a + 1 + 1 + j = (a + 1 + j) + 1 by omega]
      rfl
theorem ascL_count {ks : List Int} (h : ks.length = n) : (ascL ks n n).length = ascC ks := by
  subst h
  exact asc_len ks
end
end K33

set_option maxRecDepth 100000
set_option maxHeartbeats 4000000
namespace K33
open PySem PySem.Spec PyProof.Rows L2 DL
/-! ### rows led back through the gates at work -/
section
variable {n : Nat} {net : List Gate}
def lbL (gates : List Gate) (row : List Int) : List Int := gates.reverse.foldl (fun l g => swp l g.1.toNat g.2.toNat) row
theorem lbL_snoc (A : List Gate) (g : Gate) (row : List Int) : lbL (A ++ [g]) row = lbL A (swp row g.1.toNat g.2.toNat) := by
  unfold lbL
  rw [List.reverse_append]
  rfl
theorem lbL_len : ∀ (A : List Gate) (row : List Int), (A.foldl (fun l g => swp l g.1.toNat g.2.toNat) row).length = row.length
  | [], _ => rfl
  | g :: A, row => by
    rw [List.foldl_cons, lbL_len A, swp_len]
theorem lb_len (A : List Gate) (row : List Int) : (lbL A row).length = row.length := lbL_len _ _
theorem atK_yes {k : Nat} (e : Ex (descI n) net k) : atK n net (k + 1) = atK n net k ++ [net.getD k (0, 0)] := by
  unfold atK
  rw [runK_yes e, List.map_append, List.map_singleton, gAt_nat]
theorem atK_no {k : Nat} (e : ¬ Ex (descI n) net k) : atK n net (k + 1) = atK n net k := by
  unfold atK
  rw [runK_no e]
theorem lb_at (h : NetOk n net) : ∀ k, k ≤ net.length → ∀ zs : List Int, zs.length = n → ∀ m, m < n → val (lbL (atK n net k) zs) (plK (descI n) net k m) = zs.getD m 0
  | 0, _, zs, hz, m, hm => by
    rw [pl_zero (by rw [descI_len]; exact hm)]
    show zs.getD ((m : Int)).toNat 0 = _
    rw [Int.toNat_natCast]
  | k + 1, hk, zs, hz, m, hm => by
    have g := gij h (k := k) (by omega)
    by_cases e : Ex (descI n) net k
    · have ih := lb_at h k (by omega) (swp zs (gi net k) (gj net k)) (by rw [swp_len]; exact hz)
      have sg : ∀ q, (swp zs (gi net k) (gj net k)).getD q 0 = _ := swp_get zs (i := gi net k) (j := gj net k) (by omega) (by omega)
      rw [atK_yes e, lbL_snoc, step_yes (hD h) (by omega) e]
      show val (lbL (atK n net k) (swp zs (gi net k) (gj net k))) _ = _
      by_cases l1 : m = gj net k
      · rw [if_pos l1, ih _ (by omega), sg, if_neg (by omega), if_pos rfl, l1]
      · rw [if_neg l1]
        by_cases l2 : m = gi net k
        · rw [if_pos l2, ih _ g.2, sg, if_pos rfl, l2]
        · rw [if_neg l2, ih _ hm, sg, if_neg l1, if_neg l2]
    · rw [atK_no e, step_no e]
      exact lb_at h k (by omega) zs hz m hm
/-- a row that ascends along the pairs in order there -/
def AscAt (n : Nat) (net : List Gate) (f : Nat) (ys : List Int) : Prop := ∀ a b, a < b → b < n → kyK (descI n) net f a < kyK (descI n) net f b → ys.getD a 0 ≤ ys.getD b 0
/-- the row x lies on the lines as ys at f, by the descending row's places -/
def LieAt (n : Nat) (net : List Gate) (f : Nat) (ys x : List Int) : Prop := ∀ m, m < n → val x (plK (descI n) net f m) = ys.getD m 0
theorem lb_asc {x ys : List Int} (h : NetOk n net) {f : Nat} (hf : f ≤ net.length) (t : Tame n net f) (ay : AscAt n net f ys) (lx : LieAt n net f ys x) : ∀ j k, k + j = f → ∀ a b, a < b → b < n → kyK (descI n) net k a < kyK (descI n) net k b → val x (plK (descI n) net k a) ≤ val x (plK (descI n) net k b)
  | 0, k, hk => fun a b hab hb e => by
    obtain rfl : k = f := by omega
    rw [lx a (by omega), lx b hb]
    exact ay a b hab hb e
  | j + 1, k, hk => fun a b hab hb e => by
    have ih := lb_asc h hf t ay lx j (k + 1) (by omega)
    have g := gij h (k := k) (by omega)
    by_cases ed : Ex (descI n) net k
    · have near := t k (by omega) ed
      have ed' : kyK (descI n) net k (gj net k) < kyK (descI n) net k (gi net k) := ed
      have sy := step_yes (hD h) (show k < net.length by omega) ed
      have ky := key_yes (hD h) (show k < net.length by omega) ed
      have tau : ∀ l, ∃ l', plK (descI n) net (k + 1) l' = plK (descI n) net k l ∧ kyK (descI n) net (k + 1) l' = kyK (descI n) net k l ∧ l' = (if l = gi net k then gj net k else if l = gj net k then gi net k else l) := fun l => by
        refine ⟨_, ?_, ?_, rfl⟩
        · rw [sy]
          by_cases l1 : l = gi net k
          · rw [if_pos l1, if_pos rfl, l1]
          · rw [if_neg l1]
            by_cases l2 : l = gj net k
            · rw [if_pos l2, if_neg (by omega), if_pos rfl, l2]
            · rw [if_neg l2, if_neg l2, if_neg l1]
        · rw [ky]
          by_cases l1 : l = gi net k
          · rw [if_pos l1, if_pos rfl, l1]
          · rw [if_neg l1]
            by_cases l2 : l = gj net k
            · rw [if_pos l2, if_neg (by omega), if_pos rfl, l2]
            · rw [if_neg l2, if_neg l2, if_neg l1]
      obtain ⟨a', a1, a2, a3⟩ := tau a
      obtain ⟨b', b1, b2, b3⟩ := tau b
      rw [← a1, ← b1]
      refine ih a' b' ?_ ?_ (by rw [a2, b2]; exact e)
      · rw [a3, b3]
        have hne : ¬ (a = gi net k ∧ b = gj net k) := fun z => by
          rw [z.1, z.2] at e
          omega
        by_cases p1 : a = gi net k
        · rw [if_pos p1, if_neg (show ¬ b = gi net k by omega), if_neg (fun z => hne ⟨p1, z⟩)]
          omega
        · rw [if_neg p1]
          by_cases p2 : a = gj net k
          · rw [if_pos p2, if_neg (show ¬ b = gi net k by omega), if_neg (show ¬ b = gj net k by omega)]
            omega
          · rw [if_neg p2]
            by_cases q1 : b = gi net k
            · rw [if_pos q1]
              omega
            · rw [if_neg q1]
              by_cases q2 : b = gj net k
              · rw [if_pos q2]
                omega
              · rw [if_neg q2]
                exact hab
      · rw [b3]
        split
        · exact g.2
        split
        · omega
        · exact hb
    · have e' : kyK (descI n) net (k + 1) a < kyK (descI n) net (k + 1) b := by
        rw [key_no ed, key_no ed]
        exact e
      have := ih a b hab hb e'
      rw [step_no ed, step_no ed] at this
      exact this
/-- its own running goes along -/
theorem lb_run {x ys : List Int} (hx' : x.length = n) (h : NetOk n net) {f : Nat} (hf : f ≤ net.length) (t : Tame n net f) (ay : AscAt n net f ys) (lx : LieAt n net f ys x) : ∀ k, k ≤ f → ∀ l, l < n → kyK x net k l = val x (plK (descI n) net k l)
  | 0, _ => fun l hl => by
    unfold kyK
    rw [pl_zero (by rw [hx']; exact hl), pl_zero (by rw [descI_len]; exact hl)]
  | k + 1, hk => fun l hl => by
    have ih := lb_run hx' h hf t ay lx k (by omega)
    have g := gij h (k := k) (by omega)
    have hx : NetOk x.length net := by rw [hx']; exact h
    have ii := ih (gi net k) (by omega)
    have ij := ih (gj net k) g.2
    by_cases ed : Ex (descI n) net k
    · have near := t k (by omega) ed
      have ed' : kyK (descI n) net k (gj net k) < kyK (descI n) net k (gi net k) := ed
      have sy := step_yes (hD h) (show k < net.length by omega) ed
      have ky := key_yes (hD h) (show k < net.length by omega) ed
      have c := lb_asc h hf t ay lx (f - (k + 1)) (k + 1) (by omega) (gi net k) (gj net k) g.1 g.2 (by
        rw [ky, ky, if_neg (show ¬ gi net k = gj net k by omega), if_pos rfl, if_pos rfl]
        exact ed')
      rw [sy, sy, if_neg (show ¬ gi net k = gj net k by omega), if_pos rfl, if_pos rfl] at c
      rw [sy]
      by_cases ex : Ex x net k
      · rw [key_yes hx (by omega) ex]
        by_cases l1 : l = gj net k
        · rw [if_pos l1, if_pos l1]
          exact ii
        · rw [if_neg l1, if_neg l1]
          by_cases l2 : l = gi net k
          · rw [if_pos l2, if_pos l2]
            exact ij
          · rw [if_neg l2, if_neg l2]
            exact ih l hl
      · have ex' : ¬ kyK x net k (gj net k) < kyK x net k (gi net k) := ex
        rw [key_no ex]
        by_cases l1 : l = gj net k
        · rw [if_pos l1, l1, ij]
          omega
        · rw [if_neg l1]
          by_cases l2 : l = gi net k
          · rw [if_pos l2, l2, ii]
            omega
          · rw [if_neg l2]
            exact ih l hl
    · have ne := dne h (k := k) (by omega) (a := gi net k) (b := gj net k) (by omega) g.2 (by omega)
      have ed' : ¬ kyK (descI n) net k (gj net k) < kyK (descI n) net k (gi net k) := ed
      have c := lb_asc h hf t ay lx (f - k) k (by omega) (gi net k) (gj net k) g.1 g.2 (by omega)
      have ex : ¬ Ex x net k := fun ex => by
        have ex' : kyK x net k (gj net k) < kyK x net k (gi net k) := ex
        omega
      rw [key_no ex, step_no ed]
      exact ih l hl
/-- behind the first gates the row led back lies on the lines as told -/
theorem lb_end {ys : List Int} (hy : ys.length = n) (h : NetOk n net) {f : Nat} (hf : f ≤ net.length) (t : Tame n net f) (ay : AscAt n net f ys) {l : Nat} (hl : l < n) : kyK (lbL (atK n net f) ys) net f l = ys.getD l 0 := by
  have lx : LieAt n net f ys (lbL (atK n net f) ys) := lb_at h f hf ys hy
  rw [lb_run (by rw [lb_len]; exact hy) h hf t ay lx f (Nat.le_refl _) l hl]
  exact lx l hl
theorem lb_out {ys : List Int} (hy : ys.length = n) (h : NetOk n net) (t : Tame n net net.length) (ay : AscAt n net net.length ys) : runO (lbL (atW n net) ys) net = ys := by
  have L : (lbL (atW n net) ys).length = n := by rw [lb_len]; exact hy
  have Lp : (runP (lbL (atW n net) ys) net).length = n := by rw [runP_len]; exact L
  unfold runO
  refine List.ext_getElem (by rw [List.length_map, Lp, hy]) fun i h1 h2 => ?_
  have hi : i < n := by rw [← hy]; exact h2
  rw [List.getElem_map]
  have e := lb_end hy h (Nat.le_refl _) t ay hi
  unfold kyK plK at e
  have q1 : (runK (lbL (atK n net net.length) ys) net net.length).1.getD i 0 = (runP (lbL (atW n net) ys) net)[i]'(by rw [Lp]; exact hi) := by
    rw [List.getD_eq_getElem?_getD]
    show ((runP (lbL (atW n net) ys) net)[i]?).getD 0 = _
    rw [List.getElem?_eq_getElem (by rw [Lp]; exact hi)]
    rfl
  rw [q1] at e
  have q2 : ys.getD i 0 = ys[i]'h2 := by
    rw [List.getD_eq_getElem?_getD, List.getElem?_eq_getElem h2]
    rfl
  rw [← q2]
  exact e
theorem lb_perm : ∀ (A : List Gate) (row : List Int), NetOk row.length A → (A.foldl (fun l g => swp l g.1.toNat g.2.toNat) row).Perm row
  | [], _, _ => List.Perm.refl _
  | g :: A, row, h => by
    have hg := h g List.mem_cons_self
    have s := swp_perm row (i := g.1.toNat) (j := g.2.toNat) (by omega) (by omega)
    rw [List.foldl_cons]
    exact (lb_perm A _ (by rw [swp_len]; exact fun x hx => h x (List.mem_cons_of_mem _ hx))).trans s
/-- what came out ascends along the pairs -/
theorem out_asc (h : NetOk n net) (t : Tame n net net.length) {row : List Int} (hl : row.length = n) : AscAt n net net.length (runO row net) := fun a b hab hb e => by
  have := tame_inv hl h (Nat.le_refl _) t net.length (Nat.le_refl _) a b hab hb e
  have Lp : (runP row net).length = n := by rw [runP_len]; exact hl
  have q : ∀ c, c < n → (runO row net).getD c 0 = kyK row net net.length c := fun c hc => by
    unfold runO kyK plK
    rw [List.getD_eq_getElem?_getD, List.getElem?_map, List.getElem?_eq_getElem (by rw [Lp]; exact hc)]
    show val row _ = val row ((runP row net).getD c 0)
    rw [List.getD_eq_getElem?_getD, List.getElem?_eq_getElem (by rw [Lp]; exact hc)]
    rfl
  rw [q a (by omega), q b hb]
  exact this
end
end K33

set_option maxRecDepth 100000
set_option maxHeartbeats 4000000
namespace K33
open PySem PySem.Spec PyProof.Rows L2 DL
/-! ### counting from lot to lot -/
theorem or_add {x a : Nat} (h : x.testBit a = false) : x ||| 2 ^ a = x + 2 ^ a := by
  have e1 : x &&& 2 ^ a = 0 := by
    refine Nat.eq_of_testBit_eq fun i => ?_
    rw [Nat.testBit_and, Nat.testBit_two_pow, Nat.zero_testBit]
    by_cases hi : a = i
    · subst hi
      rw [h]
      rfl
    · rw [decide_eq_false hi, Bool.and_false]
  exact (add_apart e1).symm
theorem add_bit {x a i : Nat} (h : x.testBit a = false) : (x + 2 ^ a).testBit i = (x.testBit i || decide (a = i)) := by
  rw [← or_add h, Nat.testBit_or, Nat.testBit_two_pow]
def cB (ls : List Nat) (g l : Nat) : Bool := !g.testBit l && decide (ls.getD l 0 &&& g = ls.getD l 0)
def stepW (ls : List Nat) (g : Nat) (ws : List Nat) (l : Nat) : List Nat := if cB ls g l = true then ws.set (g + 2 ^ l) (ws.getD (g + 2 ^ l) 0 + ws.getD g 0) else ws
def rowW (ls : List Nat) (g : Nat) (ws : List Nat) : Nat → List Nat
  | 0 => ws
  | k + 1 => stepW ls g (rowW ls g ws k) k
def allW (n : Nat) (ls : List Nat) : Nat → List Nat
  | 0 => 1 :: List.replicate (2 ^ n - 1) 0
  | g + 1 => rowW ls g (allW n ls g) n
def cntN (n : Nat) (ls : List Nat) : Nat := (allW n ls (2 ^ n)).getD (2 ^ n - 1) 0
theorem stepW_len (ls : List Nat) (g : Nat) (ws : List Nat) (l : Nat) : (stepW ls g ws l).length = ws.length := by
  unfold stepW
  split
  · rw [List.length_set]
  · rfl
theorem rowW_len (ls : List Nat) (g : Nat) (ws : List Nat) : ∀ k, (rowW ls g ws k).length = ws.length
  | 0 => rfl
  | k + 1 => (stepW_len _ _ _ _).trans (rowW_len ls g ws k)
theorem allW_len (n : Nat) (ls : List Nat) : ∀ g, (allW n ls g).length = 2 ^ n
  | 0 => by
    show (1 :: List.replicate (2 ^ n - 1) 0).length = _
    rw [List.length_cons, List.length_replicate]
    have := Nat.two_pow_pos n
    omega
  | g + 1 => (rowW_len ls g _ n).trans (allW_len n ls g)
/-- in one turn each lot gets what is added at most once -/
theorem rowW_le (ls : List Nat) (g : Nat) (ws : List Nat) : ∀ k, (rowW ls g ws k).getD g 0 = ws.getD g 0 ∧ ∀ i, (rowW ls g ws k).getD i 0 ≤ ws.getD i 0 + (if ∃ l, l < k ∧ i = g + 2 ^ l then ws.getD g 0 else 0)
  | 0 => ⟨rfl, fun i => Nat.le_add_right _ _⟩
  | k + 1 => by
    obtain ⟨ih1, ih2⟩ := rowW_le ls g ws k
    have hp := Nat.two_pow_pos k
    have mono : ∀ i, ((if ∃ l, l < k ∧ i = g + 2 ^ l then ws.getD g 0 else 0) : Nat) ≤ if ∃ l, l < k + 1 ∧ i = g + 2 ^ l then ws.getD g 0 else 0 := fun i => by
      by_cases h : ∃ l, l < k ∧ i = g + 2 ^ l
      · obtain ⟨l, h1, h2⟩ := h
        rw [if_pos ⟨l, h1, h2⟩, if_pos ⟨l, by omega, h2⟩]
        exact Nat.le_refl _
      · rw [if_neg h]
        exact Nat.zero_le _
    show (stepW ls g (rowW ls g ws k) k).getD g 0 = _ ∧ ∀ i, (stepW ls g (rowW ls g ws k) k).getD i 0 ≤ _
    unfold stepW
    by_cases c : cB ls g k = true
    · rw [if_pos c]
      refine ⟨?_, fun i => ?_⟩
      · rw [List.getD_eq_getElem?_getD, List.getElem?_set_ne (by omega), ← List.getD_eq_getElem?_getD]
        exact ih1
      · by_cases hi : i = g + 2 ^ k
        · subst hi
          by_cases hl : g + 2 ^ k < (rowW ls g ws k).length
          · rw [List.getD_eq_getElem?_getD, List.getElem?_set_self hl]
            have h := ih2 (g + 2 ^ k)
            rw [if_neg (fun ⟨l, h1, h2⟩ => by
              have : (2 : Nat) ^ k = 2 ^ l := by omega
              have := Nat.pow_lt_pow_right (a := 2) (by decide) h1
              omega)] at h
            rw [if_pos ⟨k, Nat.lt_succ_self k, rfl⟩, ih1]
            show (rowW ls g ws k).getD (g + 2 ^ k) 0 + ws.getD g 0 ≤ _
            omega
          · rw [List.getD_eq_getElem?_getD, List.getElem?_eq_none (by rw [List.length_set]; omega)]
            exact Nat.zero_le _
        · rw [List.getD_eq_getElem?_getD, List.getElem?_set_ne (by omega), ← List.getD_eq_getElem?_getD]
          exact Nat.le_trans (ih2 i) (Nat.add_le_add_left (mono i) _)
    · rw [if_neg c]
      exact ⟨ih1, fun i => Nat.le_trans (ih2 i) (Nat.add_le_add_left (mono i) _)⟩
theorem allW_le (n : Nat) (ls : List Nat) : ∀ g i, (allW n ls g).getD i 0 ≤ 2 ^ g
  | 0, i => by
    show (1 :: List.replicate (2 ^ n - 1) 0).getD i 0 ≤ 1
    cases i with
    | zero => exact Nat.le_refl _
    | succ i =>
      rw [List.getD_cons_succ, List.getD_eq_getElem?_getD, List.getElem?_replicate]
      split <;> exact Nat.zero_le _
  | g + 1, i => by
    have h1 := (rowW_le ls g (allW n ls g) n).2 i
    have h2 := allW_le n ls g i
    have h3 := allW_le n ls g g
    have e : (2 : Nat) ^ (g + 1) = 2 ^ g + 2 ^ g := by rw [Nat.pow_succ]; omega
    show (rowW ls g (allW n ls g) n).getD i 0 ≤ _
    rw [e]
    split at h1 <;> omega
theorem cnt_le (n : Nat) (ls : List Nat) : cntN n ls ≤ 2 ^ 2 ^ n := allW_le n ls (2 ^ n) _
theorem nc_cnt {n : Nat} (hn : n ≤ 10) (ls : List Nat) {k : Nat} : Nc k 1901 (.int (cntN n ls : Int)) := Nc.int (by
  have h := cnt_le n ls
  have h2 : (2 : Nat) ^ 2 ^ n ≤ 2 ^ 2 ^ 10 := Nat.pow_le_pow_right (by decide) (Nat.pow_le_pow_right (by decide) hn)
  have e : (cntN n ls : Int).natAbs = cntN n ls := Int.natAbs_natCast _
  rw [e]
  by_cases h0 : cntN n ls = 0
  · rw [h0]
    decide
  · have h3 : cntN n ls < 2 ^ 1025 := Nat.lt_of_le_of_lt (Nat.le_trans h h2) (Nat.pow_lt_pow_right (by decide) (by decide))
    have := (Nat.log2_lt h0).mpr h3
    omega)
/-! ### the lots that must be ahead -/
def putL (ls : List Nat) (g : Gate) : List Nat := ls.set g.2.toNat (ls.getD g.2.toNat 0 + 2 ^ g.1.toNat)
def lessL (n : Nat) (ps : List Gate) : List Nat := ps.foldl putL (List.replicate n 0)
theorem lessL_snoc (n : Nat) (ps : List Gate) (g : Gate) : lessL n (ps ++ [g]) = putL (lessL n ps) g := by
  unfold lessL
  rw [List.foldl_append]
  rfl
theorem putL_len (ls : List Nat) (g : Gate) : (putL ls g).length = ls.length := List.length_set
theorem foldL_len : ∀ (ps : List Gate) (ls : List Nat), (ps.foldl putL ls).length = ls.length
  | [], _ => rfl
  | g :: ps, ls => by rw [List.foldl_cons, foldL_len ps, putL_len]
theorem lessL_len (n : Nat) (ps : List Gate) : (lessL n ps).length = n := by
  unfold lessL
  rw [foldL_len, List.length_replicate]
/-- pairs told once each -/
def Once (n : Nat) (ps : List Gate) : Prop := NetOk n ps ∧ ps.Nodup
theorem less_bit {n : Nat} : ∀ (k : Nat) {ps : List Gate}, Once n ps → k ≤ ps.length → ∀ b a : Nat, b < n → (((lessL n (ps.take k)).getD b 0).testBit a = true ↔ ((a : Int), (b : Int)) ∈ ps.take k)
  | 0, ps, _, _, b, a, hb => by
    rw [List.take_zero]
    have e : (lessL n []).getD b 0 = 0 := by
      show (List.replicate n 0).getD b 0 = 0
      rw [List.getD_eq_getElem?_getD, List.getElem?_replicate, if_pos hb]
      rfl
    rw [e, Nat.zero_testBit]
    exact ⟨fun z => (by cases z), fun z => (by cases z)⟩
  | k + 1, ps, h, hk, b, a, hb => by
    have ih := less_bit k h (by omega)
    have hg := h.1 (ps[k]'hk) (List.getElem_mem hk)
    have e : ps.take (k + 1) = ps.take k ++ [ps[k]'hk] := by rw [List.take_succ, List.getElem?_eq_getElem hk]; rfl
    have hnot : ps[k]'hk ∉ ps.take k := fun z => by
      have nd := h.2
      rw [← List.take_append_drop k ps, List.nodup_append] at nd
      refine nd.2.2 _ z (ps[k]'hk) ?_ rfl
      rw [List.drop_eq_getElem_cons hk]
      exact List.mem_cons_self
    rw [e, lessL_snoc]
    generalize ps[k]'hk = g at hg hnot
    obtain ⟨gi, gj⟩ := g
    dsimp only at hg
    obtain ⟨x, rfl⟩ : ∃ x : Nat, gi = (x : Int) := ⟨gi.toNat, by omega⟩
    obtain ⟨y, rfl⟩ : ∃ y : Nat, gj = (y : Int) := ⟨gj.toNat, by omega⟩
    have hy : y < n := by omega
    have h0 : ((lessL n (ps.take k)).getD y 0).testBit x = false := by
      rw [Bool.eq_false_iff]
      exact fun z => hnot ((ih y x hy).mp z)
    unfold putL
    dsimp only
    rw [Int.toNat_natCast, Int.toNat_natCast, List.mem_append, List.mem_singleton]
    by_cases c : y = b
    · subst c
      rw [List.getD_eq_getElem?_getD, List.getElem?_set_self (by rw [lessL_len]; exact hy)]
      show ((lessL n (ps.take k)).getD y 0 + 2 ^ x).testBit a = true ↔ _
      rw [add_bit h0, Bool.or_eq_true, ih y a hy, decide_eq_true_iff]
      constructor
      · rintro (z | z)
        · exact .inl z
        · rw [z]
          exact .inr rfl
      · rintro (z | z)
        · exact .inl z
        · have := congrArg Prod.fst z
          dsimp only at this
          exact .inr (by omega)
    · rw [List.getD_eq_getElem?_getD, List.getElem?_set_ne c, ← List.getD_eq_getElem?_getD, ih b a hb]
      constructor
      · exact .inl
      · rintro (z | z)
        · exact z
        · have := congrArg Prod.snd z
          dsimp only at this
          omega
/-- what is added stood not there: a sum is an or -/
theorem less_new {n : Nat} {ps : List Gate} (h : Once n ps) {k : Nat} (hk : k < ps.length) : ((lessL n (ps.take k)).getD (ps.getD k (0, 0)).2.toNat 0).testBit (ps.getD k (0, 0)).1.toNat = false := by
  have hg := h.1 (ps[k]'hk) (List.getElem_mem hk)
  have eg : ps.getD k (0, 0) = ps[k]'hk := by
    rw [List.getD_eq_getElem?_getD, List.getElem?_eq_getElem hk]
    rfl
  have hnot : ps[k]'hk ∉ ps.take k := fun z => by
    have nd := h.2
    rw [← List.take_append_drop k ps, List.nodup_append] at nd
    refine nd.2.2 _ z (ps[k]'hk) ?_ rfl
    rw [List.drop_eq_getElem_cons hk]
    exact List.mem_cons_self
  rw [eg, Bool.eq_false_iff]
  intro z
  have := (less_bit k h (by omega) (ps[k]'hk).2.toNat (ps[k]'hk).1.toNat (by omega)).mp z
  rw [Int.toNat_of_nonneg (by omega), Int.toNat_of_nonneg (by omega)] at this
  exact hnot this
theorem take_gate {ps : List Gate} {k : Nat} (hk : k < ps.length) : ps.take (k + 1) = ps.take k ++ [ps.getD k (0, 0)] := by
  rw [List.take_succ, List.getElem?_eq_getElem hk, List.getD_eq_getElem?_getD, List.getElem?_eq_getElem hk]
  rfl
theorem asc_once {n : Nat} {ks : List Int} (hk : ks.length = n) : Once n (ascL ks n n) := by
  constructor
  · intro g hg
    unfold ascL at hg
    obtain ⟨a, ha, hg⟩ := List.mem_flatMap.mp hg
    obtain ⟨j, hj, rfl⟩ := List.mem_map.mp hg
    unfold upA at hj
    have h1 := List.mem_range.mp (List.mem_filter.mp hj).1
    have h2 := List.mem_range.mp ha
    exact ⟨by show (0 : Int) ≤ (a : Int); omega, by show (a : Int) < ((a + 1 + j : Nat) : Int); omega, by show ((a + 1 + j : Nat) : Int) < (n : Int); omega⟩
  · have key : ∀ k, (ascL ks n k).Nodup ∧ ∀ g ∈ ascL ks n k, g.1 < (k : Int) := fun k => by
      induction k with
      | zero => exact ⟨List.nodup_nil, fun g hg => by cases hg⟩
      | succ k ih =>
        have nd : ((upA ks n k).map fun (j : Nat) => ((k : Int), ((k + 1 + j : Nat) : Int))).Nodup := by
          rw [List.nodup_iff_pairwise_ne, List.pairwise_map]
          refine List.Pairwise.imp (fun {a b} h => ?_) (List.Pairwise.filter _ (List.pairwise_lt_range (n := n - (k + 1))))
          intro e
          have := congrArg Prod.snd e
          dsimp only at this
          omega
        rw [ascL_succ]
        refine ⟨List.nodup_append.mpr ⟨ih.1, nd, fun x hx y hy e => ?_⟩, fun g hg => ?_⟩
        · have h1 := ih.2 x hx
          obtain ⟨j, _, rfl⟩ := List.mem_map.mp hy
          rw [e] at h1
          dsimp only at h1
          omega
        · rcases List.mem_append.mp hg with hg | hg
          · have := ih.2 g hg
            omega
          · obtain ⟨j, _, rfl⟩ := List.mem_map.mp hg
            show (k : Int) < ((k + 1 : Nat) : Int)
            omega
    exact (key n).1
end K33

set_option maxRecDepth 100000
set_option maxHeartbeats 4000000
namespace K33
open PySem PySem.Spec PyProof.Rows L2 DL
/-! ### all rearrangements -/
def wayN (n : Nat) : Nat → List (List Int)
  | 0 => [[]]
  | k + 1 => (wayN n k).flatMap fun s => ((rngI n).filter fun x => !decide (x ∈ s)).map fun x => s ++ [x]
structure PmK (n k : Nat) (row : List Int) : Prop where
  len : row.length = k
  nd : row.Nodup
  bd : ∀ x ∈ row, 0 ≤ x ∧ x < n
theorem PmK.perm {n k : Nat} {a b : List Int} (h : PmK n k a) (p : b.Perm a) : PmK n k b := ⟨by rw [p.length_eq]; exact h.len, p.nodup_iff.mpr h.nd, fun x hx => h.bd x (p.mem_iff.mp hx)⟩
theorem rngI_has {n : Nat} {x : Int} : x ∈ rngI n ↔ 0 ≤ x ∧ x < n := by
  unfold rngI
  rw [List.mem_map]
  constructor
  · rintro ⟨i, hi, rfl⟩
    have := List.mem_range.mp hi
    omega
  · rintro ⟨h1, h2⟩
    exact ⟨x.toNat, List.mem_range.mpr (by omega), by omega⟩
theorem way_mem {n : Nat} : ∀ {k : Nat} {row : List Int}, row ∈ wayN n k ↔ PmK n k row
  | 0, row => by
    constructor
    · intro h
      have e := List.mem_singleton.mp h
      subst e
      exact ⟨rfl, List.nodup_nil, fun x hx => by cases hx⟩
    · intro h
      have := List.length_eq_zero_iff.mp h.len
      rw [this]
      exact List.mem_singleton.mpr rfl
  | k + 1, row => by
    show row ∈ (wayN n k).flatMap _ ↔ _
    rw [List.mem_flatMap]
    constructor
    · rintro ⟨s, hs, h⟩
      obtain ⟨x, hx, rfl⟩ := List.mem_map.mp h
      have hs := way_mem.mp hs
      obtain ⟨h1, h2⟩ := List.mem_filter.mp hx
      have h3 : x ∉ s := by simpa using h2
      refine ⟨by rw [List.length_append, hs.len]; rfl, List.nodup_append.mpr ⟨hs.nd, by simp, fun y hy z hz e => ?_⟩, fun y hy => ?_⟩
      · rw [List.mem_singleton.mp hz] at e
        rw [e] at hy
        exact h3 hy
      · rcases List.mem_append.mp hy with hy | hy
        · exact hs.bd y hy
        · rw [List.mem_singleton.mp hy]
          exact rngI_has.mp h1
    · intro h
      have hne : row ≠ [] := fun e => by
        have := h.len
        rw [e] at this
        cases this
      have e := List.dropLast_concat_getLast hne
      have nd := h.nd
      rw [← e, List.nodup_append] at nd
      refine ⟨row.dropLast, way_mem.mpr ⟨by rw [List.length_dropLast, h.len]; rfl, nd.1, fun x hx => h.bd x (List.dropLast_subset _ hx)⟩, List.mem_map.mpr ⟨row.getLast hne, List.mem_filter.mpr ⟨rngI_has.mpr (h.bd _ (List.getLast_mem hne)), ?_⟩, e⟩⟩
      have : row.getLast hne ∉ row.dropLast := fun z => nd.2.2 _ z _ (List.mem_singleton.mpr rfl) rfl
      simpa using this
theorem way_len {n : Nat} : ∀ k, (wayN n k).length ≤ n ^ k
  | 0 => Nat.le_refl _
  | k + 1 => by
    show ((wayN n k).flatMap _).length ≤ _
    rw [List.length_flatMap, Nat.pow_succ]
    have hb : ∀ l : List (List Int), (l.map fun s => (((rngI n).filter fun x => !decide (x ∈ s)).map fun x => s ++ [x]).length).sum ≤ l.length * n := fun l => by
      induction l with
      | nil => exact Nat.zero_le _
      | cons s l ih =>
        rw [List.map_cons, List.sum_cons, List.length_cons, Nat.succ_mul, List.length_map]
        have h1 := List.length_filter_le (fun x => !decide (x ∈ s)) (rngI n)
        have h2 : (rngI n).length = n := by unfold rngI; rw [List.length_map, List.length_range]
        omega
    exact Nat.le_trans (hb _) (Nat.mul_le_mul_right n (way_len k))
theorem way_nodup {n : Nat} : ∀ k, (wayN n k).Nodup
  | 0 => by
    show ([[]] : List (List Int)).Nodup
    simp
  | k + 1 => by
    have ih := way_nodup (n := n) k
    have gen : ∀ l : List (List Int), l.Nodup → (l.flatMap fun s => ((rngI n).filter fun x => !decide (x ∈ s)).map fun x => s ++ [x]).Nodup := fun l => by
      induction l with
      | nil => exact fun _ => List.nodup_nil
      | cons s l ihl =>
        intro nd
        obtain ⟨n1, n2⟩ := List.nodup_cons.mp nd
        rw [List.flatMap_cons, List.nodup_append]
        refine ⟨?_, ihl n2, fun a ha b hb e => ?_⟩
        · rw [List.nodup_iff_pairwise_ne, List.pairwise_map]
          refine List.Pairwise.imp (fun {x y} h e => ?_) ((rngI_nodup n).filter _)
          have := List.append_inj_right e rfl
          exact h (List.singleton_inj.mp this)
        · obtain ⟨x, _, rfl⟩ := List.mem_map.mp ha
          obtain ⟨t, ht, hb⟩ := List.mem_flatMap.mp hb
          obtain ⟨y, _, rfl⟩ := List.mem_map.mp hb
          have h1 := congrArg List.dropLast e
          rw [List.dropLast_concat, List.dropLast_concat] at h1
          rw [h1] at n1
          exact n1 ht
    exact gen _ ih
theorem rng_val (row : List Int) : (rngI row.length).map (val row) = row := by
  refine List.ext_getElem (by unfold rngI; rw [List.length_map, List.length_map, List.length_range]) fun i h1 h2 => ?_
  rw [List.getElem_map]
  unfold rngI val
  rw [List.getElem_map, List.getElem_range, Int.zero_add, Int.toNat_natCast, List.getD_eq_getElem?_getD, List.getElem?_eq_getElem h2]
  rfl
theorem out_perm {row : List Int} {net : List Gate} (h : NetOk row.length net) : (runO row net).Perm row := by
  have p := (runK_perm h net.length (Nat.le_refl _)).map (val row)
  rw [rng_val] at p
  exact p
theorem out_ky {row : List Int} {net : List Gate} {n : Nat} (hl : row.length = n) {c : Nat} (hc : c < n) : (runO row net).getD c 0 = kyK row net net.length c := by
  have Lp : (runP row net).length = n := by rw [runP_len]; exact hl
  unfold runO kyK plK
  rw [List.getD_eq_getElem?_getD, List.getElem?_map, List.getElem?_eq_getElem (by rw [Lp]; exact hc)]
  show val row _ = val row ((runP row net).getD c 0)
  rw [List.getD_eq_getElem?_getD, List.getElem?_eq_getElem (by rw [Lp]; exact hc)]
  rfl
theorem lb_pm {n k : Nat} {net : List Gate} (h : NetOk n net) {ys : List Int} (hy : ys.length = n) (p : PmK n k ys) : PmK n k (lbL (atW n net) ys) := by
  refine p.perm (lb_perm _ _ ?_)
  rw [hy]
  exact fun g hg => at_ok h g (List.mem_reverse.mp hg)
/-! ### rows that ascend along the pairs in order -/
def ascB (n : Nat) (ks row : List Int) : Bool := (ascL ks n n).all fun g => decide (row.getD g.1.toNat 0 ≤ row.getD g.2.toNat 0)
theorem asc_mem {n : Nat} {ks : List Int} {g : Gate} : g ∈ ascL ks n n ↔ ∃ a b : Nat, g = ((a : Int), (b : Int)) ∧ a < b ∧ b < n ∧ ks.getD a 0 < ks.getD b 0 := by
  unfold ascL
  rw [List.mem_flatMap]
  constructor
  · rintro ⟨a, ha, h⟩
    obtain ⟨j, hj, rfl⟩ := List.mem_map.mp h
    unfold upA at hj
    obtain ⟨h1, h2⟩ := List.mem_filter.mp hj
    have := List.mem_range.mp h1
    exact ⟨a, a + 1 + j, rfl, by omega, by omega, of_decide_eq_true h2⟩
  · rintro ⟨a, b, rfl, h1, h2, h3⟩
    refine ⟨a, List.mem_range.mpr (by omega), List.mem_map.mpr ⟨b - (a + 1), ?_, ?_⟩⟩
    · unfold upA
      refine List.mem_filter.mpr ⟨List.mem_range.mpr (by omega), decide_eq_true ?_⟩
      rw [show a + 1 + (b - (a + 1)) = b by omega]
      exact h3
    · rw [show a + 1 + (b - (a + 1)) = b by omega]
theorem ascB_iff {n : Nat} {net : List Gate} {row : List Int} : ascB n (imgN n net) row = true ↔ AscAt n net net.length row := by
  have e : ∀ c, c < n → (imgN n net).getD c 0 = kyK (descI n) net net.length c := fun c hc => out_ky (descI_len n) hc
  unfold ascB AscAt
  rw [List.all_eq_true]
  constructor
  · intro h a b hab hb hk
    rw [← e a (by omega), ← e b hb] at hk
    have := of_decide_eq_true (h _ (asc_mem.mpr ⟨a, b, rfl, hab, hb, hk⟩))
    rw [Int.toNat_natCast, Int.toNat_natCast] at this
    exact this
  · intro h g hg
    obtain ⟨a, b, rfl, hab, hb, hk⟩ := asc_mem.mp hg
    rw [e a (by omega), e b hb] at hk
    refine decide_eq_true ?_
    rw [Int.toNat_natCast, Int.toNat_natCast]
    exact h a b hab hb hk
/-- what comes out of all rearrangements: those that ascend along the pairs -/
theorem outs_are {n : Nat} {net : List Gate} (h : NetOk n net) (k : kaB n net = true) (z : List Int) : z ∈ (wayN n n).map (fun row => runO row net) ↔ z ∈ (wayN n n).filter (ascB n (imgN n net)) := by
  have t := tame_of h k
  rw [List.mem_map, List.mem_filter]
  constructor
  · rintro ⟨row, hr, rfl⟩
    have p := way_mem.mp hr
    exact ⟨way_mem.mpr (p.perm (out_perm (by rw [p.len]; exact h))), ascB_iff.mpr (out_asc h t p.len)⟩
  · rintro ⟨hz, ha⟩
    have p := way_mem.mp hz
    exact ⟨lbL (atW n net) z, way_mem.mpr (lb_pm h p.len p), lb_out p.len h t (ascB_iff.mp ha)⟩
theorem nodup_leR : ∀ {xs ys : List (List Int)}, xs.Nodup → (∀ x ∈ xs, x ∈ ys) → xs.length ≤ ys.length
  | [], _, _, _ => Nat.zero_le _
  | x :: xs, ys, nd, h => by
    obtain ⟨n1, n2⟩ := List.nodup_cons.mp nd
    have hx := h x List.mem_cons_self
    have ih := nodup_leR (xs := xs) (ys := ys.erase x) n2 fun y hy => (List.mem_erase_of_ne (fun e => by subst e; exact n1 hy)).mpr (h y (List.mem_cons_of_mem _ hy))
    rw [List.length_erase_of_mem hx] at ih
    have := List.length_pos_of_mem hx
    rw [List.length_cons]
    omega
theorem outs_count {n : Nat} {net : List Gate} (h : NetOk n net) (k : kaB n net = true) {zs : List (List Int)} (nd : zs.Nodup) (hz : ∀ z, z ∈ zs ↔ z ∈ (wayN n n).map (fun row => runO row net)) : zs.length = ((wayN n n).filter (ascB n (imgN n net))).length :=
  Nat.le_antisymm (nodup_leR nd fun z hh => (outs_are h k z).mp ((hz z).mp hh)) (nodup_leR ((way_nodup n).filter _) fun z hh => (hz z).mpr ((outs_are h k z).mpr hh))
/-! ### how many, for few lines, by running -/
theorem desc_pm (n : Nat) : (descI n).map (fun x => x - 1) = (rngI n).reverse ∧ True := ⟨by
  refine List.ext_getElem (by unfold descI rngI; simp) fun i h1 h2 => ?_
  unfold descI rngI
  simp
  have : i < n := by
    have := h1
    unfold descI at this
    simpa using this
  omega, trivial⟩
def kssN (n : Nat) : List (List Int) := (wayN n n).map fun r => r.map fun x => x + 1
theorem img_kss {n : Nat} {net : List Gate} (h : NetOk n net) : imgN n net ∈ kssN n := by
  have p : (imgN n net).Perm (descI n) := out_perm (by rw [descI_len]; exact h)
  have q := p.map (fun x => x - 1)
  rw [(desc_pm n).1] at q
  have q2 := q.trans (List.reverse_perm _)
  have pm : PmK n n ((imgN n net).map fun x => x - 1) := PmK.perm ⟨rngI_len n, rngI_nodup n, fun x hx => rngI_has.mp hx⟩ q2
  refine List.mem_map.mpr ⟨_, way_mem.mpr pm, ?_⟩
  rw [List.map_map]
  refine (List.map_congr_left fun x _ => ?_).trans (List.map_id _)
  show x - 1 + 1 = x
  omega
def cntK (n : Nat) (ks : List Int) : Nat := cntN n (lessL n (ascL ks n n))
/-! ### the same counting in one number, for running it -/
def seqN {α : Type} (n : Nat) (f : Nat → α) : α := match n with
  | 0 => f 0
  | k + 1 => f (k + 1)
theorem seqN_eq {α : Type} (n : Nat) (f : Nat → α) : seqN n f = f n := by cases n <;> rfl
def pk (B : Nat) : List Nat → Nat
  | [] => 0
  | x :: xs => x + 2 ^ B * pk B xs
theorem pk_set {B c : Nat} : ∀ {ws : List Nat} {i : Nat}, i < ws.length → pk B (ws.set i (ws.getD i 0 + c)) = pk B ws + c * 2 ^ (B * i)
  | [], i, h => absurd h (Nat.not_lt_zero i)
  | x :: xs, 0, _ => by
    show x + c + 2 ^ B * pk B xs = x + 2 ^ B * pk B xs + c * 2 ^ (B * 0)
    rw [Nat.mul_zero, Nat.pow_zero]
    omega
  | x :: xs, i + 1, h => by
    have ih := pk_set (B := B) (c := c) (ws := xs) (i := i) (by simpa using h)
    show x + 2 ^ B * pk B (xs.set i (xs.getD i 0 + c)) = x + 2 ^ B * pk B xs + c * 2 ^ (B * (i + 1))
    have e : c * 2 ^ (B * (i + 1)) = 2 ^ B * (c * 2 ^ (B * i)) := by
      rw [Nat.mul_succ, Nat.pow_add, Nat.mul_comm (2 ^ (B * i)), ← Nat.mul_assoc, Nat.mul_comm c, Nat.mul_assoc]
    rw [ih, Nat.mul_add, e]
    omega
theorem pk_get {B : Nat} : ∀ {ws : List Nat} {i : Nat}, (∀ j, ws.getD j 0 < 2 ^ B) → pk B ws / 2 ^ (B * i) % 2 ^ B = ws.getD i 0
  | [], i, _ => by
    show 0 / _ % _ = _
    rw [Nat.zero_div, Nat.zero_mod]
    rfl
  | x :: xs, 0, h => by
    have h0 : x < 2 ^ B := h 0
    show (x + 2 ^ B * pk B xs) / 2 ^ (B * 0) % 2 ^ B = x
    rw [Nat.mul_zero, Nat.pow_zero, Nat.div_one, Nat.add_mul_mod_self_left, Nat.mod_eq_of_lt h0]
  | x :: xs, i + 1, h => by
    have h0 : x < 2 ^ B := h 0
    have ih := pk_get (B := B) (ws := xs) (i := i) fun j => h (j + 1)
    show (x + 2 ^ B * pk B xs) / 2 ^ (B * (i + 1)) % 2 ^ B = xs.getD i 0
    have e : 2 ^ (B * (i + 1)) = 2 ^ B * 2 ^ (B * i) := by rw [Nat.mul_succ, Nat.pow_add, Nat.mul_comm]
    rw [e, ← Nat.div_div_eq_div_mul, Nat.add_mul_div_left _ _ (Nat.two_pow_pos B), Nat.div_eq_of_lt h0, Nat.zero_add]
    exact ih
def stepP (B : Nat) (ls : List Nat) (g acc l : Nat) : Nat := if cB ls g l = true then acc + acc / 2 ^ (B * g) % 2 ^ B * 2 ^ (B * (g + 2 ^ l)) else acc
def rowP (B : Nat) (ls : List Nat) (g n : Nat) : Nat → Nat → Nat
  | 0, acc => acc
  | r + 1, acc => seqN (stepP B ls g acc (n - (r + 1))) fun a => rowP B ls g n r a
def allP (B : Nat) (ls : List Nat) (n m : Nat) : Nat → Nat → Nat
  | 0, acc => acc
  | r + 1, acc => seqN (rowP B ls (m - (r + 1)) n n acc) fun a => allP B ls n m r a
def cntP (B n : Nat) (ls : List Nat) : Nat := allP B ls n (2 ^ n) (2 ^ n) 1 / 2 ^ (B * (2 ^ n - 1)) % 2 ^ B
theorem lot_lt {n g l : Nat} (hg : g < 2 ^ n) (hl : l < n) (h : g.testBit l = false) : g + 2 ^ l < 2 ^ n := by
  rw [← or_add h]
  exact Nat.or_lt_two_pow hg (Nat.pow_lt_pow_right (by decide) hl)
theorem stepP_ok {B n : Nat} {ls ws : List Nat} {g l : Nat} (hl : l < n) (hg : g < 2 ^ n) (hw : ws.length = 2 ^ n) (hb : ∀ j, ws.getD j 0 < 2 ^ B) : stepP B ls g (pk B ws) l = pk B (stepW ls g ws l) := by
  unfold stepP stepW
  by_cases c : cB ls g l = true
  · have h0 : g.testBit l = false := by
      unfold cB at c
      simpa using (Bool.and_eq_true_iff.mp c).1
    rw [if_pos c, if_pos c, pk_get hb, pk_set (by rw [hw]; exact lot_lt hg hl h0)]
  · rw [if_neg c, if_neg c]
theorem rowW_small {B n : Nat} {ls : List Nat} {g : Nat} (hB : g + 1 < B) (k j : Nat) : (rowW ls g (allW n ls g) k).getD j 0 < 2 ^ B := by
  have h1 := (rowW_le ls g (allW n ls g) k).2 j
  have h2 := allW_le n ls g j
  have h3 := allW_le n ls g g
  have e : (2 : Nat) ^ (g + 1) = 2 ^ g + 2 ^ g := by rw [Nat.pow_succ]; omega
  have h4 := Nat.pow_lt_pow_right (a := 2) (by decide) hB
  split at h1 <;> omega
theorem rowP_ok {B n : Nat} {ls : List Nat} {g : Nat} (hg : g < 2 ^ n) (hB : g + 1 < B) : ∀ r, r ≤ n → rowP B ls g n r (pk B (rowW ls g (allW n ls g) (n - r))) = pk B (rowW ls g (allW n ls g) n)
  | 0, _ => by rw [Nat.sub_zero]; rfl
  | r + 1, h => by
    have ih := rowP_ok hg hB (ls := ls) r (by omega)
    show seqN _ _ = _
    rw [seqN_eq, stepP_ok (by omega) hg (by rw [rowW_len, allW_len]) (fun j => rowW_small hB _ j)]
    have e : stepW ls g (rowW ls g (allW n ls g) (n - (r + 1))) (n - (r + 1)) = rowW ls g (allW n ls g) (n - r) := by
      rw [show n - r = (n - (r + 1)) + 1 by omega]
      rfl
    rw [e]
    exact ih
theorem allP_ok {B n : Nat} {ls : List Nat} (hB : 2 ^ n < B) : ∀ r, r ≤ 2 ^ n → allP B ls n (2 ^ n) r (pk B (allW n ls (2 ^ n - r))) = pk B (allW n ls (2 ^ n))
  | 0, _ => by rw [Nat.sub_zero]; rfl
  | r + 1, h => by
    have ih := allP_ok hB (ls := ls) r (by omega)
    show seqN _ _ = _
    have e := rowP_ok (B := B) (n := n) (ls := ls) (g := 2 ^ n - (r + 1)) (by omega) (by omega) n (Nat.le_refl _)
    rw [Nat.sub_self] at e
    have e0 : rowW ls (2 ^ n - (r + 1)) (allW n ls (2 ^ n - (r + 1))) 0 = allW n ls (2 ^ n - (r + 1)) := rfl
    rw [e0] at e
    rw [seqN_eq, e]
    have e2 : rowW ls (2 ^ n - (r + 1)) (allW n ls (2 ^ n - (r + 1))) n = allW n ls (2 ^ n - r) := by
      rw [show 2 ^ n - r = (2 ^ n - (r + 1)) + 1 by omega]
      rfl
    rw [e2]
    exact ih
theorem pk_zeros (B : Nat) : ∀ k, pk B (List.replicate k 0) = 0
  | 0 => rfl
  | k + 1 => by
    show 0 + 2 ^ B * pk B (List.replicate k 0) = 0
    rw [pk_zeros B k, Nat.mul_zero]
theorem cntP_ok {B n : Nat} {ls : List Nat} (hB : 2 ^ n < B) : cntP B n ls = cntN n ls := by
  have h := allP_ok (ls := ls) hB (2 ^ n) (Nat.le_refl _)
  rw [Nat.sub_self] at h
  have e : pk B (allW n ls 0) = 1 := by
    show 1 + 2 ^ B * pk B (List.replicate (2 ^ n - 1) 0) = 1
    rw [pk_zeros, Nat.mul_zero]
  rw [e] at h
  unfold cntP cntN
  rw [h]
  exact pk_get fun j => Nat.lt_of_le_of_lt (allW_le n ls (2 ^ n) j) (Nat.pow_lt_pow_right (by decide) hB)
def cKP (B n : Nat) (ks : List Int) : Nat := cntP B n (lessL n (ascL ks n n))
theorem cKP_ok {B n : Nat} (hB : 2 ^ n < B) (ks : List Int) : cKP B n ks = cntK n ks := cntP_ok hB
theorem few_all : ([2, 3, 4] : List Nat).all (fun n => (kssN n).all fun ks => ((wayN n n).filter (ascB n ks)).length == cKP 17 n ks) = true := by decide +kernel
theorem few_count {n : Nat} (h2 : 2 ≤ n) (h4 : n < 5) {net : List Gate} (h : NetOk n net) : ((wayN n n).filter (ascB n (imgN n net))).length = cntK n (imgN n net) := by
  have hm : n ∈ ([2, 3, 4] : List Nat) := by
    match n, h2, h4 with
    | 2, _, _ => decide
    | 3, _, _ => decide
    | 4, _, _ => decide
  have e := beq_iff_eq.mp (List.all_eq_true.mp (List.all_eq_true.mp few_all n hm) _ (img_kss h))
  rw [e]
  refine cKP_ok ?_ _
  have : 2 ^ n ≤ 2 ^ 4 := Nat.pow_le_pow_right (by decide) (by omega)
  omega
def stK (ks : List Int) (i : Nat) : List Int := if ks.getD (i + 1) 0 < ks.getD i 0 then swp ks i (i + 1) else ks
def tab5 : List (List Int × Nat) := [([1, 2, 3, 4, 5], 1), ([1, 2, 3, 5, 4], 2), ([1, 2, 4, 3, 5], 2), ([1, 2, 4, 5, 3], 3), ([1, 2, 5, 3, 4], 3), ([1, 2, 5, 4, 3], 6), ([1, 3, 2, 4, 5], 2), ([1, 3, 2, 5, 4], 4), ([1, 3, 4, 2, 5], 3), ([1, 3, 4, 5, 2], 4), ([1, 3, 5, 2, 4], 5), ([1, 3, 5, 4, 2], 8), ([1, 4, 2, 3, 5], 3), ([1, 4, 2, 5, 3], 5), ([1, 4, 3, 2, 5], 6), ([1, 4, 3, 5, 2], 8), ([1, 4, 5, 2, 3], 6), ([1, 4, 5, 3, 2], 12), ([1, 5, 2, 3, 4], 4), ([1, 5, 2, 4, 3], 8), ([1, 5, 3, 2, 4], 8), ([1, 5, 3, 4, 2], 12), ([1, 5, 4, 2, 3], 12), ([1, 5, 4, 3, 2], 24), ([2, 1, 3, 4, 5], 2), ([2, 1, 3, 5, 4], 4), ([2, 1, 4, 3, 5], 4), ([2, 1, 4, 5, 3], 6), ([2, 1, 5, 3, 4], 6), ([2, 1, 5, 4, 3], 12), ([2, 3, 1, 4, 5], 3), ([2, 3, 1, 5, 4], 6), ([2, 3, 4, 1, 5], 4), ([2, 3, 4, 5, 1], 5), ([2, 3, 5, 1, 4], 7), ([2, 3, 5, 4, 1], 10), ([2, 4, 1, 3, 5], 5), ([2, 4, 1, 5, 3], 8), ([2, 4, 3, 1, 5], 8), ([2, 4, 3, 5, 1], 10), ([2, 4, 5, 1, 3], 9), ([2, 4, 5, 3, 1], 15), ([2, 5, 1, 3, 4], 7), ([2, 5, 1, 4, 3], 14), ([2, 5, 3, 1, 4], 11), ([2, 5, 3, 4, 1], 15), ([2, 5, 4, 1, 3], 18), ([2, 5, 4, 3, 1], 30), ([3, 1, 2, 4, 5], 3), ([3, 1, 2, 5, 4], 6), ([3, 1, 4, 2, 5], 5), ([3, 1, 4, 5, 2], 7), ([3, 1, 5, 2, 4], 8), ([3, 1, 5, 4, 2], 14), ([3, 2, 1, 4, 5], 6), ([3, 2, 1, 5, 4], 12), ([3, 2, 4, 1, 5], 8), ([3, 2, 4, 5, 1], 10), ([3, 2, 5, 1, 4], 14), ([3, 2, 5, 4, 1], 20), ([3, 4, 1, 2, 5], 6), ([3, 4, 1, 5, 2], 9), ([3, 4, 2, 1, 5], 12), ([3, 4, 2, 5, 1], 15), ([3, 4, 5, 1, 2], 10), ([3, 4, 5, 2, 1], 20), ([3, 5, 1, 2, 4], 9), ([3, 5, 1, 4, 2], 16), ([3, 5, 2, 1, 4], 18), ([3, 5, 2, 4, 1], 25), ([3, 5, 4, 1, 2], 20), ([3, 5, 4, 2, 1], 40), ([4, 1, 2, 3, 5], 4), ([4, 1, 2, 5, 3], 7), ([4, 1, 3, 2, 5], 8), ([4, 1, 3, 5, 2], 11), ([4, 1, 5, 2, 3], 9), ([4, 1, 5, 3, 2], 18), ([4, 2, 1, 3, 5], 8), ([4, 2, 1, 5, 3], 14), ([4, 2, 3, 1, 5], 12), ([4, 2, 3, 5, 1], 15), ([4, 2, 5, 1, 3], 16), ([4, 2, 5, 3, 1], 25), ([4, 3, 1, 2, 5], 12), ([4, 3, 1, 5, 2], 18), ([4, 3, 2, 1, 5], 24), ([4, 3, 2, 5, 1], 30), ([4, 3, 5, 1, 2], 20), ([4, 3, 5, 2, 1], 40), ([4, 5, 1, 2, 3], 10), ([4, 5, 1, 3, 2], 20), ([4, 5, 2, 1, 3], 20), ([4, 5, 2, 3, 1], 30), ([4, 5, 3, 1, 2], 30), ([4, 5, 3, 2, 1], 60), ([5, 1, 2, 3, 4], 5), ([5, 1, 2, 4, 3], 10), ([5, 1, 3, 2, 4], 10), ([5, 1, 3, 4, 2], 15), ([5, 1, 4, 2, 3], 15), ([5, 1, 4, 3, 2], 30), ([5, 2, 1, 3, 4], 10), ([5, 2, 1, 4, 3], 20), ([5, 2, 3, 1, 4], 15), ([5, 2, 3, 4, 1], 20), ([5, 2, 4, 1, 3], 25), ([5, 2, 4, 3, 1], 40), ([5, 3, 1, 2, 4], 15), ([5, 3, 1, 4, 2], 25), ([5, 3, 2, 1, 4], 30), ([5, 3, 2, 4, 1], 40), ([5, 3, 4, 1, 2], 30), ([5, 3, 4, 2, 1], 60), ([5, 4, 1, 2, 3], 20), ([5, 4, 1, 3, 2], 40), ([5, 4, 2, 1, 3], 40), ([5, 4, 2, 3, 1], 60), ([5, 4, 3, 1, 2], 60), ([5, 4, 3, 2, 1], 120)]
theorem tab_ok : (tab5.all fun p => cKP 33 5 p.1 == p.2) = true := by decide +kernel
theorem tab_in : ((kssN 5).all fun ks => tab5.any fun p => p.1 == ks) = true := by decide +kernel
theorem tab_up : (tab5.all fun p => ([0, 1, 2, 3] : List Nat).all fun i => tab5.any fun q => q.1 == stK p.1 i && decide (q.2 ≤ p.2)) = true := by decide +kernel
theorem img_snoc {n : Nat} {net : List Gate} (h : NetOk n net) {i : Nat} (hi : i + 1 < n) : imgN n (net ++ [((i : Int), (i : Int) + 1)]) = stK (imgN n net) i := by
  have pl : (runP (descI n) net).length = n := by rw [runP_len, descI_len]
  have at_ : ∀ c, c < n → (imgN n net).getD c 0 = val (descI n) ((runP (descI n) net).getD c 0) := fun c hc => by
    show ((runP (descI n) net).map (val (descI n))).getD c 0 = _
    rw [List.getD_eq_getElem?_getD, List.getElem?_map, List.getElem?_eq_getElem (by omega), List.getD_eq_getElem?_getD, List.getElem?_eq_getElem (by omega)]
    rfl
  have e : imgN n (net ++ [((i : Int), (i : Int) + 1)]) = (mvR (descI n) ((i : Int), (i : Int) + 1) (runP (descI n) net)).map (val (descI n)) := by
    show (runP (descI n) (net ++ [((i : Int), (i : Int) + 1)])).map (val (descI n)) = _
    rw [runP_snoc]
  rw [e]
  unfold mvR stK
  rw [at_ i (by omega), at_ (i + 1) hi]
  dsimp only
  rw [show ((i : Int) + 1).toNat = i + 1 by omega, Int.toNat_natCast]
  by_cases c : val (descI n) ((runP (descI n) net).getD (i + 1) 0) < val (descI n) ((runP (descI n) net).getD i 0)
  · rw [if_pos c, if_pos c]
    unfold swp
    rw [List.map_set, List.map_set, ← at_ i (by omega), ← at_ (i + 1) hi]
    rfl
  · rw [if_neg c, if_neg c]
    rfl
theorem more_le {net : List Gate} (h : NetOk 5 net) {i : Nat} (hi : i < 4) : cntK 5 (imgN 5 (net ++ [((i : Int), (i : Int) + 1)])) ≤ cntK 5 (imgN 5 net) := by
  rw [img_snoc h (by omega)]
  obtain ⟨p, hp, e⟩ := List.any_eq_true.mp (List.all_eq_true.mp tab_in _ (img_kss h))
  have e := beq_iff_eq.mp e
  have c1 := beq_iff_eq.mp (List.all_eq_true.mp tab_ok p hp)
  have hi4 : i ∈ ([0, 1, 2, 3] : List Nat) := by
    match i, hi with
    | 0, _ => decide
    | 1, _ => decide
    | 2, _ => decide
    | 3, _ => decide
  obtain ⟨q, hq, e2⟩ := List.any_eq_true.mp (List.all_eq_true.mp (List.all_eq_true.mp tab_up p hp) i hi4)
  obtain ⟨e3, e4⟩ := Bool.and_eq_true_iff.mp e2
  have e3 := beq_iff_eq.mp e3
  have c2 := beq_iff_eq.mp (List.all_eq_true.mp tab_ok q hq)
  have e4 := of_decide_eq_true e4
  rw [cKP_ok (by decide)] at c1 c2
  rw [← e, ← e3, c1, c2]
  exact e4
def facK : Nat → Nat
  | 0 => 1
  | k + 1 => facK k * (k + 2)
theorem fac_all : ([2, 3, 4, 5, 6, 7, 8] : List Nat).all (fun n => cKP 257 n (imgN n []) == facK (n - 1)) = true := by decide +kernel
theorem fac_is {n : Nat} (h2 : 2 ≤ n) (h8 : n ≤ 8) : cntK n (imgN n []) = facK (n - 1) := by
  have hm : n ∈ ([2, 3, 4, 5, 6, 7, 8] : List Nat) := by
    match n, h2, h8 with
    | 2, _, _ => decide
    | 3, _, _ => decide
    | 4, _, _ => decide
    | 5, _, _ => decide
    | 6, _, _ => decide
    | 7, _, _ => decide
    | 8, _, _ => decide
  have e := beq_iff_eq.mp (List.all_eq_true.mp fac_all n hm)
  rw [← e]
  refine (cKP_ok ?_ _).symm
  have : 2 ^ n ≤ 2 ^ 8 := Nat.pow_le_pow_right (by decide) (by omega)
  omega
end K33

set_option maxRecDepth 100000
set_option maxHeartbeats 4000000
namespace K33
open PySem PySem.Spec PyProof.Rows L2 DL
/-! ### one image, one way of leading -/
def cmpG (r : List Int) (g : Gate) : List Int := if r.getD g.2.toNat 0 < r.getD g.1.toNat 0 then swp r g.1.toNat g.2.toNat else r
def foldC (r : List Int) (net : List Gate) : List Int := net.foldl cmpG r
theorem foldC_snoc (r : List Int) (A : List Gate) (g : Gate) : foldC r (A ++ [g]) = cmpG (foldC r A) g := by
  unfold foldC
  rw [List.foldl_append]
  rfl
theorem foldC_app (r : List Int) (A B : List Gate) : foldC r (A ++ B) = foldC (foldC r A) B := by
  unfold foldC
  rw [List.foldl_append]
theorem cmpG_len (r : List Int) (g : Gate) : (cmpG r g).length = r.length := by
  unfold cmpG
  split
  · exact swp_len ..
  · rfl
theorem foldC_len : ∀ (net : List Gate) (r : List Int), (foldC r net).length = r.length
  | [], _ => rfl
  | g :: net, r => (foldC_len net (cmpG r g)).trans (cmpG_len r g)
theorem mapv_getD {row pl : List Int} {c : Nat} (h : c < pl.length) : (pl.map (val row)).getD c 0 = val row (pl.getD c 0) := by
  rw [List.getD_eq_getElem?_getD, List.getElem?_map, List.getElem?_eq_getElem h, List.getD_eq_getElem?_getD, List.getElem?_eq_getElem h]
  rfl
theorem cmp_mv {row pl : List Int} {g : Gate} (h : 0 ≤ g.1 ∧ g.1 < g.2 ∧ g.2 < pl.length) : cmpG (pl.map (val row)) g = (mvR row g pl).map (val row) := by
  unfold cmpG mvR
  rw [mapv_getD (by omega), mapv_getD (by omega)]
  by_cases c : val row (pl.getD g.2.toNat 0) < val row (pl.getD g.1.toNat 0)
  · rw [if_pos c, if_pos c]
    unfold swp
    rw [List.map_set, List.map_set, mapv_getD (by omega), mapv_getD (by omega)]
  · rw [if_neg c, if_neg c]
/-- keys alone -/
theorem out_foldR {row : List Int} : ∀ (B : List Gate), NetOk row.length B.reverse → runO row B.reverse = foldC row B.reverse
  | [], _ => by
    show (rngI row.length).map (val row) = row
    exact rng_val row
  | g :: B, h => by
    rw [List.reverse_cons] at h ⊢
    have hA : NetOk row.length B.reverse := fun x hx => h x (List.mem_append_left _ hx)
    have hg := h g (List.mem_append_right _ (List.mem_singleton.mpr rfl))
    rw [foldC_snoc, ← out_foldR B hA]
    unfold runO
    rw [runP_snoc, cmp_mv (by rw [runP_len]; exact hg)]
theorem out_fold {row : List Int} {net : List Gate} (h : NetOk row.length net) : runO row net = foldC row net := by
  have := out_foldR (row := row) net.reverse (by rw [List.reverse_reverse]; exact h)
  rw [List.reverse_reverse] at this
  exact this
theorem two_if (t x y : Int) : ((if t < min x y then 1 else 0) + (if t < max x y then 1 else 0) : Nat) = (if t < x then 1 else 0) + (if t < y then 1 else 0) := by
  have h1 : t < min x y ↔ t < x ∧ t < y := by omega
  have h2 : t < max x y ↔ t < x ∨ t < y := by omega
  simp only [h1, h2]
  by_cases c1 : t < x <;> by_cases c2 : t < y <;> simp [c1, c2]
theorem one_if (t x y : Int) (a : Nat) : ((a + (if t < min x y then 1 else 0) : Nat) : Int) = max (a : Int) (((a + (if t < x then 1 else 0) + (if t < y then 1 else 0) : Nat) : Int) - 1) := by
  have h1 : t < min x y ↔ t < x ∧ t < y := by omega
  simp only [h1]
  by_cases c1 : t < x <;> by_cases c2 : t < y <;> simp [c1, c2] <;> omega
/-! ### counting what is greater -/
def cntT (t : Int) (r : List Int) (j : Nat) : Nat := ((r.take j).filter fun x => decide (t < x)).length
theorem cntT_zero (t : Int) (r : List Int) : cntT t r 0 = 0 := rfl
theorem cntT_succ {t : Int} {r : List Int} {j : Nat} (h : j < r.length) : cntT t r (j + 1) = cntT t r j + (if t < r.getD j 0 then 1 else 0) := by
  unfold cntT
  have e : r.take (j + 1) = r.take j ++ [r.getD j 0] := by
    rw [List.take_succ, List.getElem?_eq_getElem h, List.getD_eq_getElem?_getD, List.getElem?_eq_getElem h]
    rfl
  rw [e, List.filter_append, List.length_append]
  congr 1
  by_cases c : t < r.getD j 0
  · rw [if_pos c, List.filter_cons_of_pos (by simpa using c)]
    rfl
  · rw [if_neg c, List.filter_cons_of_neg (by simpa using c)]
    rfl
theorem cntT_same {t : Int} {r s : List Int} (hl : r.length = s.length) {j : Nat} (hj : j ≤ r.length) (h : ∀ l, l < j → r.getD l 0 = s.getD l 0) : cntT t r j = cntT t s j := by
  induction j with
  | zero => rfl
  | succ j ih =>
    rw [cntT_succ (by omega), cntT_succ (by omega), ih (by omega) fun l hl => h l (by omega), h j (by omega)]
/-- a near gate: the count ahead of its second line is told by the counts beside -/
theorem cmp_near {t : Int} {r : List Int} {i : Nat} (hi : i + 1 < r.length) {j : Nat} (hj : j ≤ r.length) : (cntT t (cmpG r ((i : Int), (i : Int) + 1)) j : Int) = if j = i + 1 then max (cntT t r i : Int) ((cntT t r (i + 2) : Int) - 1) else cntT t r j := by
  have e1 : ((i : Int) + 1).toNat = i + 1 := by omega
  have at_ : ∀ l, (cmpG r ((i : Int), (i : Int) + 1)).getD l 0 = if l = i then min (r.getD i 0) (r.getD (i + 1) 0) else if l = i + 1 then max (r.getD i 0) (r.getD (i + 1) 0) else r.getD l 0 := fun l => by
    unfold cmpG
    dsimp only
    rw [e1, Int.toNat_natCast]
    by_cases c : r.getD (i + 1) 0 < r.getD i 0
    · rw [if_pos c, swp_get r (by omega) hi]
      by_cases l1 : l = i
      · rw [if_neg (by omega), if_pos l1, if_pos l1]
        omega
      · rw [if_neg l1]
        by_cases l2 : l = i + 1
        · rw [if_pos l2, if_pos l2]
          omega
        · rw [if_neg l2, if_neg l1, if_neg l2]
    · rw [if_neg c]
      by_cases l1 : l = i
      · rw [if_pos l1, l1]
        omega
      · rw [if_neg l1]
        by_cases l2 : l = i + 1
        · rw [if_pos l2, l2]
          omega
        · rw [if_neg l2]
  have ln := cmpG_len r ((i : Int), (i : Int) + 1)
  have low : ∀ j, j ≤ i → cntT t (cmpG r ((i : Int), (i : Int) + 1)) j = cntT t r j := fun j hj => cntT_same ln (by omega) fun l hl => by rw [at_, if_neg (by omega), if_neg (by omega)]
  have s1 : cntT t (cmpG r ((i : Int), (i : Int) + 1)) (i + 1) = cntT t r i + (if t < min (r.getD i 0) (r.getD (i + 1) 0) then 1 else 0) := by rw [cntT_succ (by omega), low i (Nat.le_refl _), at_, if_pos rfl]
  have two := two_if t (r.getD i 0) (r.getD (i + 1) 0)
  have s2 : cntT t (cmpG r ((i : Int), (i : Int) + 1)) (i + 2) = cntT t r (i + 2) := by
    rw [cntT_succ (by omega), s1, at_, if_neg (show ¬ i + 1 = i by omega), if_pos rfl, cntT_succ (j := i + 1) hi, cntT_succ (j := i) (by omega)]
    omega
  have high : ∀ d, i + 2 + d ≤ r.length → cntT t (cmpG r ((i : Int), (i : Int) + 1)) (i + 2 + d) = cntT t r (i + 2 + d) := fun d => by
    induction d with
    | zero => exact fun _ => s2
    | succ d ih =>
      intro hd
      rw [show i + 2 + (d + 1) = (i + 2 + d) + 1 by omega, cntT_succ (by omega), cntT_succ (by omega), ih (by omega), at_, if_neg (show ¬ i + 2 + d = i by omega), if_neg (show ¬ i + 2 + d = i + 1 by omega)]
  by_cases c : j = i + 1
  · rw [if_pos c, c, s1, cntT_succ (t := t) (r := r) (j := i + 1) hi, cntT_succ (t := t) (r := r) (j := i) (by omega)]
    exact one_if t _ _ _
  · rw [if_neg c]
    by_cases d : j ≤ i
    · rw [low j d]
    · have := high (j - (i + 2)) (by omega)
      rw [show i + 2 + (j - (i + 2)) = j by omega] at this
      rw [this]
/-! ### what comes out, by the image alone -/
/-- on a: idle or near all along -/
def idleOr : List Int → List Int → List Gate → Prop
  | _, _, [] => True
  | d, r, g :: net => (g.2 = g.1 + 1 ∨ (cmpG d g = d ∧ cmpG r g = r)) ∧ idleOr (cmpG d g) (cmpG r g) net
/-- the greatest of what the starts say -/
def Best (n : Nat) (f : Nat → Int) (a : Int) : Prop := (∀ k, k ≤ n → f k ≤ a) ∧ ∃ k, k ≤ n ∧ f k = a
theorem Best.same {n : Nat} {f g : Nat → Int} {a : Int} (h : Best n f a) (e : ∀ k, k ≤ n → f k = g k) : Best n g a := ⟨fun k hk => by rw [← e k hk]; exact h.1 k hk, by
  obtain ⟨k, hk, h2⟩ := h.2
  exact ⟨k, hk, by rw [← e k hk]; exact h2⟩⟩
theorem Best.both {n : Nat} {f g : Nat → Int} {a b : Int} (h1 : Best n f a) (h2 : Best n g b) : Best n (fun k => max (f k) (g k - 1)) (max a (b - 1)) := by
  refine ⟨fun k hk => ?_, ?_⟩
  · have := h1.1 k hk
    have := h2.1 k hk
    show max (f k) (g k - 1) ≤ max a (b - 1)
    omega
  · obtain ⟨k1, hk1, e1⟩ := h1.2
    obtain ⟨k2, hk2, e2⟩ := h2.2
    have q1 := h1.1 k2 hk2
    have q2 := h2.1 k1 hk1
    by_cases c : b - 1 ≤ a
    · refine ⟨k1, hk1, ?_⟩
      show max (f k1) (g k1 - 1) = max a (b - 1)
      omega
    · refine ⟨k2, hk2, ?_⟩
      show max (f k2) (g k2 - 1) = max a (b - 1)
      omega
theorem Best.uniq {n : Nat} {f : Nat → Int} {a b : Int} (h1 : Best n f a) (h2 : Best n f b) : a = b := by
  obtain ⟨k1, hk1, e1⟩ := h1.2
  obtain ⟨k2, hk2, e2⟩ := h2.2
  have q1 := h1.1 k2 hk2
  have q2 := h2.1 k1 hk1
  omega
/-- all counts of a row that stands at x0 while the descending one stands at d -/
def Told (n : Nat) (x0 d r : List Int) : Prop := ∀ (t : Int) (j : Nat), j ≤ n → Best n (fun k => (cntT t x0 k : Int) + (cntT ((n : Int) - (k : Int)) d j : Int) - (k : Int)) (cntT t r j)
theorem told_step {n : Nat} {x0 d r : List Int} (hd : d.length = n) (hr : r.length = n) (h : Told n x0 d r) {i : Nat} (hi : i + 1 < n) : Told n x0 (cmpG d ((i : Int), (i : Int) + 1)) (cmpG r ((i : Int), (i : Int) + 1)) := fun t j hj => by
  rw [cmp_near (by omega) (by omega)]
  by_cases c : j = i + 1
  · rw [if_pos c]
    refine ((h t i (by omega)).both (h t (i + 2) (by omega))).same fun k hk => ?_
    have q := cmp_near (t := (n : Int) - (k : Int)) (r := d) (i := i) (by omega) (j := j) (by omega)
    rw [if_pos c] at q
    show max ((cntT t x0 k : Int) + (cntT ((n : Int) - (k : Int)) d i : Int) - (k : Int)) ((cntT t x0 k : Int) + (cntT ((n : Int) - (k : Int)) d (i + 2) : Int) - (k : Int) - 1) = (cntT t x0 k : Int) + (cntT ((n : Int) - (k : Int)) (cmpG d ((i : Int), (i : Int) + 1)) j : Int) - (k : Int)
    rw [q]
    omega
  · rw [if_neg c]
    refine (h t j hj).same fun k hk => ?_
    have q := cmp_near (t := (n : Int) - (k : Int)) (r := d) (i := i) (by omega) (j := j) (by omega)
    rw [if_neg c] at q
    have q2 : cntT ((n : Int) - (k : Int)) (cmpG d ((i : Int), (i : Int) + 1)) j = cntT ((n : Int) - (k : Int)) d j := by omega
    show _ = (cntT t x0 k : Int) + (cntT ((n : Int) - (k : Int)) (cmpG d ((i : Int), (i : Int) + 1)) j : Int) - (k : Int)
    rw [q2]
theorem told_run {n : Nat} {x0 : List Int} : ∀ (net : List Gate) {d r : List Int}, d.length = n → r.length = n → NetOk n net → idleOr d r net → Told n x0 d r → Told n x0 (foldC d net) (foldC r net)
  | [], d, r, _, _, _, _, h => h
  | g :: net, d, r, hd, hr, hk, hio, h => by
    have hg := hk g List.mem_cons_self
    have hk2 : NetOk n net := fun x hx => hk x (List.mem_cons_of_mem _ hx)
    obtain ⟨h1, h2⟩ := hio
    refine told_run net (d := cmpG d g) (r := cmpG r g) (by rw [cmpG_len]; exact hd) (by rw [cmpG_len]; exact hr) hk2 h2 ?_
    rcases h1 with h1 | ⟨h1, h3⟩
    · obtain ⟨a, b⟩ := g
      dsimp only at h1 hg
      obtain ⟨i, rfl⟩ : ∃ i : Nat, a = (i : Int) := ⟨a.toNat, by omega⟩
      subst h1
      exact told_step hd hr h (by omega)
    · rw [h1, h3]
      exact h
theorem cntT_mono (t : Int) (r : List Int) : ∀ {j k : Nat}, j ≤ k → k ≤ r.length → cntT t r j ≤ cntT t r k ∧ cntT t r k ≤ cntT t r j + (k - j) := fun {j k} h hk => by
  obtain ⟨d, rfl⟩ : ∃ d, k = j + d := ⟨k - j, by omega⟩
  induction d with
  | zero => exact ⟨Nat.le_refl _, by rw [Nat.add_zero]; omega⟩
  | succ d ih =>
    have q := ih (by omega) (by omega)
    have s := cntT_succ (t := t) (r := r) (j := j + d) (by omega)
    rw [show j + (d + 1) = j + d + 1 by omega, s]
    split <;> omega
theorem cnt_desc {n : Nat} {k j : Nat} (hj : j ≤ n) : cntT ((n : Int) - (k : Int)) (descI n) j = min j k := by
  induction j with
  | zero => rw [cntT_zero]; omega
  | succ j ih =>
    have v : (descI n).getD j 0 = (n : Int) - (j : Int) := by
      have := descI_val (n := n) (p := (j : Int)) (by omega) (by omega)
      unfold val at this
      rw [Int.toNat_natCast] at this
      exact this
    rw [cntT_succ (by rw [descI_len]; omega), ih (by omega), v]
    split <;> omega
theorem told_start {n : Nat} {x0 : List Int} (hl : x0.length = n) : Told n x0 (descI n) x0 := fun t j hj => by
  refine ⟨fun k hk => ?_, ⟨j, hj, ?_⟩⟩
  · show (cntT t x0 k : Int) + (cntT ((n : Int) - (k : Int)) (descI n) j : Int) - (k : Int) ≤ _
    rw [cnt_desc hj]
    by_cases c : k ≤ j
    · have := (cntT_mono t x0 c (by omega)).1
      omega
    · have := (cntT_mono t x0 (show j ≤ k by omega) (by omega)).2
      omega
  · show (cntT t x0 j : Int) + (cntT ((n : Int) - (j : Int)) (descI n) j : Int) - (j : Int) = _
    rw [cnt_desc hj]
    omega
theorem cnt_eq {r s : List Int} (hl : r.length = s.length) (h : ∀ t j, j ≤ r.length → cntT t r j = cntT t s j) : r = s := by
  refine List.ext_getElem hl fun i h1 h2 => ?_
  have v1 : r.getD i 0 = r[i] := by rw [List.getD_eq_getElem?_getD, List.getElem?_eq_getElem h1]; rfl
  have v2 : s.getD i 0 = s[i] := by rw [List.getD_eq_getElem?_getD, List.getElem?_eq_getElem h2]; rfl
  have key : ∀ t : Int, t < r.getD i 0 ↔ t < s.getD i 0 := fun t => by
    have a1 := h t i (by omega)
    have a2 := h t (i + 1) (by omega)
    rw [cntT_succ h1, cntT_succ h2, a1] at a2
    by_cases c1 : t < r.getD i 0 <;> by_cases c2 : t < s.getD i 0
    · exact ⟨fun _ => c2, fun _ => c1⟩
    · rw [if_pos c1, if_neg c2] at a2
      omega
    · rw [if_neg c1, if_pos c2] at a2
      omega
    · exact ⟨fun z => absurd z c1, fun z => absurd z c2⟩
  rw [v1, v2] at key
  have k1 := (key (r[i] - 1)).mp (by omega)
  have k2 := (key (s[i] - 1)).mpr (by omega)
  omega
theorem ky_fold {row : List Int} {net : List Gate} {n : Nat} (hl : row.length = n) (h : NetOk n net) {k : Nat} (hk : k ≤ net.length) {l : Nat} (h2 : l < n) : kyK row net k l = (foldC row (net.take k)).getD l 0 := by
  have ht : NetOk row.length (net.take k) := by
    rw [hl]
    exact fun g hg => h g (List.mem_of_mem_take hg)
  rw [← out_fold ht, out_ky hl h2]
  unfold kyK plK
  rw [List.length_take, Nat.min_eq_left hk, runK_take k (Nat.le_refl _) hk]
theorem take_mid {A : List Gate} {g : Gate} {B : List Gate} : (A ++ g :: B).take A.length = A ∧ (A ++ g :: B).getD A.length (0, 0) = g := by
  refine ⟨List.take_left, ?_⟩
  rw [List.getD_eq_getElem?_getD, List.getElem?_append_right (Nat.le_refl _), Nat.sub_self]
  rfl
theorem cmp_still {d : List Int} {g : Gate} (h : ¬ d.getD g.2.toNat 0 < d.getD g.1.toNat 0) : cmpG d g = d := if_neg h
theorem tame_idle {n : Nat} {net : List Gate} (h : NetOk n net) (t : Tame n net net.length) {row : List Int} (hl : row.length = n) : ∀ (B A : List Gate), net = A ++ B → idleOr (foldC (descI n) A) (foldC row A) B
  | [], _, _ => trivial
  | g :: B, A, e => by
    have hlen : net.length = A.length + (B.length + 1) := by rw [e, List.length_append, List.length_cons]
    have hA : A.length < net.length := by omega
    have tm := take_mid (A := A) (g := g) (B := B)
    rw [← e] at tm
    have hg := gij h hA
    have g1 : gi net A.length = g.1.toNat := by unfold gi; rw [tm.2]
    have g2 : gj net A.length = g.2.toNat := by unfold gj; rw [tm.2]
    have hgo := h g (by rw [e]; exact List.mem_append_right _ List.mem_cons_self)
    refine ⟨?_, ?_⟩
    · by_cases nr : g.2 = g.1 + 1
      · exact .inl nr
      · refine .inr ?_
        have nd : ¬ Ex (descI n) net A.length := fun ex => nr (by
          have := t A.length hA ex
          rw [g1, g2] at this
          omega)
        have nx : ¬ Ex row net A.length := fun ex => nd (tame_ex hl h (Nat.le_refl _) t hA ex)
        have k1 := ky_fold (descI_len n) h (Nat.le_of_lt hA) (l := g.1.toNat) (by omega)
        have k2 := ky_fold (descI_len n) h (Nat.le_of_lt hA) (l := g.2.toNat) (by omega)
        have k3 := ky_fold hl h (Nat.le_of_lt hA) (l := g.1.toNat) (by omega)
        have k4 := ky_fold hl h (Nat.le_of_lt hA) (l := g.2.toNat) (by omega)
        rw [tm.1] at k1 k2 k3 k4
        unfold Ex at nd nx
        rw [g1, g2] at nd nx
        rw [k1, k2] at nd
        rw [k3, k4] at nx
        exact ⟨cmp_still nd, cmp_still nx⟩
    · have := tame_idle h t hl B (A ++ [g]) (by rw [e, List.append_assoc]; rfl)
      rw [foldC_snoc, foldC_snoc] at this
      exact this
/-- of one image, both lead keys alike -/
theorem one_out {n : Nat} {A B : List Gate} (hA : NetOk n A) (hB : NetOk n B) (tA : Tame n A A.length) (tB : Tame n B B.length) (e : imgN n A = imgN n B) {row : List Int} (hl : row.length = n) : runO row A = runO row B := by
  have dA : NetOk (descI n).length A := by rw [descI_len]; exact hA
  have dB : NetOk (descI n).length B := by rw [descI_len]; exact hB
  have oA := told_run A (descI_len n) hl hA (tame_idle hA tA hl A [] rfl) (told_start hl)
  have oB := told_run B (descI_len n) hl hB (tame_idle hB tB hl B [] rfl) (told_start hl)
  have e2 : foldC (descI n) A = foldC (descI n) B := by
    rw [← out_fold dA, ← out_fold dB]
    exact e
  have o1 : NetOk row.length A := by rw [hl]; exact hA
  have o2 : NetOk row.length B := by rw [hl]; exact hB
  rw [out_fold o1, out_fold o2]
  rw [e2] at oA
  refine cnt_eq (by rw [foldC_len, foldC_len]) fun t j hj => ?_
  rw [foldC_len, hl] at hj
  have := (oA t j hj).uniq (oB t j hj)
  omega
/-! ### things, not keys alone -/
def rfN (n : Nat) (row : List Int) : List Int := (List.range n).map fun (p : Nat) => row.getD p 0 * (n : Int) + (p : Int)
theorem rfN_len (n : Nat) (row : List Int) : (rfN n row).length = n := by
  unfold rfN
  rw [List.length_map, List.length_range]
theorem rfN_val {n : Nat} {row : List Int} {p : Int} (h0 : 0 ≤ p) (h : p < n) : val (rfN n row) p = val row p * (n : Int) + p := by
  unfold val rfN
  rw [List.getD_eq_getElem?_getD, List.getElem?_map, List.getElem?_range (by omega)]
  show row.getD p.toNat 0 * (n : Int) + (p.toNat : Int) = _
  rw [Int.toNat_of_nonneg h0]
theorem mul_lt {a b p q : Int} {n : Nat} (hp : 0 ≤ p ∧ p < n) (hq : 0 ≤ q ∧ q < n) (h : a < b) : a * (n : Int) + p < b * (n : Int) + q := by
  have h1 : (a + 1) * (n : Int) ≤ b * (n : Int) := Int.mul_le_mul_of_nonneg_right (by omega) (by omega)
  rw [Int.add_mul, Int.one_mul] at h1
  omega
theorem fine_run {n : Nat} {net : List Gate} (h : NetOk n net) (t : Tame n net net.length) {row : List Int} (hl : row.length = n) : ∀ k, k ≤ net.length → runK (rfN n row) net k = runK row net k
  | 0, _ => by
    show ((rngI (rfN n row).length), ([] : List Int)) = (rngI row.length, [])
    rw [rfN_len, hl]
  | k + 1, hk => by
    have ih := fine_run h t hl k (by omega)
    have hr : NetOk row.length net := by rw [hl]; exact h
    have g := gij h (k := k) (by omega)
    have m1 := pl_mem hr (k := k) (by omega) (a := gi net k) (by omega)
    have m2 := pl_mem hr (k := k) (by omega) (a := gj net k) (by omega)
    rw [hl] at m1 m2
    have ex : Ex (rfN n row) net k ↔ Ex row net k := by
      have e1 : kyK (rfN n row) net k (gi net k) = val row (plK row net k (gi net k)) * (n : Int) + plK row net k (gi net k) := by
        have ep : plK (rfN n row) net k (gi net k) = plK row net k (gi net k) := by unfold plK; rw [ih]
        unfold kyK
        rw [ep, rfN_val m1.1 m1.2]
      have e2 : kyK (rfN n row) net k (gj net k) = val row (plK row net k (gj net k)) * (n : Int) + plK row net k (gj net k) := by
        have ep : plK (rfN n row) net k (gj net k) = plK row net k (gj net k) := by unfold plK; rw [ih]
        unfold kyK
        rw [ep, rfN_val m2.1 m2.2]
      have st := tame_stable hl h (Nat.le_refl _) t k (by omega) (gi net k) (gj net k) g.1 g.2
      have i1 : kyK row net k (gi net k) = val row (plK row net k (gi net k)) := rfl
      have i2 : kyK row net k (gj net k) = val row (plK row net k (gj net k)) := rfl
      unfold Ex
      rw [e1, e2]
      rw [i1, i2] at st ⊢
      generalize val row (plK row net k (gi net k)) = x at st ⊢
      generalize val row (plK row net k (gj net k)) = y at st ⊢
      generalize plK row net k (gi net k) = p at st m1 ⊢
      generalize plK row net k (gj net k) = q at st m2 ⊢
      rcases Int.lt_trichotomy x y with c | c | c
      · have := mul_lt (n := n) m1 m2 c
        constructor <;> intro z <;> omega
      · have := st c
        subst c
        constructor <;> intro z <;> omega
      · have := mul_lt (n := n) m2 m1 c
        constructor <;> intro z <;> omega
    by_cases c : Ex row net k
    · rw [runK_yes c, runK_yes (ex.mpr c), ih]
    · rw [runK_no c, runK_no (fun z => c (ex.mp z)), ih]
theorem one_came {n : Nat} {A B : List Gate} (hA : NetOk n A) (hB : NetOk n B) (tA : Tame n A A.length) (tB : Tame n B B.length) (e : imgN n A = imgN n B) {row : List Int} (hl : row.length = n) : runP row A = runP row B := by
  have f1 : runP row A = runP (rfN n row) A := by
    unfold runP
    rw [fine_run hA tA hl _ (Nat.le_refl _)]
  have f2 : runP row B = runP (rfN n row) B := by
    unfold runP
    rw [fine_run hB tB hl _ (Nat.le_refl _)]
  have o := one_out hA hB tA tB e (rfN_len n row)
  rw [f1, f2]
  have rA : NetOk (rfN n row).length A := by rw [rfN_len]; exact hA
  have rB : NetOk (rfN n row).length B := by rw [rfN_len]; exact hB
  refine List.ext_getElem (by rw [runP_len, runP_len]) fun i h1 h2 => ?_
  have p1 := runP_mem rA (List.getElem_mem h1)
  have p2 := runP_mem rB (List.getElem_mem h2)
  rw [rfN_len] at p1 p2
  have v : val (rfN n row) (runP (rfN n row) A)[i] = val (rfN n row) (runP (rfN n row) B)[i] := by
    have q1 : (runO (rfN n row) A)[i]? = some (val (rfN n row) (runP (rfN n row) A)[i]) := by
      unfold runO
      rw [List.getElem?_map, List.getElem?_eq_getElem h1]
      rfl
    have q2 : (runO (rfN n row) B)[i]? = some (val (rfN n row) (runP (rfN n row) B)[i]) := by
      unfold runO
      rw [List.getElem?_map, List.getElem?_eq_getElem h2]
      rfl
    rw [o, q2] at q1
    exact (Option.some.inj q1).symm
  rw [rfN_val p1.1 p1.2, rfN_val p2.1 p2.2] at v
  generalize val row (runP (rfN n row) A)[i] = x at v
  generalize val row (runP (rfN n row) B)[i] = y at v
  rcases Int.lt_trichotomy x y with c | c | c
  · have := mul_lt (n := n) p1 p2 c
    omega
  · subst c
    omega
  · have := mul_lt (n := n) p2 p1 c
    omega
end K33

set_option maxRecDepth 100000
set_option maxHeartbeats 4000000
namespace K33
open PySem PySem.Spec PyProof.Rows L2 DL
/-! ### the gates at work, rows led back -/
section
variable {P : Program} {w : World} {K : PySem.W.Frag} {mg : Str → Option Value} {base : Heap}
def R_at : FR := fun as ob r ob' => ∃ (n : Nat) (net : List Gate), as = [.dat (.int (n : Int)), .dat (nD net)] ∧ NetIn n net ∧ ob = [] ∧ r = .dat (nD (atW n net)) ∧ ob' = []
theorem scat_work : FnScope ["n", "network", "spot"] ["n", "network"] (defScope sat_work) := ⟨rfl, rfl, rfl, by decide +kernel, rfl, by decide +kernel, by decide +kernel⟩
theorem okat_work (D : Df K mg "at_work" sat_work ["n", "network"]) (B : Bi mg) (Cc : Cls K mg) (Dexchanged : Df K mg "exchanged" sexchanged ["network", "row"]) (D_run : Df K mg "_run" s_run ["network", "row"]) (Ddescending : Df K mg "descending" sdescending ["n"]) : FnG P w K mg base CX0 3 D.f D.fd ["n", "network"] (spD K 2 R_at) := by
  have okexchanged : FnG P w K mg base CX0 2 _ _ _ _ := okexchanged Dexchanged B Cc D_run
  have okdescending : FnG P w K mg base CX0 1 _ _ _ _ := okdescending Ddescending B Cc
  refine okG D.F scat_work (fun vs H Q E h => h.1) (fun cdv A outer s H vs Q E hr gd h => ?_)
  have hu := huX hr
  refine ⟨_, (pss_one (ps_ret (pe_callTy cb_tuple (by rfl) B.z_tuple (by decide +kernel) (pa_cons (pe_lc (own := [("spot", 2)]) (g := gName 2) (tt := tYes) (by rfl) scat_work.nd (pi_tup (pe_callG (okexchanged) (hr.mono (by decide)) gd (by rfl) Dexchanged.m Dexchanged.F.kp Dexchanged.b .nil pass0 (pa_cons (pv 1) (pa_cons (pe_callG (okdescending) (hr.mono (by decide)) gd (by rfl) Ddescending.m Ddescending.F.kp Ddescending.b .nil pass0 (pa_cons (pv 0) pa_nil)) pa_nil)))) (blkOk_by (own := [("spot", 2)]) (N := ["n", "network", "spot"]) (sc := defScope sat_work) (by decide +kernel)) (fun _ _ _ _ _ => (pg_name (i := 2) scat_work.nd rfl (Or.inl rfl))) (fun _ _ _ _ _ => pts_nil) (fun _ _ _ _ _ => (pe_ix (ixK K (R := rIx) ix_seq rfl) (pv 1) (pv 2) (fun _ _ => rfl)))) pa_nil)))), ?_⟩
  refine body_of h (by decide) fun as ob r ob' hR hl => ?_
  obtain ⟨n, net, rfl, hi, rfl, rfl, rfl⟩ := hR
  have sl := runS_len (descI n) net
  have hn := hi.2.2
  have hz := hi.2.1
  refine ts_ret (S1 := ⟨[.dat (.int (n : Int)), .dat (nD net), .un], []⟩) (ee_cb (ea_cons (x := .dat (.list ((atW n net).map gD))) (ee_of_el ?_) ea_nil) (rc_tupL (.dat _))) ⟨rfl, rfl⟩
  unfold atW
  rw [List.map_map]
  refine el_lcmA (dA := PyData.int) (lst := runS (descI n) net) (S0 := ⟨[.dat (.int (n : Int)), .dat (nD net), .un], []⟩) (ei_tup (ee_callD (d := rD (runS (descI n) net)) (ed_cons (ee_var rfl) (ed_cons (ee_callD (d := rD (descI n)) (ed_cons (ee_var rfl) ed_nil) rfl ⟨n, rfl, by omega, rfl, rfl, rfl⟩) ed_nil)) rfl ⟨net, descI n, rfl, hi.good, rfl, rfl, rfl⟩)) (by omega) fun s hs => ?_
  have hb := runK_spot _ s hs
  exact ⟨_, egc_name (by decide), rfl, _, ee_op (ee_var rfl) (ee_var rfl) (ro_ixT (gAt_at hb.1 hb.2)), rfl⟩
def R_back : FR := fun as ob r ob' => ∃ (gates : List Gate) (row : List Int), as = [.dat (nD gates), .dat (rD row)] ∧ NetOk row.length gates ∧ row.length ≤ 100 ∧ ob = [] ∧ r = .dat (rD (lbL gates row)) ∧ ob' = []
end
end K33

set_option maxRecDepth 100000
set_option maxHeartbeats 4000000
namespace K33
open PySem PySem.Spec PyProof.Rows L2 DL
/-! ### as few gates as can be -/
section
variable {P : Program} {w : World} {K : PySem.W.Frag} {mg : Str → Option Value} {base : Heap}
def R_least : FR := fun as ob r ob' => ∃ (n : Nat) (net : List Gate), as = [.dat (.int (n : Int)), .dat (nD net)] ∧ NetIn n net ∧ kaB n net = true ∧ ob = [] ∧ r = .dat (nD (atW n net)) ∧ ob' = []
def R_leastX (Cc : Cls K mg) : FX := fun as cls x => ∃ (n : Nat) (net : List Gate), as = [.dat (.int (n : Int)), .dat (nD net)] ∧ NetIn n net ∧ kaB n net = false ∧ cls = .ref Cc.aUnfit ∧ x = none
theorem scleast_network : FnScope ["n", "network"] ["n", "network"] (defScope sleast_network) := ⟨rfl, rfl, rfl, by decide +kernel, rfl, by decide +kernel, by decide +kernel⟩
theorem okleast_network (D : Df K mg "least_network" sleast_network ["n", "network"]) (B : Bi mg) (Cc : Cls K mg) (Dexchanged : Df K mg "exchanged" sexchanged ["network", "row"]) (D_run : Df K mg "_run" s_run ["network", "row"]) (Ddescending : Df K mg "descending" sdescending ["n"]) (Dat_work : Df K mg "at_work" sat_work ["n", "network"]) (Dis_far : Df K mg "is_far" sis_far ["gate"]) (Dfirst_far : Df K mg "first_far" sfirst_far ["network", "spots"]) (Dkeeps_all : Df K mg "keeps_all" skeeps_all ["n", "network"]) (Dkept_all_gates : Df K mg "kept_all_gates" skept_all_gates ["n", "network"]) : FnG P w K mg base (L2.CX P w) 5 D.f D.fd ["n", "network"] (spX K 2 R_least (R_leastX Cc)) := by
  have okat_work : FnG P w K mg base CX0 3 _ _ _ _ := okat_work Dat_work B Cc Dexchanged D_run Ddescending
  have okkeeps_all : FnG P w K mg base CX0 4 _ _ _ _ := okkeeps_all Dkeeps_all B Cc Dexchanged D_run Ddescending Dis_far Dfirst_far Dkept_all_gates
  refine okGX D.F scleast_network (fun vs H Q E h => h.1) (fun cdv A outer s H vs Q E hr gd h => ?_)
  have hu := huX hr
  refine ⟨_, (pss_cons (ps_if (PT.nox (pt_not (pt_val (pe_callG (okkeeps_all) (hr.mono (by decide)) gd (by rfl) Dkeeps_all.m Dkeeps_all.F.kp Dkeeps_all.b .nil pass0 (pa_cons (pv 0) (pa_cons (pv 1) pa_nil)))))) (pss_one (ps_raise rfl (takes_of rfl rfl rfl rfl) (pmk_own0 Cc.qUnfit Cc.eUnfit (by rfl)))) pss_nil)
      (pss_one (ps_ret (PE.nox (pe_callG (okat_work) (hr.mono (by decide)) gd (by rfl) Dat_work.m Dat_work.F.kp Dat_work.b .nil pass0 (pa_cons (pv 0) (pa_cons (pv 1) pa_nil))))))), ?_⟩
  refine body_ofX h (by decide) (fun as ob r ob' hR => ?_) (fun as ob r ob' hR hl => ?_) fun as cls x hR hl => ?_
  · obtain ⟨n, net, rfl, _, _, rfl, rfl, rfl⟩ := hR
    exact ⟨Nat.le_refl _, fun _ z => by cases z⟩
  · obtain ⟨n, net, rfl, hi, hk, rfl, rfl, rfl⟩ := hR
    refine ts_seq (ts_if (b := false) (et_eq (et_not (et_B (ee_callD (ed_cons (ee_var rfl) (ed_cons (ee_var rfl) ed_nil)) rfl ⟨n, net, rfl, hi, rfl, rfl, rfl⟩))) (by rw [hk]; rfl)) (fun z => by cases z) fun _ => ts_next ?_)
    exact ts_ret (ee_callD (ed_cons (ee_var rfl) (ed_cons (ee_var rfl) ed_nil)) rfl ⟨n, net, rfl, hi, rfl, rfl, rfl⟩) ⟨rfl, List.nil_prefix⟩
  · obtain ⟨n, net, rfl, hi, hk, rfl, rfl⟩ := hR
    refine tx_seq (tx_if (b := true) (et_eq (et_not (et_B (ee_callD (ed_cons (ee_var rfl) (ed_cons (ee_var rfl) ed_nil)) rfl ⟨n, net, rfl, hi, rfl, rfl, rfl⟩))) (by rw [hk]; rfl)) (fun _ => ?_) fun z => by cases z)
    exact tx_raise0 ⟨rfl, rfl⟩
end
end K33

set_option maxRecDepth 100000
set_option maxHeartbeats 4000000
namespace K33
open PySem PySem.Spec PyProof.Rows L2 DL
/-! ### the law's rows, its looks -/
theorem pick_at {l : List Int} {W : Well} (h : 0 < l.length) : (l.map PyData.int)[(draw (((l.map PyData.int).length : Nat) : Int) W).1.toNat]? = some (.int (l.getD (draw (((l.map PyData.int).length : Nat) : Int) W).1.toNat 0)) := by
  have h1 := draw_lo (((l.map PyData.int).length : Nat) : Int) W
  have h2 := draw_hi (m := (((l.map PyData.int).length : Nat) : Int)) W (by rw [List.length_map]; omega)
  have hi : (draw (((l.map PyData.int).length : Nat) : Int) W).1.toNat < l.length := by
    rw [List.length_map] at h2 h1 ⊢
    omega
  rw [List.length_map] at hi ⊢
  rw [List.getElem?_map, List.getElem?_eq_getElem hi, List.getD_eq_getElem?_getD, List.getElem?_eq_getElem hi]
  rfl
theorem rep_net (k : Nat) (net : List Gate) : repD k (net.map gD) = ((List.replicate k net).flatten).map gD := by
  induction k with
  | zero => rfl
  | succ k ih =>
    rw [repD_succ, ih, List.replicate_succ, List.flatten_cons, List.map_append]
theorem rep_ok {n : Nat} {net : List Gate} (h : NetOk n net) (k : Nat) : NetOk n (List.replicate k net).flatten := fun g hg => by
  obtain ⟨l, hl, hg⟩ := List.mem_flatten.mp hg
  rw [List.eq_of_mem_replicate hl] at hg
  exact h g hg
theorem rep_len (net : List Gate) : ∀ k, ((List.replicate k net).flatten).length = k * net.length
  | 0 => by simp
  | k + 1 => by
    rw [List.replicate_succ, List.flatten_cons, List.length_append, rep_len net k, Nat.succ_mul]
    omega
def topsI (n : Nat) : List Int := [3, 4, (n : Int)]
def keyM (way : Int) : Int := if decide (way = 3) = true then 1 else 4 * (10 : Int) ^ (10 : Int).toNat
def keyG (way top : Int) (W : Well) : Int × Well := ((draw top W).1 * keyM way - 2 * (way - 3), (draw top W).2)
def keysOf (n : Nat) (W : Well) : List Int × Well :=
  if (draw 5 W).1 < 2 then mixedOf 0 n (rngI n) (draw 5 W).2
  else if (draw 5 W).1 = 2 then mapW (draw 2) n (draw 5 W).2
  else mapW (keyG (draw 5 W).1 ((topsI n).getD (draw 3 (draw 5 W).2).1.toNat 0)) n (draw 3 (draw 5 W).2).2
theorem keyG_deep (way top : Int) (W : Well) (h : W.deep.length ≤ 100) : (keyG way top W).2.deep.length ≤ 100 := draw_deep top W h
theorem keysOf_len (n : Nat) (W : Well) : (keysOf n W).1.length = n := by
  unfold keysOf
  split
  · rw [(mixed_perm 0 n (rngI n) _ (rngI_len n)).length_eq, rngI_len]
  split
  · exact mapW_len _ _ n
  · exact mapW_len _ _ n
theorem keysOf_deep (n : Nat) (W : Well) (h : W.deep.length ≤ 100) : (keysOf n W).2.deep.length ≤ 100 := by
  unfold keysOf
  split
  · exact mixed_deep _ _ _ _ (draw_deep 5 W h)
  split
  · exact mapW_deep (fun W h => draw_deep 2 W h) (draw_deep 5 W h) n
  · exact mapW_deep (keyG_deep _ _) (draw_deep 3 _ (draw_deep 5 W h)) n
theorem keyM_ok (way : Int) : -(2 ^ 64) < keyM way ∧ keyM way < 2 ^ 64 := by
  unfold keyM
  split <;> decide
theorem topsI_ok {n : Nat} (hn : n ≤ 100) (i : Nat) : (topsI n).getD i 0 ≤ 100 := by
  match i with
  | 0 => exact (by decide : (3 : Int) ≤ 100)
  | 1 => exact (by decide : (4 : Int) ≤ 100)
  | 2 => exact (by omega : (n : Int) ≤ 100)
  | i + 3 => exact (by decide : (0 : Int) ≤ 100)
section
variable {P : Program} {w : World} {K : PySem.W.Frag} {mg : Str → Option Value} {base : Heap}
def R_keys : FR := fun as ob r ob' => ∃ (W : Well) (n : Nat), as = [.own 0, .dat (.int (n : Int))] ∧ ob = [W.oo] ∧ W.deep.length ≤ 100 ∧ n ≤ 100 ∧ r = .dat (rD (keysOf n W).1) ∧ ob' = [(keysOf n W).2.oo]
abbrev Sk (n : Nat) (W : Well) (a b c : SD) : SS := ⟨[.own 0, .dat (.int (n : Int)), a, b, c], [W.oo]⟩
theorem sc_law_keys : FnScope ["loom", "wide", "way", "line", "top"] ["loom", "wide"] (defScope s_law_keys) := ⟨rfl, rfl, rfl, by decide +kernel, rfl, by decide +kernel, by decide +kernel⟩
theorem ok_law_keys (D : Df K mg "_law_keys" s_law_keys ["loom", "wide"]) (B : Bi mg) (Cc : Cls K mg) (D_law_draw : Df K mg "_law_draw" s_law_draw ["loom", "many"]) (D_law_pick : Df K mg "_law_pick" s_law_pick ["loom", "things"]) (D_law_mixed : Df K mg "_law_mixed" s_law_mixed ["loom", "things"]) : FnG P w K mg base CX0 3 D.f D.fd ["loom", "wide"] (spD K 2 R_keys) := by
  have ok_law_draw : FnG P w K mg base CX0 1 _ _ _ _ := ok_law_draw D_law_draw B Cc
  have ok_law_pick : FnG P w K mg base CX0 2 _ _ _ _ := ok_law_pick D_law_pick B Cc D_law_draw
  have ok_law_mixed : FnG P w K mg base CX0 2 _ _ _ _ := ok_law_mixed D_law_mixed B Cc D_law_draw
  refine okG D.F sc_law_keys (fun vs H Q E h => h.1) (fun cdv A outer s H vs Q E hr gd h => ?_)
  have hu := huX hr
  refine ⟨_, (pss_cons (ps_set (i := 2) sc_law_keys.nd rfl (Or.inr rfl) (pe_callG (ok_law_draw) (hr.mono (by decide)) gd (by rfl) D_law_draw.m D_law_draw.F.kp D_law_draw.b .nil pass0 (pa_cons (pv 0) (pa_cons pe_int pa_nil))))
      (pss_cons (ps_if (pt_cmpR (op_ltU hu) (pv 2) pe_int (nomark _)) (pss_one (ps_ret (pe_callTy cb_tuple (by rfl) B.z_tuple (by decide +kernel) (pa_cons (pe_callG (ok_law_mixed) (hr.mono (by decide)) gd (by rfl) D_law_mixed.m D_law_mixed.F.kp D_law_mixed.b .nil pass0 (pa_cons (pv 0) (pa_cons (pe_listRg rfl (by rfl) B.z_list (prg_1 (by rfl) B.z_range (pv 1))) pa_nil))) pa_nil)))) pss_nil)
      (pss_cons (ps_if (pt_cmpR (op_eqU hu) (pv 2) pe_int (nomark _)) (pss_one (ps_ret (pe_callTy cb_tuple (by rfl) B.z_tuple (by decide +kernel) (pa_cons (pe_lc (own := [("line", 3)]) (g := gName 3) (tt := tYes) (by rfl) sc_law_keys.nd (pi_range1 (by rfl) B.z_range (pa_cons (pv 1) pa_nil)) (blkOk_by (own := [("line", 3)]) (N := ["loom", "wide", "way", "line", "top"]) (sc := defScope s_law_keys) (by decide +kernel)) (fun _ _ _ _ _ => (pg_name (i := 3) sc_law_keys.nd rfl (Or.inl rfl))) (fun _ _ _ _ _ => pts_nil) (fun _ _ _ _ _ => (pe_callG (ok_law_draw) (hr.mono (by decide)) gd (by rfl) D_law_draw.m D_law_draw.F.kp D_law_draw.b .nil pass0 (pa_cons (pv 0) (pa_cons pe_int pa_nil))))) pa_nil)))) pss_nil)
      (pss_cons (ps_set (i := 4) sc_law_keys.nd rfl (Or.inr rfl) (pe_callG (ok_law_pick) (hr.mono (by decide)) gd (by rfl) D_law_pick.m D_law_pick.F.kp D_law_pick.b .nil pass0 (pa_cons (pv 0) (pa_cons (pe_lst (pa_cons pe_int (pa_cons pe_int (pa_cons (pv 1) pa_nil)))) pa_nil))))
      (pss_one (ps_ret (pe_callTy cb_tuple (by rfl) B.z_tuple (by decide +kernel) (pa_cons (pe_lc (own := [("line", 3)]) (g := gName 3) (tt := tYes) (by rfl) sc_law_keys.nd (pi_range1 (by rfl) B.z_range (pa_cons (pv 1) pa_nil)) (blkOk_by (own := [("line", 3)]) (N := ["loom", "wide", "way", "line", "top"]) (sc := defScope s_law_keys) (by decide +kernel)) (fun _ _ _ _ _ => (pg_name (i := 3) sc_law_keys.nd rfl (Or.inl rfl))) (fun _ _ _ _ _ => pts_nil) (fun _ _ _ _ _ => (pe_op op_subU (pe_op (opK K (R := rMulU) op_mulU rfl) (pe_callG (ok_law_draw) (hr.mono (by decide)) gd (by rfl) D_law_draw.m D_law_draw.F.kp D_law_draw.b .nil pass0 (pa_cons (pv 0) (pa_cons (pv 4) pa_nil))) (pe_ifExp (pt_cmpR (opK K (R := rEqU) (op_eqU hu) rfl) (pv 2) pe_int (nomark _)) pe_int (pe_op (opK K (R := rMulU) op_mulU rfl) pe_int (pe_op op_powU pe_int pe_int)))) (pe_op (opK K (R := rMulU) op_mulU rfl) pe_int (pe_op op_subU (pv 2) pe_int))))) pa_nil)))))))), ?_⟩
  refine body_of h (by decide) fun as ob r ob' hR hl => ?_
  obtain ⟨W, n, rfl, rfl, hd, hn, rfl, rfl⟩ := hR
  have d1 := draw_deep 5 W hd
  have rng : ∀ (S : SS) (W1 : Well) (a : SD), Ei K (iRng1 (tCons (tVar 1) tNil)) (Sk n W1 (.dat (.int (draw 5 W).1)) .un a) (rngD 0 n) (Sk n W1 (.dat (.int (draw 5 W).1)) .un a) := fun S W1 a => by
    have := ei_rng1 (K := K) (S := Sk n W1 (.dat (.int (draw 5 W).1)) .un a) (n := (n : Int)) (ed_cons (ee_var (i := 1) rfl) ed_nil) (by omega)
    rw [Int.toNat_natCast] at this
    exact this
  refine ts_seq (ts_asg (x := .dat (.int (draw 5 W).1)) (S1 := Sk n (draw 5 W).2 .un .un .un) (ee_dr (W := W) (k := 0) (S1 := Sk n W .un .un .un) (ea_cons (ee_var rfl) (ea_cons ee_int ea_nil)) rfl (by decide) hd) ?_)
  show Ts K _ (Sk n (draw 5 W).2 (.dat (.int (draw 5 W).1)) .un .un) _
  unfold keysOf
  generalize (draw 5 W).1 = way at rng ⊢
  generalize (draw 5 W).2 = W1 at d1 ⊢
  refine ts_seq (ts_if (et_test (ee_op (ee_var rfl) ee_int ro_lt)) (fun hb => ?_) fun hb => ts_next ?_)
  · rw [if_pos (of_decide_eq_true hb)]
    have R : R_mixed [.own 0, .dat (.list (rngD 0 n))] [W1.oo] (.dat (.list ((mixedOf 0 n (rngI n) W1).1.map PyData.int))) [(mixedOf 0 n (rngI n) W1).2.oo] := by
      have q := mixed_map 0 PyData.int n (rngI n) W1
      rw [← rngD_map] at q
      refine ⟨W1, rngD 0 n, .int 0, rfl, rfl, d1, by rw [rngD_len]; omega, fun x hx => ?_, ?_, ?_⟩
      · rw [rngD_map] at hx
        exact Fl.rI hx
      · rw [rngD_len, q]
      · rw [rngD_len, q]
    exact ts_ret (ee_cb (ea_cons (ee_w1 (k := 0) (W := W1) (W' := (mixedOf 0 n (rngI n) W1).2) (S1 := Sk n W1 (.dat (.int way)) .un .un) [.list (rngD 0 n)] (ea_cons (ee_var rfl) (ea_cons (ee_rng1 (i := (n : Int)) (ee_var rfl) (by omega)) ea_nil)) rfl rfl R) ea_nil) (rc_tupL (.dat _))) ⟨rfl, rfl⟩
  rw [if_neg (of_decide_eq_false hb)]
  refine ts_seq (ts_if (et_test (ee_op (ee_var rfl) ee_int ro_eqI)) (fun hb => ?_) fun hb => ts_next ?_)
  · rw [if_pos (of_decide_eq_true hb)]
    exact ts_ret (ee_cb (ea_cons (ee_of_el (el_mapW (g := draw 2) (dB := PyData.int) (n := n) (W := W1) (rng ⟨[], []⟩ W1 .un) rfl (by omega) d1 (fun W h => draw_deep 2 W h) fun i W' hi hd' => ⟨_, egc_name (by decide), _, ee_dr (W := W') (k := 0) (ea_cons (ee_var rfl) (ea_cons ee_int ea_nil)) rfl (by decide) hd', rfl⟩)) ea_nil) (rc_tupL (.dat _))) ⟨rfl, rfl⟩
  rw [if_neg (of_decide_eq_false hb)]
  have d3 := draw_deep 3 W1 d1
  have tk := topsI_ok hn (draw 3 W1).1.toNat
  refine ts_seq (ts_asg (x := .dat (.int ((topsI n).getD (draw 3 W1).1.toNat 0))) (S1 := Sk n (draw 3 W1).2 (.dat (.int way)) .un .un) (ee_pck (W := W1) (k := 0) (ds := (topsI n).map PyData.int) (S1 := Sk n W1 (.dat (.int way)) .un .un) (ea_cons (ee_var rfl) (ea_cons (ee_lst (ds := (topsI n).map PyData.int) (ed_cons ee_int (ed_cons ee_int (ed_cons (ee_var rfl) ed_nil))) (show (3 : Nat) ≤ 1000000 by decide)) ea_nil)) rfl rfl (pick_at (l := topsI n) (show (0 : Nat) < 3 by decide)) (show (3 : Nat) ≤ 1000 by decide) d1) ?_)
  show Ts K _ (Sk n (draw 3 W1).2 (.dat (.int way)) .un (.dat (.int ((topsI n).getD (draw 3 W1).1.toNat 0)))) _
  generalize (topsI n).getD (draw 3 W1).1.toNat 0 = top at tk ⊢
  generalize (draw 3 W1).2 = W2 at d3 ⊢
  exact ts_ret (ee_cb (ea_cons (ee_of_el (el_mapW (g := keyG way top) (dB := PyData.int) (n := n) (W := W2) (rng ⟨[], []⟩ W2 (.dat (.int top))) rfl (by omega) d3 (keyG_deep way top) fun i W' hi hd' => ⟨_, egc_name (by decide), _, ee_op (ee_op (S1 := ⟨[.own 0, .dat (.int (n : Int)), .dat (.int way), .dat (.int (0 + (i : Int))), .dat (.int top)], [(draw top W').2.oo]⟩) (ee_dr (W := W') (k := 0) (S1 := ⟨[.own 0, .dat (.int (n : Int)), .dat (.int way), .dat (.int (0 + (i : Int))), .dat (.int top)], [W'.oo]⟩) (ea_cons (ee_var rfl) (ea_cons (ee_var rfl) ea_nil)) rfl (by omega) hd') (ee_if (x := .dat (.int (keyM way))) (S2 := ⟨[.own 0, .dat (.int (n : Int)), .dat (.int way), .dat (.int (0 + (i : Int))), .dat (.int top)], [(draw top W').2.oo]⟩) (et_test (ee_op (ee_var rfl) ee_int ro_eqI)) (fun hb => ee_eq ee_int (by unfold keyM; rw [if_pos hb])) fun hb => ee_eq (ee_op ee_int (ee_op ee_int ee_int ro_pow) (ro_mulL (by decide))) (by unfold keyM; rw [if_neg (by rw [hb]; exact Bool.false_ne_true)])) (ro_mulR (keyM_ok way))) (ee_op ee_int (ee_op (ee_var rfl) ee_int ro_sub) (ro_mulL (by decide))) ro_sub, rfl⟩)) ea_nil) (rc_tupL (.dat _))) ⟨rfl, rfl⟩
theorem nc_netB {n : Nat} {net : List Gate} (h : NetOk n net) (hn : n ≤ 100) (hl : net.length ≤ 2000) : Nc 60 16000000 (nD net) := (Nc.tup (k := 1) (b := 3809) (m := 2000) (fun x hx => by
  obtain ⟨g, hg, rfl⟩ := List.mem_map.mp hx
  have := h g hg
  exact nc_two (k := 0) (Nc.ints (by omega)) (Nc.ints (by omega))) (by rw [List.length_map]; exact hl)).mono (by decide) (by decide)
end
end K33

set_option maxRecDepth 100000
set_option maxHeartbeats 4000000
namespace K33
open PySem PySem.Spec PyProof.Rows L2 DL
/-! ### keys on the lines, gate by gate -/
def keyK (row : List Int) (net : List Gate) (k : Nat) : List Int := (runK row net k).1.map (val row)
theorem keyK_len (row : List Int) (net : List Gate) (k : Nat) : (keyK row net k).length = row.length := (List.length_map ..).trans (runK_len row net k)
def swaps (row : List Int) (net : List Gate) (k : Nat) : Prop := (keyK row net k).getD (net.getD k (0, 0)).2.toNat 0 < (keyK row net k).getD (net.getD k (0, 0)).1.toNat 0
instance (row : List Int) (net : List Gate) (k : Nat) : Decidable (swaps row net k) := by
  unfold swaps
  infer_instance
theorem mapD (f : Int → Int) (pl : List Int) {m : Nat} (hm : m < pl.length) : (pl.map f).getD m 0 = f (pl.getD m 0) := by
  rw [List.getD_eq_getElem?_getD, List.getD_eq_getElem?_getD, List.getElem?_map, List.getElem?_eq_getElem hm]
  rfl
theorem swp_map (f : Int → Int) (pl : List Int) {i j : Nat} (hi : i < pl.length) (hj : j < pl.length) : (swp pl i j).map f = swp (pl.map f) i j := by
  unfold swp
  rw [List.map_set, List.map_set, mapD f pl hi, mapD f pl hj]
theorem run_step {row : List Int} {net : List Gate} (h : NetOk row.length net) {k : Nat} (hk : k < net.length) :
    keyK row net (k + 1) = (if swaps row net k then swp (keyK row net k) (net.getD k (0, 0)).1.toNat (net.getD k (0, 0)).2.toNat else keyK row net k) ∧ (runK row net (k + 1)).2 = (if swaps row net k then (runK row net k).2 ++ [(k : Int)] else (runK row net k).2) := by
  have hg := gate_at h hk
  have l := runK_len row net k
  have sw : swaps row net k ↔ val row ((runK row net k).1.getD (net.getD k (0, 0)).2.toNat 0) < val row ((runK row net k).1.getD (net.getD k (0, 0)).1.toNat 0) := by
    unfold swaps keyK
    rw [mapD _ _ (by omega), mapD _ _ (by omega)]
  have e : runK row net (k + 1) = stepR row k (net.getD k (0, 0)) (runK row net k) := rfl
  by_cases s : swaps row net k
  · rw [if_pos s, if_pos s]
    unfold keyK
    rw [e]
    unfold stepR
    rw [if_pos (sw.mp s)]
    exact ⟨swp_map _ _ (by omega) (by omega), rfl⟩
  · rw [if_neg s, if_neg s]
    unfold keyK
    rw [e]
    unfold stepR
    rw [if_neg (fun z => s (sw.mpr z))]
    exact ⟨rfl, rfl⟩
theorem keyK0 (row : List Int) (net : List Gate) : keyK row net 0 = row := rng_val row
end K33

set_option maxRecDepth 100000
set_option maxHeartbeats 4000000
namespace K33
open PySem PySem.Spec PyProof.Rows L2 DL
/-! ### pairs of places, words -/
abbrev Pr := Nat × Nat
def pD (x : Pr) : PyData := .tuple [.int (x.1 : Int), .int (x.2 : Int)]
def oD (ps : List Pr) : PyData := .tuple (ps.map pD)
/-- an order's pairs -/
def PrOk (n : Nat) (ps : List Pr) : Prop := ∀ x ∈ ps, x.1 < x.2 ∧ x.2 < n
theorem map_at {α : Type} {f : α → PyData} {l : List α} {i : Nat} {d : PyData} (h : (l.map f)[i]? = some d) : ∃ x, l[i]? = some x ∧ d = f x := by
  rw [List.getElem?_map] at h
  cases e : l[i]? with
  | none =>
    rw [e] at h
    cases h
  | some x =>
    rw [e] at h
    exact ⟨x, rfl, (Option.some.inj h).symm⟩
def rowOf : PyData → List Int
  | .tuple zs => zs.map toI
  | _ => []
theorem rowOf_rD (row : List Int) : rowOf (rD row) = row := by
  show (row.map PyData.int).map toI = row
  rw [List.map_map]
  exact List.map_id row
end K33

set_option maxRecDepth 100000
set_option maxHeartbeats 4000000
namespace K33
open PySem PySem.Spec PyProof.Rows L2 DL
/-! ### rows that are let -/
theorem rp_bools {K : PySem.W.Frag} {Hf : Hp} : ∀ {bs : List Bool} {xs : List V}, RpA K Hf xs (bs.map PyData.bool) → xs = bs.map V.bl
  | [], _, .nil => rfl
  | b :: bs, _, .cons h t => by
    cases h
    rw [rp_bools t]
    rfl
theorem rc_all {K : PySem.W.Frag} {S : SS} {bs : List Bool} : Rc K (rAll K) [.dat (.list (bs.map PyData.bool))] S (.dat (.bool (bs.all id))) S := fun c Hf H σ fp ok vs r Q q => by
  obtain ⟨v, rfl, rv⟩ := r.one
  cases rv with
  | lst h1 h2 => exact ⟨_, bs, rfl, .inl (.inl (by rw [← rp_bools h2]; exact ok.hd.ex _ _ h1)), q _ _ _ _ ok Gr.refl (Rp.bl _)⟩
theorem kI_at {row : List Int} {i : Nat} (h : i < row.length) : atI (row.map PyData.int) (i : Int) = some (.int (row.getD i 0)) := atI_nat (by
  rw [List.getElem?_map, List.getElem?_eq_getElem h, List.getD_eq_getElem?_getD, List.getElem?_eq_getElem h]
  rfl)
def letN (row : List Int) (x : Pr) : Bool := decide (row.getD x.1 0 ≤ row.getD x.2 0)
def letsN (ps : List Pr) (row : List Int) : Bool := ps.all (letN row)
section
variable {P : Program} {w : World} {K : PySem.W.Frag} {mg : Str → Option Value} {base : Heap}
def R_lets : FR := fun as ob r ob' => ∃ (ps : List Pr) (row : List Int), as = [.dat (.tuple (ps.map pD)), .dat (.tuple (row.map PyData.int))] ∧ ps.length ≤ 10000 ∧ (∀ x ∈ ps, x.1 < x.2 ∧ x.2 < row.length) ∧ ob = [] ∧ r = .dat (.bool (letsN ps row)) ∧ ob' = []
end
end K33

set_option maxRecDepth 100000
set_option maxHeartbeats 4000000
namespace K33
open PySem PySem.Spec PyProof.Rows L2 DL
/-! ### rows that are let, place by place -/
def belowN (ps : List Pr) (k : Nat) : List Nat := (ps.filter fun x => decide (x.2 = k)).map (·.1)
def leastN (row : List Int) (below : List Nat) : Int := maxDN 0 (below.map fun p => row.getD p 0)
def letKeys (row : List Int) (below : List Nat) (keys : List Int) : List Int := keys.filter fun key => decide (leastN row below ≤ key)
def letStep (ps : List Pr) (k : Nat) (keys : List Int) (found : List (List Int)) : List (List Int) := found.flatMap fun row => ((letKeys row (belowN ps k) keys).filter fun _ => true).map fun key => row ++ [key]
def letRk (ps : List Pr) (ch : List (List Int)) : Nat → List (List Int)
  | 0 => [[]]
  | k + 1 => letStep ps k (ch.getD k []) (letRk ps ch k)
def letR (ps : List Pr) (ch : List (List Int)) : List (List Int) := letRk ps ch ch.length
theorem letRk_row {ps : List Pr} {ch : List (List Int)} : ∀ {k : Nat}, ∀ row ∈ letRk ps ch k, row.length = k
  | 0, row, h => by
    rw [List.mem_singleton.mp h]
    rfl
  | k + 1, row, h => by
    obtain ⟨r, hr, h⟩ := List.mem_flatMap.mp h
    obtain ⟨key, _, rfl⟩ := List.mem_map.mp h
    rw [List.length_append, letRk_row r hr]
    rfl
theorem flat_le2 {α β : Type} {f : α → List β} {b : Nat} : ∀ {l : List α}, (∀ x ∈ l, (f x).length ≤ b) → (l.flatMap f).length ≤ l.length * b
  | [], _ => Nat.zero_le _
  | a :: l, h => by
    rw [List.flatMap_cons, List.length_append, List.length_cons, Nat.succ_mul]
    have := h a List.mem_cons_self
    have := flat_le2 (l := l) fun x hx => h x (List.mem_cons_of_mem _ hx)
    omega
theorem letStep_len {ps : List Pr} {k : Nat} {keys : List Int} {found : List (List Int)} : (letStep ps k keys found).length ≤ found.length * keys.length := flat_le2 fun r _ => by
  rw [List.length_map]
  exact Nat.le_trans (List.length_filter_le _ _) (List.length_filter_le _ _)
/-- how many rows there may be -/
theorem letRk_len {ps : List Pr} {ch : List (List Int)} {b : Nat} (hb : ∀ keys ∈ ch, keys.length ≤ b) : ∀ k, k ≤ ch.length → (letRk ps ch k).length ≤ b ^ k
  | 0, _ => Nat.le_refl _
  | k + 1, h => by
    have ih := letRk_len (ps := ps) hb k (by omega)
    have h1 := letStep_len (ps := ps) (k := k) (keys := ch.getD k []) (found := letRk ps ch k)
    have h2 : (ch.getD k []).length ≤ b := by
      rw [List.getD_eq_getElem?_getD, List.getElem?_eq_getElem (by omega)]
      exact hb _ (List.getElem_mem _)
    rw [Nat.pow_succ]
    exact Nat.le_trans h1 (Nat.mul_le_mul ih h2)
theorem maxD_le {d : Int} {ns : List Int} {z : Int} : (∀ x ∈ ns, x ≤ z) → (ns = [] → d ≤ z) → maxDN d ns ≤ z := fun h h0 => by
  unfold maxDN
  cases ns with
  | nil => exact h0 rfl
  | cons n ns =>
    have : ∀ (l : List Int) (a : Int), a ≤ z → (∀ x ∈ l, x ≤ z) → l.foldl max a ≤ z := by
      intro l
      induction l with
      | nil => intro a ha _; exact ha
      | cons b l ih => intro a ha hl; exact ih (max a b) (by have := hl b List.mem_cons_self; omega) fun x hx => hl x (List.mem_cons_of_mem _ hx)
    exact this _ n (h n List.mem_cons_self) h
theorem maxD_ge {d : Int} {ns : List Int} {x : Int} (hx : x ∈ ns) : x ≤ maxDN d ns := by
  unfold maxDN
  have : ∀ (l : List Int) (a : Int), a ≤ l.foldl max a ∧ ∀ x ∈ l, x ≤ l.foldl max a := by
    intro l
    induction l with
    | nil => intro a; exact ⟨Int.le_refl _, fun _ z => by cases z⟩
    | cons b l ih =>
      intro a
      obtain ⟨h1, h2⟩ := ih (max a b)
      refine ⟨by have : (b :: l).foldl max a = l.foldl max (max a b) := rfl; omega, fun x hx => ?_⟩
      rcases List.mem_cons.mp hx with rfl | hx
      · have : (x :: l).foldl max a = l.foldl max (max a x) := rfl
        omega
      · exact h2 x hx
  exact (this ns _).2 x hx
theorem least_le {row : List Int} {below : List Nat} {z : Int} (hz : 0 ≤ z) : leastN row below ≤ z ↔ ∀ p ∈ below, row.getD p 0 ≤ z := by
  unfold leastN
  constructor
  · intro h p hp
    exact Int.le_trans (maxD_ge (List.mem_map.mpr ⟨p, hp, rfl⟩)) h
  · intro h
    refine maxD_le (fun x hx => ?_) fun _ => hz
    obtain ⟨p, hp, rfl⟩ := List.mem_map.mp hx
    exact h p hp
/-- all rows of so many keys -/
def rowsN (top : Nat) : Nat → List (List Int)
  | 0 => [[]]
  | k + 1 => (rowsN top k).flatMap fun r => (List.range top).map fun (z : Nat) => r ++ [(z : Int)]
theorem rowsN_row {top : Nat} : ∀ {k : Nat}, ∀ row ∈ rowsN top k, row.length = k ∧ ∀ x ∈ row, 0 ≤ x ∧ x < top
  | 0, row, h => by
    rw [List.mem_singleton.mp h]
    exact ⟨rfl, fun _ z => by cases z⟩
  | k + 1, row, h => by
    obtain ⟨r, hr, h⟩ := List.mem_flatMap.mp h
    obtain ⟨z, hz, rfl⟩ := List.mem_map.mp h
    obtain ⟨h1, h2⟩ := rowsN_row r hr
    have := List.mem_range.mp hz
    refine ⟨by rw [List.length_append, h1]; rfl, fun x hx => ?_⟩
    rcases List.mem_append.mp hx with hx | hx
    · exact h2 x hx
    · rw [List.mem_singleton.mp hx]
      omega
theorem rowsN_has {top : Nat} : ∀ {k : Nat} {row : List Int}, row.length = k → (∀ x ∈ row, 0 ≤ x ∧ x < top) → row ∈ rowsN top k
  | 0, row, h, _ => by
    rw [List.length_eq_zero_iff.mp h]
    exact List.mem_singleton.mpr rfl
  | k + 1, row, h, hx => by
    obtain ⟨r, z, rfl⟩ : ∃ r z, row = r ++ [z] := ⟨row.dropLast, row.getLast (by intro e; rw [e] at h; cases h), (List.dropLast_concat_getLast _).symm⟩
    have hz := hx z (List.mem_append_right _ (List.mem_singleton.mpr rfl))
    rw [List.length_append, List.length_singleton] at h
    refine List.mem_flatMap.mpr ⟨r, rowsN_has (by omega) fun x h => hx x (List.mem_append_left _ h), List.mem_map.mpr ⟨z.toNat, List.mem_range.mpr (by omega), ?_⟩⟩
    rw [Int.toNat_of_nonneg hz.1]
theorem rowsN_len (top : Nat) : ∀ k, (rowsN top k).length ≤ top ^ k
  | 0 => Nat.le_refl _
  | k + 1 => by
    rw [Nat.pow_succ]
    refine Nat.le_trans (flat_le2 (b := top) fun r _ => ?_) (Nat.mul_le_mul_right _ (rowsN_len top k))
    rw [List.length_map, List.length_range]
    exact Nat.le_refl _
/-- the pairs that end ahead of a place -/
def letPre (ps : List Pr) (k : Nat) (row : List Int) : Bool := letsN (ps.filter fun x => decide (x.2 < k)) row
theorem letPre_iff {ps : List Pr} {k : Nat} {row : List Int} : letPre ps k row = true ↔ ∀ x ∈ ps, x.2 < k → row.getD x.1 0 ≤ row.getD x.2 0 := by
  unfold letPre letsN
  rw [List.all_eq_true]
  constructor
  · intro h x hx hk
    exact of_decide_eq_true (h x (List.mem_filter.mpr ⟨hx, decide_eq_true hk⟩))
  · intro h x hx
    obtain ⟨h1, h2⟩ := List.mem_filter.mp hx
    exact decide_eq_true (h x h1 (of_decide_eq_true h2))
theorem lets_iff {ps : List Pr} {row : List Int} : letsN ps row = true ↔ ∀ x ∈ ps, row.getD x.1 0 ≤ row.getD x.2 0 := by
  unfold letsN
  rw [List.all_eq_true]
  exact ⟨fun h x hx => of_decide_eq_true (h x hx), fun h x hx => decide_eq_true (h x hx)⟩
theorem getD_left {r : List Int} {z : Int} {i : Nat} (h : i < r.length) : (r ++ [z]).getD i 0 = r.getD i 0 := by
  rw [List.getD_eq_getElem?_getD, List.getD_eq_getElem?_getD, List.getElem?_append_left h]
theorem getD_last {r : List Int} {z : Int} : (r ++ [z]).getD r.length 0 = z := by
  rw [List.getD_eq_getElem?_getD, List.getElem?_concat_length]
  rfl
theorem letPre_succ {ps : List Pr} {n : Nat} (hp : PrOk n ps) {r : List Int} {z : Int} (hz : 0 ≤ z) : letPre ps (r.length + 1) (r ++ [z]) = (letPre ps r.length r && decide (leastN r (belowN ps r.length) ≤ z)) := by
  rw [Bool.eq_iff_iff, Bool.and_eq_true, decide_eq_true_eq, letPre_iff, letPre_iff, least_le hz]
  constructor
  · intro h
    refine ⟨fun x hx hk => ?_, fun p hpb => ?_⟩
    · have := h x hx (by omega)
      have h2 := (hp x hx).1
      rw [getD_left (by omega), getD_left hk] at this
      exact this
    · obtain ⟨x, hx, rfl⟩ := List.mem_map.mp hpb
      obtain ⟨h1, h2⟩ := List.mem_filter.mp hx
      have h3 : x.2 = r.length := of_decide_eq_true h2
      have := h x h1 (by omega)
      have h4 := (hp x h1).1
      rw [getD_left (by omega), h3, getD_last] at this
      exact this
  · rintro ⟨h1, h2⟩ x hx hk
    have h4 := (hp x hx).1
    by_cases e : x.2 = r.length
    · rw [getD_left (by omega), e, getD_last]
      exact h2 x.1 (List.mem_map.mpr ⟨x, List.mem_filter.mpr ⟨hx, decide_eq_true e⟩, rfl⟩)
    · rw [getD_left (by omega), getD_left (by omega)]
      exact h1 x hx (by omega)
theorem filter_flat {α β : Type} (f : α → List β) (p : α → Bool) (q : β → Bool) : ∀ l : List α, (∀ a ∈ l, p a = false → (f a).filter q = []) → (l.flatMap f).filter q = (l.filter p).flatMap fun a => (f a).filter q
  | [], _ => rfl
  | a :: l, h => by
    have ih := filter_flat f p q l fun x hx => h x (List.mem_cons_of_mem _ hx)
    rw [List.flatMap_cons, List.filter_append, ih]
    cases e : p a with
    | false => rw [h a List.mem_cons_self e, List.filter_cons_of_neg (by rw [e]; exact Bool.false_ne_true), List.nil_append]
    | true => rw [List.filter_cons_of_pos e, List.flatMap_cons]
theorem flatMap_congr2 {α β : Type} {f g : α → List β} : ∀ {l : List α}, (∀ x ∈ l, f x = g x) → l.flatMap f = l.flatMap g
  | [], _ => rfl
  | a :: l, h => by
    rw [List.flatMap_cons, List.flatMap_cons, h a List.mem_cons_self, flatMap_congr2 fun x hx => h x (List.mem_cons_of_mem _ hx)]
/-- the rows of so many keys that are let are those of the law's own look -/
theorem letRk_rows {ps : List Pr} {n top : Nat} (hp : PrOk n ps) (m : Nat) : ∀ k, k ≤ m → letRk ps (List.replicate m ((List.range top).map fun (z : Nat) => (z : Int))) k = (rowsN top k).filter (letPre ps k)
  | 0, _ => by
    show [[]] = [[]].filter _
    rw [List.filter_cons_of_pos (letPre_iff.mpr fun x _ h => by omega)]
    rfl
  | k + 1, hk => by
    have ih := letRk_rows hp m k (by omega) (top := top)
    have e : (List.replicate m ((List.range top).map fun (z : Nat) => (z : Int))).getD k [] = (List.range top).map fun (z : Nat) => (z : Int) := by
      rw [List.getD_eq_getElem?_getD, List.getElem?_replicate, if_pos (by omega)]
      rfl
    show letStep ps k _ (letRk ps _ k) = ((rowsN top k).flatMap _).filter _
    have key : ∀ r ∈ rowsN top k, ((List.range top).map fun (z : Nat) => r ++ [(z : Int)]).filter (letPre ps (k + 1)) = if letPre ps k r = true then (letKeys r (belowN ps k) ((List.range top).map fun (z : Nat) => (z : Int))).map (fun key => r ++ [key]) else [] := fun r hr => by
      have l := (rowsN_row r hr).1
      rw [List.filter_map]
      have e2 : ∀ z : Nat, (letPre ps (k + 1) ∘ fun (z : Nat) => r ++ [(z : Int)]) z = (letPre ps k r && decide (leastN r (belowN ps k) ≤ (z : Int))) := fun z => by
        show letPre ps (k + 1) (r ++ [(z : Int)]) = _
        rw [← l]
        exact letPre_succ hp (by omega)
      rw [show (letPre ps (k + 1) ∘ fun (z : Nat) => r ++ [(z : Int)]) = _ from funext e2]
      unfold letKeys
      rw [List.filter_map, List.map_map]
      cases letPre ps k r with
      | true =>
        rw [if_pos rfl]
        rfl
      | false =>
        rw [if_neg (by decide), List.filter_eq_nil_iff.mpr fun _ _ z => by cases z]
        rfl
    rw [filter_flat _ (letPre ps k) _ _ fun r hr h => by rw [key r hr, if_neg (by rw [h]; decide)], ih, e]
    unfold letStep
    refine flatMap_congr2 fun r hr => ?_
    obtain ⟨h1, h2⟩ := List.mem_filter.mp hr
    rw [key r h1, if_pos h2, List.filter_eq_self.mpr fun _ _ => rfl]
theorem letPre_all {ps : List Pr} {n : Nat} (hp : PrOk n ps) (row : List Int) : letPre ps n row = letsN ps row := by
  rw [Bool.eq_iff_iff, letPre_iff, lets_iff]
  exact ⟨fun h x hx => h x hx (hp x hx).2, fun h x hx _ => h x hx⟩
/-- the words that an order lets -/
def wordsN (n : Nat) (ps : List Pr) : List (List Int) := (rowsN 2 n).filter (letsN ps)
theorem let_words {n : Nat} {ps : List Pr} (hp : PrOk n ps) : letR ps (List.replicate n [0, 1]) = wordsN n ps := by
  unfold letR wordsN
  rw [List.length_replicate]
  have := letRk_rows (top := 2) hp n n (Nat.le_refl _)
  rw [show (List.range 2).map (fun (z : Nat) => (z : Int)) = [0, 1] from rfl] at this
  rw [this]
  congr 1
  funext row
  exact letPre_all hp row
theorem words_row {n : Nat} {ps : List Pr} {row : List Int} (h : row ∈ wordsN n ps) : row.length = n ∧ (∀ x ∈ row, 0 ≤ x ∧ x < 2) ∧ letsN ps row = true := by
  obtain ⟨h1, h2⟩ := List.mem_filter.mp h
  obtain ⟨h3, h4⟩ := rowsN_row row h1
  exact ⟨h3, h4, h2⟩
theorem words_has {n : Nat} {ps : List Pr} {row : List Int} (h : row.length = n) (hb : ∀ x ∈ row, 0 ≤ x ∧ x < 2) (hl : letsN ps row = true) : row ∈ wordsN n ps := List.mem_filter.mpr ⟨rowsN_has h hb, hl⟩
theorem words_len (n : Nat) (ps : List Pr) : (wordsN n ps).length ≤ 2 ^ n := Nat.le_trans (List.length_filter_le _ _) (rowsN_len 2 n)
theorem getD_in2 {row : List Int} (h : ∀ x ∈ row, 0 ≤ x ∧ x < 2) (i : Nat) : 0 ≤ row.getD i 0 ∧ row.getD i 0 < 2 := getD_mem (p := fun x => 0 ≤ x ∧ x < 2) h (by decide)
end K33

set_option maxRecDepth 100000
set_option maxHeartbeats 4000000
namespace K33
open PySem PySem.Spec PyProof.Rows L2 DL
section
variable {P : Program} {w : World} {K : PySem.W.Frag} {mg : Str → Option Value} {base : Heap}
theorem nat_row {row : List Int} {p : Nat} (h : p < row.length) : atI (row.map PyData.int) (p : Int) = some (.int (row.getD p 0)) := atI_nat (by
  rw [List.getElem?_map, List.getElem?_eq_getElem h, List.getD_eq_getElem?_getD, List.getElem?_eq_getElem h]
  rfl)
def R_lkeys : FR := fun as ob r ob' => ∃ (row : List Int) (below : List Nat) (keys : List Int), as = [.dat (rD row), .dat (.list (below.map fun (p : Nat) => PyData.int (p : Int))), .dat (rD keys)] ∧ (∀ p ∈ below, p < row.length) ∧ below.length ≤ 10000 ∧ keys.length ≤ 10000 ∧ ob = [] ∧ r = .dat (.list ((letKeys row below keys).map PyData.int)) ∧ ob' = []
theorem sc_let_keys : FnScope ["row", "below", "keys", "p", "least", "key"] ["row", "below", "keys"] (defScope s_let_keys) := ⟨rfl, rfl, rfl, by decide +kernel, rfl, by decide +kernel, by decide +kernel⟩
theorem ok_let_keys (D : Df K mg "_let_keys" s_let_keys ["row", "below", "keys"]) (B : Bi mg) (Cc : Cls K mg) : FnG P w K mg base CX0 1 D.f D.fd ["row", "below", "keys"] (spD K 3 R_lkeys) := by
  refine okG D.F sc_let_keys (fun vs H Q E h => h.1) (fun cdv A outer s H vs Q E hr gd h => ?_)
  have hu := huX hr
  refine ⟨_, (pss_cons (ps_set (i := 4) sc_let_keys.nd rfl (Or.inr rfl) (pe_callBK (call_maxD rfl hu) (by rfl) B.z_max (by decide +kernel) (pa_cons (pe_lc (own := [("p", 3)]) (g := gName 3) (tt := tYes) (by rfl) sc_let_keys.nd (pi_list (pv 1)) (blkOk_by (own := [("p", 3)]) (N := ["row", "below", "keys", "p", "least", "key"]) (sc := defScope s_let_keys) (by decide +kernel)) (fun _ _ _ _ _ => (pg_name (i := 3) sc_let_keys.nd rfl (Or.inl rfl))) (fun _ _ _ _ _ => pts_nil) (fun _ _ _ _ _ => (pe_ix (ixK K (R := rIx) ix_seq rfl) (pv 0) (pv 3) (fun _ _ => rfl)))) pa_nil) (pk_cons pe_int pk_nil)))
      (pss_one (ps_ret (pe_lc (own := [("key", 5)]) (g := gName 5) (by rfl) sc_let_keys.nd (pi_tup (pv 2)) (blkOk_by (own := [("key", 5)]) (N := ["row", "below", "keys", "p", "least", "key"]) (sc := defScope s_let_keys) (by decide +kernel)) (fun _ _ _ _ _ => (pg_name (i := 5) sc_let_keys.nd rfl (Or.inl rfl))) (fun _ _ _ _ _ => (pts_one (pt_cmpR op_geU (pv 5) (pv 4) (nomark _)))) (fun _ _ _ _ _ => (pv 5)))))), ?_⟩
  refine body_of h (by decide) fun as ob r ob' hR hl => ?_
  obtain ⟨row, below, keys, rfl, hb, hz, hk, rfl, rfl, rfl⟩ := hR
  refine ts_seq (ts_asg (x := .dat (.int (leastN row below))) (S1 := ⟨[.dat (rD row), .dat (.list (below.map fun (p : Nat) => PyData.int (p : Int))), .dat (rD keys), .un, .un, .un], []⟩) (ee_maxD (ns := below.map fun p => row.getD p 0) (S1 := ⟨[.dat (rD row), .dat (.list (below.map fun (p : Nat) => PyData.int (p : Int))), .dat (rD keys), .un, .un, .un], []⟩) (ee_of_el ?_) ee_int) ?_)
  · rw [List.map_map]
    exact el_lcmA (dA := fun (p : Nat) => PyData.int (p : Int)) (lst := below) (S0 := ⟨[.dat (rD row), .dat (.list (below.map fun (p : Nat) => PyData.int (p : Int))), .dat (rD keys), .un, .un, .un], []⟩) (ei_list (ee_var rfl)) (by omega) fun p hp => ⟨_, egc_name (by decide), rfl, _, ee_op (ee_var rfl) (ee_var rfl) (ro_ixT (nat_row (hb p hp))), rfl⟩
  · exact ts_ret (ee_of_el (el_lcfA (dA := PyData.int) (lst := keys) (p := fun key => decide (leastN row below ≤ key)) (S0 := ⟨[.dat (rD row), .dat (.list (below.map fun (p : Nat) => PyData.int (p : Int))), .dat (rD keys), .un, .dat (.int (leastN row below)), .un], []⟩) (ei_tup (ee_var rfl)) (by omega) fun key _ => ⟨_, _, egc_name (by decide), et_test (ee_op (ee_var rfl) (ee_var rfl) ro_ge), rfl, fun _ => ⟨_, ee_var rfl, rfl⟩⟩)) ⟨rfl, rfl⟩
def R_lrows : FR := fun as ob r ob' => ∃ (ps : List Pr) (ch : List (List Int)), as = [.dat (oD ps), .dat (.list (ch.map rD))] ∧ PrOk ch.length ps ∧ ps.length ≤ 10000 ∧ (∀ keys ∈ ch, keys.length ≤ 3) ∧ 3 ^ ch.length ≤ 1000000 ∧ ob = [] ∧ r = .dat (.list ((letR ps ch).map rD)) ∧ ob' = []
theorem below_D (ps : List Pr) (k : Nat) : (ps.filter fun x => decide (x.2 = k)).map (fun x => PyData.int (x.1 : Int)) = (belowN ps k).map fun (p : Nat) => PyData.int (p : Int) := by
  unfold belowN
  rw [List.map_map]
  rfl
theorem sclet_rows : FnScope ["order", "choices", "found", "place", "keys", "p", "q", "below", "row", "key"] ["order", "choices"] (defScope slet_rows) := ⟨rfl, rfl, rfl, by decide +kernel, rfl, by decide +kernel, by decide +kernel⟩
theorem oklet_rows (D : Df K mg "let_rows" slet_rows ["order", "choices"]) (B : Bi mg) (Cc : Cls K mg) (D_let_keys : Df K mg "_let_keys" s_let_keys ["row", "below", "keys"]) : FnG P w K mg base CX0 2 D.f D.fd ["order", "choices"] (spD K 2 R_lrows) := by
  have ok_let_keys : FnG P w K mg base CX0 1 _ _ _ _ := ok_let_keys D_let_keys B Cc
  refine okG D.F sclet_rows (fun vs H Q E h => h.1) (fun cdv A outer s H vs Q E hr gd h => ?_)
  have hu := huX hr
  refine ⟨_, (pss_cons (ps_set (i := 2) sclet_rows.nd rfl (Or.inl rfl) (pe_lst (pa_cons (pe_tup pa_nil) pa_nil)))
      (pss_cons (ps_for PassesOwn.never rfl (pi_enum (by rfl) B.z_enumerate (pa_cons (pv 1) pa_nil)) (pg_tup rfl (pgs_cons (pg_name (i := 3) sclet_rows.nd rfl (Or.inr rfl)) (pgs_cons (pg_name (i := 4) sclet_rows.nd rfl (Or.inr rfl)) pgs_nil)))
        (pss_cons (ps_set (i := 7) sclet_rows.nd rfl (Or.inr rfl) (pe_lc (own := [("p", 5), ("q", 6)]) (by rfl) sclet_rows.nd (pi_tup (pv 0)) (blkOk_by (own := [("p", 5), ("q", 6)]) (N := ["order", "choices", "found", "place", "keys", "p", "q", "below", "row", "key"]) (sc := defScope slet_rows) (by decide +kernel)) (fun _ _ _ _ _ => (pg_tupK K (n := 2) rfl rfl (pgs_cons (pg_name (i := 5) sclet_rows.nd rfl (Or.inl rfl)) (pgs_cons (pg_name (i := 6) sclet_rows.nd rfl (Or.inl rfl)) pgs_nil)))) (fun _ _ _ _ _ => (pts_one (pt_cmpR (opK K (R := rEqU) (op_eqU hu) rfl) (pv 6) (pv 3) (nomark _)))) (fun _ _ _ _ _ => (pv 5))))
        (pss_one (ps_setLc2 (i := 2) (own := [("row", 8), ("key", 9)]) (vs1 := [9]) (tt := tYes) (tt1 := tYes) (by rfl) sclet_rows.nd rfl rfl (sw_true rfl rfl rfl (by decide +kernel)) (pi_list (pv 2)) (blkOk_by (own := [("row", 8), ("key", 9)]) (N := ["order", "choices", "found", "place", "keys", "p", "q", "below", "row", "key"]) (sc := defScope slet_rows) (by decide +kernel)) (by decide) (fun _ _ _ _ _ => (pg_name (i := 8) sclet_rows.nd rfl (Or.inl rfl))) (fun _ _ _ _ _ => pts_nil) (fun _ _ _ _ _ => (pi_listK K rfl (pe_callG (ok_let_keys) (hr.mono (by decide)) gd (by rfl) D_let_keys.m D_let_keys.F.kp D_let_keys.b .nil pass0 (pa_cons (pv 8) (pa_cons (pv 7) (pa_cons (pv 4) pa_nil)))))) (fun _ _ _ _ _ => (pg_name (i := 9) sclet_rows.nd rfl (Or.inl rfl))) (fun _ _ _ _ _ => pts_nil) (fun _ _ _ _ _ => (pe_op (opK K (R := rPlus) op_plus rfl) (pv 8) (pe_tup (pa_cons (pv 9) pa_nil))))))))
      (pss_one (ps_ret (pv 2))))), ?_⟩
  refine body_ofG h (by decide) (fun as ob r ob' hR => ?_) fun as ob r ob' hR hl => ?_
  · obtain ⟨ps, ch, rfl, _, _, _, _, rfl, rfl, rfl⟩ := hR
    exact ⟨Nat.le_refl _, fun _ z => by cases z⟩
  obtain ⟨ps, ch, rfl, hp, hz, hc, hs, rfl, rfl, rfl⟩ := hR
  have lk : ∀ k, k ≤ ch.length → (letRk ps ch k).length ≤ 1000000 := fun k hk => Nat.le_trans (letRk_len hc k hk) (Nat.le_trans (Nat.pow_le_pow_right (by decide) hk) hs)
  refine ts_seq (ts_asg (x := .dat (.list ((letRk ps ch 0).map rD))) (S1 := ⟨[.dat (oD ps), .dat (.list (ch.map rD)), .un, .un, .un, .un, .un, .un, .un, .un], []⟩) (ee_lst (ds := [rD []]) (ed_cons (ee_tup (ds := []) ed_nil) ed_nil) (show (1 : Nat) ≤ 1000000 by decide)) ?_)
  refine ts_seq (ts_for (ds := enumD (ch.map rD)) (S0 := ⟨[.dat (oD ps), .dat (.list (ch.map rD)), .dat (.list ((letRk ps ch 0).map rD)), .un, .un, .un, .un, .un, .un, .un], []⟩) (ei_enum (ed_cons (ee_var rfl) ed_nil)) (fun k S => ∃ a b c, S = ⟨[.dat (oD ps), .dat (.list (ch.map rD)), .dat (.list ((letRk ps ch k).map rD)), a, b, .un, .un, c, .un, .un], []⟩) ⟨.un, .un, .un, rfl⟩ ?_ ?_)
  · rintro k d S' hd ⟨a, b, c, rfl⟩
    obtain ⟨e, he, rfl⟩ := enumD_get hd
    obtain ⟨keys, hk, rfl⟩ := map_at he
    have hkl : k < ch.length := (List.getElem?_eq_some_iff.mp hk).1
    have hkeys : ch.getD k [] = keys := by
      rw [List.getD_eq_getElem?_getD, hk]
      rfl
    have hk3 := hc keys (List.mem_of_getElem? hk)
    have nl := lk (k + 1) (by omega)
    have e2 : letRk ps ch (k + 1) = letStep ps k keys (letRk ps ch k) := by
      rw [← hkeys]
      rfl
    rw [e2] at nl ⊢
    have rl : ∀ row ∈ letRk ps ch k, row.length = k := fun row h => letRk_row row h
    generalize letRk ps ch k = found at nl rl ⊢
    have bl : ∀ p ∈ belowN ps k, p < k := fun p hpb => by
      obtain ⟨x, hx, rfl⟩ := List.mem_map.mp hpb
      obtain ⟨h1, h2⟩ := List.mem_filter.mp hx
      have := of_decide_eq_true h2
      have := (hp x h1).1
      omega
    have bz : (belowN ps k).length ≤ 10000 := by
      unfold belowN
      rw [List.length_map]
      exact Nat.le_trans (List.length_filter_le _ _) hz
    refine ⟨_, eg_tup (egs_cons eg_name (egs_cons eg_name egs_nil)), ts_seq (ts_asg (x := .dat (.list ((belowN ps k).map fun (p : Nat) => PyData.int (p : Int)))) (S1 := ⟨[.dat (oD ps), .dat (.list (ch.map rD)), .dat (.list (found.map rD)), .dat (.int (k : Int)), .dat (rD keys), .un, .un, c, .un, .un], []⟩) (ee_of_el ?_) ?_)⟩
    · rw [← below_D]
      exact el_lcfA (dA := pD) (lst := ps) (p := fun x => decide (x.2 = k)) (f := fun x => PyData.int (x.1 : Int)) (S0 := ⟨[.dat (oD ps), .dat (.list (ch.map rD)), .dat (.list (found.map rD)), .dat (.int (k : Int)), .dat (rD keys), .un, .un, c, .un, .un], []⟩) (ei_tup (ee_var rfl)) (by omega) fun x _ => ⟨_, _, egc_tup (egcs_cons (egc_name (by decide)) (egcs_cons (egc_name (by decide)) egcs_nil)), et_eq (et_test (ee_op (ee_var rfl) (ee_var rfl) ro_eqI)) (decide_eq_decide.mpr (by omega)), rfl, fun _ => ⟨_, ee_var rfl, rfl⟩⟩
    have eD : (letStep ps k keys found).map rD = found.flatMap fun row => ((letKeys row (belowN ps k) keys).filter fun _ => true).map fun key => rD (row ++ [key]) := by
      unfold letStep
      rw [List.map_flatMap]
      congr 1
      funext row
      rw [List.map_map]
      rfl
    refine ts_asg (x := .dat (.list ((letStep ps k keys found).map rD))) (S1 := ⟨[.dat (oD ps), .dat (.list (ch.map rD)), .dat (.list (found.map rD)), .dat (.int (k : Int)), .dat (rD keys), .un, .un, .dat (.list ((belowN ps k).map fun (p : Nat) => PyData.int (p : Int))), .un, .un], []⟩) ?_ ⟨_, _, _, rfl⟩
    have nl2 := nl
    rw [← List.length_map (f := rD), eD] at nl2
    rw [eD]
    refine ee_of_el (el_lc2A rowOf toI (dA := rD) (dB := PyData.int) (lst := found) (S0 := ⟨[.dat (oD ps), .dat (.list (ch.map rD)), .dat (.list (found.map rD)), .dat (.int (k : Int)), .dat (rD keys), .un, .un, .dat (.list ((belowN ps k).map fun (p : Nat) => PyData.int (p : Int))), .un, .un], []⟩) (fun row => letKeys row (belowN ps k) keys) (fun _ _ => true) (fun row key => rD (row ++ [key])) rowOf_rD (fun _ => rfl) (ei_list (ee_var rfl)) nl2 fun row hr => ?_)
    have hrl := rl row hr
    refine ⟨_, egc_name (by decide), rfl, ei_list (ee_callD (d := .list ((letKeys row (belowN ps k) keys).map PyData.int)) (ed_cons (ee_var rfl) (ed_cons (ee_var rfl) (ed_cons (ee_var rfl) ed_nil))) rfl ⟨row, belowN ps k, keys, rfl, fun p h => by rw [hrl]; exact bl p h, bz, by omega, rfl, rfl, rfl⟩), fun key _ => ⟨_, _, egc_name (by decide), et_yes, rfl, fun _ => ⟨_, ee_eq (ee_op (ee_var rfl) (ee_tup (ed_cons (ee_var rfl) ed_nil)) (ro_catT (ds := row.map PyData.int) (es := [.int key]) ?_)) ?_, rfl⟩⟩⟩
    · rw [List.length_map, hrl]
      have : k < 3 ^ k := Nat.lt_pow_self (by decide)
      have : 3 ^ k ≤ 3 ^ ch.length := Nat.pow_le_pow_right (by decide) (by omega)
      show k + 1 ≤ _
      omega
    · unfold rD
      rw [List.map_append]
      rfl
  · rintro S' ⟨a, b, c, rfl⟩
    rw [enumD_len, List.length_map]
    exact ts_ret (ee_var rfl) ⟨rfl, List.nil_prefix⟩
theorem rep_D (n : Nat) : repD n [rD [0, 1]] = (List.replicate n [0, 1]).map rD := by
  induction n with
  | zero => rfl
  | succ n ih =>
    show [rD [0, 1]] ++ repD n [rD [0, 1]] = _
    rw [ih]
    rfl
def R_words : FR := fun as ob r ob' => ∃ (n : Nat) (ps : List Pr), as = [.dat (.int (n : Int)), .dat (oD ps)] ∧ PrOk n ps ∧ ps.length ≤ 10000 ∧ n ≤ 10 ∧ ob = [] ∧ r = .dat (.list ((wordsN n ps).map rD)) ∧ ob' = []
theorem sclet_words : FnScope ["n", "order"] ["n", "order"] (defScope slet_words) := ⟨rfl, rfl, rfl, by decide +kernel, rfl, by decide +kernel, by decide +kernel⟩
theorem oklet_words (D : Df K mg "let_words" slet_words ["n", "order"]) (B : Bi mg) (Cc : Cls K mg) (Dlet_rows : Df K mg "let_rows" slet_rows ["order", "choices"]) (D_let_keys : Df K mg "_let_keys" s_let_keys ["row", "below", "keys"]) : FnG P w K mg base CX0 3 D.f D.fd ["n", "order"] (spD K 2 R_words) := by
  have oklet_rows : FnG P w K mg base CX0 2 _ _ _ _ := oklet_rows Dlet_rows B Cc D_let_keys
  refine okG D.F sclet_words (fun vs H Q E h => h.1) (fun cdv A outer s H vs Q E hr gd h => ?_)
  have hu := huX hr
  refine ⟨_, (pss_one (ps_ret (pe_callG (oklet_rows) (hr.mono (by decide)) gd (by rfl) Dlet_rows.m Dlet_rows.F.kp Dlet_rows.b .nil pass0 (pa_cons (pv 1) (pa_cons (pe_op op_mulU (pe_lst (pa_cons (pe_tup (pa_cons pe_int (pa_cons pe_int pa_nil))) pa_nil)) (pv 0)) pa_nil))))), ?_⟩
  refine body_of h (by decide) fun as ob r ob' hR hl => ?_
  obtain ⟨n, ps, rfl, hp, hz, hn, rfl, rfl, rfl⟩ := hR
  have q : R_lrows (([oD ps, .list ((List.replicate n [0, 1]).map rD)] : List PyData).map SD.dat) [] (.dat (.list ((wordsN n ps).map rD))) [] := ⟨ps, List.replicate n [0, 1], rfl, by rw [List.length_replicate]; exact hp, hz, fun keys hk => by rw [List.eq_of_mem_replicate hk]; decide, by rw [List.length_replicate]; exact Nat.le_trans (Nat.pow_le_pow_right (by decide) hn) (by decide), rfl, by rw [let_words hp], rfl⟩
  have rep := rol_rep (K := K) (S := ⟨[.dat (.int (n : Int)), .dat (oD ps)], []⟩) (x := .dat (.list [rD [0, 1]])) (ds := [rD [0, 1]]) (i := (n : Int)) (.dat _) (by omega) (by show 1 * _ ≤ _; omega) (by omega)
  rw [Int.toNat_natCast, rep_D] at rep
  exact ts_ret (ee_callD (ed_cons (ee_var rfl) (ed_cons (ee_of_el (el_op (ee_lst (ds := [rD [0, 1]]) (ed_cons (ee_tup (ds := [.int 0, .int 1]) (ed_cons ee_int (ed_cons ee_int ed_nil))) ed_nil) (show (1 : Nat) ≤ 1000000 by decide)) (ee_var rfl) rep)) ed_nil)) rfl q) ⟨rfl, rfl⟩
/-! ### the law's own look at rows -/
def R_islet : FR := fun as ob r ob' => ∃ (ps : List Pr) (row : List Int), as = [.dat (oD ps), .dat (rD row)] ∧ PrOk row.length ps ∧ ps.length ≤ 10000 ∧ ob = [] ∧ r = .dat (.bool (letsN ps row)) ∧ ob' = []
theorem lets_none (ps : List Pr) (row : List Int) : ((ps.filter fun x => decide (row.getD x.2 0 < row.getD x.1 0)).map fun _ => PyData.int 1).isEmpty = letsN ps row := by
  rw [List.isEmpty_map, Bool.eq_iff_iff, lets_iff, List.isEmpty_iff, List.filter_eq_nil_iff]
  exact ⟨fun h x hx => by have := h x hx; simp at this; exact this, fun h x hx => by have := h x hx; simp; exact this⟩
def R_rows : FR := fun as ob r ob' => ∃ (n top : Nat), as = [.dat (.int (n : Int)), .dat (.int (top : Int))] ∧ top ^ n ≤ 100000 ∧ n ≤ 100 ∧ 1 ≤ top ∧ top ≤ 100 ∧ ob = [] ∧ r = .dat (.list ((rowsN top n).map rD)) ∧ ob' = []
theorem rng_nat (n : Nat) : rngD 0 n = (List.range n).map fun (z : Nat) => PyData.int (z : Int) := by
  unfold rngD
  refine List.map_congr_left fun j _ => ?_
  rw [Int.zero_add]
theorem flat_take2 {α β : Type} {f : α → List β} {l : List α} {i : Nat} {x : α} (h : l[i]? = some x) : (l.take (i + 1)).flatMap f = (l.take i).flatMap f ++ f x := by
  rw [take_snoc h, List.flatMap_append, List.flatMap_singleton]
def someN (n : Nat) (ps : List Pr) (top : Nat) : List (List Int) := (rowsN top n).filter (letsN ps)
def R_some : FR := fun as ob r ob' => ∃ (n top : Nat) (ps : List Pr), as = [.dat (.int (n : Int)), .dat (oD ps), .dat (.int (top : Int))] ∧ top ^ n ≤ 100000 ∧ n ≤ 100 ∧ 1 ≤ top ∧ top ≤ 100 ∧ PrOk n ps ∧ ps.length ≤ 10000 ∧ ob = [] ∧ r = .dat (.list ((someN n ps top).map rD)) ∧ ob' = []
end
end K33

set_option maxRecDepth 100000
set_option maxHeartbeats 4000000
namespace K33
open PySem PySem.Spec PyProof.Rows L2 DL
/-! ### lanes: all words at once -/
def wordBit (ws : List (List Int)) (k line : Nat) : Bool := match ws[k]? with
  | some w => decide (w.getD line 0 ≠ 0)
  | none => false
def laneK (ws : List (List Int)) (line : Nat) : Nat → Nat
  | 0 => 0
  | k + 1 => if wordBit ws k line = true then laneK ws line k ||| 2 ^ k else laneK ws line k
theorem lane_bit (ws : List (List Int)) (line i : Nat) : ∀ k, (laneK ws line k).testBit i = (decide (i < k) && wordBit ws i line)
  | 0 => by
    show (0 : Nat).testBit i = _
    rw [Nat.zero_testBit]
    rfl
  | k + 1 => by
    have ih := lane_bit ws line i k
    show (if wordBit ws k line = true then laneK ws line k ||| 2 ^ k else laneK ws line k).testBit i = _
    by_cases e : i = k
    · subst e
      by_cases h : wordBit ws i line = true
      · rw [if_pos h, Nat.testBit_or, Nat.testBit_two_pow_self, h]
        simp
      · rw [if_neg h, ih]
        have : wordBit ws i line = false := by simpa using h
        rw [this]
        simp
    · have h1 : decide (i < k + 1) = decide (i < k) := decide_eq_decide.mpr (by omega)
      rw [h1]
      by_cases h : wordBit ws k line = true
      · rw [if_pos h, Nat.testBit_or, ih, Nat.testBit_two_pow, decide_eq_false (show ¬ k = i from fun z => e z.symm), Bool.or_false]
      · rw [if_neg h, ih]
def lanesN (n : Nat) (ws : List (List Int)) : List Nat := (List.range n).map fun line => laneK ws line ws.length
theorem wordBit_out {ws : List (List Int)} {k line : Nat} (h : ¬ k < ws.length) : wordBit ws k line = false := by
  unfold wordBit
  rw [List.getElem?_eq_none (by omega)]
def laneStep (g : Gate) (now : List Nat) : List Nat := (now.set g.1.toNat (now.getD g.1.toNat 0 &&& now.getD g.2.toNat 0)).set g.2.toNat (now.getD g.1.toNat 0 ||| now.getD g.2.toNat 0)
def laneRun (net : List Gate) (lanes : List Nat) : Nat → List Nat
  | 0 => lanes
  | t + 1 => laneStep (net.getD t (0, 0)) (laneRun net lanes t)
def exchN (net : List Gate) (lanes : List Nat) (t : Nat) : Nat := dropN ((laneRun net lanes t).getD (net.getD t (0, 0)).1.toNat 0) ((laneRun net lanes t).getD (net.getD t (0, 0)).2.toNat 0)
theorem laneRun_len (net : List Gate) (lanes : List Nat) : ∀ t, (laneRun net lanes t).length = lanes.length
  | 0 => rfl
  | t + 1 => by
    show (laneStep _ (laneRun net lanes t)).length = _
    unfold laneStep
    rw [List.length_set, List.length_set, laneRun_len net lanes t]
theorem setD_get {l : List Nat} {i j : Nat} {v : Nat} (hi : i < l.length) : (l.set i v).getD j 0 = if j = i then v else l.getD j 0 := by
  rw [List.getD_eq_getElem?_getD, List.getD_eq_getElem?_getD, List.getElem?_set]
  by_cases e : i = j
  · rw [if_pos e, if_pos hi, if_pos e.symm]
    rfl
  · rw [if_neg e, if_neg (fun z => e z.symm)]
theorem laneStep_get {g : Gate} {now : List Nat} (h1 : g.1.toNat < now.length) (h2 : g.2.toNat < now.length) (m : Nat) : (laneStep g now).getD m 0 = if m = g.2.toNat then now.getD g.1.toNat 0 ||| now.getD g.2.toNat 0 else if m = g.1.toNat then now.getD g.1.toNat 0 &&& now.getD g.2.toNat 0 else now.getD m 0 := by
  unfold laneStep
  rw [setD_get (by rw [List.length_set]; exact h2), setD_get h1]
/-- words of noughts and ones -/
def Bits (ws : List (List Int)) (n : Nat) : Prop := ∀ w ∈ ws, w.length = n ∧ ∀ x ∈ w, 0 ≤ x ∧ x < 2
theorem keyK_bit {w : List Int} {net : List Gate} (hb : ∀ x ∈ w, 0 ≤ x ∧ x < 2) (t l : Nat) : 0 ≤ (keyK w net t).getD l 0 ∧ (keyK w net t).getD l 0 < 2 := by
  have hv : ∀ p, 0 ≤ val w p ∧ val w p < 2 := fun p => getD_mem (p := fun x => 0 ≤ x ∧ x < 2) hb (by decide)
  unfold keyK
  refine getD_mem (p := fun x => 0 ≤ x ∧ x < 2) (fun x hx => ?_) (by decide)
  obtain ⟨p, _, rfl⟩ := List.mem_map.mp hx
  exact hv p
def runBit (ws : List (List Int)) (net : List Gate) (k t line : Nat) : Bool := match ws[k]? with
  | some w => decide ((keyK w net t).getD line 0 ≠ 0)
  | none => false
theorem lanes_run {n : Nat} {ws : List (List Int)} {net : List Gate} (hw : Bits ws n) (h : NetOk n net) (k : Nat) : ∀ t, t ≤ net.length → ∀ line, line < n → ((laneRun net (lanesN n ws) t).getD line 0).testBit k = runBit ws net k t line
  | 0, _, line, hl => by
    show ((lanesN n ws).getD line 0).testBit k = _
    unfold lanesN
    rw [List.getD_eq_getElem?_getD, List.getElem?_map, List.getElem?_range hl]
    show (laneK ws line ws.length).testBit k = _
    rw [lane_bit]
    unfold runBit
    by_cases hk : k < ws.length
    · rw [decide_eq_true hk, Bool.true_and, List.getElem?_eq_getElem hk]
      show wordBit ws k line = _
      unfold wordBit
      rw [List.getElem?_eq_getElem hk]
      show decide _ = decide _
      rw [keyK0]
    · rw [wordBit_out hk, Bool.and_false, List.getElem?_eq_none (by omega)]
  | t + 1, ht, line, hl => by
    have ih := lanes_run hw h k t (by omega)
    have g := gate_at h (k := t) (by omega)
    have ll := laneRun_len net (lanesN n ws) t
    have ln : (lanesN n ws).length = n := by
      unfold lanesN
      rw [List.length_map, List.length_range]
    have i1 := ih (net.getD t (0, 0)).1.toNat (by omega)
    have i2 := ih (net.getD t (0, 0)).2.toNat (by omega)
    show ((laneStep (net.getD t (0, 0)) (laneRun net (lanesN n ws) t)).getD line 0).testBit k = _
    rw [laneStep_get (by omega) (by omega)]
    unfold runBit at *
    by_cases hk : k < ws.length
    · have hm := hw _ (List.getElem_mem hk)
      have e := (run_step (row := ws[k]) (net := net) (by rw [hm.1]; exact h) (show t < net.length by omega)).1
      have kl := keyK_len ws[k] net t
      have kb := fun l => keyK_bit (net := net) hm.2 t l
      rw [List.getElem?_eq_getElem hk] at *
      show _ = decide ((keyK ws[k] net (t + 1)).getD line 0 ≠ 0)
      have i1 : ((laneRun net (lanesN n ws) t).getD (net.getD t (0, 0)).1.toNat 0).testBit k = decide ((keyK ws[k] net t).getD (net.getD t (0, 0)).1.toNat 0 ≠ 0) := i1
      have i2 : ((laneRun net (lanesN n ws) t).getD (net.getD t (0, 0)).2.toNat 0).testBit k = decide ((keyK ws[k] net t).getD (net.getD t (0, 0)).2.toNat 0 ≠ 0) := i2
      have i3 : ((laneRun net (lanesN n ws) t).getD line 0).testBit k = decide ((keyK ws[k] net t).getD line 0 ≠ 0) := ih line hl
      have b1 := kb (net.getD t (0, 0)).1.toNat
      have b2 := kb (net.getD t (0, 0)).2.toNat
      rw [e]
      by_cases s : swaps ws[k] net t
      · rw [if_pos s, swp_get _ (by omega) (by omega)]
        have s' : (keyK ws[k] net t).getD (net.getD t (0, 0)).2.toNat 0 < (keyK ws[k] net t).getD (net.getD t (0, 0)).1.toNat 0 := s
        by_cases l2 : line = (net.getD t (0, 0)).2.toNat
        · rw [if_pos l2, if_pos l2, Nat.testBit_or, i1, i2, decide_eq_true (show (keyK ws[k] net t).getD (net.getD t (0, 0)).1.toNat 0 ≠ 0 by omega), Bool.true_or]
        · rw [if_neg l2, if_neg l2]
          by_cases l1 : line = (net.getD t (0, 0)).1.toNat
          · rw [if_pos l1, if_pos l1, Nat.testBit_and, i1, i2, decide_eq_false (show ¬ (keyK ws[k] net t).getD (net.getD t (0, 0)).2.toNat 0 ≠ 0 by omega), Bool.and_false]
          · rw [if_neg l1, if_neg l1]
            exact i3
      · rw [if_neg s]
        have s' : ¬ (keyK ws[k] net t).getD (net.getD t (0, 0)).2.toNat 0 < (keyK ws[k] net t).getD (net.getD t (0, 0)).1.toNat 0 := s
        by_cases l2 : line = (net.getD t (0, 0)).2.toNat
        · rw [if_pos l2, Nat.testBit_or, i1, i2, l2]
          by_cases z : (keyK ws[k] net t).getD (net.getD t (0, 0)).1.toNat 0 = 0
          · rw [decide_eq_false (fun q => q z), Bool.false_or]
          · rw [decide_eq_true z, Bool.true_or, decide_eq_true (show (keyK ws[k] net t).getD (net.getD t (0, 0)).2.toNat 0 ≠ 0 by omega)]
        · rw [if_neg l2]
          by_cases l1 : line = (net.getD t (0, 0)).1.toNat
          · rw [if_pos l1, Nat.testBit_and, i1, i2, l1]
            by_cases z : (keyK ws[k] net t).getD (net.getD t (0, 0)).1.toNat 0 = 0
            · rw [decide_eq_false (fun q => q z), Bool.false_and]
            · rw [decide_eq_true z, Bool.true_and, decide_eq_true (show (keyK ws[k] net t).getD (net.getD t (0, 0)).2.toNat 0 ≠ 0 by omega)]
          · rw [if_neg l1]
            exact i3
    · rw [List.getElem?_eq_none (by omega)] at *
      have i1 : ((laneRun net (lanesN n ws) t).getD (net.getD t (0, 0)).1.toNat 0).testBit k = false := i1
      have i2 : ((laneRun net (lanesN n ws) t).getD (net.getD t (0, 0)).2.toNat 0).testBit k = false := i2
      have i3 : ((laneRun net (lanesN n ws) t).getD line 0).testBit k = false := ih line hl
      show _ = false
      split
      · rw [Nat.testBit_or, i1, i2]
        rfl
      split
      · rw [Nat.testBit_and, i1]
        rfl
      · exact i3
theorem exch_bit {n : Nat} {ws : List (List Int)} {net : List Gate} (hw : Bits ws n) (h : NetOk n net) (k : Nat) {t : Nat} (ht : t < net.length) : (exchN net (lanesN n ws) t).testBit k = match ws[k]? with
    | some w => decide (swaps w net t)
    | none => false := by
  have g := gate_at h ht
  unfold exchN
  rw [drop_bit, lanes_run hw h k t (by omega) _ (by omega), lanes_run hw h k t (by omega) _ (by omega)]
  unfold runBit
  by_cases hk : k < ws.length
  · rw [List.getElem?_eq_getElem hk]
    have hm := hw _ (List.getElem_mem hk)
    have b1 := keyK_bit (net := net) hm.2 t (net.getD t (0, 0)).1.toNat
    have b2 := keyK_bit (net := net) hm.2 t (net.getD t (0, 0)).2.toNat
    show (decide _ && !decide _) = decide _
    rw [Bool.eq_iff_iff, Bool.and_eq_true, decide_eq_true_eq, Bool.not_eq_true', decide_eq_false_iff_not, decide_eq_true_eq]
    unfold swaps
    omega
  · rw [List.getElem?_eq_none (by omega)]
    rfl
def liveB (ws : List (List Int)) (net : List Gate) (t : Nat) : Bool := ws.any fun w => decide (swaps w net t)
theorem exch_ne {n : Nat} {ws : List (List Int)} {net : List Gate} (hw : Bits ws n) (h : NetOk n net) {t : Nat} (ht : t < net.length) : ((exchN net (lanesN n ws) t : Int) != 0) = liveB ws net t := by
  rw [Bool.eq_iff_iff]
  unfold liveB
  rw [List.any_eq_true]
  constructor
  · intro hne
    have h0 : exchN net (lanesN n ws) t ≠ 0 := fun z => by rw [z] at hne; exact absurd hne (by decide)
    obtain ⟨k, hk⟩ := Nat.exists_testBit_of_ne_zero h0
    rw [exch_bit hw h k ht] at hk
    cases e : ws[k]? with
    | none =>
      rw [e] at hk
      cases hk
    | some w =>
      rw [e] at hk
      exact ⟨w, List.mem_of_getElem? e, hk⟩
  · rintro ⟨w, hm, hs⟩
    obtain ⟨k, hk, rfl⟩ := List.mem_iff_getElem.mp hm
    have e := exch_bit hw h k ht
    rw [List.getElem?_eq_getElem hk] at e
    have e2 : (exchN net (lanesN n ws) t).testBit k = true := e.trans hs
    rw [bne_iff_ne]
    intro z
    have z0 : exchN net (lanesN n ws) t = 0 := by omega
    rw [z0, Nat.zero_testBit] at e2
    cases e2
def liveN (ws : List (List Int)) (net : List Gate) : List Nat := (List.range net.length).filter (liveB ws net)
def natL (l : List Nat) : List Int := l.map fun (p : Nat) => (p : Int)
theorem words_bits (n : Nat) (ps : List Pr) : Bits (wordsN n ps) n := fun w hw => ⟨(words_row hw).1, (words_row hw).2.1⟩
/-- the spots of one row -/
theorem runS_spots {row : List Int} {net : List Gate} (h : NetOk row.length net) : ∀ t, t ≤ net.length → (runK row net t).2 = natL ((List.range t).filter fun t => decide (swaps row net t))
  | 0, _ => rfl
  | t + 1, ht => by
    rw [(run_step h (show t < net.length by omega)).2, List.range_succ, List.filter_append, runS_spots h t (by omega)]
    unfold natL
    by_cases s : swaps row net t
    · have e : [t].filter (fun t => decide (swaps row net t)) = [t] := List.filter_cons_of_pos (decide_eq_true s)
      rw [if_pos s, e, List.map_append]
      rfl
    · have e : [t].filter (fun t => decide (swaps row net t)) = [] := List.filter_cons_of_neg (by rw [decide_eq_false s]; decide)
      rw [if_neg s, e, List.append_nil]
/-- the spots of many rows, as they are met -/
def metK (net : List Gate) (rows : List (List Int)) : List Int := rows.foldl (fun ks row => (runS row net).foldl addS ks) []
theorem addS_mem {ks : List Int} {z x : Int} : x ∈ addS ks z ↔ x ∈ ks ∨ x = z := by
  unfold addS
  split
  · rename_i h
    exact ⟨.inl, fun q => q.elim id fun e => e ▸ h⟩
  · rw [List.mem_append, List.mem_singleton]
theorem addS_nodup {ks : List Int} {z : Int} (h : ks.Nodup) : (addS ks z).Nodup := by
  unfold addS
  split
  · exact h
  · rename_i hz
    rw [List.nodup_append]
    exact ⟨h, by simp, fun a ha b hb e => hz (by rw [List.mem_singleton] at hb; rw [← hb, ← e]; exact ha)⟩
theorem addAll_mem {x : Int} : ∀ {zs ks : List Int}, x ∈ zs.foldl addS ks ↔ x ∈ ks ∨ x ∈ zs
  | [], ks => by simp
  | z :: zs, ks => by
    rw [List.foldl_cons, addAll_mem, addS_mem, List.mem_cons]
    exact ⟨fun h => by rcases h with (h | h) | h <;> simp [h], fun h => by rcases h with h | h | h <;> simp [h]⟩
theorem addAll_nodup : ∀ {zs ks : List Int}, ks.Nodup → (zs.foldl addS ks).Nodup
  | [], _, h => h
  | z :: zs, ks, h => addAll_nodup (zs := zs) (addS_nodup h)
theorem met_mem {net : List Gate} {x : Int} : ∀ {rows : List (List Int)} {ks : List Int}, x ∈ rows.foldl (fun ks row => (runS row net).foldl addS ks) ks ↔ x ∈ ks ∨ ∃ row ∈ rows, x ∈ runS row net
  | [], ks => by simp
  | row :: rows, ks => by
    rw [List.foldl_cons, met_mem, addAll_mem]
    exact ⟨fun h => by
      rcases h with (h | h) | ⟨r, h1, h2⟩
      · exact .inl h
      · exact .inr ⟨row, List.mem_cons_self, h⟩
      · exact .inr ⟨r, List.mem_cons_of_mem _ h1, h2⟩, fun h => by
      rcases h with h | ⟨r, h1, h2⟩
      · exact .inl (.inl h)
      · rcases List.mem_cons.mp h1 with rfl | h1
        · exact .inl (.inr h2)
        · exact .inr ⟨r, h1, h2⟩⟩
theorem met_nodup {net : List Gate} : ∀ {rows : List (List Int)} {ks : List Int}, ks.Nodup → (rows.foldl (fun ks row => (runS row net).foldl addS ks) ks).Nodup
  | [], _, h => h
  | row :: rows, ks, h => met_nodup (rows := rows) (addAll_nodup h)
theorem natL_up {n : Nat} (p : Nat → Bool) : (natL ((List.range n).filter p)).Pairwise (· < ·) := by
  unfold natL
  rw [List.pairwise_map]
  refine List.Pairwise.imp (fun {a b} h => ?_) (List.pairwise_lt_range.filter p)
  have : a < b := h
  show (a : Int) < (b : Int)
  omega
theorem live_perm {n : Nat} {rows : List (List Int)} {net : List Gate} (hr : ∀ row ∈ rows, row.length = n) (h : NetOk n net) : (natL (liveN rows net)).Perm (metK net rows) := by
  refine (List.perm_ext_iff_of_nodup ?_ (met_nodup List.nodup_nil)).mpr fun x => ?_
  · exact (natL_up (liveB rows net)).imp fun h e => by
      rw [e] at h
      exact Int.lt_irrefl _ h
  · rw [met_mem]
    have key : ∀ row ∈ rows, x ∈ runS row net ↔ ∃ t : Nat, t < net.length ∧ swaps row net t ∧ x = (t : Int) := fun row hm => by
      have e : runS row net = _ := runS_spots (row := row) (by rw [hr row hm]; exact h) net.length (Nat.le_refl _)
      rw [e]
      unfold natL
      rw [List.mem_map]
      exact ⟨fun ⟨t, ht, e⟩ => by
        obtain ⟨a, b⟩ := List.mem_filter.mp ht
        exact ⟨t, List.mem_range.mp a, of_decide_eq_true b, e.symm⟩, fun ⟨t, a, b, e⟩ => ⟨t, List.mem_filter.mpr ⟨List.mem_range.mpr a, decide_eq_true b⟩, e.symm⟩⟩
    constructor
    · intro hx
      obtain ⟨t, ht, rfl⟩ := List.mem_map.mp hx
      obtain ⟨a, b⟩ := List.mem_filter.mp ht
      obtain ⟨row, hm, hs⟩ := List.any_eq_true.mp b
      exact .inr ⟨row, hm, (key row hm).mpr ⟨t, List.mem_range.mp a, of_decide_eq_true hs, rfl⟩⟩
    · rintro (h | ⟨row, hm, hx⟩)
      · cases h
      · obtain ⟨t, ht, hs, rfl⟩ := (key row hm).mp hx
        exact List.mem_map.mpr ⟨t, List.mem_filter.mpr ⟨List.mem_range.mpr ht, List.any_eq_true.mpr ⟨row, hm, decide_eq_true hs⟩⟩, rfl⟩
end K33

set_option maxRecDepth 100000
set_option maxHeartbeats 4000000
namespace K33
open PySem PySem.Spec PyProof.Rows L2 DL
section
variable {P : Program} {w : World} {K : PySem.W.Frag} {mg : Str → Option Value} {base : Heap}
/-! ### the program's lanes -/
def zD (x : Nat) : PyData := .int (x : Int)
theorem zD_at {l : List Nat} {i : Nat} (h : i < l.length) : (l.map zD)[i]? = some (zD (l.getD i 0)) := by
  rw [List.getElem?_map, List.getElem?_eq_getElem h, List.getD_eq_getElem?_getD, List.getElem?_eq_getElem h]
  rfl
theorem zI_at {l : List Nat} {i : Int} (h0 : 0 ≤ i) (h : i < l.length) : atI (l.map zD) i = some (.int ((l.getD i.toNat 0 : Nat) : Int)) := ix_at (zD_at (i := i.toNat) (by omega)) (by omega)
theorem ixN_ok {n : Nat} {i : Int} (h0 : 0 ≤ i) (h : i < n) : ixN n i = some i.toNat := by
  unfold ixN
  rw [if_pos h0, if_pos h]
theorem cpow_ok {b : Nat} (h : b ≤ 100000) : CPow 1 (b : Int) := ⟨by omega, by omega, by omega⟩
def R_wlanes : FR := fun as ob r ob' => ∃ (n : Nat) (ws : List (List Int)), as = [.dat (.int (n : Int)), .dat (.list (ws.map rD))] ∧ (∀ w ∈ ws, w.length = n) ∧ n ≤ 100 ∧ ws.length ≤ 2200 ∧ ob = [] ∧ r = .dat (.list ((lanesN n ws).map zD)) ∧ ob' = []
def laneP (n : Nat) (ws : List (List Int)) (k l : Nat) : List Nat := (List.range n).map fun m => if m < l then laneK ws m (k + 1) else laneK ws m k
theorem laneP_len (n : Nat) (ws : List (List Int)) (k l : Nat) : (laneP n ws k l).length = n := by
  unfold laneP
  rw [List.length_map, List.length_range]
theorem laneP_get {n : Nat} {ws : List (List Int)} {k l m : Nat} (h : m < n) : (laneP n ws k l)[m]? = some (if m < l then laneK ws m (k + 1) else laneK ws m k) := by
  unfold laneP
  rw [List.getElem?_map, List.getElem?_range h]
  rfl
theorem laneP_step {n : Nat} {ws : List (List Int)} {k l : Nat} (h : l < n) : laneP n ws k (l + 1) = (laneP n ws k l).set l (laneK ws l (k + 1)) := by
  refine List.ext_getElem? fun m => ?_
  rw [List.getElem?_set]
  by_cases hm : m < n
  · rw [laneP_get hm, laneP_get hm, laneP_len]
    by_cases e : l = m
    · subst e
      rw [if_pos rfl, if_pos hm, if_pos (by omega)]
    · rw [if_neg e]
      congr 1
      by_cases h2 : m < l
      · rw [if_pos h2, if_pos (by omega)]
      · rw [if_neg h2, if_neg (by omega)]
  · rw [List.getElem?_eq_none (by rw [laneP_len]; omega), List.getElem?_eq_none (by rw [laneP_len]; omega), laneP_len, if_neg (show ¬ l = m by omega)]
theorem laneP_end (n : Nat) (ws : List (List Int)) (k : Nat) : laneP n ws k n = laneP n ws (k + 1) 0 := by
  unfold laneP
  refine List.map_congr_left fun m hm => ?_
  rw [if_pos (List.mem_range.mp hm), if_neg (by omega)]
theorem rep0_D (n : Nat) : repD n [PyData.int 0] = (laneP n [] 0 0).map zD := by
  unfold laneP
  rw [List.map_map]
  refine List.ext_getElem? fun m => ?_
  rw [List.getElem?_map]
  by_cases hm : m < n
  · rw [List.getElem?_range hm]
    have : repD n [PyData.int 0] = List.replicate n (PyData.int 0) := by
      clear hm
      induction n with
      | zero => rfl
      | succ n ih => rw [repD_succ, ih]; rfl
    rw [this, List.getElem?_replicate, if_pos hm]
    rfl
  · rw [List.getElem?_eq_none (by rw [repD_len]; show n * 1 ≤ m; omega), List.getElem?_eq_none (by rw [List.length_range]; omega)]
    rfl
theorem scword_lanes : FnScope ["n", "words", "lanes", "k", "word", "line"] ["n", "words"] (defScope sword_lanes) := ⟨rfl, rfl, rfl, by decide +kernel, rfl, by decide +kernel, by decide +kernel⟩
theorem okword_lanes (D : Df K mg "word_lanes" sword_lanes ["n", "words"]) (B : Bi mg) (Cc : Cls K mg) : FnG P w K mg base CX0 1 D.f D.fd ["n", "words"] (spD K 2 R_wlanes) := by
  refine okG D.F scword_lanes (fun vs H Q E h => h.1) (fun cdv A outer s H vs Q E hr gd h => ?_)
  have hu := huX hr
  refine ⟨_, (pss_cons (ps_set (i := 2) scword_lanes.nd rfl (Or.inl rfl) (pe_op op_mulU (pe_lst (pa_cons pe_int pa_nil)) (pv 0)))
      (pss_cons (ps_for PassesOwn.never rfl (pi_enum (by rfl) B.z_enumerate (pa_cons (pv 1) pa_nil)) (pg_tup rfl (pgs_cons (pg_name (i := 3) scword_lanes.nd rfl (Or.inl rfl)) (pgs_cons (pg_name (i := 4) scword_lanes.nd rfl (Or.inl rfl)) pgs_nil)))
        (pss_one (ps_for PassesOwn.never rfl (pi_range1 (by rfl) B.z_range (pa_cons (pv 0) pa_nil)) (pg_name (i := 5) scword_lanes.nd rfl (Or.inl rfl))
          (pss_one (ps_if (pt_tru (pe_ix ix_seq (pv 4) (pv 5) (fun _ _ => rfl))) (pss_one (ps_augS (pv 2) (pv 5) get_list (pe_op op_shl pe_int (pv 3)) ip_or set_list)) pss_nil)))))
      (pss_one (ps_ret (pv 2))))), ?_⟩
  refine body_ofG h (by decide) (fun as ob r ob' hR => ?_) fun as ob r ob' hR hl => ?_
  · obtain ⟨n, ws, rfl, _, _, _, rfl, rfl, rfl⟩ := hR
    exact ⟨Nat.le_refl _, fun _ z => by cases z⟩
  obtain ⟨n, ws, rfl, hw, hn, hz, rfl, rfl, rfl⟩ := hR
  have rep := rol_rep (K := K) (S := ⟨[.dat (.int (n : Int)), .dat (.list (ws.map rD)), .un, .un, .un, .un], []⟩) (x := .dat (.list [PyData.int 0])) (ds := [PyData.int 0]) (i := (n : Int)) (.dat _) (by omega) (by show 1 * _ ≤ _; omega) (by omega)
  rw [Int.toNat_natCast, rep0_D] at rep
  refine ts_seq (ts_asg (x := .own 0) (S1 := ⟨[.dat (.int (n : Int)), .dat (.list (ws.map rD)), .un, .un, .un, .un], [.lst ((laneP n ws 0 0).map zD)]⟩) (eo_of_el (S1 := ⟨[.dat (.int (n : Int)), .dat (.list (ws.map rD)), .un, .un, .un, .un], []⟩) (el_op (ee_lst (ds := [.int 0]) (ed_cons ee_int ed_nil) (show (1 : Nat) ≤ 1000000 by decide)) (ee_var rfl) rep)) ?_)
  refine ts_seq (ts_for (ds := enumD (ws.map rD)) (S0 := ⟨[.dat (.int (n : Int)), .dat (.list (ws.map rD)), .own 0, .un, .un, .un], [.lst ((laneP n ws 0 0).map zD)]⟩) (ei_enum (ed_cons (ee_var rfl) ed_nil)) (fun k S => ∃ a b c, S = ⟨[.dat (.int (n : Int)), .dat (.list (ws.map rD)), .own 0, a, b, c], [.lst ((laneP n ws k 0).map zD)]⟩) ⟨.un, .un, .un, rfl⟩ ?_ ?_)
  · rintro k d S' hd ⟨a, b, c, rfl⟩
    obtain ⟨e, he, rfl⟩ := enumD_get hd
    obtain ⟨wd, hk, rfl⟩ := map_at he
    have hkl : k < ws.length := (List.getElem?_eq_some_iff.mp hk).1
    have hwl := hw wd (List.mem_of_getElem? hk)
    refine ⟨_, eg_tup (egs_cons eg_name (egs_cons eg_name egs_nil)), ts_for (ds := rngD 0 n) (S0 := ⟨[.dat (.int (n : Int)), .dat (.list (ws.map rD)), .own 0, .dat (.int (k : Int)), .dat (rD wd), c], [.lst ((laneP n ws k 0).map zD)]⟩) ?_ (fun l S => ∃ c, S = ⟨[.dat (.int (n : Int)), .dat (.list (ws.map rD)), .own 0, .dat (.int (k : Int)), .dat (rD wd), c], [.lst ((laneP n ws k l).map zD)]⟩) ⟨c, rfl⟩ ?_ ?_⟩
    · have := ei_rng1 (K := K) (S := ⟨[.dat (.int (n : Int)), .dat (.list (ws.map rD)), .own 0, .dat (.int (k : Int)), .dat (rD wd), c], [.lst ((laneP n ws k 0).map zD)]⟩) (n := (n : Int)) (ed_cons (ee_var (i := 0) rfl) ed_nil) (by omega)
      rw [Int.toNat_natCast] at this
      exact this
    · rintro l d S' hd ⟨c, rfl⟩
      obtain ⟨hl, rfl⟩ := rngD_get hd
      rw [show (0 : Int) + (l : Int) = (l : Int) by omega]
      have e1 : wordBit ws k l = (wd.getD l 0 != 0) := by
        unfold wordBit
        rw [hk]
        show decide (wd.getD l 0 ≠ 0) = _
        rw [Bool.eq_iff_iff, decide_eq_true_eq, bne_iff_ne]
      have gl : (laneP n ws k l).getD l 0 = laneK ws l k := by
        rw [List.getD_eq_getElem?_getD, laneP_get hl, if_neg (by omega)]
        rfl
      refine ⟨_, eg_name, ts_if (b := wd.getD l 0 != 0) (S1 := ⟨[.dat (.int (n : Int)), .dat (.list (ws.map rD)), .own 0, .dat (.int (k : Int)), .dat (rD wd), .dat (.int (l : Int))], [.lst ((laneP n ws k l).map zD)]⟩) (et_truI (ee_op (ee_var rfl) (ee_var rfl) (ro_ixT (nat_row (by omega))))) (fun hb => ?_) fun hb => ts_next ⟨.dat (.int (l : Int)), ?_⟩⟩
      · refine ts_augSI (k := 0) (ds := (laneP n ws k l).map zD) (n := l) (j := ((laneK ws l k : Nat) : Int)) (l := ((2 ^ k : Nat) : Int)) (ee_var rfl) (ee_var rfl) (ee_op ee_int (ee_var rfl) (ro_shl1 (cpow_ok (by omega)))) rfl ?_ ?_ ⟨.dat (.int (l : Int)), ?_⟩
        · rw [List.length_map, laneP_len]
          have := ixN_ok (n := n) (i := (l : Int)) (by omega) (by omega)
          rw [Int.toNat_natCast] at this
          exact this
        · rw [zD_at (by rw [laneP_len]; exact hl), gl]
          rfl
        · rw [bor_nat, laneP_step hl]
          have : laneK ws l (k + 1) = laneK ws l k ||| 2 ^ k := if_pos (e1.trans hb)
          rw [this, List.map_set]
          rfl
      · have : laneK ws l (k + 1) = laneK ws l k := if_neg (by rw [e1, hb]; decide)
        have e : laneP n ws k (l + 1) = laneP n ws k l := by
          rw [laneP_step hl, this]
          refine List.ext_getElem? fun m => ?_
          rw [List.getElem?_set]
          by_cases em : l = m
          · subst em
            rw [if_pos rfl, laneP_len, if_pos hl, laneP_get hl, if_neg (by omega)]
          · rw [if_neg em]
        rw [e]
    · rintro S' ⟨c, rfl⟩
      rw [rngD_len, laneP_end]
      exact ⟨_, _, _, rfl⟩
  · rintro S' ⟨a, b, c, rfl⟩
    rw [enumD_len, List.length_map]
    have e : laneP n ws ws.length 0 = lanesN n ws := by
      unfold laneP lanesN
      refine List.map_congr_left fun m _ => ?_
      rw [if_neg (by omega)]
    rw [e]
    exact ts_ret (ee_frz (ee_var rfl) rfl) ⟨rfl, List.nil_prefix⟩
def R_rlanes : FR := fun as ob r ob' => ∃ (net : List Gate) (lanes : List Nat), as = [.dat (nD net), .dat (.list (lanes.map zD))] ∧ NetOk lanes.length net ∧ net.length ≤ 2000 ∧ lanes.length ≤ 100 ∧ ob = [] ∧ r = .dat (.tuple [.list (((List.range net.length).map (exchN net lanes)).map zD), .list ((laneRun net lanes net.length).map zD)]) ∧ ob' = []
theorem scrun_lanes : FnScope ["network", "lanes", "now", "exchanging", "i", "j"] ["network", "lanes"] (defScope srun_lanes) := ⟨rfl, rfl, rfl, by decide +kernel, rfl, by decide +kernel, by decide +kernel⟩
theorem okrun_lanes (D : Df K mg "run_lanes" srun_lanes ["network", "lanes"]) (B : Bi mg) (Cc : Cls K mg) : FnG P w K mg base CX0 1 D.f D.fd ["network", "lanes"] (spD K 2 R_rlanes) := by
  refine okG D.F scrun_lanes (fun vs H Q E h => h.1) (fun cdv A outer s H vs Q E hr gd h => ?_)
  have hu := huX hr
  refine ⟨_, (pss_cons (ps_set (i := 2) scrun_lanes.nd rfl (Or.inl rfl) (pe_callTy cb_list (by rfl) B.z_list (by decide +kernel) (pa_cons (pv 1) pa_nil)))
      (pss_cons (ps_set (i := 3) scrun_lanes.nd rfl (Or.inl rfl) (pe_lst pa_nil))
      (pss_cons (ps_for PassesOwn.never rfl (pi_tup (pv 0)) (pg_tup rfl (pgs_cons (pg_name (i := 4) scrun_lanes.nd rfl (Or.inl rfl)) (pgs_cons (pg_name (i := 5) scrun_lanes.nd rfl (Or.inl rfl)) pgs_nil)))
        (pss_cons (ps_expr (pe_bm PySem.F.plainAttrs_list PySem.F.slot_list_append PySem.F.type_list_append mt_append (pv 3) (pa_cons (pe_op op_and (pe_ix ix_seq (pv 2) (pv 4) (fun _ _ => rfl)) (pe_un un_inv (pe_ix ix_seq (pv 2) (pv 5) (fun _ _ => rfl)))) pa_nil)))
        (pss_one (ps_asg (pe_tup (pa_cons (pe_op op_and (pe_ix ix_seq (pv 2) (pv 4) (fun _ _ => rfl)) (pe_ix ix_seq (pv 2) (pv 5) (fun _ _ => rfl))) (pa_cons (pe_op op_or (pe_ix ix_seq (pv 2) (pv 4) (fun _ _ => rfl)) (pe_ix ix_seq (pv 2) (pv 5) (fun _ _ => rfl))) pa_nil))) (pg_tup rfl (pgs_cons (pg_sub (pv 2) (pv 4) set_list) (pgs_cons (pg_sub (pv 2) (pv 5) set_list) pgs_nil)))))))
      (pss_one (ps_ret (pe_tup (pa_cons (pv 3) (pa_cons (pv 2) pa_nil)))))))), ?_⟩
  refine body_ofG h (by decide) (fun as ob r ob' hR => ?_) fun as ob r ob' hR hl => ?_
  · obtain ⟨net, lanes, rfl, _, _, _, rfl, rfl, rfl⟩ := hR
    exact ⟨Nat.le_refl _, fun _ z => by cases z⟩
  obtain ⟨net, lanes, rfl, hk, hz, hn, rfl, rfl, rfl⟩ := hR
  refine ts_seq (ts_asg (x := .own 0) (S1 := ⟨[.dat (nD net), .dat (.list (lanes.map zD)), .un, .un, .un, .un], [.lst (lanes.map zD)]⟩) (eo_of_el (S1 := ⟨[.dat (nD net), .dat (.list (lanes.map zD)), .un, .un, .un, .un], []⟩) (el_cb (ea_cons (ee_var rfl) ea_nil) (rcl_listL (.dat _)))) ?_)
  refine ts_seq (ts_asg (x := .own 1) (S1 := ⟨[.dat (nD net), .dat (.list (lanes.map zD)), .own 0, .un, .un, .un], [.lst (lanes.map zD), .lst []]⟩) (eo_of_el (S1 := ⟨[.dat (nD net), .dat (.list (lanes.map zD)), .own 0, .un, .un, .un], [.lst (lanes.map zD)]⟩) (el_lst ed_nil)) ?_)
  refine ts_seq (ts_for (ds := net.map gD) (S0 := ⟨[.dat (nD net), .dat (.list (lanes.map zD)), .own 0, .own 1, .un, .un], [.lst (lanes.map zD), .lst []]⟩) (ei_tup (ee_var rfl)) (fun t S => ∃ a b, S = ⟨[.dat (nD net), .dat (.list (lanes.map zD)), .own 0, .own 1, a, b], [.lst ((laneRun net lanes t).map zD), .lst (((List.range t).map (exchN net lanes)).map zD)]⟩) ⟨.un, .un, rfl⟩ ?_ ?_)
  · rintro t d S' hd ⟨a, b, rfl⟩
    obtain ⟨ht, rfl⟩ := net_at hd
    have hg := gate_at hk ht
    have ll := laneRun_len net lanes t
    rw [List.range_succ, List.map_append, List.map_append]
    show ∃ S'', _ ∧ Ts K _ S'' _
    have e1 : laneRun net lanes (t + 1) = laneStep (net.getD t (0, 0)) (laneRun net lanes t) := rfl
    have e2 : exchN net lanes t = dropN ((laneRun net lanes t).getD (net.getD t (0, 0)).1.toNat 0) ((laneRun net lanes t).getD (net.getD t (0, 0)).2.toNat 0) := rfl
    have l3 : (((List.range t).map (exchN net lanes)).map zD).length = t := by rw [List.length_map, List.length_map, List.length_range]
    rw [e1]
    show ∃ S'', _ ∧ Ts K _ S'' { nx := fun S => ∃ a b, S = ⟨[.dat (nD net), .dat (.list (lanes.map zD)), .own 0, .own 1, a, b], [.lst ((laneStep (net.getD t (0, 0)) (laneRun net lanes t)).map zD), .lst (((List.range t).map (exchN net lanes)).map zD ++ [zD (exchN net lanes t)])]⟩, rt := _, bk := _, ct := _ }
    rw [e2]
    generalize ((List.range t).map (exchN net lanes)).map zD = X at l3 ⊢
    generalize laneRun net lanes t = now at ll ⊢
    generalize net.getD t (0, 0) = g at hg ⊢
    have i1 : atI (now.map zD) g.1 = some (.int ((now.getD g.1.toNat 0 : Nat) : Int)) := zI_at (by omega) (by omega)
    have i2 : atI (now.map zD) g.2 = some (.int ((now.getD g.2.toNat 0 : Nat) : Int)) := zI_at (by omega) (by omega)
    refine ⟨_, eg_tup (egs_cons eg_name (egs_cons eg_name egs_nil)), ts_seq (ts_drop (ee_append (k := 1) (ds := X) (d := zD (dropN (now.getD g.1.toNat 0) (now.getD g.2.toNat 0))) (S1 := ⟨[.dat (nD net), .dat (.list (lanes.map zD)), .own 0, .own 1, .dat (.int g.1), .dat (.int g.2)], [.lst (now.map zD), .lst X]⟩) (ee_var rfl) (ee_op (ee_op (ee_var rfl) (ee_var rfl) (ro_ixL (.own rfl) i1)) (ee_un (ee_op (ee_var rfl) (ee_var rfl) (ro_ixL (.own rfl) i2)) ru_inv) ro_bdrop) ⟨_, rfl⟩ rfl (by omega)) ?_)⟩
    refine ts_asgG (ee_tup (ed_cons (ee_op (ee_op (ee_var rfl) (ee_var rfl) (ro_ixL (.own rfl) i1)) (ee_op (ee_var rfl) (ee_var rfl) (ro_ixL (.own rfl) i2)) ro_band) (ed_cons (ee_op (ee_op (ee_var rfl) (ee_var rfl) (ro_ixL (.own rfl) i1)) (ee_op (ee_var rfl) (ee_var rfl) (ro_ixL (.own rfl) i2)) ro_bor) ed_nil)))
        (egh_tup (eghs_cons (egh_sub (ee_var rfl) (ee_var rfl) rfl (by rw [List.length_map]; exact ixN_ok (by omega) (by omega))) (eghs_cons (egh_sub (ee_var rfl) (ee_var rfl) rfl (by rw [List.length_set, List.length_map]; exact ixN_ok (by omega) (by omega))) eghs_nil))) ⟨.dat (.int g.1), .dat (.int g.2), ?_⟩
    unfold laneStep
    rw [List.map_set, List.map_set]
    rfl
  · rintro S' ⟨a, b, rfl⟩
    rw [List.length_map]
    refine ts_ghost (i := 2) (k := 0) (ds := (laneRun net lanes net.length).map zD) rfl rfl ?_
    refine ts_ghost (i := 3) (k := 1) (ds := ((List.range net.length).map (exchN net lanes)).map zD) rfl rfl ?_
    exact ts_ret (S1 := ⟨[.dat (nD net), .dat (.list (lanes.map zD)), .dat (.list ((laneRun net lanes net.length).map zD)), .dat (.list (((List.range net.length).map (exchN net lanes)).map zD)), a, b], [.gone, .gone]⟩) (ee_tup (ed_cons (ee_var rfl) (ed_cons (ee_var rfl) ed_nil))) ⟨rfl, List.nil_prefix⟩
theorem lanesN_len (n : Nat) (ws : List (List Int)) : (lanesN n ws).length = n := by
  unfold lanesN
  rw [List.length_map, List.length_range]
/-- what a network of at most ten lines is asked about -/
structure AskIn (n : Nat) (ps : List Pr) (net : List Gate) : Prop where
  hk : NetOk n net
  len : net.length ≤ 2000
  n10 : n ≤ 10
  hp : PrOk n ps
  pl : ps.length ≤ 10000
theorem words_2100 {n : Nat} (ps : List Pr) (h : n ≤ 10) : (wordsN n ps).length ≤ 2200 := Nat.le_trans (words_len n ps) (Nat.le_trans (Nat.pow_le_pow_right (by decide) h) (by decide))
def keptN (n : Nat) (ps : List Pr) (net : List Gate) : Int := firstF net (natL (liveN (wordsN n ps) net))
/-! ### the law's own spots -/
end
end K33

set_option maxRecDepth 100000
set_option maxHeartbeats 4000000
namespace K33
open PySem PySem.Spec PyProof.Rows L2 DL
/-! ### the first word told, unlike words (family B) -/
def firstP (p : Nat → Bool) (len : Nat) : Nat := ((List.range len).find? p).getD len
theorem firstP_is {p : Nat → Bool} {len f : Nat} (h1 : f ≤ len) (h2 : ∀ t, t < f → p t = false) (h3 : f < len → p f = true) : firstP p len = f := by
  unfold firstP
  by_cases e : f = len
  · subst e
    rw [List.find?_eq_none.mpr fun t ht => by rw [h2 t (List.mem_range.mp ht)]; exact Bool.false_ne_true]
    rfl
  · have : (List.range len).find? p = some f := by
      rw [List.find?_range_eq_some]
      exact ⟨h3 (by omega), List.mem_range.mpr (by omega), fun t ht => by rw [h2 t ht]; rfl⟩
    rw [this]
    rfl
theorem firstP_all (p : Nat → Bool) (len : Nat) : firstP p len ≤ len ∧ (∀ t, t < firstP p len → p t = false) ∧ (firstP p len < len → p (firstP p len) = true) := by
  unfold firstP
  cases e : (List.range len).find? p with
  | none =>
    refine ⟨Nat.le_refl _, fun t ht => ?_, fun z => absurd z (Nat.lt_irrefl _)⟩
    have := List.find?_eq_none.mp e t (List.mem_range.mpr ht)
    simpa using this
  | some f =>
    obtain ⟨h1, h2, h3⟩ := List.find?_range_eq_some.mp e
    have h2 := List.mem_range.mp h2
    refine ⟨by show f ≤ len; omega, fun t ht => ?_, fun _ => h1⟩
    have := h3 t ht
    simpa using this
theorem runBit_O {ws : List (List Int)} {one two : List Gate} (h : ∀ w ∈ ws, runO w one = runO w two) (k line : Nat) : runBit ws one k one.length line = runBit ws two k two.length line := by
  unfold runBit
  by_cases hk : k < ws.length
  · rw [List.getElem?_eq_getElem hk]
    have e : keyK ws[k] one one.length = keyK ws[k] two two.length := h _ (List.getElem_mem hk)
    show decide _ = decide _
    rw [e]
  · rw [List.getElem?_eq_none (by omega)]
theorem lanes_same {n : Nat} {ws : List (List Int)} (hw : Bits ws n) {one two : List Gate} (h1 : NetOk n one) (h2 : NetOk n two) (h : ∀ w ∈ ws, runO w one = runO w two) : laneRun one (lanesN n ws) one.length = laneRun two (lanesN n ws) two.length := by
  have ln : (lanesN n ws).length = n := by
    unfold lanesN
    rw [List.length_map, List.length_range]
  have l1 := laneRun_len one (lanesN n ws) one.length
  have l2 := laneRun_len two (lanesN n ws) two.length
  refine List.ext_getElem (by omega) fun i hi hi2 => ?_
  have e1 : (laneRun one (lanesN n ws) one.length).getD i 0 = (laneRun one (lanesN n ws) one.length)[i] := by
    rw [List.getD_eq_getElem?_getD, List.getElem?_eq_getElem hi]
    rfl
  have e2 : (laneRun two (lanesN n ws) two.length).getD i 0 = (laneRun two (lanesN n ws) two.length)[i] := by
    rw [List.getD_eq_getElem?_getD, List.getElem?_eq_getElem hi2]
    rfl
  rw [← e1, ← e2]
  refine Nat.eq_of_testBit_eq fun k => ?_
  rw [lanes_run hw h1 k _ (Nat.le_refl _) i (by omega), lanes_run hw h2 k _ (Nat.le_refl _) i (by omega)]
  exact runBit_O h k i

def toldD (ws : List (List Int)) (a : Nat) : PyData := if a = 0 then .none else rD (ws.getD (firstP (fun k => a.testBit k) ws.length) [])
theorem told_at {ws : List (List Int)} {a : Nat} (h : ∀ k, a.testBit k = true → k < ws.length) (h0 : a ≠ 0) : firstP (fun k => a.testBit k) ws.length < ws.length ∧ a.testBit (firstP (fun k => a.testBit k) ws.length) = true ∧ ∀ i, i < firstP (fun k => a.testBit k) ws.length → a.testBit i = false := by
  obtain ⟨h1, h2, h3⟩ := firstP_all (fun k => a.testBit k) ws.length
  have lt : firstP (fun k => a.testBit k) ws.length < ws.length := by
    obtain ⟨k, hk⟩ := Nat.exists_testBit_of_ne_zero h0
    have := h k hk
    by_cases q : firstP (fun k => a.testBit k) ws.length < ws.length
    · exact q
    · have := h2 k (by omega)
      rw [hk] at this
      cases this
  exact ⟨lt, h3 lt, h2⟩
section
variable {P : Program} {w : World} {K : PySem.W.Frag} {mg : Str → Option Value} {base : Heap}
def R_told : FR := fun as ob r ob' => ∃ (ws : List (List Int)) (a : Nat), as = [.dat (.list (ws.map rD)), .dat (.int (a : Int))] ∧ (∀ k, a.testBit k = true → k < ws.length) ∧ ob = [] ∧ r = .dat (toldD ws a) ∧ ob' = []
theorem scfirst_told : FnScope ["words", "told"] ["words", "told"] (defScope sfirst_told) := ⟨rfl, rfl, rfl, by decide +kernel, rfl, by decide +kernel, by decide +kernel⟩
theorem okfirst_told (D : Df K mg "first_told" sfirst_told ["words", "told"]) (B : Bi mg) (Cc : Cls K mg) : FnG P w K mg base CX0 1 D.f D.fd ["words", "told"] (spD K 2 R_told) := by
  refine okG D.F scfirst_told (fun vs H Q E h => h.1) (fun cdv A outer s H vs Q E hr gd h => ?_)
  have hu := huX hr
  refine ⟨_, (pss_cons (ps_if (pt_cmpR (op_eqU hu) (pv 1) pe_int (nomark _)) (pss_one (ps_ret pe_non)) pss_nil)
      (pss_one (ps_ret (pe_ix ix_seq (pv 0) (pe_op op_subU (pe_bits (pe_op op_and (pv 1) (pe_un un_negU (pv 1)))) pe_int) (fun _ _ => rfl))))), ?_⟩
  refine body_of h (by decide) fun as ob r ob' hR hl => ?_
  obtain ⟨ws, a, rfl, hb, rfl, rfl, rfl⟩ := hR
  unfold toldD
  by_cases h0 : a = 0
  · rw [if_pos h0]
    exact ts_seq (ts_if (b := true) (et_eq (et_test (ee_op (ee_var rfl) ee_int ro_eqI)) (decide_eq_true (by omega))) (fun _ => ts_ret ee_non ⟨rfl, rfl⟩) fun z => by cases z)
  · rw [if_neg h0]
    obtain ⟨t1, t2, t3⟩ := told_at hb h0
    refine ts_seq (ts_if (b := false) (et_eq (et_test (ee_op (ee_var rfl) ee_int ro_eqI)) (decide_eq_false (by omega))) (fun z => by cases z) fun _ => ts_next ?_)
    have e : (Builtin.Int.intBits (Builtin.bitAnd (a : Int) (-(a : Int))) : Int) - 1 = ((firstP (fun k => a.testBit k) ws.length : Nat) : Int) := by
      rw [band_neg t2 t3, bits_pow]
      omega
    have at1 : atI (ws.map rD) ((Builtin.Int.intBits (Builtin.bitAnd (a : Int) (-(a : Int))) : Int) - 1) = some (rD (ws.getD (firstP (fun k => a.testBit k) ws.length) [])) := by
      rw [e]
      refine atI_nat ?_
      rw [List.getElem?_map, List.getElem?_eq_getElem t1, List.getD_eq_getElem?_getD, List.getElem?_eq_getElem t1]
      rfl
    exact ts_ret (ee_op (ee_var rfl) (ee_op (ee_bits (ee_op (ee_var rfl) (ee_un (ee_var rfl) ru_neg) (ro_I0 fun _ => .int _))) ee_int ro_sub) (ro_ixL (.dat _) at1)) ⟨rfl, rfl⟩
abbrev Su (n : Nat) (ps : List Pr) (one two : List Gate) (a b c d e f g : SD) : SS := ⟨[.dat (.int (n : Int)), .dat (oD ps), .dat (nD one), .dat (nD two), a, b, c, d, e, f, g], []⟩
theorem band_self (a : Nat) : Builtin.bitAnd (a : Int) (a : Int) = (a : Int) := by
  unfold Builtin.bitAnd
  rw [decide_eq_true (show (0 : Int) ≤ (a : Int) by omega)]
  show (((a : Int).toNat &&& (a : Int).toNat : Nat) : Int) = _
  rw [Nat.and_self, Int.toNat_natCast]
theorem xor_self0 (a : Nat) : Builtin.bitXor (a : Int) (a : Int) = 0 := by
  have e : Builtin.bitOr (a : Int) (a : Int) = (a : Int) := by
    unfold Builtin.bitOr Builtin.bitAnd Builtin.bitNot
    rw [decide_eq_false (show ¬ (0 : Int) ≤ -(a : Int) - 1 by omega)]
    show -(-((((-(-(a : Int) - 1) - 1).toNat ||| (-(-(a : Int) - 1) - 1).toNat : Nat) : Int)) - 1) - 1 = _
    rw [Nat.or_self]
    omega
  unfold Builtin.bitXor
  rw [e, band_self]
  omega
def R_unlike : FR := fun as ob r ob' => ∃ (n : Nat) (ps : List Pr) (one two : List Gate), as = [.dat (.int (n : Int)), .dat (oD ps), .dat (nD one), .dat (nD two)] ∧ AskIn n ps one ∧ AskIn n ps two ∧ (∀ w ∈ wordsN n ps, runO w one = runO w two) ∧ ob = [] ∧ r = .dat .none ∧ ob' = []
theorem scunlike_word : FnScope ["n", "order", "one", "other", "words", "lanes", "_", "lanes_of_one", "lanes_of_other", "unlike", "line"] ["n", "order", "one", "other"] (defScope sunlike_word) := ⟨rfl, rfl, rfl, by decide +kernel, rfl, by decide +kernel, by decide +kernel⟩
theorem okunlike_word (D : Df K mg "unlike_word" sunlike_word ["n", "order", "one", "other"]) (B : Bi mg) (Cc : Cls K mg) (Dword_lanes : Df K mg "word_lanes" sword_lanes ["n", "words"]) (Drun_lanes : Df K mg "run_lanes" srun_lanes ["network", "lanes"]) (Dfirst_told : Df K mg "first_told" sfirst_told ["words", "told"]) (Dlet_words : Df K mg "let_words" slet_words ["n", "order"]) (Dlet_rows : Df K mg "let_rows" slet_rows ["order", "choices"]) (D_let_keys : Df K mg "_let_keys" s_let_keys ["row", "below", "keys"]) : FnG P w K mg base CX0 4 D.f D.fd ["n", "order", "one", "other"] (spD K 4 R_unlike) := by
  have okword_lanes : FnG P w K mg base CX0 1 _ _ _ _ := okword_lanes Dword_lanes B Cc
  have okrun_lanes : FnG P w K mg base CX0 1 _ _ _ _ := okrun_lanes Drun_lanes B Cc
  have okfirst_told : FnG P w K mg base CX0 1 _ _ _ _ := okfirst_told Dfirst_told B Cc
  have oklet_words : FnG P w K mg base CX0 3 _ _ _ _ := oklet_words Dlet_words B Cc Dlet_rows D_let_keys
  refine okG D.F scunlike_word (fun vs H Q E h => h.1) (fun cdv A outer s H vs Q E hr gd h => ?_)
  have hu := huX hr
  refine ⟨_, (pss_cons (ps_set (i := 4) scunlike_word.nd rfl (Or.inl rfl) (pe_callG (oklet_words) (hr.mono (by decide)) gd (by rfl) Dlet_words.m Dlet_words.F.kp Dlet_words.b .nil pass0 (pa_cons (pv 0) (pa_cons (pv 1) pa_nil))))
      (pss_cons (ps_set (i := 5) scunlike_word.nd rfl (Or.inl rfl) (pe_callG (okword_lanes) (hr.mono (by decide)) gd (by rfl) Dword_lanes.m Dword_lanes.F.kp Dword_lanes.b .nil pass0 (pa_cons (pv 0) (pa_cons (pv 4) pa_nil))))
      (pss_cons (ps_asg (pe_callG (okrun_lanes) (hr.mono (by decide)) gd (by rfl) Drun_lanes.m Drun_lanes.F.kp Drun_lanes.b .nil pass0 (pa_cons (pv 2) (pa_cons (pv 5) pa_nil))) (pg_tup rfl (pgs_cons (pg_name (i := 6) scunlike_word.nd rfl (Or.inl rfl)) (pgs_cons (pg_name (i := 7) scunlike_word.nd rfl (Or.inl rfl)) pgs_nil))))
      (pss_cons (ps_asg (pe_callG (okrun_lanes) (hr.mono (by decide)) gd (by rfl) Drun_lanes.m Drun_lanes.F.kp Drun_lanes.b .nil pass0 (pa_cons (pv 3) (pa_cons (pv 5) pa_nil))) (pg_tup rfl (pgs_cons (pg_name (i := 6) scunlike_word.nd rfl (Or.inl rfl)) (pgs_cons (pg_name (i := 8) scunlike_word.nd rfl (Or.inl rfl)) pgs_nil))))
      (pss_cons (ps_set (i := 9) scunlike_word.nd rfl (Or.inl rfl) pe_int)
      (pss_cons (ps_for PassesOwn.never rfl (pi_range1 (by rfl) B.z_range (pa_cons (pv 0) pa_nil)) (pg_name (i := 10) scunlike_word.nd rfl (Or.inl rfl))
        (pss_one (ps_aug (i := 9) scunlike_word.nd rfl (Or.inl rfl) (pe_op op_xor (pe_ix ix_seq (pv 7) (pv 10) (fun _ _ => rfl)) (pe_ix ix_seq (pv 8) (pv 10) (fun _ _ => rfl))) ip_or)))
      (pss_one (ps_ret (pe_callG (okfirst_told) (hr.mono (by decide)) gd (by rfl) Dfirst_told.m Dfirst_told.F.kp Dfirst_told.b .nil pass0 (pa_cons (pv 4) (pa_cons (pv 9) pa_nil))))))))))), ?_⟩
  refine body_of h (by decide) fun as ob r ob' hR hl => ?_
  obtain ⟨n, ps, one, two, rfl, h1, h2, he, rfl, rfl, rfl⟩ := hR
  have hb := words_bits n ps
  have ln : (lanesN n (wordsN n ps)).length = n := by
    unfold lanesN
    rw [List.length_map, List.length_range]
  have hn := h1.n10
  have lz := words_2100 (n := n) ps h1.n10
  have z1 := h1.len
  have z2 := h2.len
  have eL := lanes_same hb h1.hk h2.hk he
  refine ts_seq (ts_asg (x := (.dat (.list ((wordsN n ps).map rD)))) (S1 := Su n ps one two .un .un .un .un .un .un .un) (ee_callD (ed_cons (ee_var rfl) (ed_cons (ee_var rfl) ed_nil)) rfl ⟨n, ps, rfl, h1.hp, h1.pl, h1.n10, rfl, rfl, rfl⟩) ?_)
  refine ts_seq (ts_asg (x := (.dat (.list ((lanesN n (wordsN n ps)).map zD)))) (S1 := Su n ps one two (.dat (.list ((wordsN n ps).map rD))) .un .un .un .un .un .un) (ee_callD (ed_cons (ee_var rfl) (ed_cons (ee_var rfl) ed_nil)) rfl ⟨n, wordsN n ps, rfl, fun w h => (words_row h).1, by omega, lz, rfl, rfl, rfl⟩) ?_)
  have r1 : R_rlanes (([nD one, .list ((lanesN n (wordsN n ps)).map zD)] : List PyData).map SD.dat) [] (.dat (.tuple [.list (((List.range one.length).map (exchN one (lanesN n (wordsN n ps)))).map zD), .list ((laneRun one (lanesN n (wordsN n ps)) one.length).map zD)])) [] := ⟨one, _, rfl, by rw [ln]; exact h1.hk, z1, by omega, rfl, rfl, rfl⟩
  have r2 : R_rlanes (([nD two, .list ((lanesN n (wordsN n ps)).map zD)] : List PyData).map SD.dat) [] (.dat (.tuple [.list (((List.range two.length).map (exchN two (lanesN n (wordsN n ps)))).map zD), .list ((laneRun two (lanesN n (wordsN n ps)) two.length).map zD)])) [] := ⟨two, _, rfl, by rw [ln]; exact h2.hk, z2, by omega, rfl, rfl, rfl⟩
  have ll := laneRun_len two (lanesN n (wordsN n ps)) two.length
  rw [ln] at ll
  rw [eL] at r1
  generalize laneRun two (lanesN n (wordsN n ps)) two.length = lr at *
  generalize ((List.range one.length).map (exchN one (lanesN n (wordsN n ps)))).map zD = x1 at *
  generalize ((List.range two.length).map (exchN two (lanesN n (wordsN n ps)))).map zD = x2 at *
  refine ts_seq (ts_asgG (d := .tuple [.list x1, .list (lr.map zD)]) (S1 := Su n ps one two (.dat (.list ((wordsN n ps).map rD))) (.dat (.list ((lanesN n (wordsN n ps)).map zD))) .un .un .un .un .un) (ee_callD (ed_cons (ee_var rfl) (ed_cons (ee_var rfl) ed_nil)) rfl r1) (egh_of (eg_tup (egs_cons eg_name (egs_cons eg_name egs_nil)))) ?_)
  refine ts_seq (ts_asgG (d := .tuple [.list x2, .list (lr.map zD)]) (S1 := Su n ps one two (.dat (.list ((wordsN n ps).map rD))) (.dat (.list ((lanesN n (wordsN n ps)).map zD))) (.dat (.list x1)) (.dat (.list (lr.map zD))) .un .un .un) (ee_callD (ed_cons (ee_var rfl) (ed_cons (ee_var rfl) ed_nil)) rfl r2) (egh_of (eg_tup (egs_cons eg_name (egs_cons eg_name egs_nil)))) ?_)
  refine ts_seq (ts_asg (x := .dat (.int 0)) (S1 := Su n ps one two (.dat (.list ((wordsN n ps).map rD))) (.dat (.list ((lanesN n (wordsN n ps)).map zD))) (.dat (.list x2)) (.dat (.list (lr.map zD))) (.dat (.list (lr.map zD))) .un .un) ee_int ?_)
  show Ts K _ (Su n ps one two (.dat (.list ((wordsN n ps).map rD))) (.dat (.list ((lanesN n (wordsN n ps)).map zD))) (.dat (.list x2)) (.dat (.list (lr.map zD))) (.dat (.list (lr.map zD))) (.dat (.int 0)) .un) _
  refine ts_seq (ts_for (S0 := Su n ps one two (.dat (.list ((wordsN n ps).map rD))) (.dat (.list ((lanesN n (wordsN n ps)).map zD))) (.dat (.list x2)) (.dat (.list (lr.map zD))) (.dat (.list (lr.map zD))) (.dat (.int 0)) .un) (ei_rng1 (n := (n : Int)) (ed_cons (ee_var rfl) ed_nil) (by omega)) (fun k S => ∃ a, S = Su n ps one two (.dat (.list ((wordsN n ps).map rD))) (.dat (.list ((lanesN n (wordsN n ps)).map zD))) (.dat (.list x2)) (.dat (.list (lr.map zD))) (.dat (.list (lr.map zD))) (.dat (.int 0)) a) ⟨.un, rfl⟩ ?_ ?_)
  · rintro k d S' hd ⟨a, rfl⟩
    obtain ⟨hk, rfl⟩ := rngD_get hd
    have hk : k < n := by omega
    have e0 : (0 : Int) + (k : Int) = (k : Int) := by omega
    rw [e0]
    have at1 : atI (lr.map zD) (k : Int) = some (.int ((lr.getD k 0 : Nat) : Int)) := by
      refine atI_nat ?_
      rw [List.getElem?_map, List.getElem?_eq_getElem (by omega), List.getD_eq_getElem?_getD, List.getElem?_eq_getElem (by omega)]
      rfl
    refine ⟨_, eg_name, ts_aug (j := 0) (l := 0) (S1 := Su n ps one two (.dat (.list ((wordsN n ps).map rD))) (.dat (.list ((lanesN n (wordsN n ps)).map zD))) (.dat (.list x2)) (.dat (.list (lr.map zD))) (.dat (.list (lr.map zD))) (.dat (.int 0)) (.dat (.int (k : Int)))) rfl ?_ ⟨_, rfl⟩⟩
    rw [← xor_self0 (lr.getD k 0)]
    exact ee_op (ee_op (ee_var rfl) (ee_var rfl) (ro_ixL (.dat _) at1)) (ee_op (ee_var rfl) (ee_var rfl) (ro_ixL (.dat _) at1)) (ro_I0 fun _ => .int _)
  rintro S' ⟨a, rfl⟩
  refine ts_ret (ee_callD (d := .none) (ed_cons (ee_var rfl) (ed_cons (ee_var rfl) ed_nil)) rfl ⟨wordsN n ps, 0, rfl, (fun k z => by rw [Nat.zero_testBit] at z; cases z), rfl, rfl, rfl⟩) ⟨rfl, rfl⟩
end
end K33

set_option maxRecDepth 100000
set_option maxHeartbeats 4000000
namespace K33
open PySem PySem.Spec PyProof.Rows L2 DL
/-! ### near networks of an image -/
def insK : Nat → List Int × List Gate → List Int × List Gate
  | 0, s => s
  | k + 1, s => if s.1.getD k 0 < s.1.getD (k + 1) 0 then insK k (swp s.1 k (k + 1), s.2 ++ [((k : Int), (k : Int) + 1)]) else s
def nearL (ks : List Int) : Nat → List Int × List Gate
  | 0 => (ks, [])
  | m + 1 => insK (m + 1) (nearL ks m)
def nearN (ks : List Int) : List Gate := (nearL ks (ks.length - 1)).2.reverse
theorem insK_len : ∀ (k : Nat) (s : List Int × List Gate), (insK k s).1.length = s.1.length ∧ (insK k s).2.length ≤ s.2.length + k
  | 0, s => ⟨rfl, Nat.le_refl _⟩
  | k + 1, s => by
    show (if _ then _ else _ : List Int × List Gate).1.length = _ ∧ (if _ then _ else _ : List Int × List Gate).2.length ≤ _
    split
    · obtain ⟨h1, h2⟩ := insK_len k (swp s.1 k (k + 1), s.2 ++ [((k : Int), (k : Int) + 1)])
      refine ⟨by rw [h1, swp_len], ?_⟩
      rw [List.length_append] at h2
      have h2 : _ ≤ s.2.length + 1 + k := h2
      omega
    · exact ⟨rfl, by omega⟩
theorem nearL_len (ks : List Int) : ∀ m, (nearL ks m).1.length = ks.length ∧ (nearL ks m).2.length ≤ m * (m + 1)
  | 0 => ⟨rfl, Nat.le_refl _⟩
  | m + 1 => by
    obtain ⟨h1, h2⟩ := nearL_len ks m
    obtain ⟨h3, h4⟩ := insK_len (m + 1) (nearL ks m)
    refine ⟨h3.trans h1, ?_⟩
    show (insK (m + 1) (nearL ks m)).2.length ≤ (m + 1) * (m + 1 + 1)
    have e : (m + 1) * (m + 1 + 1) = m * (m + 1) + 2 * (m + 1) := by
      rw [← Nat.add_mul, Nat.mul_comm, Nat.add_comm m 2]
    omega
theorem ixN_n {n i : Nat} (h : i < n) : ixN n (i : Int) = some i := by
  unfold ixN
  rw [if_pos (by omega), if_pos (by omega), Int.toNat_natCast]
theorem ls_at {ls : List Int} {k : Nat} (h : k < ls.length) : atI (ls.map PyData.int) (k : Int) = some (.int (ls.getD k 0)) := by
  have := at_int (ns := ls) (i := (k : Int)) (by omega) (by omega)
  rw [Int.toNat_natCast] at this
  exact this
section
variable {P : Program} {w : World} {K : PySem.W.Frag} {mg : Str → Option Value} {base : Heap}
abbrev Sn (ks : List Int) (ls : List Int) (gs : List Gate) (a b : SD) : SS := ⟨[.dat (rD ks), .own 0, .own 1, a, b], [.lst (ls.map PyData.int), .lst (gs.map gD)]⟩
def R_near : FR := fun as ob r ob' => ∃ ks : List Int, as = [.dat (rD ks)] ∧ ob = [] ∧ 1 ≤ ks.length ∧ ks.length ≤ 100 ∧ r = .dat (nD (nearN ks)) ∧ ob' = []
theorem sc_near_network : FnScope ["keys", "lines", "gates", "last", "k"] ["keys"] (defScope s_near_network) := ⟨rfl, rfl, rfl, by decide +kernel, rfl, by decide +kernel, by decide +kernel⟩
theorem ok_near_network (D : Df K mg "_near_network" s_near_network ["keys"]) (B : Bi mg) (Cc : Cls K mg) : FnG P w K mg base CX0 1 D.f D.fd ["keys"] (spD K 1 R_near) := by
  refine okG D.F sc_near_network (fun vs H Q E h => h.1) (fun cdv A outer s H vs Q E hr gd h => ?_)
  have hu := huX hr
  refine ⟨_, (pss_cons (ps_set (i := 1) sc_near_network.nd rfl (Or.inl rfl) (pe_callTy cb_list (by rfl) B.z_list (by decide +kernel) (pa_cons (pv 0) pa_nil)))
      (pss_cons (ps_set (i := 2) sc_near_network.nd rfl (Or.inl rfl) (pe_lst pa_nil))
      (pss_cons (ps_for PassesOwn.never rfl (pi_range2 (by rfl) B.z_range (pa_cons pe_int (pa_cons (pe_callB cb_len (by rfl) B.z_len PySem.boot_len (pa_cons (pv 1) pa_nil)) pa_nil))) (pg_name (i := 3) sc_near_network.nd rfl (Or.inl rfl))
        (pss_cons (ps_set (i := 4) sc_near_network.nd rfl (Or.inl rfl) (pv 3))
        (pss_one (ps_while PassesOwn.never (PW.pt (pw_and (pt_cmpR (op_gtU hu) (pv 4) pe_int (nomark _)) (pw_and1 (pt_cmpR (op_ltU hu) (pe_ix ix_seq (pv 1) (pe_op op_subU (pv 4) pe_int) (fun _ _ => rfl)) (pe_ix ix_seq (pv 1) (pv 4) (fun _ _ => rfl)) (nomark _)))))
          (pss_cons (ps_asg (pe_tup (pa_cons (pe_ix ix_seq (pv 1) (pv 4) (fun _ _ => rfl)) (pa_cons (pe_ix ix_seq (pv 1) (pe_op op_subU (pv 4) pe_int) (fun _ _ => rfl)) pa_nil))) (pg_tup rfl (pgs_cons (pg_sub (pv 1) (pe_op op_subU (pv 4) pe_int) set_list) (pgs_cons (pg_sub (pv 1) (pv 4) set_list) pgs_nil))))
          (pss_cons (ps_expr (pe_bm PySem.F.plainAttrs_list PySem.F.slot_list_append PySem.F.type_list_append mt_append (pv 2) (pa_cons (pe_tup (pa_cons (pe_op op_subU (pv 4) pe_int) (pa_cons (pv 4) pa_nil))) pa_nil)))
          (pss_one (ps_aug (i := 4) sc_near_network.nd rfl (Or.inl rfl) pe_int ip_sub))))))))
      (pss_one (ps_ret (pe_callTy cb_tuple (by rfl) B.z_tuple (by decide +kernel) (pa_cons (pe_revL (pv 2)) pa_nil))))))), ?_⟩
  refine body_ofG h (by decide) (fun as ob r ob' hR => ?_) fun as ob r ob' hR hl => ?_
  · obtain ⟨ks, rfl, rfl, _, _, rfl, rfl⟩ := hR
    exact ⟨Nat.le_refl _, fun _ z => by cases z⟩
  obtain ⟨ks, rfl, rfl, h1, h100, rfl, rfl⟩ := hR
  refine ts_seq (ts_asg (x := .own 0) (S1 := ⟨[.dat (rD ks), .un, .un, .un, .un], [.lst (ks.map PyData.int)]⟩) (eo_of_el (el_cb (ea_cons (ee_var rfl) ea_nil) rcl_listT)) ?_)
  refine ts_seq (ts_asg (x := .own 1) (S1 := ⟨[.dat (rD ks), .own 0, .un, .un, .un], [.lst (ks.map PyData.int), .lst []]⟩) (eo_of_el (el_lst ed_nil)) ?_)
  show Ts K _ (Sn ks (nearL ks 0).1 (nearL ks 0).2 .un .un) _
  refine ts_seq (ts_for (ds := rngD 1 (ks.length - 1)) (S0 := Sn ks (nearL ks 0).1 (nearL ks 0).2 .un .un) (by
    have := ei_rng2 (K := K) (S := Sn ks (nearL ks 0).1 (nearL ks 0).2 .un .un) (lo := 1) (n := (ks.length : Int)) (ed_cons ee_int (ed_cons (ee_eq (ee_cb (ea_cons (ee_var (i := 1) rfl) ea_nil) (rc_lenL (.own rfl))) (by rw [List.length_map]; rfl)) ed_nil)) (by omega)
    rw [show ((ks.length : Int) - 1).toNat = ks.length - 1 by omega] at this
    exact this) (fun i S => ∃ a b, S = Sn ks (nearL ks i).1 (nearL ks i).2 a b) ⟨.un, .un, rfl⟩ ?_ ?_)
  · rintro i d S' hd ⟨a, b, rfl⟩
    obtain ⟨hi, rfl⟩ := rngD_get hd
    have hi : i < ks.length - 1 := hi
    have e0 : (1 : Int) + (i : Int) = ((i + 1 : Nat) : Int) := by omega
    rw [e0]
    obtain ⟨n1, n2⟩ := nearL_len ks i
    have nn : i * (i + 1) ≤ 100 * 100 := Nat.mul_le_mul (by omega) (by omega)
    have es : nearL ks (i + 1) = insK (i + 1) (nearL ks i) := rfl
    rw [es]
    generalize nearL ks i = s at n1 n2 ⊢
    obtain ⟨ls, gs⟩ := s
    dsimp only at n1 n2 ⊢
    refine ⟨_, eg_name, ts_seq (ts_asg (x := .dat (.int ((i + 1 : Nat) : Int))) (S1 := Sn ks ls gs (.dat (.int ((i + 1 : Nat) : Int))) b) (ee_var rfl) ?_)⟩
    show Ts K _ (Sn ks ls gs (.dat (.int ((i + 1 : Nat) : Int))) (.dat (.int ((i + 1 : Nat) : Int)))) _
    refine ts_while (fun m S => ∃ l2 g2, S = Sn ks l2 g2 (.dat (.int ((i + 1 : Nat) : Int))) (.dat (.int (m : Int))) ∧ m ≤ i + 1 ∧ l2.length = ks.length ∧ g2.length + m ≤ 20000 ∧ insK m (l2, g2) = insK (i + 1) (ls, gs)) (i + 1) ⟨ls, gs, rfl, Nat.le_refl _, n1, by omega, rfl⟩ ?_
    rintro m S' ⟨l2, g2, rfl, hm, q1, q2, q3⟩
    cases m with
    | zero =>
      refine ⟨false, Sn ks l2 g2 (.dat (.int ((i + 1 : Nat) : Int))) (.dat (.int ((0 : Nat) : Int))), et_and (a := false) (b := true) (et_eq (et_test (ee_op (ee_var rfl) ee_int ro_gt)) (decide_eq_false (by omega))) (fun z => by cases z), (fun z => by cases z), fun _ => ?_⟩
      have q3 : (l2, g2) = insK (i + 1) (ls, gs) := q3
      rw [← q3]
      exact ⟨_, _, rfl⟩
    | succ k =>
      have e1 : ((k + 1 : Nat) : Int) - 1 = (k : Int) := by omega
      have ek : ∀ (L : List Int) (G : List Gate), Ee K (tOp rSub' (tVar 4) (tC (.int 1))) (Sn ks L G (.dat (.int ((i + 1 : Nat) : Int))) (.dat (.int ((k + 1 : Nat) : Int)))) (.dat (.int (k : Int))) (Sn ks L G (.dat (.int ((i + 1 : Nat) : Int))) (.dat (.int ((k + 1 : Nat) : Int)))) := fun L G => ee_eq (ee_op (ee_var rfl) ee_int ro_sub) (by rw [e1])
      have a1 := ls_at (ls := l2) (k := k) (by omega)
      have a2 := ls_at (ls := l2) (k := k + 1) (by omega)
      have eI : insK (k + 1) (l2, g2) = if l2.getD k 0 < l2.getD (k + 1) 0 then insK k (swp l2 k (k + 1), g2 ++ [((k : Int), (k : Int) + 1)]) else (l2, g2) := rfl
      rw [eI] at q3
      refine ⟨decide (l2.getD k 0 < l2.getD (k + 1) 0), Sn ks l2 g2 (.dat (.int ((i + 1 : Nat) : Int))) (.dat (.int ((k + 1 : Nat) : Int))), et_and (a := true) (b := decide (l2.getD k 0 < l2.getD (k + 1) 0)) (et_eq (et_test (ee_op (ee_var rfl) ee_int ro_gt)) (decide_eq_true (by omega))) (fun _ => et_test (ee_op (ee_op (ee_var rfl) (ek l2 g2) (ro_ixL (.own rfl) a1)) (ee_op (ee_var rfl) (ee_var rfl) (ro_ixL (.own rfl) a2)) ro_lt)), fun hb => ?_, fun hb => ?_⟩
      · rw [if_pos (of_decide_eq_true hb)] at q3
        have sw : ((l2.map PyData.int).set k (.int (l2.getD (k + 1) 0))).set (k + 1) (.int (l2.getD k 0)) = (swp l2 k (k + 1)).map PyData.int := by
          unfold swp
          rw [List.map_set, List.map_set]
        refine ts_seq (ts_asgG (ee_tup (ed_cons (ee_op (ee_var rfl) (ee_var rfl) (ro_ixL (.own rfl) a2)) (ed_cons (ee_op (ee_var rfl) (ek l2 g2) (ro_ixL (.own rfl) a1)) ed_nil)))
          (egh_tup (eghs_cons (egh_sub (ee_var rfl) (ek l2 g2) rfl (ixN_n (by rw [List.length_map]; omega))) (eghs_cons (egh_sub (ee_var rfl) (ee_var rfl) rfl (ixN_n (by rw [List.length_set, List.length_map]; omega))) eghs_nil))) ?_)
        show Ts K _ (⟨[.dat (rD ks), .own 0, .own 1, .dat (.int ((i + 1 : Nat) : Int)), .dat (.int ((k + 1 : Nat) : Int))], [.lst (((l2.map PyData.int).set k (.int (l2.getD (k + 1) 0))).set (k + 1) (.int (l2.getD k 0))), .lst (g2.map gD)]⟩ : SS) _
        rw [sw]
        show Ts K _ (Sn ks (swp l2 k (k + 1)) g2 (.dat (.int ((i + 1 : Nat) : Int))) (.dat (.int ((k + 1 : Nat) : Int)))) _
        have eg : g2.map gD ++ [gD ((k : Int), (k : Int) + 1)] = (g2 ++ [((k : Int), (k : Int) + 1)]).map gD := by
          rw [List.map_append]
          rfl
        refine ts_seq (ts_drop (ee_append (k := 1) (d := gD ((k : Int), (k : Int) + 1)) (ds := g2.map gD) (S1 := Sn ks (swp l2 k (k + 1)) g2 (.dat (.int ((i + 1 : Nat) : Int))) (.dat (.int ((k + 1 : Nat) : Int)))) (ee_var rfl) (ee_tup (ed_cons (ek (swp l2 k (k + 1)) g2) (ed_cons (ee_var rfl) ed_nil))) ⟨_, rfl⟩ rfl (by rw [List.length_map]; omega)) ?_)
        rw [eg]
        show Ts K _ (Sn ks (swp l2 k (k + 1)) (g2 ++ [((k : Int), (k : Int) + 1)]) (.dat (.int ((i + 1 : Nat) : Int))) (.dat (.int ((k + 1 : Nat) : Int)))) _
        refine ts_aug (j := ((k + 1 : Nat) : Int)) (l := 1) (S1 := Sn ks (swp l2 k (k + 1)) (g2 ++ [((k : Int), (k : Int) + 1)]) (.dat (.int ((i + 1 : Nat) : Int))) (.dat (.int ((k + 1 : Nat) : Int)))) rfl ee_int ⟨k, by omega, swp l2 k (k + 1), g2 ++ [((k : Int), (k : Int) + 1)], ?_, by omega, by rw [swp_len]; exact q1, by rw [List.length_append]; show _ + 1 + k ≤ _; omega, q3⟩
        show (⟨[_, _, _, _, .dat (.int (((k + 1 : Nat) : Int) - 1))], _⟩ : SS) = _
        rw [e1]
      · rw [if_neg (of_decide_eq_false hb)] at q3
        rw [← q3]
        exact ⟨_, _, rfl⟩
  · rintro S' ⟨a, b, rfl⟩
    rw [rngD_len]
    refine ts_ret (ee_eq (ee_cb (ea_cons (ee_of_el (el_revL (ee_var rfl) (.own rfl))) ea_nil) (rc_tupL (.dat _))) ?_) ⟨rfl, List.nil_prefix⟩
    unfold nearN nD
    rw [List.map_reverse]
end
end K33

set_option maxRecDepth 100000
set_option maxHeartbeats 4000000
namespace K33
open PySem PySem.Spec PyProof.Rows L2 DL
/-! ### what leads the descending row to an image -/
theorem get_D {L : List Int} {i : Nat} (h : i < L.length) : L[i] = L.getD i 0 := by
  rw [List.getD_eq_getElem?_getD, List.getElem?_eq_getElem h]
  rfl
theorem descI_get {n i : Nat} (h : i < n) : (descI n).getD i 0 = (n : Int) - (i : Int) := by
  unfold descI
  rw [List.getD_eq_getElem?_getD, List.getElem?_map, List.getElem?_range h]
  rfl
theorem descI_mem {n : Nat} {x : Int} (h : x ∈ descI n) : 1 ≤ x ∧ x ≤ n := by
  obtain ⟨k, hk, rfl⟩ := List.mem_map.mp h
  have := List.mem_range.mp hk
  omega
theorem descI_nodup (n : Nat) : (descI n).Nodup := List.pairwise_map.mpr (List.nodup_range.imp fun h e => h (by omega))
theorem nodup_ne {L : List Int} (h : L.Nodup) {a b : Nat} (hab : a < b) (hb : b < L.length) : L.getD a 0 ≠ L.getD b 0 := by
  rw [← get_D (show a < L.length by omega), ← get_D hb]
  exact List.pairwise_iff_getElem.mp h a b _ _ hab
theorem img_perm {n : Nat} {net : List Gate} (h : NetOk n net) : (imgN n net).Perm (descI n) := by
  have := (runK_perm (row := descI n) (by rw [descI_len]; exact h) net.length (Nat.le_refl _)).map (val (descI n))
  rw [rng_val] at this
  exact this
theorem desc_of {n : Nat} {L : List Int} (p : L.Perm (descI n)) (d : ∀ a b, a < b → b < n → L.getD b 0 < L.getD a 0) : L = descI n := by
  have ll : L.length = n := by rw [p.length_eq, descI_len]
  have bd : ∀ i, i < n → 1 ≤ L.getD i 0 ∧ L.getD i 0 ≤ n := fun i hi => by
    rw [← get_D (show i < L.length by omega)]
    exact descI_mem (p.subset (List.getElem_mem _))
  have lo : ∀ j, j < n → (1 : Int) + (j : Int) ≤ L.getD (n - 1 - j) 0 := fun j => by
    induction j with
    | zero =>
      intro h
      have := (bd (n - 1 - 0) (by omega)).1
      omega
    | succ j ih =>
      intro h
      have := ih (by omega)
      have := d (n - 1 - (j + 1)) (n - 1 - j) (by omega) (by omega)
      omega
  have hi : ∀ i, i < n → L.getD i 0 ≤ (n : Int) - (i : Int) := fun i => by
    induction i with
    | zero =>
      intro h
      have := (bd 0 h).2
      omega
    | succ i ih =>
      intro h
      have := ih (by omega)
      have := d i (i + 1) (by omega) h
      omega
  refine List.ext_getElem (by rw [ll, descI_len]) fun i h1 h2 => ?_
  rw [get_D h1, get_D h2, descI_get (by omega)]
  have a := lo (n - 1 - i) (by omega)
  have b := hi i (by omega)
  rw [show n - 1 - (n - 1 - i) = i by omega] at a
  omega
theorem swp_back {L : List Int} {i j : Nat} (hi : i < L.length) (hj : j < L.length) (ne : i ≠ j) : swp (swp L i j) i j = L := by
  refine List.ext_getElem (by rw [swp_len, swp_len]) fun l h1 h2 => ?_
  rw [get_D h1, get_D h2, swp_get _ (by rw [swp_len]; exact hi) (by rw [swp_len]; exact hj), swp_get _ hi hj, swp_get _ hi hj, swp_get _ hi hj]
  by_cases c : l = j
  · rw [if_pos c, if_neg (by omega), if_pos rfl, c]
  · rw [if_neg c]
    by_cases c2 : l = i
    · rw [if_pos c2, if_pos rfl, c2]
    · rw [if_neg c2, if_neg c, if_neg c2]
theorem lift_up {L : List Int} {k : Nat} (h : k + 1 < L.length) (lt : L.getD k 0 < L.getD (k + 1) 0) : cmpG (swp L k (k + 1)) ((k : Int), (k : Int) + 1) = L := by
  have e1 : (k : Int).toNat = k := Int.toNat_natCast k
  have e2 : ((k : Int) + 1).toNat = k + 1 := by omega
  unfold cmpG
  dsimp only
  have s1 : (swp L k (k + 1)).getD (k + 1) 0 = L.getD k 0 := by rw [swp_get _ (by omega) h, if_pos rfl]
  have s2 : (swp L k (k + 1)).getD k 0 = L.getD (k + 1) 0 := by rw [swp_get _ (by omega) h, if_neg (by omega), if_pos rfl]
  rw [e1, e2, s1, s2, if_pos lt]
  exact swp_back (by omega) h (by omega)
def NearIn (n : Nat) (net : List Gate) : Prop := ∀ g ∈ net, 0 ≤ g.1 ∧ g.2 = g.1 + 1 ∧ g.2 < n
theorem NearIn.ok {n : Nat} {net : List Gate} (h : NearIn n net) : NetOk n net := fun g hg => by
  have := h g hg
  omega
theorem NearIn.tame {n : Nat} {net : List Gate} (h : NearIn n net) : Tame n net net.length := near_tame (fun g hg => (h g hg).2.1) h.ok
theorem NearIn.rev {n : Nat} {net : List Gate} (h : NearIn n net) : NearIn n net.reverse := fun g hg => h g (List.mem_reverse.mp hg)
theorem insK_ok {n m : Nat} {ks : List Int} (hm : m < n) : ∀ (k : Nat) (s : List Int × List Gate), k ≤ m → s.1.Perm (descI n) → foldC s.1 s.2.reverse = ks → NearIn n s.2 → (∀ a b, a < b → b ≤ m → a ≠ k → b ≠ k → s.1.getD b 0 < s.1.getD a 0) → (∀ b, k < b → b ≤ m → s.1.getD b 0 < s.1.getD k 0) → (insK k s).1.Perm (descI n) ∧ foldC (insK k s).1 (insK k s).2.reverse = ks ∧ NearIn n (insK k s).2 ∧ ∀ a b, a < b → b ≤ m → (insK k s).1.getD b 0 < (insK k s).1.getD a 0
  | 0, s, hk, p, f, g, d1, d2 => ⟨p, f, g, fun a b hab hb => by
    by_cases c : a = 0
    · subst c
      exact d2 b hab hb
    · exact d1 a b hab hb c (by omega)⟩
  | k + 1, (L, G), hk, p, f, g, d1, d2 => by
    have ll : L.length = n := by
      have := p.length_eq
      rw [descI_len] at this
      exact this
    have e : insK (k + 1) (L, G) = if L.getD k 0 < L.getD (k + 1) 0 then insK k (swp L k (k + 1), G ++ [((k : Int), (k : Int) + 1)]) else (L, G) := rfl
    rw [e]
    dsimp only at p f g d1 d2
    by_cases c : L.getD k 0 < L.getD (k + 1) 0
    · rw [if_pos c]
      have sg := fun l => swp_get L (i := k) (j := k + 1) (by omega) (by omega) l
      refine insK_ok hm k (swp L k (k + 1), G ++ [((k : Int), (k : Int) + 1)]) (by omega) ((swp_perm L (by omega) (by omega)).trans p) ?_ (fun x hx => ?_) (fun a b hab hb ha hb' => ?_) (fun b hb1 hb2 => ?_)
      · show foldC (swp L k (k + 1)) (G ++ [((k : Int), (k : Int) + 1)]).reverse = ks
        rw [List.reverse_append]
        show foldC (cmpG (swp L k (k + 1)) ((k : Int), (k : Int) + 1)) G.reverse = ks
        rw [lift_up (by omega) c]
        exact f
      · rcases List.mem_append.mp hx with hx | hx
        · exact g x hx
        · rw [List.mem_singleton.mp hx]
          dsimp only
          omega
      · show (swp L k (k + 1)).getD b 0 < (swp L k (k + 1)).getD a 0
        rw [sg, sg]
        by_cases c1 : b = k + 1
        · rw [if_pos c1, if_neg (show ¬ a = k + 1 by omega), if_neg ha]
          exact d1 a k (by omega) (by omega) (by omega) (by omega)
        · rw [if_neg c1, if_neg hb']
          by_cases c2 : a = k + 1
          · rw [if_pos c2]
            exact d1 k b (by omega) hb (by omega) c1
          · rw [if_neg c2, if_neg ha]
            exact d1 a b hab hb c2 c1
      · show (swp L k (k + 1)).getD b 0 < (swp L k (k + 1)).getD k 0
        rw [sg, sg, if_neg (show ¬ k = k + 1 by omega), if_pos rfl]
        by_cases c1 : b = k + 1
        · rw [if_pos c1]
          exact c
        · rw [if_neg c1, if_neg (by omega)]
          exact d2 b (by omega) hb2
    · rw [if_neg c]
      have ne := nodup_ne (p.nodup_iff.mpr (descI_nodup n)) (show k < k + 1 by omega) (by omega)
      refine ⟨p, f, g, fun a b hab hb => ?_⟩
      by_cases c1 : a = k + 1
      · subst c1
        exact d2 b hab hb
      · by_cases c2 : b = k + 1
        · subst c2
          show L.getD (k + 1) 0 < L.getD a 0
          by_cases c3 : a = k
          · subst c3
            omega
          · have := d1 a k (by omega) (by omega) c1 (by omega)
            omega
        · exact d1 a b hab hb c1 c2
theorem nearL_ok {n : Nat} {ks : List Int} (p : ks.Perm (descI n)) : ∀ m, m < n → (nearL ks m).1.Perm (descI n) ∧ foldC (nearL ks m).1 (nearL ks m).2.reverse = ks ∧ NearIn n (nearL ks m).2 ∧ ∀ a b, a < b → b ≤ m → (nearL ks m).1.getD b 0 < (nearL ks m).1.getD a 0
  | 0, h => ⟨p, rfl, (fun g hg => by cases hg), fun a b h1 h2 => by omega⟩
  | m + 1, h => by
    obtain ⟨h1, h2, h3, h4⟩ := nearL_ok p m (by omega)
    exact insK_ok h (m + 1) (nearL ks m) (Nat.le_refl _) h1 h2 h3 (fun a b hab hb ha hb' => h4 a b hab (by omega)) fun b h1 h2 => by omega
theorem nearN_ok {n : Nat} (hn : 1 ≤ n) {ks : List Int} (p : ks.Perm (descI n)) : NearIn n (nearN ks) ∧ imgN n (nearN ks) = ks ∧ (nearN ks).length ≤ n * n := by
  have kl : ks.length = n := by rw [p.length_eq, descI_len]
  obtain ⟨h1, h2, h3, h4⟩ := nearL_ok p (n - 1) (by omega)
  have ed := desc_of h1 fun a b hab hb => h4 a b hab (by omega)
  have l2 := (nearL_len ks (n - 1)).2
  unfold nearN
  rw [kl]
  refine ⟨h3.rev, ?_, ?_⟩
  · unfold imgN
    rw [out_fold (by rw [descI_len]; exact h3.rev.ok), ← ed]
    exact h2
  · rw [List.length_reverse]
    have : (n - 1) * (n - 1 + 1) ≤ n * n := Nat.mul_le_mul (by omega) (by omega)
    omega
end K33

set_option maxRecDepth 100000
set_option maxHeartbeats 4000000
namespace K33
open PySem PySem.Spec PyProof.Rows L2 DL
/-! ### mended -/
section
variable {P : Program} {w : World} {K : PySem.W.Frag} {mg : Str → Option Value} {base : Heap}
def R_mended : FR := fun as ob r ob' => ∃ (n : Nat) (net : List Gate), as = [.dat (.int (n : Int)), .dat (nD net)] ∧ 2 ≤ n ∧ n ≤ 10 ∧ NetIn n net ∧ Tame n net net.length ∧ ob = [] ∧ r = .dat (nD (nearN (imgN n net))) ∧ ob' = []
def R_mendedX (Cc : Cls K mg) : FX := fun as cls x => False
theorem scmended : FnScope ["n", "network", "near", "word"] ["n", "network"] (defScope smended) := ⟨rfl, rfl, rfl, by decide +kernel, rfl, by decide +kernel, by decide +kernel⟩
theorem okmended (D : Df K mg "mended" smended ["n", "network"]) (B : Bi mg) (Cc : Cls K mg) (Dout : Df K mg "out" sout ["network", "row"]) (Dcame : Df K mg "came" scame ["network", "row"]) (D_run : Df K mg "_run" s_run ["network", "row"]) (Ddescending : Df K mg "descending" sdescending ["n"]) (Dimage : Df K mg "image" simage ["n", "network"]) (Dword_lanes : Df K mg "word_lanes" sword_lanes ["n", "words"]) (Drun_lanes : Df K mg "run_lanes" srun_lanes ["network", "lanes"]) (Dfirst_told : Df K mg "first_told" sfirst_told ["words", "told"]) (Dlet_words : Df K mg "let_words" slet_words ["n", "order"]) (Dlet_rows : Df K mg "let_rows" slet_rows ["order", "choices"]) (D_let_keys : Df K mg "_let_keys" s_let_keys ["row", "below", "keys"]) (Dunlike_word : Df K mg "unlike_word" sunlike_word ["n", "order", "one", "other"]) (D_near_network : Df K mg "_near_network" s_near_network ["keys"]) : FnG P w K mg base (L2.CX P w) 5 D.f D.fd ["n", "network"] (spX K 2 R_mended (R_mendedX Cc)) := by
  have okimage : FnG P w K mg base CX0 4 _ _ _ _ := okimage Dimage B Cc Dout Dcame D_run Ddescending
  have okunlike_word : FnG P w K mg base CX0 4 _ _ _ _ := okunlike_word Dunlike_word B Cc Dword_lanes Drun_lanes Dfirst_told Dlet_words Dlet_rows D_let_keys
  have ok_near_network : FnG P w K mg base CX0 1 _ _ _ _ := ok_near_network D_near_network B Cc
  refine okGX D.F scmended (fun vs H Q E h => h.1) (fun cdv A outer s H vs Q E hr gd h => ?_)
  have hu := huX hr
  refine ⟨_, (pss_cons (ps_set (i := 2) scmended.nd rfl (Or.inl rfl) (PE.nox (pe_callG (ok_near_network) (hr.mono (by decide)) gd (by rfl) D_near_network.m D_near_network.F.kp D_near_network.b .nil pass0 (pa_cons (pe_callG (okimage) (hr.mono (by decide)) gd (by rfl) Dimage.m Dimage.F.kp Dimage.b .nil pass0 (pa_cons (pv 0) (pa_cons (pv 1) pa_nil))) pa_nil))))
      (pss_cons (ps_set (i := 3) scmended.nd rfl (Or.inl rfl) (PE.nox (pe_callG (okunlike_word) (hr.mono (by decide)) gd (by rfl) Dunlike_word.m Dunlike_word.F.kp Dunlike_word.b .nil pass0 (pa_cons (pv 0) (pa_cons (pe_tup pa_nil) (pa_cons (pv 1) (pa_cons (pv 2) pa_nil)))))))
      (pss_cons (ps_if (PT.nox (pt_cmpR op_notU (pv 3) pe_non (nomark _))) (pss_one (ps_raise rfl (takes_of rfl rfl rfl rfl) (pmk_oex Cc.oUnmendable Cc.iUnmendable Cc.tUnmendable (okInitUnmendable Cc) (hr.mono (by decide)) Cc.bUnmendable .nil pass0 (by rfl) Cc.eUnmendable.m (pa_cons (pv 3) pa_nil)))) pss_nil)
      (pss_one (ps_ret (PE.nox (pv 2))))))), ?_⟩
  refine body_ofX h (by decide) (fun as ob r ob' hR => ?_) (fun as ob r ob' hR hl => ?_) fun as cls x hR hl => hR.elim
  · obtain ⟨n, net, rfl, _, _, _, _, rfl, rfl, rfl⟩ := hR
    exact ⟨Nat.le_refl _, fun _ z => by cases z⟩
  obtain ⟨n, net, rfl, hn2, hn10, hi, t, rfl, rfl, rfl⟩ := hR
  obtain ⟨q1, q2, q3⟩ := nearN_ok (show 1 ≤ n by omega) (img_perm hi.1)
  have nn : n * n ≤ 10 * 10 := Nat.mul_le_mul hn10 hn10
  have il := imgN_len n net
  have RN : R_near (([rD (imgN n net)] : List PyData).map SD.dat) [] (.dat (nD (nearN (imgN n net)))) [] := ⟨imgN n net, rfl, rfl, by omega, by omega, rfl, rfl⟩
  have RI : R_image (([.int (n : Int), nD net] : List PyData).map SD.dat) [] (.dat (rD (imgN n net))) [] := ⟨n, net, rfl, hi, rfl, rfl, rfl⟩
  have pk : PrOk n [] := fun x hx => by cases hx
  have hl := hi.2.1
  have RU : R_unlike (([.int (n : Int), oD [], nD net, nD (nearN (imgN n net))] : List PyData).map SD.dat) [] (.dat .none) [] := ⟨n, [], net, nearN (imgN n net), rfl, ⟨hi.1, hl, hn10, pk, Nat.zero_le _⟩, ⟨q1.ok, by omega, hn10, pk, Nat.zero_le _⟩, fun w hw => one_out hi.1 q1.ok t q1.tame q2.symm (words_row hw).1, rfl, rfl, rfl⟩
  generalize nearN (imgN n net) = N at RN RU ⊢
  refine ts_seq (ts_asg (x := .dat (nD N)) (S1 := ⟨[.dat (.int (n : Int)), .dat (nD net), .un, .un], []⟩) (ee_callD (ed_cons (ee_callD (ed_cons (ee_var rfl) (ed_cons (ee_var rfl) ed_nil)) rfl RI) ed_nil) rfl RN) ?_)
  refine ts_seq (ts_asg (x := .dat .none) (S1 := ⟨[.dat (.int (n : Int)), .dat (nD net), .dat (nD N), .un], []⟩) (ee_callD (ed_cons (ee_var rfl) (ed_cons (ee_tup ed_nil) (ed_cons (ee_var rfl) (ed_cons (ee_var rfl) ed_nil)))) rfl RU) ?_)
  refine ts_seq (ts_if (b := false) (S1 := ⟨[.dat (.int (n : Int)), .dat (nD net), .dat (nD N), .dat .none], []⟩) (et_test (ee_op (ee_var rfl) ee_non ro_isnot)) (fun z => by cases z) fun _ => ts_next ?_)
  exact ts_ret (ee_var rfl) ⟨rfl, List.nil_prefix⟩
end
end K33

set_option maxRecDepth 100000
set_option maxHeartbeats 4000000
namespace K33
open PySem PySem.Spec PyProof.Rows L2 DL
/-! ### the law's own near network -/
def gnoB (n : Nat) : Nat → Nat → List Int × List Gate → List Int × List Gate
  | 0, _, s => s
  | f + 1, k, s => if k < n - 1 then (if s.1.getD k 0 < s.1.getD (k + 1) 0 then gnoB n f (k - 1) (swp s.1 k (k + 1), s.2 ++ [((k : Int), (k : Int) + 1)]) else gnoB n f (k + 1) s) else s
def backN (n : Nat) (ks : List Int) : List Gate := (gnoB n (2 * (n * n) + n) 0 (ks, [])).2.reverse
/-- all gates exchange, one behind the other -/
def exL : List Int → List Gate → Prop
  | _, [] => True
  | d, g :: net => d.getD g.2.toNat 0 < d.getD g.1.toNat 0 ∧ exL (cmpG d g) net
theorem asc_fall {L : List Int} {k : Nat} (h : k + 1 < L.length) (lt : L.getD k 0 < L.getD (k + 1) 0) : ascC L = ascC (swp L k (k + 1)) + 1 := by
  obtain ⟨l1, a, b, l2, h1, h2, h3, h4⟩ := swp_adj L k h
  rw [h2]
  conv => lhs; rw [h1]
  exact ascC_swap (by rw [← h3, ← h4]; exact lt) l1 l2
theorem gnoB_ok {n : Nat} {ks : List Int} : ∀ (f k : Nat) (s : List Int × List Gate), 2 * ascC s.1 + (n - 1 - k) ≤ f → k ≤ n - 1 → s.1.Perm (descI n) → foldC s.1 s.2.reverse = ks → NearIn n s.2 → exL s.1 s.2.reverse → (∀ a b, a < b → b ≤ k → s.1.getD b 0 < s.1.getD a 0) → exL (descI n) (gnoB n f k s).2.reverse ∧ foldC (descI n) (gnoB n f k s).2.reverse = ks ∧ NearIn n (gnoB n f k s).2 ∧ (gnoB n f k s).2.length ≤ s.2.length + ascC s.1
  | 0, k, s, hf, hk, p, fo, g, xl, d => by
    have e : s.1 = descI n := desc_of p fun a b hab hb => d a b hab (by omega)
    refine ⟨by rw [← e]; exact xl, ?_, g, by show s.2.length ≤ _; omega⟩
    rw [← e]
    exact fo
  | f + 1, k, (L, G), hf, hk, p, fo, g, xl, d => by
    have ll : L.length = n := by
      have := p.length_eq
      rw [descI_len] at this
      exact this
    have e : gnoB n (f + 1) k (L, G) = if k < n - 1 then (if L.getD k 0 < L.getD (k + 1) 0 then gnoB n f (k - 1) (swp L k (k + 1), G ++ [((k : Int), (k : Int) + 1)]) else gnoB n f (k + 1) (L, G)) else (L, G) := rfl
    rw [e]
    dsimp only at p fo g xl d hf
    by_cases c0 : k < n - 1
    · rw [if_pos c0]
      by_cases c : L.getD k 0 < L.getD (k + 1) 0
      · rw [if_pos c]
        have af := asc_fall (by omega) c
        have sg := fun l => swp_get L (i := k) (j := k + 1) (by omega) (by omega) l
        obtain ⟨r0, r1, r2, r3⟩ := gnoB_ok (ks := ks) f (k - 1) (swp L k (k + 1), G ++ [((k : Int), (k : Int) + 1)]) (by dsimp only; omega) (by omega) ((swp_perm L (by omega) (by omega)).trans p) (by
          show foldC (swp L k (k + 1)) (G ++ [((k : Int), (k : Int) + 1)]).reverse = ks
          rw [List.reverse_append]
          show foldC (cmpG (swp L k (k + 1)) ((k : Int), (k : Int) + 1)) G.reverse = ks
          rw [lift_up (by omega) c]
          exact fo) (fun x hx => by
          rcases List.mem_append.mp hx with hx | hx
          · exact g x hx
          · rw [List.mem_singleton.mp hx]
            dsimp only
            omega) (by
          show exL (swp L k (k + 1)) (G ++ [((k : Int), (k : Int) + 1)]).reverse
          rw [List.reverse_append]
          show (swp L k (k + 1)).getD ((k : Int) + 1).toNat 0 < (swp L k (k + 1)).getD (k : Int).toNat 0 ∧ exL (cmpG (swp L k (k + 1)) ((k : Int), (k : Int) + 1)) G.reverse
          rw [lift_up (by omega) c, Int.toNat_natCast, show ((k : Int) + 1).toNat = k + 1 by omega, sg, sg, if_pos rfl, if_neg (by omega), if_pos rfl]
          exact ⟨c, xl⟩) fun a b hab hb => by
          show (swp L k (k + 1)).getD b 0 < (swp L k (k + 1)).getD a 0
          rw [sg, sg, if_neg (by omega), if_neg (by omega), if_neg (by omega), if_neg (by omega)]
          exact d a b hab (by omega)
        refine ⟨r0, r1, r2, ?_⟩
        rw [List.length_append] at r3
        have r3 : _ ≤ G.length + 1 + ascC (swp L k (k + 1)) := r3
        show _ ≤ G.length + ascC L
        omega
      · rw [if_neg c]
        have ne := nodup_ne (p.nodup_iff.mpr (descI_nodup n)) (show k < k + 1 by omega) (by omega)
        exact gnoB_ok (ks := ks) f (k + 1) (L, G) (by dsimp only; omega) (by omega) p fo g xl fun a b hab hb => by
          by_cases c2 : b = k + 1
          · subst c2
            show L.getD (k + 1) 0 < L.getD a 0
            by_cases c3 : a = k
            · subst c3
              omega
            · have := d a k (by omega) (by omega)
              omega
          · exact d a b hab (by omega)
    · rw [if_neg c0]
      have e : L = descI n := desc_of p fun a b hab hb => d a b hab (by omega)
      refine ⟨by rw [← e]; exact xl, ?_, g, Nat.le_add_right _ _⟩
      rw [← e]
      exact fo
theorem backN_ok {n : Nat} {ks : List Int} (p : ks.Perm (descI n)) : NearIn n (backN n ks) ∧ imgN n (backN n ks) = ks ∧ (backN n ks).length ≤ n * n ∧ exL (descI n) (backN n ks) := by
  have kl : ks.length = n := by rw [p.length_eq, descI_len]
  have al := ascC_le ks
  rw [kl] at al
  obtain ⟨h0, h1, h2, h3⟩ := gnoB_ok (n := n) (ks := ks) (2 * (n * n) + n) 0 (ks, []) (by dsimp only; omega) (by omega) p rfl (fun g hg => by cases hg) trivial fun a b hab hb => by omega
  unfold backN
  refine ⟨h2.rev, ?_, ?_, h0⟩
  · unfold imgN
    rw [out_fold (by rw [descI_len]; exact h2.rev.ok)]
    exact h1
  · rw [List.length_reverse]
    have h3 : _ ≤ 0 + ascC ks := h3
    omega
section
variable {P : Program} {w : World} {K : PySem.W.Frag} {mg : Str → Option Value} {base : Heap}
abbrev Sb (n : Nat) (ks ls : List Int) (gs : List Gate) (k : Nat) : SS := ⟨[.dat (.int (n : Int)), .dat (rD ks), .own 0, .own 1, .dat (.int (k : Int))], [.lst (ls.map PyData.int), .lst (gs.map gD)]⟩
def R_lback : FR := fun as ob r ob' => ∃ (n : Nat) (ks : List Int), as = [.dat (.int (n : Int)), .dat (rD ks)] ∧ ob = [] ∧ 2 ≤ n ∧ n ≤ 100 ∧ ks.length = n ∧ r = .dat (nD (backN n ks)) ∧ ob' = []
theorem sc_law_back : FnScope ["wide", "keys", "state", "found", "k"] ["wide", "keys"] (defScope s_law_back) := ⟨rfl, rfl, rfl, by decide +kernel, rfl, by decide +kernel, by decide +kernel⟩
theorem ok_law_back (D : Df K mg "_law_back" s_law_back ["wide", "keys"]) (B : Bi mg) (Cc : Cls K mg) : FnG P w K mg base CX0 1 D.f D.fd ["wide", "keys"] (spD K 2 R_lback) := by
  refine okG D.F sc_law_back (fun vs H Q E h => h.1) (fun cdv A outer s H vs Q E hr gd h => ?_)
  have hu := huX hr
  refine ⟨_, (pss_cons (ps_par3 (i := 2) (j := 3) (l := 4) (by rfl) sc_law_back.nd rfl rfl rfl (by decide) (by decide) (by decide) rfl rfl rfl (pa_cons (pe_callTy cb_list (by rfl) B.z_list (by decide +kernel) (pa_cons (pv 1) pa_nil)) (pa_cons (pe_lst pa_nil) (pa_cons pe_int pa_nil))) (by rfl))
      (pss_cons (ps_while PassesOwn.never (pt_cmpR (op_ltU hu) (pv 4) (pe_op op_subU (pv 0) pe_int) (nomark _))
        (pss_one (ps_if (pt_cmpR (op_ltU hu) (pe_ix ix_seq (pv 2) (pv 4) (fun _ _ => rfl)) (pe_ix ix_seq (pv 2) (pe_op op_plus (pv 4) pe_int) (fun _ _ => rfl)) (nomark _)) (pss_cons (ps_asg (pe_tup (pa_cons (pe_ix ix_seq (pv 2) (pe_op op_plus (pv 4) pe_int) (fun _ _ => rfl)) (pa_cons (pe_ix ix_seq (pv 2) (pv 4) (fun _ _ => rfl)) pa_nil))) (pg_tup rfl (pgs_cons (pg_sub (pv 2) (pv 4) set_list) (pgs_cons (pg_sub (pv 2) (pe_op op_plus (pv 4) pe_int) set_list) pgs_nil))))
          (pss_cons (ps_expr (pe_bm PySem.F.plainAttrs_list PySem.F.slot_list_append PySem.F.type_list_append mt_append (pv 3) (pa_cons (pe_tup (pa_cons (pv 4) (pa_cons (pe_op op_plus (pv 4) pe_int) pa_nil))) pa_nil)))
          (pss_one (ps_set (i := 4) sc_law_back.nd rfl (Or.inl rfl) (pe_callB (call_max2 rfl) (by rfl) B.z_max (by decide +kernel) (pa_cons (pe_op op_subU (pv 4) pe_int) (pa_cons pe_int pa_nil))))))) (pss_one (ps_set (i := 4) sc_law_back.nd rfl (Or.inl rfl) (pe_op op_plus (pv 4) pe_int))))))
      (pss_one (ps_ret (pe_callTy cb_tuple (by rfl) B.z_tuple (by decide +kernel) (pa_cons (pe_revL (pv 3)) pa_nil)))))), ?_⟩
  refine body_ofG h (by decide) (fun as ob r ob' hR => ?_) fun as ob r ob' hR hl => ?_
  · obtain ⟨n, ks, rfl, rfl, _, _, _, rfl, rfl⟩ := hR
    exact ⟨Nat.le_refl _, fun _ z => by cases z⟩
  obtain ⟨n, ks, rfl, rfl, hn2, hn, kl, rfl, rfl⟩ := hR
  have nn : n * n ≤ 100 * 100 := Nat.mul_le_mul hn hn
  have al := ascC_le ks
  rw [kl] at al
  refine ts_seq (ts_par3 (x := .own 0) (y := .own 1) (z := .dat (.int 0)) (S1 := ⟨[.dat (.int (n : Int)), .dat (rD ks), .un, .un, .un], [.lst (ks.map PyData.int), .lst []]⟩) (ea_cons (S1 := ⟨[.dat (.int (n : Int)), .dat (rD ks), .un, .un, .un], [.lst (ks.map PyData.int)]⟩) (eo_of_el (el_cb (ea_cons (ee_var rfl) ea_nil) rcl_listT)) (ea_cons (eo_of_el (el_lst ed_nil)) (ea_cons ee_int ea_nil))) ?_)
  show Ts K _ (Sb n ks ks [] 0) _
  refine ts_seq (ts_while (fun m S => ∃ (L : List Int) (G : List Gate) (k : Nat), S = Sb n ks L G k ∧ L.length = n ∧ k ≤ n - 1 ∧ 2 * ascC L + (n - 1 - k) ≤ m ∧ G.length + m ≤ 30000 ∧ gnoB n m k (L, G) = gnoB n (2 * (n * n) + n) 0 (ks, [])) (2 * (n * n) + n) ⟨ks, [], 0, rfl, kl, by omega, by omega, by rw [List.length_nil]; omega, rfl⟩ ?_)
  rintro m S' ⟨L, G, k, rfl, ll, hk, hm, hz, e⟩
  refine ⟨decide (k < n - 1), Sb n ks L G k, et_eq (et_test (ee_op (ee_var rfl) (ee_op (ee_var rfl) ee_int ro_sub) ro_lt)) (by rw [decide_eq_decide]; omega), fun hb => ?_, fun hb => ?_⟩
  · have c0 : k < n - 1 := of_decide_eq_true hb
    obtain ⟨f, rfl⟩ : ∃ f, m = f + 1 := ⟨m - 1, by omega⟩
    have e1 : ((k : Int) + 1) = ((k + 1 : Nat) : Int) := rfl
    have ek : ∀ (L : List Int) (G : List Gate), Ee K (tOp (rPlus K) (tVar 4) (tC (.int 1))) (Sb n ks L G k) (.dat (.int ((k + 1 : Nat) : Int))) (Sb n ks L G k) := fun L G => ee_eq (ee_op (ee_var rfl) ee_int ro_add) rfl
    have a1 := ls_at (ls := L) (k := k) (by omega)
    have a2 := ls_at (ls := L) (k := k + 1) (by omega)
    have eI : gnoB n (f + 1) k (L, G) = if k < n - 1 then (if L.getD k 0 < L.getD (k + 1) 0 then gnoB n f (k - 1) (swp L k (k + 1), G ++ [((k : Int), (k : Int) + 1)]) else gnoB n f (k + 1) (L, G)) else (L, G) := rfl
    rw [eI, if_pos c0] at e
    refine ts_if (b := decide (L.getD k 0 < L.getD (k + 1) 0)) (S1 := Sb n ks L G k) (et_test (ee_op (ee_op (ee_var rfl) (ee_var rfl) (ro_ixL (.own rfl) a1)) (ee_op (ee_var rfl) (ek L G) (ro_ixL (.own rfl) a2)) ro_lt)) (fun hc => ?_) fun hc => ?_
    · have c := of_decide_eq_true hc
      rw [if_pos c] at e
      have af := asc_fall (by omega) c
      have sw : ((L.map PyData.int).set k (.int (L.getD (k + 1) 0))).set (k + 1) (.int (L.getD k 0)) = (swp L k (k + 1)).map PyData.int := by
        unfold swp
        rw [List.map_set, List.map_set]
      refine ts_seq (ts_asgG (ee_tup (ed_cons (ee_op (ee_var rfl) (ek L G) (ro_ixL (.own rfl) a2)) (ed_cons (ee_op (ee_var rfl) (ee_var rfl) (ro_ixL (.own rfl) a1)) ed_nil)))
        (egh_tup (eghs_cons (egh_sub (ee_var rfl) (ee_var rfl) rfl (ixN_n (by rw [List.length_map]; omega))) (eghs_cons (egh_sub (ee_var rfl) (ee_eq (y := .dat (.int ((k + 1 : Nat) : Int))) (ee_op (ee_var rfl) ee_int ro_add) rfl) rfl (ixN_n (by rw [List.length_set, List.length_map]; omega))) eghs_nil))) ?_)
      show Ts K _ (⟨[.dat (.int (n : Int)), .dat (rD ks), .own 0, .own 1, .dat (.int (k : Int))], [.lst (((L.map PyData.int).set k (.int (L.getD (k + 1) 0))).set (k + 1) (.int (L.getD k 0))), .lst (G.map gD)]⟩ : SS) _
      rw [sw]
      show Ts K _ (Sb n ks (swp L k (k + 1)) G k) _
      have eg : G.map gD ++ [gD ((k : Int), (k : Int) + 1)] = (G ++ [((k : Int), (k : Int) + 1)]).map gD := by
        rw [List.map_append]
        rfl
      refine ts_seq (ts_drop (ee_append (k := 1) (d := gD ((k : Int), (k : Int) + 1)) (ds := G.map gD) (S1 := Sb n ks (swp L k (k + 1)) G k) (ee_var rfl) (ee_tup (ed_cons (ee_var rfl) (ed_cons (ee_op (ee_var rfl) ee_int ro_add) ed_nil))) ⟨_, rfl⟩ rfl (by rw [List.length_map]; omega)) ?_)
      rw [eg]
      show Ts K _ (Sb n ks (swp L k (k + 1)) (G ++ [((k : Int), (k : Int) + 1)]) k) _
      exact ts_asg (x := .dat (.int ((k - 1 : Nat) : Int))) (S1 := Sb n ks (swp L k (k + 1)) (G ++ [((k : Int), (k : Int) + 1)]) k) (ee_eq (ee_cb (ea_cons (ee_op (ee_var rfl) ee_int ro_sub) (ea_cons ee_int ea_nil)) rc_max2) (by
        rw [show (if (0 : Int) > (k : Int) - 1 then (0 : Int) else (k : Int) - 1) = ((k - 1 : Nat) : Int) by split <;> omega])) ⟨f, by omega, swp L k (k + 1), G ++ [((k : Int), (k : Int) + 1)], k - 1, rfl, by rw [swp_len]; exact ll, by omega, by omega, by rw [List.length_append]; show _ + 1 + f ≤ _; omega, e⟩
    · rw [if_neg (of_decide_eq_false hc)] at e
      exact ts_asg (x := .dat (.int ((k + 1 : Nat) : Int))) (S1 := Sb n ks L G k) (ek L G) ⟨f, by omega, L, G, k + 1, rfl, ll, by omega, by omega, by omega, e⟩
  · have c0 : ¬ k < n - 1 := of_decide_eq_false hb
    have e2 : gnoB n m k (L, G) = (L, G) := by
      cases m with
      | zero => rfl
      | succ f => exact if_neg c0
    rw [e2] at e
    refine ts_ret (ee_eq (ee_cb (ea_cons (ee_of_el (el_revL (ee_var rfl) (.own rfl))) ea_nil) (rc_tupL (.dat _))) ?_) ⟨rfl, List.nil_prefix⟩
    unfold backN nD
    rw [← e, List.map_reverse]
end
end K33

set_option maxRecDepth 100000
set_option maxHeartbeats 4000000
namespace K33
open PySem PySem.Spec PyProof.Rows L2 DL
/-! ### steps that leave the image -/
def tameL : List Int → List Gate → Prop
  | _, [] => True
  | d, g :: net => (d.getD g.2.toNat 0 < d.getD g.1.toNat 0 → g.2 = g.1 + 1) ∧ tameL (cmpG d g) net
theorem tameL_app : ∀ (A B : List Gate) (d : List Int), tameL d (A ++ B) ↔ tameL d A ∧ tameL (foldC d A) B
  | [], B, d => by
    show tameL d B ↔ True ∧ tameL d B
    exact ⟨fun h => ⟨trivial, h⟩, fun h => h.2⟩
  | g :: A, B, d => by
    have ih := tameL_app A B (cmpG d g)
    show (_ ∧ tameL (cmpG d g) (A ++ B)) ↔ (_ ∧ tameL (cmpG d g) A) ∧ tameL (foldC (cmpG d g) A) B
    rw [ih]
    exact ⟨fun h => ⟨⟨h.1, h.2.1⟩, h.2.2⟩, fun h => ⟨h.1.1, h.1.2, h.2⟩⟩
theorem tame_to {n : Nat} {net : List Gate} (h : NetOk n net) (t : Tame n net net.length) : ∀ (B A : List Gate), net = A ++ B → tameL (foldC (descI n) A) B
  | [], _, _ => trivial
  | g :: B, A, e => by
    have hlen : net.length = A.length + (B.length + 1) := by rw [e, List.length_append, List.length_cons]
    have hA : A.length < net.length := by omega
    have tm := take_mid (A := A) (g := g) (B := B)
    rw [← e] at tm
    have hg := gij h hA
    have g1 : gi net A.length = g.1.toNat := by unfold gi; rw [tm.2]
    have g2 : gj net A.length = g.2.toNat := by unfold gj; rw [tm.2]
    have hgo := h g (by rw [e]; exact List.mem_append_right _ List.mem_cons_self)
    have k1 := ky_fold (descI_len n) h (Nat.le_of_lt hA) (l := g.1.toNat) (by omega)
    have k2 := ky_fold (descI_len n) h (Nat.le_of_lt hA) (l := g.2.toNat) (by omega)
    rw [tm.1] at k1 k2
    refine ⟨fun ex => ?_, ?_⟩
    · have := t A.length hA (by
        unfold Ex
        rw [g1, g2, k1, k2]
        exact ex)
      rw [g1, g2] at this
      omega
    · have := tame_to h t B (A ++ [g]) (by rw [e, List.append_assoc]; rfl)
      rw [foldC_snoc] at this
      exact this
theorem tame_from {n : Nat} {net : List Gate} (h : NetOk n net) (t : tameL (descI n) net) : Tame n net net.length := fun k hk ex => by
  have hg := gij h hk
  have e : net = net.take k ++ net.getD k (0, 0) :: net.drop (k + 1) := by
    have := List.take_append_drop k net
    rw [List.drop_eq_getElem_cons hk] at this
    rw [List.getD_eq_getElem?_getD, List.getElem?_eq_getElem hk]
    exact this.symm
  have hm := h (net.getD k (0, 0)) (by
    rw [List.getD_eq_getElem?_getD, List.getElem?_eq_getElem hk]
    exact List.getElem_mem hk)
  rw [e] at t
  have t2 := ((tameL_app _ _ _).mp t).2.1
  have k1 := ky_fold (descI_len n) h (Nat.le_of_lt hk) (l := gi net k) (by omega)
  have k2 := ky_fold (descI_len n) h (Nat.le_of_lt hk) (l := gj net k) (by omega)
  unfold Ex at ex
  rw [k1, k2] at ex
  have := t2 ex
  unfold gi gj
  omega
/-- one tame network is as good as another: both ok, tame, of one image -/
structure Like (n : Nat) (A B : List Gate) : Prop where
  ok : NetOk n B
  tame : Tame n B B.length
  img : imgN n B = imgN n A
theorem Like.trans {n : Nat} {A B C : List Gate} (h : Like n A B) (k : Like n B C) : Like n A C := ⟨k.ok, k.tame, k.img.trans h.img⟩
theorem mid_like {n : Nat} {A M M' B : List Gate} (h : NetOk n (A ++ M ++ B)) (t : Tame n (A ++ M ++ B) (A ++ M ++ B).length) (hM : NetOk n M') (e : foldC (foldC (descI n) A) M' = foldC (foldC (descI n) A) M) (k : tameL (foldC (descI n) A) M → tameL (foldC (descI n) A) M') : Like n (A ++ M ++ B) (A ++ M' ++ B) := by
  have ok : NetOk n (A ++ M' ++ B) := fun g hg => by
    rcases List.mem_append.mp hg with hg | hg
    · rcases List.mem_append.mp hg with hg | hg
      · exact h g (List.mem_append_left _ (List.mem_append_left _ hg))
      · exact hM g hg
    · exact h g (List.mem_append_right _ hg)
  have t1 := tame_to h t _ [] rfl
  have t1 : tameL (descI n) (A ++ M ++ B) := t1
  rw [tameL_app, tameL_app, foldC_app] at t1
  refine ⟨ok, tame_from ok ?_, ?_⟩
  · rw [tameL_app, tameL_app, foldC_app, e]
    exact ⟨⟨t1.1.1, k t1.1.2⟩, t1.2⟩
  · have o1 : NetOk (descI n).length (A ++ M' ++ B) := by rw [descI_len]; exact ok
    have o2 : NetOk (descI n).length (A ++ M ++ B) := by rw [descI_len]; exact h
    unfold imgN
    rw [out_fold o1, out_fold o2, foldC_app, foldC_app, foldC_app, foldC_app, e]
theorem cmp_at {n : Nat} {r : List Int} (hr : r.length = n) {g : Gate} (hg : 0 ≤ g.1 ∧ g.1 < g.2 ∧ g.2 < n) (l : Nat) : (cmpG r g).getD l 0 = if l = g.1.toNat then min (r.getD g.1.toNat 0) (r.getD g.2.toNat 0) else if l = g.2.toNat then max (r.getD g.1.toNat 0) (r.getD g.2.toNat 0) else r.getD l 0 := by
  unfold cmpG
  by_cases c : r.getD g.2.toNat 0 < r.getD g.1.toNat 0
  · rw [if_pos c, swp_get r (by omega) (by omega)]
    by_cases l1 : l = g.1.toNat
    · rw [if_neg (by omega), if_pos l1, if_pos l1]
      omega
    · rw [if_neg l1]
      by_cases l2 : l = g.2.toNat
      · rw [if_pos l2, if_pos l2]
        omega
      · rw [if_neg l2, if_neg l1, if_neg l2]
  · rw [if_neg c]
    by_cases l1 : l = g.1.toNat
    · rw [if_pos l1, l1]
      omega
    · rw [if_neg l1]
      by_cases l2 : l = g.2.toNat
      · rw [if_pos l2, l2]
        omega
      · rw [if_neg l2]
theorem list_getD {r s : List Int} (hl : r.length = s.length) (h : ∀ l, l < r.length → r.getD l 0 = s.getD l 0) : r = s := by
  refine List.ext_getElem hl fun i h1 h2 => ?_
  have := h i h1
  rw [List.getD_eq_getElem?_getD, List.getD_eq_getElem?_getD, List.getElem?_eq_getElem h1, List.getElem?_eq_getElem h2] at this
  exact this
theorem cmp_twice {n : Nat} {r : List Int} (hr : r.length = n) {g : Gate} (hg : 0 ≤ g.1 ∧ g.1 < g.2 ∧ g.2 < n) : cmpG (cmpG r g) g = cmpG r g ∧ ¬ (cmpG r g).getD g.2.toNat 0 < (cmpG r g).getD g.1.toNat 0 := by
  have no : ¬ (cmpG r g).getD g.2.toNat 0 < (cmpG r g).getD g.1.toNat 0 := by
    rw [cmp_at hr hg, cmp_at hr hg, if_neg (show ¬ g.2.toNat = g.1.toNat by omega), if_pos rfl, if_pos rfl]
    omega
  exact ⟨cmp_still no, no⟩
theorem cmp_swap {n : Nat} {r : List Int} (hr : r.length = n) {g k : Gate} (hg : 0 ≤ g.1 ∧ g.1 < g.2 ∧ g.2 < n) (hk : 0 ≤ k.1 ∧ k.1 < k.2 ∧ k.2 < n) (ap : g.1 ≠ k.1 ∧ g.1 ≠ k.2 ∧ g.2 ≠ k.1 ∧ g.2 ≠ k.2) : cmpG (cmpG r g) k = cmpG (cmpG r k) g := by
  have h1 : (cmpG r g).length = n := by rw [cmpG_len]; exact hr
  have h2 : (cmpG r k).length = n := by rw [cmpG_len]; exact hr
  obtain ⟨a1, a2, a3, a4⟩ := ap
  refine list_getD (by simp only [cmpG_len]) fun l hl => ?_
  rw [cmp_at h1 hk, cmp_at h2 hg]
  have x1 := cmp_at hr hg k.1.toNat
  have x2 := cmp_at hr hg k.2.toNat
  have x3 := cmp_at hr hg l
  have y1 := cmp_at hr hk g.1.toNat
  have y2 := cmp_at hr hk g.2.toNat
  have y3 := cmp_at hr hk l
  rw [if_neg (show ¬ k.1.toNat = g.1.toNat by omega), if_neg (show ¬ k.1.toNat = g.2.toNat by omega)] at x1
  rw [if_neg (show ¬ k.2.toNat = g.1.toNat by omega), if_neg (show ¬ k.2.toNat = g.2.toNat by omega)] at x2
  rw [if_neg (show ¬ g.1.toNat = k.1.toNat by omega), if_neg (show ¬ g.1.toNat = k.2.toNat by omega)] at y1
  rw [if_neg (show ¬ g.2.toNat = k.1.toNat by omega), if_neg (show ¬ g.2.toNat = k.2.toNat by omega)] at y2
  rw [x1, x2, x3, y1, y2, y3]
  by_cases c1 : l = k.1.toNat
  · rw [if_pos c1, if_neg (show ¬ l = g.1.toNat by omega), if_neg (show ¬ l = g.2.toNat by omega), if_pos c1]
  · rw [if_neg c1]
    by_cases c2 : l = k.2.toNat
    · rw [if_pos c2, if_neg (show ¬ l = g.1.toNat by omega), if_neg (show ¬ l = g.2.toNat by omega), if_neg c1, if_pos c2]
    · rw [if_neg c2, if_neg c1, if_neg c2]
theorem cmp_braid {n : Nat} {r : List Int} (hr : r.length = n) {p : Nat} (hp : p + 2 < n) : foldC r [((p : Int), (p : Int) + 1), ((p : Int) + 1, (p : Int) + 2), ((p : Int), (p : Int) + 1)] = foldC r [((p : Int) + 1, (p : Int) + 2), ((p : Int), (p : Int) + 1), ((p : Int) + 1, (p : Int) + 2)] := by
  have ok1 : 0 ≤ (p : Int) ∧ (p : Int) < (p : Int) + 1 ∧ (p : Int) + 1 < (n : Int) := by omega
  have ok2 : 0 ≤ (p : Int) + 1 ∧ (p : Int) + 1 < (p : Int) + 2 ∧ (p : Int) + 2 < (n : Int) := by omega
  have t0 : ((p : Int)).toNat = p := Int.toNat_natCast p
  have t1 : ((p : Int) + 1).toNat = p + 1 := by omega
  have t2 : ((p : Int) + 2).toNat = p + 2 := by omega
  have S : ∀ (q : List Int), q.length = n → ∀ l, (cmpG q ((p : Int), (p : Int) + 1)).getD l 0 = if l = p then min (q.getD p 0) (q.getD (p + 1) 0) else if l = p + 1 then max (q.getD p 0) (q.getD (p + 1) 0) else q.getD l 0 := fun q hq l => by
    have := cmp_at hq (g := ((p : Int), (p : Int) + 1)) ok1 l
    dsimp only at this
    rw [t0, t1] at this
    exact this
  have T : ∀ (q : List Int), q.length = n → ∀ l, (cmpG q ((p : Int) + 1, (p : Int) + 2)).getD l 0 = if l = p + 1 then min (q.getD (p + 1) 0) (q.getD (p + 2) 0) else if l = p + 2 then max (q.getD (p + 1) 0) (q.getD (p + 2) 0) else q.getD l 0 := fun q hq l => by
    have := cmp_at hq (g := ((p : Int) + 1, (p : Int) + 2)) ok2 l
    dsimp only at this
    rw [t1, t2] at this
    exact this
  show cmpG (cmpG (cmpG r _) _) _ = cmpG (cmpG (cmpG r _) _) _
  have l1 : ∀ g, (cmpG r g).length = n := fun g => by rw [cmpG_len]; exact hr
  have l2 : ∀ g k, (cmpG (cmpG r g) k).length = n := fun g k => by rw [cmpG_len]; exact l1 g
  have n1 : ¬ p = p + 1 := by omega
  have n2 : ¬ p = p + 2 := by omega
  have n3 : ¬ p + 1 = p := by omega
  have n4 : ¬ p + 1 = p + 2 := by omega
  have n5 : ¬ p + 2 = p := by omega
  have n6 : ¬ p + 2 = p + 1 := by omega
  have s0 := S r hr p
  have s1 := S r hr (p + 1)
  have s2 := S r hr (p + 2)
  have u0 := T r hr p
  have u1 := T r hr (p + 1)
  have u2 := T r hr (p + 2)
  rw [if_pos rfl] at s0
  rw [if_neg n3, if_pos rfl] at s1
  rw [if_neg n5, if_neg n6] at s2
  rw [if_neg n1, if_neg n2] at u0
  rw [if_pos rfl] at u1
  rw [if_neg n6, if_pos rfl] at u2
  have a0 := T _ (l1 ((p : Int), (p : Int) + 1)) p
  have a1 := T _ (l1 ((p : Int), (p : Int) + 1)) (p + 1)
  have a2 := T _ (l1 ((p : Int), (p : Int) + 1)) (p + 2)
  rw [if_neg n1, if_neg n2] at a0
  rw [if_pos rfl] at a1
  rw [if_neg n6, if_pos rfl] at a2
  have b0 := S _ (l1 ((p : Int) + 1, (p : Int) + 2)) p
  have b1 := S _ (l1 ((p : Int) + 1, (p : Int) + 2)) (p + 1)
  have b2 := S _ (l1 ((p : Int) + 1, (p : Int) + 2)) (p + 2)
  rw [if_pos rfl] at b0
  rw [if_neg n3, if_pos rfl] at b1
  rw [if_neg n5, if_neg n6] at b2
  refine list_getD (by simp only [cmpG_len]) fun l hl => ?_
  rw [S _ (l2 _ _), T _ (l2 _ _)]
  by_cases c0 : l = p
  · rw [if_pos c0, if_neg (by omega), if_neg (by omega), c0]
    omega
  · rw [if_neg c0]
    by_cases c1 : l = p + 1
    · rw [if_pos c1, if_pos c1]
      omega
    · rw [if_neg c1, if_neg c1]
      by_cases c2 : l = p + 2
      · rw [if_pos c2, c2]
        omega
      · rw [if_neg c2]
        have v1 := T _ (l1 ((p : Int), (p : Int) + 1)) l
        have v2 := S r hr l
        have v3 := S _ (l1 ((p : Int) + 1, (p : Int) + 2)) l
        have v4 := T r hr l
        rw [if_neg c1, if_neg c2] at v1 v4
        rw [if_neg c0, if_neg c1] at v2 v3
        rw [v1, v2, v3, v4]
end K33

set_option maxRecDepth 100000
set_option maxHeartbeats 4000000
namespace K33
open PySem PySem.Spec PyProof.Rows L2 DL
/-! ### the mate -/
def idle1 (n : Nat) (st : List Int) (s : List Gate × Well) : List Gate × Well :=
  (if st.getD (gateOf n false s.2).1.1.toNat 0 < st.getD (gateOf n false s.2).1.2.toNat 0 then s.1 ++ [(gateOf n false s.2).1] else s.1, (gateOf n false s.2).2)
def idleR (n : Nat) (st : List Int) (s : List Gate × Well) : Nat → List Gate × Well
  | 0 => s
  | k + 1 => idle1 n st (idleR n st s k)
structure Mt where
  st : List Int
  net : List Gate
  W : Well
def mtStep (n : Nat) (s : Mt) (g : Gate) : Mt :=
  ⟨swp s.st g.1.toNat g.2.toNat, (idleR n s.st (s.net, (draw 3 s.W).2) (draw 3 s.W).1.toNat).1 ++ [g], (idleR n s.st (s.net, (draw 3 s.W).2) (draw 3 s.W).1.toNat).2⟩
def mtK (n : Nat) (W : Well) (B : List Gate) : Mt := B.foldl (mtStep n) ⟨descI n, [], W⟩
def mateN (n : Nat) (ks : List Int) (W : Well) : List Gate × Well := ((mtK n W (backN n ks)).net, (mtK n W (backN n ks)).W)
structure MtOk (n : Nat) (s : Mt) : Prop where
  len : s.st.length = n
  ok : NetOk n s.net
  tame : tameL (descI n) s.net
  fold : foldC (descI n) s.net = s.st
  deep : s.W.deep.length ≤ 100
theorem idleR_ok {n : Nat} (hn : 2 ≤ n) {st : List Int} {s : List Gate × Well} (h1 : NetOk n s.1) (h2 : tameL (descI n) s.1) (h3 : foldC (descI n) s.1 = st) (h4 : s.2.deep.length ≤ 100) : ∀ k, NetOk n (idleR n st s k).1 ∧ tameL (descI n) (idleR n st s k).1 ∧ foldC (descI n) (idleR n st s k).1 = st ∧ (idleR n st s k).2.deep.length ≤ 100 ∧ (idleR n st s k).1.length ≤ s.1.length + k
  | 0 => ⟨h1, h2, h3, h4, Nat.le_refl _⟩
  | k + 1 => by
    obtain ⟨r1, r2, r3, r4, r5⟩ := idleR_ok hn h1 h2 h3 h4 k
    have go := gateOf_ok hn false (idleR n st s k).2
    have gd := gateOf_deep n false (idleR n st s k).2 r4
    show NetOk n (idle1 n st (idleR n st s k)).1 ∧ tameL (descI n) (idle1 n st (idleR n st s k)).1 ∧ foldC (descI n) (idle1 n st (idleR n st s k)).1 = st ∧ (idle1 n st (idleR n st s k)).2.deep.length ≤ 100 ∧ (idle1 n st (idleR n st s k)).1.length ≤ s.1.length + (k + 1)
    unfold idle1
    dsimp only
    split
    · rename_i c
      refine ⟨fun g hg => ?_, (tameL_app _ _ _).mpr ⟨r2, ?_⟩, ?_, gd, by rw [List.length_append]; show _ + 1 ≤ _; omega⟩
      · rcases List.mem_append.mp hg with hg | hg
        · exact r1 g hg
        · rw [List.mem_singleton.mp hg]
          exact go
      · rw [r3]
        exact ⟨fun z => by omega, trivial⟩
      · rw [foldC_snoc, r3]
        unfold cmpG
        rw [if_neg (by omega)]
    · exact ⟨r1, r2, r3, gd, by omega⟩
theorem mtStep_ok {n : Nat} (hn : 2 ≤ n) {s : Mt} (h : MtOk n s) {g : Gate} (hg : 0 ≤ g.1 ∧ g.2 = g.1 + 1 ∧ g.2 < n) (ex : s.st.getD g.2.toNat 0 < s.st.getD g.1.toNat 0) : MtOk n (mtStep n s g) ∧ (mtStep n s g).st = cmpG s.st g ∧ (mtStep n s g).net.length ≤ s.net.length + 3 := by
  have d1 := draw_deep 3 s.W h.deep
  have l1 := draw_lo 3 s.W
  have l2 := draw_hi (m := 3) s.W (by decide)
  obtain ⟨r1, r2, r3, r4, r5⟩ := idleR_ok hn (s := (s.net, (draw 3 s.W).2)) h.ok h.tame h.fold d1 (draw 3 s.W).1.toNat
  have ec : cmpG s.st g = swp s.st g.1.toNat g.2.toNat := if_pos ex
  have r5 : _ ≤ s.net.length + (draw 3 s.W).1.toNat := r5
  refine ⟨⟨by show (swp _ _ _).length = n; rw [swp_len]; exact h.len, fun x hx => ?_, (tameL_app _ _ _).mpr ⟨r2, fun _ => hg.2.1, trivial⟩, ?_, r4⟩, ec.symm, ?_⟩
  · rcases List.mem_append.mp hx with hx | hx
    · exact r1 x hx
    · rw [List.mem_singleton.mp hx]
      omega
  · show foldC (descI n) (_ ++ [g]) = swp s.st g.1.toNat g.2.toNat
    rw [foldC_snoc, r3, ec]
  · show (_ ++ [g]).length ≤ _
    rw [List.length_append]
    show _ + 1 ≤ _
    omega
theorem mt_ok {n : Nat} (hn : 2 ≤ n) : ∀ (B : List Gate) {s : Mt}, MtOk n s → NearIn n B → exL s.st B → MtOk n (B.foldl (mtStep n) s) ∧ (B.foldl (mtStep n) s).st = foldC s.st B ∧ (B.foldl (mtStep n) s).net.length ≤ s.net.length + 3 * B.length
  | [], s, h, _, _ => ⟨h, rfl, Nat.le_refl _⟩
  | g :: B, s, h, hB, x => by
    obtain ⟨q1, q2, q3⟩ := mtStep_ok hn h (hB g List.mem_cons_self) x.1
    obtain ⟨p1, p2, p3⟩ := mt_ok hn B q1 (fun y hy => hB y (List.mem_cons_of_mem _ hy)) (by rw [q2]; exact x.2)
    refine ⟨p1, p2.trans (by rw [q2]; rfl), ?_⟩
    rw [List.length_cons]
    show (B.foldl (mtStep n) (mtStep n s g)).net.length ≤ _
    omega
theorem mt_start {n : Nat} {W : Well} (h : W.deep.length ≤ 100) : MtOk n ⟨descI n, [], W⟩ := ⟨descI_len n, (fun g hg => by cases hg), trivial, rfl, h⟩
theorem mateN_ok {n : Nat} (hn : 2 ≤ n) {ks : List Int} (p : ks.Perm (descI n)) {W : Well} (h : W.deep.length ≤ 100) : NetOk n (mateN n ks W).1 ∧ Tame n (mateN n ks W).1 (mateN n ks W).1.length ∧ imgN n (mateN n ks W).1 = ks ∧ (mateN n ks W).1.length ≤ 3 * (n * n) ∧ (mateN n ks W).2.deep.length ≤ 100 := by
  obtain ⟨b1, b2, b3, b4⟩ := backN_ok p
  obtain ⟨m1, m2, m3⟩ := mt_ok hn (backN n ks) (mt_start h) b1 b4
  refine ⟨m1.ok, tame_from m1.ok m1.tame, ?_, ?_, m1.deep⟩
  · unfold imgN
    rw [out_fold (by rw [descI_len]; exact m1.ok)]
    show foldC (descI n) (mtK n W (backN n ks)).net = ks
    refine m1.fold.trans (m2.trans ?_)
    show foldC (descI n) (backN n ks) = ks
    rw [← out_fold (row := descI n) (by rw [descI_len]; exact b1.ok)]
    exact b2
  · have m3 : (mateN n ks W).1.length ≤ 0 + 3 * (backN n ks).length := m3
    omega
end K33

set_option maxRecDepth 100000
set_option maxHeartbeats 4000000
namespace K33
open PySem PySem.Spec PyProof.Rows L2 DL
/-! ### the mate, as it is read -/
theorem exL_app : ∀ (A B : List Gate) (d : List Int), exL d (A ++ B) ↔ exL d A ∧ exL (foldC d A) B
  | [], B, d => by
    show exL d B ↔ True ∧ exL d B
    exact ⟨fun h => ⟨trivial, h⟩, fun h => h.2⟩
  | g :: A, B, d => by
    have ih := exL_app A B (cmpG d g)
    show (_ ∧ exL (cmpG d g) (A ++ B)) ↔ (_ ∧ exL (cmpG d g) A) ∧ exL (foldC (cmpG d g) A) B
    rw [ih]
    exact ⟨fun h => ⟨⟨h.1, h.2.1⟩, h.2.2⟩, fun h => ⟨h.1.1, h.1.2, h.2⟩⟩
theorem mt_at {n : Nat} (hn : 2 ≤ n) {W : Well} (h : W.deep.length ≤ 100) {B : List Gate} (hB : NearIn n B) (x : exL (descI n) B) {k : Nat} {g : Gate} (hg : B[k]? = some g) : MtOk n (mtK n W (B.take k)) ∧ (mtK n W (B.take k)).net.length ≤ 3 * k ∧ (mtK n W (B.take k)).st.getD g.2.toNat 0 < (mtK n W (B.take k)).st.getD g.1.toNat 0 ∧ mtK n W (B.take (k + 1)) = mtStep n (mtK n W (B.take k)) g := by
  obtain ⟨hk, e⟩ := List.getElem?_eq_some_iff.mp hg
  have ed : B.drop k = g :: B.drop (k + 1) := by rw [List.drop_eq_getElem_cons hk, e]
  have x2 := x
  rw [← List.take_append_drop k B] at x2
  obtain ⟨x3, x4⟩ := (exL_app _ _ _).mp x2
  obtain ⟨m1, m2, m3⟩ := mt_ok hn (B.take k) (mt_start h) (fun y hy => hB y (List.mem_of_mem_take hy)) x3
  rw [ed] at x4
  refine ⟨m1, ?_, ?_, ?_⟩
  · rw [List.length_take] at m3
    have m3 : (mtK n W (B.take k)).net.length ≤ 0 + 3 * min k B.length := m3
    omega
  · have m2 : (mtK n W (B.take k)).st = foldC (descI n) (B.take k) := m2
    rw [m2]
    exact x4.1
  · rw [take_snoc hg]
    show List.foldl _ _ (_ ++ [g]) = _
    rw [List.foldl_append]
    rfl
section
variable {P : Program} {w : World} {K : PySem.W.Frag} {mg : Str → Option Value} {base : Heap}
abbrev Sm (n : Nat) (A : List Gate) (W : Well) (net : List Gate) (st : List Int) (a b c d e : SD) : SS := ⟨[.own 0, .dat (.int (n : Int)), .dat (nD A), .own 1, .own 2, a, b, c, d, e], [W.oo, .lst (net.map gD), .lst (st.map PyData.int)]⟩
def R_mate : FR := fun as ob r ob' => ∃ (W : Well) (n : Nat) (A : List Gate), as = [.own 0, .dat (.int (n : Int)), .dat (nD A)] ∧ ob = [W.oo] ∧ W.deep.length ≤ 100 ∧ 2 ≤ n ∧ NetIn n A ∧ r = .dat (nD (mateN n (imgN n A) W).1) ∧ ob' = [(mateN n (imgN n A) W).2.oo]
theorem sc_law_mate : FnScope ["loom", "wide", "gates", "found", "state", "i", "j", "turn", "a", "b"] ["loom", "wide", "gates"] (defScope s_law_mate) := ⟨rfl, rfl, rfl, by decide +kernel, rfl, by decide +kernel, by decide +kernel⟩
theorem ok_law_mate (D : Df K mg "_law_mate" s_law_mate ["loom", "wide", "gates"]) (B : Bi mg) (Cc : Cls K mg) (D_law_draw : Df K mg "_law_draw" s_law_draw ["loom", "many"]) (D_law_run : Df K mg "_law_run" s_law_run ["gates", "keys"]) (D_law_end : Df K mg "_law_end" s_law_end ["wide", "gates"]) (D_law_gate : Df K mg "_law_gate" s_law_gate ["loom", "wide", "is_near"]) (D_law_back : Df K mg "_law_back" s_law_back ["wide", "keys"]) : FnG P w K mg base CX0 3 D.f D.fd ["loom", "wide", "gates"] (spD K 3 R_mate) := by
  have ok_law_draw : FnG P w K mg base CX0 1 _ _ _ _ := ok_law_draw D_law_draw B Cc
  have ok_law_end : FnG P w K mg base CX0 2 _ _ _ _ := ok_law_end D_law_end B Cc D_law_run
  have ok_law_gate : FnG P w K mg base CX0 2 _ _ _ _ := ok_law_gate D_law_gate B Cc D_law_draw
  have ok_law_back : FnG P w K mg base CX0 1 _ _ _ _ := ok_law_back D_law_back B Cc
  refine okG D.F sc_law_mate (fun vs H Q E h => h.1) (fun cdv A outer s H vs Q E hr gd h => ?_)
  have hu := huX hr
  refine ⟨_, (pss_cons (ps_par (i := 3) (j := 4) (by rfl) sc_law_mate.nd rfl rfl (by decide) rfl rfl (pa_cons (pe_lst pa_nil) (pa_cons (pe_lstDn rfl (by rfl) B.z_list (by rfl) B.z_range (pa_cons (pv 1) (pa_cons pe_int (pa_cons (pe_un un_negU pe_int) pa_nil)))) pa_nil)) (by rfl))
      (pss_cons (ps_for PassesOwn.never rfl (pi_tup (pe_callG (ok_law_back) (hr.mono (by decide)) gd (by rfl) D_law_back.m D_law_back.F.kp D_law_back.b .nil pass0 (pa_cons (pv 1) (pa_cons (pe_ix ix_seq (pe_callG (ok_law_end) (hr.mono (by decide)) gd (by rfl) D_law_end.m D_law_end.F.kp D_law_end.b .nil pass0 (pa_cons (pv 1) (pa_cons (pv 2) pa_nil))) pe_int (fun _ _ => rfl)) pa_nil)))) (pg_tup rfl (pgs_cons (pg_name (i := 5) sc_law_mate.nd rfl (Or.inl rfl)) (pgs_cons (pg_name (i := 6) sc_law_mate.nd rfl (Or.inl rfl)) pgs_nil)))
        (pss_cons (ps_for PassesOwn.never rfl (pi_range1 (by rfl) B.z_range (pa_cons (pe_callG (ok_law_draw) (hr.mono (by decide)) gd (by rfl) D_law_draw.m D_law_draw.F.kp D_law_draw.b .nil pass0 (pa_cons (pv 0) (pa_cons pe_int pa_nil))) pa_nil)) (pg_name (i := 7) sc_law_mate.nd rfl (Or.inl rfl))
          (pss_cons (ps_asg (pe_callG (ok_law_gate) (hr.mono (by decide)) gd (by rfl) D_law_gate.m D_law_gate.F.kp D_law_gate.b .nil pass0 (pa_cons (pv 0) (pa_cons (pv 1) (pa_cons pe_bl pa_nil)))) (pg_tup rfl (pgs_cons (pg_name (i := 8) sc_law_mate.nd rfl (Or.inl rfl)) (pgs_cons (pg_name (i := 9) sc_law_mate.nd rfl (Or.inl rfl)) pgs_nil))))
          (pss_one (ps_if (pt_cmpR (op_ltU hu) (pe_ix ix_seq (pv 4) (pv 8) (fun _ _ => rfl)) (pe_ix ix_seq (pv 4) (pv 9) (fun _ _ => rfl)) (nomark _)) (pss_one (ps_expr (pe_bm PySem.F.plainAttrs_list PySem.F.slot_list_append PySem.F.type_list_append mt_append (pv 3) (pa_cons (pe_tup (pa_cons (pv 8) (pa_cons (pv 9) pa_nil))) pa_nil)))) pss_nil))))
        (pss_cons (ps_expr (pe_bm PySem.F.plainAttrs_list PySem.F.slot_list_append PySem.F.type_list_append mt_append (pv 3) (pa_cons (pe_tup (pa_cons (pv 5) (pa_cons (pv 6) pa_nil))) pa_nil)))
        (pss_one (ps_asg (pe_tup (pa_cons (pe_ix ix_seq (pv 4) (pv 6) (fun _ _ => rfl)) (pa_cons (pe_ix ix_seq (pv 4) (pv 5) (fun _ _ => rfl)) pa_nil))) (pg_tup rfl (pgs_cons (pg_sub (pv 4) (pv 5) set_list) (pgs_cons (pg_sub (pv 4) (pv 6) set_list) pgs_nil))))))))
      (pss_one (ps_ret (pe_callTy cb_tuple (by rfl) B.z_tuple (by decide +kernel) (pa_cons (pv 3) pa_nil)))))), ?_⟩
  refine body_ofG h (by decide) (fun as ob r ob' hR => ?_) fun as ob r ob' hR hl => ?_
  · obtain ⟨W, n, A, rfl, rfl, _, _, _, rfl, rfl⟩ := hR
    exact ⟨Nat.le_refl _, fun _ z => by cases z⟩
  obtain ⟨W, n, A, rfl, rfl, hd, hn2, hi, rfl, rfl⟩ := hR
  have hn := hi.2.2
  refine ts_seq (ts_par (x := .own 1) (y := .own 2) (S1 := ⟨[.own 0, .dat (.int (n : Int)), .dat (nD A), .un, .un, .un, .un, .un, .un, .un], [W.oo, .lst [], .lst ((descI n).map PyData.int)]⟩) (ea_cons (S1 := ⟨[.own 0, .dat (.int (n : Int)), .dat (nD A), .un, .un, .un, .un, .un, .un, .un], [W.oo, .lst []]⟩) (eo_of_el (el_lst ed_nil)) (ea_cons ?_ ea_nil)) ?_)
  · have := eo_of_el (el_lstDn (K := K) (S := ⟨[.own 0, .dat (.int (n : Int)), .dat (nD A), .un, .un, .un, .un, .un, .un, .un], [W.oo, .lst []]⟩) (i := (n : Int)) (j := 0) (ed_cons (ee_var (i := 1) rfl) (ed_cons ee_int (ed_cons (ee_un ee_int ru_neg) ed_nil))) (by omega))
    rw [show ((n : Int) - 0).toNat = n by omega, desc_down] at this
    exact this
  obtain ⟨b1, b2, b3, b4⟩ := backN_ok (img_perm hi.1)
  have qe : R_end (([.int (n : Int), nD A] : List PyData).map SD.dat) [] (.dat (endD n A)) [] := ⟨n, A, rfl, hi, rfl, rfl, rfl⟩
  have qb : R_lback (([.int (n : Int), rD (imgN n A)] : List PyData).map SD.dat) [] (.dat (nD (backN n (imgN n A)))) [] := ⟨n, imgN n A, rfl, rfl, hn2, hn, imgN_len n A, rfl, rfl⟩
  have eM : mateN n (imgN n A) W = ((mtK n W (backN n (imgN n A))).net, (mtK n W (backN n (imgN n A))).W) := rfl
  rw [eM]
  have nn : n * n ≤ 100 * 100 := Nat.mul_le_mul hn hn
  refine ts_seq (ts_for (ds := (backN n (imgN n A)).map gD) (S0 := Sm n A W [] (descI n) .un .un .un .un .un) (ei_tup (ee_callD (ed_cons (ee_var rfl) (ed_cons (ee_op (ee_callD (ed_cons (ee_var rfl) (ed_cons (ee_var rfl) ed_nil)) rfl qe) ee_int (ro_ixT (d := rD (imgN n A)) rfl)) ed_nil)) rfl qb)) (fun k S => ∃ a b c d e, S = Sm n A (mtK n W ((backN n (imgN n A)).take k)).W (mtK n W ((backN n (imgN n A)).take k)).net (mtK n W ((backN n (imgN n A)).take k)).st a b c d e) ⟨.un, .un, .un, .un, .un, rfl⟩ ?_ ?_)
  · rintro k d0 S' hdk ⟨a, b, c, d, e, rfl⟩
    generalize backN n (imgN n A) = B at b1 b3 b4 hdk ⊢
    obtain ⟨g, hg, rfl⟩ : ∃ g, B[k]? = some g ∧ d0 = gD g := by
      rw [List.getElem?_map] at hdk
      obtain ⟨x, h1, h2⟩ := Option.map_eq_some_iff.mp hdk
      exact ⟨x, h1, h2.symm⟩
    obtain ⟨m1, m2, m3, m4⟩ := mt_at hn2 hd b1 b4 hg
    have hk : k < B.length := (List.getElem?_eq_some_iff.mp hg).1
    have gg := b1 g (List.mem_of_getElem? hg)
    rw [m4]
    generalize mtK n W (B.take k) = s at m1 m2 m3 ⊢
    obtain ⟨st, net, W1⟩ := s
    have stl : st.length = n := m1.len
    have dW1 : W1.deep.length ≤ 100 := m1.deep
    have nok : NetOk n net := m1.ok
    have ntm : tameL (descI n) net := m1.tame
    have nfo : foldC (descI n) net = st := m1.fold
    dsimp only at m2 m3 ⊢
    have d1 := draw_deep 3 W1 dW1
    have l1 := draw_lo 3 W1
    have l2 := draw_hi (m := 3) W1 (by decide)
    have eS : mtStep n ⟨st, net, W1⟩ g = ⟨swp st g.1.toNat g.2.toNat, (idleR n st (net, (draw 3 W1).2) (draw 3 W1).1.toNat).1 ++ [g], (idleR n st (net, (draw 3 W1).2) (draw 3 W1).1.toNat).2⟩ := rfl
    rw [eS]
    dsimp only
    obtain ⟨i, j⟩ := g
    dsimp only at gg m3 ⊢
    refine ⟨Sm n A W1 net st (.dat (.int i)) (.dat (.int j)) c d e, eg_tup (egs_cons eg_name (egs_cons eg_name egs_nil)), ts_seq (ts_for (ds := rngD 0 (draw 3 W1).1.toNat) (S0 := Sm n A (draw 3 W1).2 net st (.dat (.int i)) (.dat (.int j)) c d e) (ei_rng1 (n := (draw 3 W1).1) (ed_cons (ee_dr (W := W1) (k := 0) (S1 := Sm n A W1 net st (.dat (.int i)) (.dat (.int j)) c d e) (ea_cons (ee_var rfl) (ea_cons ee_int ea_nil)) rfl (by decide) dW1) ed_nil) (by omega)) (fun t S => ∃ c d e, S = Sm n A (idleR n st (net, (draw 3 W1).2) t).2 (idleR n st (net, (draw 3 W1).2) t).1 st (.dat (.int i)) (.dat (.int j)) c d e) ⟨c, d, e, rfl⟩ ?_ ?_)⟩
    · rintro t d2 S' hdt ⟨c, d, e, rfl⟩
      obtain ⟨ht, rfl⟩ := rngD_get hdt
      obtain ⟨r1, r2, r3, r4, r5⟩ := idleR_ok hn2 (st := st) (s := (net, (draw 3 W1).2)) nok ntm nfo d1 t
      have r5 : (idleR n st (net, (draw 3 W1).2) t).1.length ≤ net.length + t := r5
      have hs : idleR n st (net, (draw 3 W1).2) (t + 1) = idle1 n st (idleR n st (net, (draw 3 W1).2) t) := rfl
      rw [hs]
      generalize idleR n st (net, (draw 3 W1).2) t = q at r1 r4 r5 ⊢
      obtain ⟨N, W2⟩ := q
      dsimp only at r1 r4 r5 ⊢
      have go := gateOf_ok hn2 false W2
      have e1 : idle1 n st (N, W2) = (if st.getD (gateOf n false W2).1.1.toNat 0 < st.getD (gateOf n false W2).1.2.toNat 0 then N ++ [(gateOf n false W2).1] else N, (gateOf n false W2).2) := rfl
      rw [e1]
      refine ⟨_, eg_name, ts_seq (ts_asgG (d := gD (gateOf n false W2).1) (S1 := Sm n A (gateOf n false W2).2 N st (.dat (.int i)) (.dat (.int j)) (.dat (.int (0 + (t : Int)))) d e) (ee_w1 (k := 0) (W := W2) (W' := (gateOf n false W2).2) (S1 := Sm n A W2 N st (.dat (.int i)) (.dat (.int j)) (.dat (.int (0 + (t : Int)))) d e) [.int (n : Int), .bool false] (ea_cons (ee_var rfl) (ea_cons (ee_var rfl) (ea_cons ee_bl ea_nil))) rfl rfl ⟨W2, n, false, rfl, rfl, r4, by omega, rfl, rfl⟩) (egh_of (eg_tup (egs_cons eg_name (egs_cons eg_name egs_nil)))) ?_)⟩
      generalize (gateOf n false W2).2 = W3
      generalize (gateOf n false W2).1 = x at go ⊢
      obtain ⟨u, v⟩ := x
      dsimp only at go ⊢
      have a1 : atI (st.map PyData.int) u = some (.int (st.getD u.toNat 0)) := at_int (by omega) (by omega)
      have a2 : atI (st.map PyData.int) v = some (.int (st.getD v.toNat 0)) := at_int (by omega) (by omega)
      refine ts_if (b := decide (st.getD u.toNat 0 < st.getD v.toNat 0)) (S1 := Sm n A W3 N st (.dat (.int i)) (.dat (.int j)) (.dat (.int (0 + (t : Int)))) (.dat (.int u)) (.dat (.int v))) (et_test (ee_op (ee_op (ee_var rfl) (ee_var rfl) (ro_ixL (.own rfl) a1)) (ee_op (ee_var rfl) (ee_var rfl) (ro_ixL (.own rfl) a2)) ro_lt)) (fun hb => ?_) fun hb => ?_
      · rw [if_pos (of_decide_eq_true hb)]
        refine ts_drop (ee_append (k := 1) (d := gD (u, v)) (ds := N.map gD) (S1 := Sm n A W3 N st (.dat (.int i)) (.dat (.int j)) (.dat (.int (0 + (t : Int)))) (.dat (.int u)) (.dat (.int v))) (ee_var rfl) (ee_tup (ed_cons (ee_var rfl) (ed_cons (ee_var rfl) ed_nil))) ⟨_, rfl⟩ rfl (by rw [List.length_map]; omega)) ⟨.dat (.int (0 + (t : Int))), .dat (.int u), .dat (.int v), ?_⟩
        show (⟨_, [_, .lst (N.map gD ++ [gD (u, v)]), _]⟩ : SS) = ⟨_, [_, .lst ((N ++ [(u, v)]).map gD), _]⟩
        rw [List.map_append]
        rfl
      · rw [if_neg (of_decide_eq_false hb)]
        exact ts_next ⟨_, _, _, rfl⟩
    · rintro S' ⟨c, d, e, rfl⟩
      rw [rngD_len]
      obtain ⟨r1, r2, r3, r4, r5⟩ := idleR_ok hn2 (st := st) (s := (net, (draw 3 W1).2)) nok ntm nfo d1 (draw 3 W1).1.toNat
      have r5 : (idleR n st (net, (draw 3 W1).2) (draw 3 W1).1.toNat).1.length ≤ net.length + (draw 3 W1).1.toNat := r5
      generalize idleR n st (net, (draw 3 W1).2) (draw 3 W1).1.toNat = q at r5 ⊢
      obtain ⟨N, W2⟩ := q
      dsimp only at r5 ⊢
      have eg : N.map gD ++ [gD (i, j)] = (N ++ [(i, j)]).map gD := by
        rw [List.map_append]
        rfl
      refine ts_seq (ts_drop (ee_append (k := 1) (d := gD (i, j)) (ds := N.map gD) (S1 := Sm n A W2 N st (.dat (.int i)) (.dat (.int j)) c d e) (ee_var rfl) (ee_tup (ed_cons (ee_var rfl) (ed_cons (ee_var rfl) ed_nil))) ⟨_, rfl⟩ rfl (by rw [List.length_map]; omega)) ?_)
      rw [eg]
      show Ts K _ (Sm n A W2 (N ++ [(i, j)]) st (.dat (.int i)) (.dat (.int j)) c d e) _
      have a1 : atI (st.map PyData.int) i = some (.int (st.getD i.toNat 0)) := at_int (by omega) (by omega)
      have a2 : atI (st.map PyData.int) j = some (.int (st.getD j.toNat 0)) := at_int (by omega) (by omega)
      have n1 : ∀ ds : List PyData, ds.length = n → ixN ds.length i = some i.toNat := fun ds e => by
        unfold ixN
        rw [if_pos (by omega), if_pos (by omega)]
      have n2 : ∀ ds : List PyData, ds.length = n → ixN ds.length j = some j.toNat := fun ds e => by
        unfold ixN
        rw [if_pos (by omega), if_pos (by omega)]
      refine ts_asgG (ee_tup (ed_cons (ee_op (ee_var rfl) (ee_var rfl) (ro_ixL (.own rfl) a2)) (ed_cons (ee_op (ee_var rfl) (ee_var rfl) (ro_ixL (.own rfl) a1)) ed_nil)))
        (egh_tup (eghs_cons (egh_sub (ee_var rfl) (ee_var rfl) rfl (n1 _ (by rw [List.length_map]; exact stl))) (eghs_cons (egh_sub (ee_var rfl) (ee_var rfl) rfl (n2 _ (by rw [List.length_set, List.length_map]; exact stl))) eghs_nil))) ⟨.dat (.int i), .dat (.int j), c, d, e, ?_⟩
      show (⟨_, [_, _, .lst (((st.map PyData.int).set _ _).set _ _)]⟩ : SS) = ⟨_, [_, _, .lst ((swp st i.toNat j.toNat).map PyData.int)]⟩
      unfold swp
      rw [List.map_set, List.map_set]
  · rintro S' ⟨a, b, c, d, e, rfl⟩
    rw [List.length_map, List.take_length]
    exact ts_ret (ee_cb (ea_cons (ee_var rfl) ea_nil) (rc_tupL (.own rfl))) ⟨rfl, ⟨[_, _], rfl⟩⟩
end
end K33

set_option maxRecDepth 100000
set_option maxHeartbeats 4000000
namespace K33
open PySem PySem.Spec PyProof.Rows L2 DL
/-! ### the law's rows -/
theorem weak_good {n : Nat} {row : List Int} (h1 : 1 ≤ n) (h : row ∈ weakN (n - 1)) : row.length = n := by
  have := (weak_row (n - 1) row h).1
  omega
/-- the rows of the look -/
def lookR (n m : Nat) (W : Well) : List (List Int) × Well := if n < 5 then (weakN (n - 1), W) else mapW (keysOf n) m W
theorem lookR_len {n m : Nat} (h1 : 1 ≤ n) (W : Well) : ∀ row ∈ (lookR n m W).1, row.length = n := by
  unfold lookR
  split
  · exact fun row h => weak_good h1 h
  · exact mapW_all (p := fun (row : List Int) => row.length = n) (keysOf_len n) W m
theorem lookR_deep {n m : Nat} {W : Well} (h : W.deep.length ≤ 100) : (lookR n m W).2.deep.length ≤ 100 := by
  unfold lookR
  split
  · exact h
  · exact mapW_deep (keysOf_deep n) h m
theorem lookR_few {n m : Nat} (hm : m ≤ 100) (W : Well) : (lookR n m W).1.length ≤ 20000 := by
  unfold lookR
  split
  · have h1 := weak_len (n - 1) (by omega)
    have h2 := pow_small (k := n - 1) (by omega)
    show (weakN (n - 1)).length ≤ 20000
    omega
  · show (mapW (keysOf n) m W).1.length ≤ 20000
    rw [mapW_len]
    omega
def rowsL (n : Nat) (W : Well) : List (List Int) := (lookR n 10 W).1 ++ [descI n]
theorem rowsL_len {n : Nat} (h1 : 1 ≤ n) (W : Well) : ∀ row ∈ rowsL n W, row.length = n := fun row h => by
  rcases List.mem_append.mp h with h | h
  · exact lookR_len h1 W row h
  · rw [List.mem_singleton.mp h, descI_len]
theorem rowsL_few (n : Nat) (W : Well) : (rowsL n W).length ≤ 20001 := by
  unfold rowsL
  rw [List.length_append]
  have := lookR_few (n := n) (m := 10) (by decide) W
  show _ + 1 ≤ _
  omega
theorem rowsL_desc (n : Nat) (W : Well) : descI n ∈ rowsL n W := List.mem_append_right _ List.mem_cons_self
section
variable {P : Program} {w : World} {K : PySem.W.Frag} {mg : Str → Option Value} {base : Heap}
abbrev Sr (W : Well) (n : Nat) (a : SD) : SS := ⟨[.own 0, .dat (.int (n : Int)), .un, a], [W.oo]⟩
def R_rowsB : FR := fun as ob r ob' => ∃ (W : Well) (n : Nat), as = [.own 0, .dat (.int (n : Int))] ∧ ob = [W.oo] ∧ W.deep.length ≤ 100 ∧ 1 ≤ n ∧ n ≤ 100 ∧ r = .dat (.list ((rowsL n W).map rD)) ∧ ob' = [(lookR n 10 W).2.oo]
theorem sc_law_rows : FnScope ["loom", "wide", "turn", "rows"] ["loom", "wide"] (defScope s_law_rows) := ⟨rfl, rfl, rfl, by decide +kernel, rfl, by decide +kernel, by decide +kernel⟩
theorem ok_law_rows (D : Df K mg "_law_rows" s_law_rows ["loom", "wide"]) (B : Bi mg) (Cc : Cls K mg) (D_law_draw : Df K mg "_law_draw" s_law_draw ["loom", "many"]) (D_law_pick : Df K mg "_law_pick" s_law_pick ["loom", "things"]) (D_law_mixed : Df K mg "_law_mixed" s_law_mixed ["loom", "things"]) (D_law_weak : Df K mg "_law_weak" s_law_weak ["wide"]) (D_law_keys : Df K mg "_law_keys" s_law_keys ["loom", "wide"]) : FnG P w K mg base CX0 4 D.f D.fd ["loom", "wide"] (spD K 2 R_rowsB) := by
  have ok_law_weak : FnG P w K mg base CX0 1 _ _ _ _ := ok_law_weak D_law_weak B Cc
  have ok_law_keys : FnG P w K mg base CX0 3 _ _ _ _ := ok_law_keys D_law_keys B Cc D_law_draw D_law_pick D_law_mixed
  refine okG D.F sc_law_rows (fun vs H Q E h => h.1) (fun cdv A outer s H vs Q E hr gd h => ?_)
  have hu := huX hr
  refine ⟨_, (pss_cons (ps_set (i := 3) sc_law_rows.nd rfl (Or.inl rfl) (pe_ifExp (pt_cmpR (op_ltU hu) (pv 1) pe_int (nomark _)) (pe_callG (ok_law_weak) (hr.mono (by decide)) gd (by rfl) D_law_weak.m D_law_weak.F.kp D_law_weak.b .nil pass0 (pa_cons (pv 1) pa_nil)) (pe_lc (own := [("turn", 2)]) (g := gName 2) (tt := tYes) (by rfl) sc_law_rows.nd (pi_range1 (by rfl) B.z_range (pa_cons pe_int pa_nil)) (blkOk_by (own := [("turn", 2)]) (N := ["loom", "wide", "turn", "rows"]) (sc := defScope s_law_rows) (by decide +kernel)) (fun _ _ _ _ _ => (pg_name (i := 2) sc_law_rows.nd rfl (Or.inl rfl))) (fun _ _ _ _ _ => pts_nil) (fun _ _ _ _ _ => (pe_callG (ok_law_keys) (hr.mono (by decide)) gd (by rfl) D_law_keys.m D_law_keys.F.kp D_law_keys.b .nil pass0 (pa_cons (pv 0) (pa_cons (pv 1) pa_nil)))))))
      (pss_one (ps_ret (pe_op op_plus (pv 3) (pe_lst (pa_cons (pe_tupDn rfl (by rfl) B.z_tuple (by rfl) B.z_range (pa_cons (pv 1) (pa_cons pe_int (pa_cons (pe_un un_negU pe_int) pa_nil)))) pa_nil)))))), ?_⟩
  refine body_of h (by decide) fun as ob r ob' hR hl => ?_
  obtain ⟨W, n, rfl, rfl, hd, h1, hn, rfl, rfl⟩ := hR
  have rf := lookR_few (n := n) (m := 10) (by decide) W
  refine ts_seq (ts_asg (x := .dat (.list ((lookR n 10 W).1.map rD))) (S1 := Sr (lookR n 10 W).2 n .un) (ee_if (et_test (ee_op (ee_var rfl) ee_int ro_lt)) (fun hb => ?_) fun hb => ?_) ?_)
  · have h5 : n < 5 := by
      have := of_decide_eq_true hb
      omega
    have el : lookR n 10 W = (weakN (n - 1), W) := if_pos h5
    rw [el]
    exact ee_callD (ed_cons (ee_var rfl) ed_nil) rfl ⟨n, rfl, h1, by omega, rfl, rfl, rfl⟩
  · have h5 : ¬ n < 5 := by
      have := of_decide_eq_false hb
      omega
    have el : lookR n 10 W = mapW (keysOf n) 10 W := if_neg h5
    rw [el]
    exact ee_of_el (el_mapW (g := keysOf n) (dB := rD) (n := 10) (W := W) (S0 := Sr W n .un) (ei_rng1 (n := 10) (ed_cons ee_int ed_nil) (by decide)) rfl (by decide) hd (keysOf_deep n) fun i W' hi hd' => ⟨_, egc_name (by decide), _, ee_w1 (k := 0) (W := W') (W' := (keysOf n W').2) (R := R_keys) [.int (n : Int)] (ea_cons (ee_var rfl) (ea_cons (ee_var rfl) ea_nil)) rfl rfl ⟨W', n, rfl, rfl, hd', by omega, rfl, rfl⟩, rfl⟩)
  have er : rowsL n W = (lookR n 10 W).1 ++ [descI n] := rfl
  rw [er]
  generalize lookR n 10 W = lr at rf ⊢
  obtain ⟨rows, W1⟩ := lr
  dsimp only at rf ⊢
  have tup := ee_tupDn (K := K) (S := Sr W1 n (.dat (.list (rows.map rD)))) (i := (n : Int)) (j := 0) (ed_cons (ee_var (i := 1) rfl) (ed_cons ee_int (ed_cons (ee_un ee_int ru_neg) ed_nil))) (by omega)
  rw [show ((n : Int) - 0).toNat = n by omega, desc_down] at tup
  refine ts_ret (ee_eq (ee_op (ee_var rfl) (ee_lst (ds := [rD (descI n)]) (ed_cons tup ed_nil) (show (1 : Nat) ≤ 1000000 by decide)) (ro_cat (by rw [List.length_map]; show _ + 1 ≤ _; omega))) ?_) ⟨rfl, rfl⟩
  rw [List.map_append]
  rfl
end
end K33

set_option maxRecDepth 100000
set_option maxHeartbeats 4000000
namespace K33
open PySem PySem.Spec PyProof.Rows L2 DL
/-! ### rows of small numbers with one text are one row -/
def cpL (x : Str) : List Nat := x.cps.toList
theorem cpL_app (x y : Str) : cpL (x ++ y) = cpL x ++ cpL y := by
  show (x.cps ++ y.cps).toList = _
  rw [Array.toList_append]
  rfl
theorem cpL_inj {x y : Str} (h : cpL x = cpL y) : x = y := by
  cases x with
  | mk a =>
    cases y with
    | mk b =>
      have : a = b := Array.toList_inj.mp h
      rw [this]
theorem split_at : ∀ (a b : List Nat) {r s : List Nat}, (44 : Nat) ∉ a → (44 : Nat) ∉ b → a ++ 44 :: r = b ++ 44 :: s → a = b ∧ r = s
  | [], [], r, s, _, _, h => ⟨rfl, (List.cons.inj h).2⟩
  | [], y :: b, r, s, _, hb, h => by
    have := (List.cons.inj h).1
    exact absurd (this ▸ List.mem_cons_self) hb
  | x :: a, [], r, s, ha, _, h => by
    have := (List.cons.inj h).1
    exact absurd (this ▸ List.mem_cons_self) ha
  | x :: a, y :: b, r, s, ha, hb, h => by
    obtain ⟨h1, h2⟩ := List.cons.inj h
    obtain ⟨h3, h4⟩ := split_at a b (fun z => ha (List.mem_cons_of_mem _ z)) (fun z => hb (List.mem_cons_of_mem _ z)) h2
    exact ⟨by rw [h1, h3], h4⟩
theorem sep_is : cpL (", " : Str) = [44, 32] := by decide +kernel
theorem join_two (x y : Str) (r : List Str) : cpL (Str.join ", " (x :: y :: r)) = cpL x ++ 44 :: 32 :: cpL (Str.join ", " (y :: r)) := by
  show cpL ((x ++ (", " : Str)) ++ Str.join ", " (y :: r)) = _
  rw [cpL_app, cpL_app, sep_is, List.append_assoc]
  rfl
theorem join_inj {E : List Nat} : ∀ (xs ys : List Str), xs.length = ys.length → (∀ t ∈ xs, (44 : Nat) ∉ cpL t) → (∀ t ∈ ys, (44 : Nat) ∉ cpL t) → cpL (Str.join ", " xs) ++ E = cpL (Str.join ", " ys) ++ E → xs = ys
  | [], [], _, _, _, _ => rfl
  | [], _ :: _, h, _, _, _ => by cases h
  | _ :: _, [], h, _, _, _ => by cases h
  | [x], [y], _, _, _, h => by
    have h : cpL x ++ E = cpL y ++ E := h
    rw [cpL_inj (List.append_cancel_right h)]
  | [_], _ :: _ :: _, h, _, _, _ => by simp at h
  | _ :: _ :: _, [_], h, _, _, _ => by simp at h
  | x :: x2 :: xs, y :: y2 :: ys, hl, hx, hy, h => by
    rw [join_two, join_two, List.append_assoc, List.append_assoc] at h
    obtain ⟨h1, h2⟩ := split_at _ _ (hx x List.mem_cons_self) (hy y List.mem_cons_self) h
    have h2 : 32 :: (cpL (Str.join ", " (x2 :: xs)) ++ E) = 32 :: (cpL (Str.join ", " (y2 :: ys)) ++ E) := h2
    have ih := join_inj (x2 :: xs) (y2 :: ys) (by simp at hl ⊢; exact hl) (fun t ht => hx t (List.mem_cons_of_mem _ ht)) (fun t ht => hy t (List.mem_cons_of_mem _ ht)) (List.cons.inj h2).2
    rw [cpL_inj h1, ih]
theorem tuple_inj {xs ys : List Str} (hl : xs.length = ys.length) (hx : ∀ t ∈ xs, (44 : Nat) ∉ cpL t) (hy : ∀ t ∈ ys, (44 : Nat) ∉ cpL t) (h : tupleText xs = tupleText ys) : xs = ys := by
  have h : cpL (tupleText xs) = cpL (tupleText ys) := by rw [h]
  unfold tupleText at h
  rw [cpL_app, cpL_app, cpL_app, cpL_app, hl, List.append_assoc, List.append_assoc] at h
  exact join_inj xs ys hl hx hy (List.append_cancel_left h)
theorem shown_I (i : Int) : (PyData.int i).shown = ((toString i : String) : Str) := by
  unfold PyData.shown
  rfl
theorem small_free : (List.range 30).all (fun i => !(cpL ((toString (i : Int) : String) : Str)).contains 44) = true := by decide +kernel
theorem small_inj : (List.range 30).all (fun i => (List.range 30).all fun j => decide (cpL ((toString (i : Int) : String) : Str) = cpL ((toString (j : Int) : String) : Str)) == decide (i = j)) = true := by decide +kernel
theorem shown_free {i : Int} (h0 : 0 ≤ i) (h : i < 30) : (44 : Nat) ∉ cpL (PyData.int i).shown := by
  obtain ⟨n, rfl⟩ : ∃ n : Nat, i = (n : Int) := ⟨i.toNat, by omega⟩
  have := List.all_eq_true.mp small_free n (List.mem_range.mpr (by omega))
  rw [shown_I]
  intro z
  rw [List.contains_iff_mem.mpr z] at this
  cases this
theorem shown_one {i j : Int} (h0 : 0 ≤ i) (h : i < 30) (g0 : 0 ≤ j) (g : j < 30) (e : (PyData.int i).shown = (PyData.int j).shown) : i = j := by
  obtain ⟨n, rfl⟩ : ∃ n : Nat, i = (n : Int) := ⟨i.toNat, by omega⟩
  obtain ⟨m, rfl⟩ : ∃ m : Nat, j = (m : Int) := ⟨j.toNat, by omega⟩
  have := List.all_eq_true.mp (List.all_eq_true.mp small_inj n (List.mem_range.mpr (by omega))) m (List.mem_range.mpr (by omega))
  rw [shown_I, shown_I] at e
  rw [e, decide_eq_true rfl] at this
  have : n = m := by simpa using this
  rw [this]
theorem shownAll_map : ∀ l : List PyData, PyData.shownAll l = l.map PyData.shown
  | [] => by
    unfold PyData.shownAll
    rfl
  | x :: l => by
    unfold PyData.shownAll
    rw [shownAll_map l]
    rfl
theorem map_shown : ∀ (xs ys : List Int), (∀ x ∈ xs, 0 ≤ x ∧ x < 30) → (∀ y ∈ ys, 0 ≤ y ∧ y < 30) → (xs.map PyData.int).map PyData.shown = (ys.map PyData.int).map PyData.shown → xs = ys
  | [], [], _, _, _ => rfl
  | [], _ :: _, _, _, h => by cases h
  | _ :: _, [], _, _, h => by cases h
  | x :: xs, y :: ys, hx, hy, h => by
    obtain ⟨h1, h2⟩ := List.cons.inj h
    have a := hx x List.mem_cons_self
    have b := hy y List.mem_cons_self
    rw [shown_one a.1 a.2 b.1 b.2 h1, map_shown xs ys (fun z hz => hx z (List.mem_cons_of_mem _ hz)) (fun z hz => hy z (List.mem_cons_of_mem _ hz)) h2]
theorem rD_inj {xs ys : List Int} (hl : xs.length = ys.length) (hx : ∀ x ∈ xs, 0 ≤ x ∧ x < 30) (hy : ∀ y ∈ ys, 0 ≤ y ∧ y < 30) (h : (rD xs).shown = (rD ys).shown) : xs = ys := by
  unfold rD PyData.shown at h
  rw [shownAll_map, shownAll_map] at h
  have free : ∀ {zs : List Int}, (∀ z ∈ zs, 0 ≤ z ∧ z < 30) → ∀ t ∈ (zs.map PyData.int).map PyData.shown, (44 : Nat) ∉ cpL t := fun {zs} hz t ht => by
    obtain ⟨d, hd, rfl⟩ := List.mem_map.mp ht
    obtain ⟨z, hz', rfl⟩ := List.mem_map.mp hd
    exact shown_free (hz z hz').1 (hz z hz').2
  exact map_shown xs ys hx hy (tuple_inj (by rw [List.length_map, List.length_map, List.length_map, List.length_map, hl]) (free hx) (free hy) h)
end K33

set_option maxRecDepth 100000
set_option maxHeartbeats 4000000
namespace K33
open PySem PySem.Spec PyProof.Rows L2 DL
/-! ### whether two networks lead alike -/
section
variable {P : Program} {w : World} {K : PySem.W.Frag} {mg : Str → Option Value} {base : Heap}
theorem ee_callX0 {K : PySem.W.Frag} {S S1 : SS} {np : Nat} {R : FR} {RX : FX} {E : XK} {ta : TA} {ds : List PyData} {d : PyData} (ha : Ed K ta S ds S1) (hl : ds.length = np) (hR : R (ds.map SD.dat) [] (.dat d) []) : Ee K (tCall (spX K np R RX) [] E ta) S (.dat d) S1 := fun c Hf H σ fp ok Q q =>
  ha c Hf H σ fp ok _ fun vs Hf1 H1 fp1 ok1 g1 sr => by
    rw [List.append_nil]
    exact spX_ret (sp_call0 (R := R) (r := .dat d) (ob' := []) ok1 sr (fun a h => by
      obtain ⟨x, _, rfl⟩ := List.mem_map.mp h
      trivial) (by rw [List.length_map]; exact hl) hR fun v Hf' H' fp' ok' g' rv => q v Hf' H' fp' (by rw [List.append_nil] at ok'; exact ok') (g1.trans g') rv)
theorem ro_neBB {K : PySem.W.Frag} {S : SS} {a b : Bool} : Ro K (rNeU K) (.dat (.bool a)) (.dat (.bool b)) S (.dat (.bool (!decide (a = b)))) S := by
  have h := ro_neD (K := K) (S := S) (x := .dat (.bool a)) (y := .dat (.bool b)) (d := .bool a) (e := .bool b) (.dat _) (.dat _) rfl rfl
  have e : PyData.eqv (.bool a) (.bool b) = decide (a = b) := by cases a <;> cases b <;> rfl
  rw [e] at h
  exact h
theorem nc_came {n : Nat} {net : List Gate} {row : List Int} (h : NetOk n net) (hn : n ≤ 24) (hl : row.length = n) : Nc 60 16000000 (rD (runP row net)) :=
  (nc_rowT (m := 24) (fun x hx => by
    have := runP_mem (row := row) (by rw [hl]; exact h) hx
    unfold InKey
    omega) (by rw [runP_len, hl]; exact hn)).mono (by decide) (by decide)
theorem sh_row (xs : List Int) : SeqAt.shaped (rD xs) = true := Fl.sh (k := 1) (Fl.tup fun x hx => by
  obtain ⟨z, _, rfl⟩ := List.mem_map.mp hx
  exact Fl.int) (by decide)
theorem eqv_rows (xs ys : List Int) : PyData.eqv (rD xs) (rD ys) = decide (xs = ys) := eqv_tupI
theorem ro_eqRow {S : SS} {xs ys : List Int} : Ro K (rEqU K) (.dat (rD xs)) (.dat (rD ys)) S (.dat (.bool (decide (xs = ys)))) S := by
  have := ro_eqD (K := K) (S := S) (x := .dat (rD xs)) (y := .dat (rD ys)) (.dat _) (.dat _) (sh_row xs) (sh_row ys)
  rw [eqv_rows] at this
  exact this
/-- rows on which two networks are seen to lead unlike -/
def apartN (A B : List Gate) (rows : List (List Int)) : List (List Int) := rows.filter fun x => !decide ((rD (runP x A)).shown = (rD (runP x B)).shown)
theorem apart_none {n : Nat} {A B : List Gate} (hn : n ≤ 24) (hA : NetOk n A) (hB : NetOk n B) (tA : Tame n A A.length) (tB : Tame n B B.length) {rows : List (List Int)} (hr : ∀ x ∈ rows, x.length = n) (hd : descI n ∈ rows) : (apartN A B rows).isEmpty = decide (imgN n A = imgN n B) := by
  by_cases e : imgN n A = imgN n B
  · rw [decide_eq_true e]
    have : apartN A B rows = [] := List.filter_eq_nil_iff.mpr fun x hx => by
      rw [one_came hA hB tA tB e (hr x hx), decide_eq_true rfl]
      exact Bool.false_ne_true
    rw [this]
    rfl
  · rw [decide_eq_false e]
    have ne : runP (descI n) A ≠ runP (descI n) B := fun z => e (by
      unfold imgN runO
      rw [z])
    have dA : NetOk (descI n).length A := by rw [descI_len]; exact hA
    have dB : NetOk (descI n).length B := by rw [descI_len]; exact hB
    have nt : (rD (runP (descI n) A)).shown ≠ (rD (runP (descI n) B)).shown := fun z => ne (rD_inj (by rw [runP_len, runP_len]) (fun x hx => by
      have := runP_mem dA hx
      rw [descI_len] at this
      omega) (fun x hx => by
      have := runP_mem dB hx
      rw [descI_len] at this
      omega) z)
    have : descI n ∈ apartN A B rows := List.mem_filter.mpr ⟨hd, by rw [decide_eq_false nt]; rfl⟩
    cases hc : apartN A B rows with
    | nil =>
      rw [hc] at this
      cases this
    | cons a b => rfl
abbrev Sk3 (W : Well) (n : Nat) (A B : List Gate) (a b c : SD) : SS := ⟨[.own 0, .dat (.int (n : Int)), .dat (nD A), .dat (nD B), a, b, .un, c], [W.oo]⟩
def R_alike : FR := fun as ob r ob' => ∃ (W : Well) (n : Nat) (A B : List Gate), as = [.own 0, .dat (.int (n : Int)), .dat (nD A), .dat (nD B)] ∧ ob = [W.oo] ∧ W.deep.length ≤ 100 ∧ 2 ≤ n ∧ n ≤ 24 ∧ NetIn n A ∧ NetIn n B ∧ Tame n A A.length ∧ Tame n B B.length ∧ r = .dat (.bool true) ∧ ob' = [(lookR n 10 W).2.oo]
theorem sc_law_are_alike : FnScope ["loom", "wide", "gates", "others", "is_one", "rows", "keys", "apart"] ["loom", "wide", "gates", "others"] (defScope s_law_are_alike) := ⟨rfl, rfl, rfl, by decide +kernel, rfl, by decide +kernel, by decide +kernel⟩
theorem ok_law_are_alike (D : Df K mg "_law_are_alike" s_law_are_alike ["loom", "wide", "gates", "others"]) (B : Bi mg) (Cc : Cls K mg) (Dout : Df K mg "out" sout ["network", "row"]) (Dcame : Df K mg "came" scame ["network", "row"]) (Dexchanged : Df K mg "exchanged" sexchanged ["network", "row"]) (D_run : Df K mg "_run" s_run ["network", "row"]) (Ddescending : Df K mg "descending" sdescending ["n"]) (Dat_work : Df K mg "at_work" sat_work ["n", "network"]) (Dis_far : Df K mg "is_far" sis_far ["gate"]) (Dfirst_far : Df K mg "first_far" sfirst_far ["network", "spots"]) (Dimage : Df K mg "image" simage ["n", "network"]) (Dkeeps_all : Df K mg "keeps_all" skeeps_all ["n", "network"]) (Dkept_all_gates : Df K mg "kept_all_gates" skept_all_gates ["n", "network"]) (Dleast_network : Df K mg "least_network" sleast_network ["n", "network"]) (D_law_draw : Df K mg "_law_draw" s_law_draw ["loom", "many"]) (D_law_pick : Df K mg "_law_pick" s_law_pick ["loom", "things"]) (D_law_mixed : Df K mg "_law_mixed" s_law_mixed ["loom", "things"]) (D_law_run : Df K mg "_law_run" s_law_run ["gates", "keys"]) (D_law_end : Df K mg "_law_end" s_law_end ["wide", "gates"]) (D_law_weak : Df K mg "_law_weak" s_law_weak ["wide"]) (D_law_keys : Df K mg "_law_keys" s_law_keys ["loom", "wide"]) (D_law_rows : Df K mg "_law_rows" s_law_rows ["loom", "wide"]) : FnG P w K mg base CX0 6 D.f D.fd ["loom", "wide", "gates", "others"] (spD K 4 R_alike) := by
  have okcame : FnG P w K mg base CX0 2 _ _ _ _ := okcame Dcame B Cc D_run
  have okimage : FnG P w K mg base CX0 4 _ _ _ _ := okimage Dimage B Cc Dout Dcame D_run Ddescending
  have okleast_network : FnG P w K mg base (L2.CX P w) 5 _ _ _ _ := okleast_network Dleast_network B Cc Dexchanged D_run Ddescending Dat_work Dis_far Dfirst_far Dkeeps_all Dkept_all_gates
  have ok_law_end : FnG P w K mg base CX0 2 _ _ _ _ := ok_law_end D_law_end B Cc D_law_run
  have ok_law_rows : FnG P w K mg base CX0 4 _ _ _ _ := ok_law_rows D_law_rows B Cc D_law_draw D_law_pick D_law_mixed D_law_weak D_law_keys
  refine okG D.F sc_law_are_alike (fun vs H Q E h => h.1) (fun cdv A outer s H vs Q E hr gd h => ?_)
  have hu := huX hr
  refine ⟨_, (pss_cons (ps_set (i := 4) sc_law_are_alike.nd rfl (Or.inl rfl) (pe_cmpR (op_eqU hu) (pe_callG (okimage) (hr.mono (by decide)) gd (by rfl) Dimage.m Dimage.F.kp Dimage.b .nil pass0 (pa_cons (pv 1) (pa_cons (pv 2) pa_nil))) (pe_callG (okimage) (hr.mono (by decide)) gd (by rfl) Dimage.m Dimage.F.kp Dimage.b .nil pass0 (pa_cons (pv 1) (pa_cons (pv 3) pa_nil))) (nomark _)))
      (pss_cons (ps_set (i := 5) sc_law_are_alike.nd rfl (Or.inl rfl) (pe_callG (ok_law_rows) (hr.mono (by decide)) gd (by rfl) D_law_rows.m D_law_rows.F.kp D_law_rows.b .nil pass0 (pa_cons (pv 0) (pa_cons (pv 1) pa_nil))))
      (pss_cons (ps_setLc (i := 7) (own := [("keys", 6)]) (g := gName 6) (by rfl) sc_law_are_alike.nd rfl rfl (sw_true rfl rfl rfl (by decide +kernel)) (pi_list (pv 5)) (blkOk_by (own := [("keys", 6)]) (N := ["loom", "wide", "gates", "others", "is_one", "rows", "keys", "apart"]) (sc := defScope s_law_are_alike) (by decide +kernel)) (fun _ _ _ _ _ => (pg_name (i := 6) sc_law_are_alike.nd rfl (Or.inl rfl))) (fun _ _ _ _ _ => (pts_one (pt_cmpR (opK K (R := rNeU) (op_neU hu) rfl) (pe_callB (callK K (R := rRepr) (call_reprD gd hu) rfl) (by rfl) B.z_repr (by decide +kernel) (pa_cons (pe_callG (okcame) (hr.mono (by decide)) gd (by rfl) Dcame.m Dcame.F.kp Dcame.b .nil pass0 (pa_cons (pv 2) (pa_cons (pv 6) pa_nil))) pa_nil)) (pe_callB (callK K (R := rRepr) (call_reprD gd hu) rfl) (by rfl) B.z_repr (by decide +kernel) (pa_cons (pe_callG (okcame) (hr.mono (by decide)) gd (by rfl) Dcame.m Dcame.F.kp Dcame.b .nil pass0 (pa_cons (pv 3) (pa_cons (pv 6) pa_nil))) pa_nil)) (nomark _)))) (fun _ _ _ _ _ => (pv 6)))
      (pss_cons (ps_if (PW.pt (pw_or (pt_cmpR (op_neU hu) (pv 4) (pe_cmpR (op_eqU hu) (pv 7) (pe_lst pa_nil) (nomark _)) (nomark _)) (pw_or1 (pt_cmpR (op_neU hu) (pv 4) (pe_cmpR (op_eqU hu) (pe_ix ix_seq (pe_callG (ok_law_end) (hr.mono (by decide)) gd (by rfl) D_law_end.m D_law_end.F.kp D_law_end.b .nil pass0 (pa_cons (pv 1) (pa_cons (pv 2) pa_nil))) pe_int (fun _ _ => rfl)) (pe_ix ix_seq (pe_callG (ok_law_end) (hr.mono (by decide)) gd (by rfl) D_law_end.m D_law_end.F.kp D_law_end.b .nil pass0 (pa_cons (pv 1) (pa_cons (pv 3) pa_nil))) pe_int (fun _ _ => rfl)) (nomark _)) (nomark _))))) (pss_one (ps_ret pe_bl)) pss_nil)
      (pss_one (ps_ret (pe_or (pe_not (pv 4)) (pe_one (pe_cmpR (op_eqU hu) (pe_callB cb_len (by rfl) B.z_len PySem.boot_len (pa_cons (pe_callG (okleast_network) (hr.mono (by decide)) gd (by rfl) Dleast_network.m Dleast_network.F.kp Dleast_network.b .nil passL (pa_cons (pv 1) (pa_cons (pv 2) pa_nil))) pa_nil)) (pe_callB cb_len (by rfl) B.z_len PySem.boot_len (pa_cons (pe_callG (okleast_network) (hr.mono (by decide)) gd (by rfl) Dleast_network.m Dleast_network.F.kp Dleast_network.b .nil passL (pa_cons (pv 1) (pa_cons (pv 3) pa_nil))) pa_nil)) (nomark _)))))))))), ?_⟩
  refine body_of h (by decide) fun as ob r ob' hR hl => ?_
  obtain ⟨W, n, A, B, rfl, rfl, hd, hn2, hn, iA, iB, tA, tB, rfl, rfl⟩ := hR
  have kA := tame_ka iA.1 tA
  have kB := tame_ka iB.1 tB
  have good : ∀ {X : List Gate} {row : List Int}, NetIn n X → row.length = n → GoodIn X row := fun h e => ⟨by rw [e]; exact h.1, h.2.1, by rw [e]; exact h.2.2⟩
  have q1 : R_image (([.int (n : Int), nD A] : List PyData).map SD.dat) [] (.dat (rD (imgN n A))) [] := ⟨n, A, rfl, iA, rfl, rfl, rfl⟩
  have q2 : R_image (([.int (n : Int), nD B] : List PyData).map SD.dat) [] (.dat (rD (imgN n B))) [] := ⟨n, B, rfl, iB, rfl, rfl, rfl⟩
  refine ts_seq (ts_asg (x := .dat (.bool (decide (imgN n A = imgN n B)))) (S1 := Sk3 W n A B .un .un .un) (ee_op (ee_callD (ed_cons (ee_var rfl) (ed_cons (ee_var rfl) ed_nil)) rfl q1) (ee_callD (ed_cons (ee_var rfl) (ed_cons (ee_var rfl) ed_nil)) rfl q2) ro_eqRow) ?_)
  show Ts K _ (Sk3 W n A B (.dat (.bool (decide (imgN n A = imgN n B)))) .un .un) _
  refine ts_seq (ts_asg (x := .dat (.list ((rowsL n W).map rD))) (S1 := Sk3 (lookR n 10 W).2 n A B (.dat (.bool (decide (imgN n A = imgN n B)))) .un .un) (ee_w1 (k := 0) (W := W) (W' := (lookR n 10 W).2) (S1 := Sk3 W n A B (.dat (.bool (decide (imgN n A = imgN n B)))) .un .un) [.int (n : Int)] (ea_cons (ee_var rfl) (ea_cons (ee_var rfl) ea_nil)) rfl rfl ⟨W, n, rfl, rfl, hd, by omega, by omega, rfl, rfl⟩) ?_)
  have rl := rowsL_len (n := n) (by omega) W
  have rd := rowsL_desc n W
  have rf := rowsL_few n W
  generalize rowsL n W = rows at rl rd rf ⊢
  generalize (lookR n 10 W).2 = W1
  show Ts K _ (Sk3 W1 n A B (.dat (.bool (decide (imgN n A = imgN n B)))) (.dat (.list (rows.map rD))) .un) _
  have ap := apart_none hn iA.1 iB.1 tA tB rl rd
  refine ts_seq (ts_asg (x := .dat (.list ((apartN A B rows).map rD))) (S1 := Sk3 W1 n A B (.dat (.bool (decide (imgN n A = imgN n B)))) (.dat (.list (rows.map rD))) .un) (ee_of_el (el_lcfA (dA := rD) (lst := rows) (p := fun x => !decide ((rD (runP x A)).shown = (rD (runP x B)).shown)) (f := rD) (S0 := Sk3 W1 n A B (.dat (.bool (decide (imgN n A = imgN n B)))) (.dat (.list (rows.map rD))) .un) (ei_list (ee_var rfl)) (by omega) fun x hx => ?_)) ?_)
  · have xl := rl x hx
    have c1 : R_came (([nD A, rD x] : List PyData).map SD.dat) [] (.dat (rD (runP x A))) [] := ⟨A, x, rfl, good iA xl, rfl, rfl, rfl⟩
    have c2 : R_came (([nD B, rD x] : List PyData).map SD.dat) [] (.dat (rD (runP x B))) [] := ⟨B, x, rfl, good iB xl, rfl, rfl, rfl⟩
    exact ⟨_, _, egc_name (by decide), et_test (ee_op (ee_cb (ea_cons (ee_callD (ed_cons (ee_var rfl) (ed_cons (ee_var rfl) ed_nil)) rfl c1) ea_nil) (rc_rep (nc_came iA.1 hn xl))) (ee_cb (ea_cons (ee_callD (ed_cons (ee_var rfl) (ed_cons (ee_var rfl) ed_nil)) rfl c2) ea_nil) (rc_rep (nc_came iB.1 hn xl))) ro_neS), rfl, fun _ => ⟨_, ee_var rfl, rfl⟩⟩
  show Ts K _ (Sk3 W1 n A B (.dat (.bool (decide (imgN n A = imgN n B)))) (.dat (.list (rows.map rD))) (.dat (.list ((apartN A B rows).map rD)))) _
  have ap2 : ((apartN A B rows).map rD).isEmpty = decide (imgN n A = imgN n B) := by rw [List.isEmpty_map, ap]
  generalize (apartN A B rows).map rD = apart at ap2 ⊢
  have e1 : R_end (([.int (n : Int), nD A] : List PyData).map SD.dat) [] (.dat (endD n A)) [] := ⟨n, A, rfl, iA, rfl, rfl, rfl⟩
  have e2 : R_end (([.int (n : Int), nD B] : List PyData).map SD.dat) [] (.dat (endD n B)) [] := ⟨n, B, rfl, iB, rfl, rfl, rfl⟩
  refine ts_seq (ts_if (b := false) (S1 := Sk3 W1 n A B (.dat (.bool (decide (imgN n A = imgN n B)))) (.dat (.list (rows.map rD))) (.dat (.list apart))) (et_orF (et_eq (et_test (ee_op (ee_var rfl) (ee_op (ee_var rfl) (ee_lst ed_nil (by simp)) (ro_eqE (.dat _) (.dat _))) ro_neBB)) (by rw [ap2, decide_eq_true rfl]; rfl)) (et_eq (et_test (ee_op (ee_var rfl) (ee_op (ee_op (ee_callD (ed_cons (ee_var rfl) (ed_cons (ee_var rfl) ed_nil)) rfl e1) ee_int (ro_ixT (d := rD (imgN n A)) rfl)) (ee_op (ee_callD (ed_cons (ee_var rfl) (ed_cons (ee_var rfl) ed_nil)) rfl e2) ee_int (ro_ixT (d := rD (imgN n B)) rfl)) ro_eqRow) ro_neBB)) (by rw [decide_eq_true rfl]; rfl))) (fun z => by cases z) fun _ => ts_next ?_)
  have l1 : R_least (([.int (n : Int), nD A] : List PyData).map SD.dat) [] (.dat (nD (atW n A))) [] := ⟨n, A, rfl, iA, kA, rfl, rfl, rfl⟩
  have l2 : R_least (([.int (n : Int), nD B] : List PyData).map SD.dat) [] (.dat (nD (atW n B))) [] := ⟨n, B, rfl, iB, kB, rfl, rfl, rfl⟩
  refine ts_ret (ee_eq (ee_orV (a := !decide (imgN n A = imgN n B)) (ee_notV (ee_var rfl)) fun hb => ee_op (ee_cb (ea_cons (ee_callX0 (ed_cons (ee_var rfl) (ed_cons (ee_var rfl) ed_nil)) rfl l1) ea_nil) rc_lenT) (ee_cb (ea_cons (ee_callX0 (ed_cons (ee_var rfl) (ed_cons (ee_var rfl) ed_nil)) rfl l2) ea_nil) rc_lenT) ro_eqI) ?_) ⟨rfl, rfl⟩
  rw [List.length_map, List.length_map, at_count iA.1 tA, at_count iB.1 tB]
  by_cases e : imgN n A = imgN n B
  · rw [e, decide_eq_true rfl, decide_eq_true rfl]
    rfl
  · rw [decide_eq_false e]
    rfl
end
end K33

set_option maxRecDepth 100000
set_option maxHeartbeats 4000000
namespace K33
open PySem PySem.Spec PyProof.Rows L2 DL
/-! ### a gate left out -/
theorem val_shift {row : List Int} {c p : Int} (h0 : 0 ≤ p) (h : p < row.length) : val (row.map (· + c)) p = val row p + c := by
  have e : row[p.toNat]? = some (row.getD p.toNat 0) := by
    rw [List.getD_eq_getElem?_getD, List.getElem?_eq_getElem (by omega)]
    rfl
  have h1 := val_at e
  have h2 := val_at (row := row.map (· + c)) (i := p.toNat) (x := row.getD p.toNat 0 + c) (by rw [List.getElem?_map, e]; rfl)
  rw [Int.toNat_of_nonneg h0] at h1 h2
  rw [h1, h2]
theorem run_shift {row : List Int} {net : List Gate} (h : NetOk row.length net) (c : Int) : ∀ k, k ≤ net.length → runK (row.map (· + c)) net k = runK row net k
  | 0, _ => by
    show (rngI (row.map (· + c)).length, []) = (rngI row.length, [])
    rw [List.length_map]
  | k + 1, hk => by
    have ih := run_shift h c k (by omega)
    have g := gate_at h (k := k) (by omega)
    have m1 := runK_mem h (k := k) (by omega) (i := (net.getD k (0, 0)).1.toNat) (by omega)
    have m2 := runK_mem h (k := k) (by omega) (i := (net.getD k (0, 0)).2.toNat) (by omega)
    show stepR (row.map (· + c)) k (net.getD k (0, 0)) (runK (row.map (· + c)) net k) = stepR row k (net.getD k (0, 0)) (runK row net k)
    rw [ih]
    unfold stepR
    rw [val_shift m1.1 m1.2, val_shift m2.1 m2.2]
    by_cases e : val row ((runK row net k).1.getD (net.getD k (0, 0)).2.toNat 0) < val row ((runK row net k).1.getD (net.getD k (0, 0)).1.toNat 0)
    · rw [if_pos e, if_pos (by omega)]
    · rw [if_neg e, if_neg (by omega)]
theorem runP_shift {row : List Int} {net : List Gate} (h : NetOk row.length net) (c : Int) : runP (row.map (· + c)) net = runP row net := by
  unfold runP
  rw [run_shift h c _ (Nat.le_refl _)]
theorem desc_weak {n : Nat} (h : n = 3 ∨ n = 4) : (descI n).map (· + (-1)) ∈ weakN (n - 1) := by
  rcases h with rfl | rfl <;> decide +kernel
theorem left_iff {n : Nat} (h34 : n = 3 ∨ n = 4) {net rest : List Gate} (hN : NetOk n net) (t : Tame n net net.length) (hR : NetOk n rest) {rows : List (List Int)} (hw : rows = weakN (n - 1)) : (kaB n rest && decide (imgN n rest = imgN n net)) = decide (∀ k ∈ rows, runP k rest = runP k net) := by
  have wl : ∀ k ∈ rows, k.length = n := fun k hk => by
    have := (weak_row (n - 1) k (hw ▸ hk)).1
    omega
  by_cases c : ∀ k ∈ rows, runP k rest = runP k net
  · rw [decide_eq_true c]
    have im : imgN n rest = imgN n net := by
      have e := c _ (hw ▸ desc_weak h34)
      rw [runP_shift (by rw [descI_len]; exact hR), runP_shift (by rw [descI_len]; exact hN)] at e
      unfold imgN runO
      rw [e]
    have ka : kaB n rest = true := by
      obtain ⟨f, _, hf, tf, hx⟩ := kaP_spec hR (Nat.le_refl rest.length)
      by_cases e : f = rest.length
      · subst e
        exact tame_ka hR tf
      · obtain ⟨ef, far⟩ := hx (by omega)
        obtain ⟨x, x1, x2, x3, x4⟩ := far_turns hR (by omega) tf ef far
        have xw := word_weak (n - 1) x (by omega) x2 x3
        have a := x4 rest.length (by omega) (Nat.le_refl _)
        have b := tame_tb x1 hN (Nat.le_refl _) t
        have e2 : tb rest x rest.length = tb net x net.length := by
          show turnedB x (runP x rest) = turnedB x (runP x net)
          rw [c x (hw ▸ xw)]
        rw [e2, b] at a
        cases a
    rw [ka, decide_eq_true im]
    rfl
  · rw [decide_eq_false c]
    cases hk : kaB n rest with
    | false => rfl
    | true =>
      have ne : ¬ imgN n rest = imgN n net := fun im => c fun k hk' => one_came hR hN (tame_of hR hk) t im (wl k hk')
      rw [decide_eq_false ne]
      rfl
theorem eqv_lists {f g : List Int → List Int} : ∀ rows : List (List Int), PyData.eqvAll (rows.map fun k => PyData.list ((f k).map PyData.int)) (rows.map fun k => PyData.list ((g k).map PyData.int)) = decide (∀ k ∈ rows, f k = g k)
  | [] => by
    rw [decide_eq_true (fun k hk => by cases hk)]
    rfl
  | r :: rows => by
    show (PyData.eqv (.list ((f r).map PyData.int)) (.list ((g r).map PyData.int)) && PyData.eqvAll (rows.map fun k => PyData.list ((f k).map PyData.int)) (rows.map fun k => PyData.list ((g k).map PyData.int))) = _
    rw [eqv_lists rows, eqv_listI, ← Bool.decide_and, decide_eq_decide]
    exact ⟨fun h k hk => (List.mem_cons.mp hk).elim (fun e => e ▸ h.1) (h.2 k), fun h => ⟨h r List.mem_cons_self, fun k hk => h k (List.mem_cons_of_mem _ hk)⟩⟩
theorem sl_take {net : List Gate} {k : Nat} : PyData.tuple (cutD (net.map gD) none (some (k : Int))) = nD (net.take k) := by
  rw [cut_take0 (by omega), Int.toNat_natCast]
  unfold nD
  rw [List.map_take]
theorem sl_drop {net : List Gate} {k : Nat} : PyData.tuple (cutD (net.map gD) (some (k : Int)) none) = nD (net.drop k) := by
  rw [cut_dropD (by omega), Int.toNat_natCast]
  unfold nD
  rw [List.map_drop]
def endsD (net : List Gate) (rows : List (List Int)) : PyData := .list (rows.map fun k => PyData.list ((runP k net).map PyData.int))
section
variable {P : Program} {w : World} {K : PySem.W.Frag} {mg : Str → Option Value} {base : Heap}
theorem ee_take {S S1 S2 : SS} {te th : TE} {net : List Gate} {i : Int} {k : Nat} (h : Ee K te S (.dat (nD net)) S1) (hh : Ee K th S1 (.dat (.int i)) S2) (hi : i = (k : Int)) : Ee K (tSl (rSlU K) te tNoPart (tPart th)) S (.dat (nD (net.take k))) S2 := by
  subst hi
  rw [← sl_take]
  exact ee_slT h eo_none (eo_some hh)
theorem ee_from {S S1 S2 : SS} {te th : TE} {net : List Gate} {i : Int} {k : Nat} (h : Ee K te S (.dat (nD net)) S1) (hh : Ee K th S1 (.dat (.int i)) S2) (hi : i = (k : Int)) : Ee K (tSl (rSlU K) te (tPart th) tNoPart) S (.dat (nD (net.drop k))) S2 := by
  subst hi
  rw [← sl_drop]
  exact ee_slT h (eo_some hh) eo_none
theorem ee_ncat {S S1 S2 : SS} {ta tb : TE} {A B : List Gate} (h1 : Ee K ta S (.dat (nD A)) S1) (h2 : Ee K tb S1 (.dat (nD B)) S2) (hl : A.length + B.length ≤ 1000000) : Ee K (tOp (rPlus K) ta tb) S (.dat (nD (A ++ B))) S2 := by
  have e : nD (A ++ B) = .tuple (A.map gD ++ B.map gD) := by
    unfold nD
    rw [List.map_append]
  rw [e]
  exact ee_op h1 h2 (ro_catT (by rw [List.length_map, List.length_map]; exact hl))
theorem sh_ends (net : List Gate) (rows : List (List Int)) : SeqAt.shaped (endsD net rows) = true := Fl.sh (k := 2) (Fl.lst fun x hx => by
  obtain ⟨z, _, rfl⟩ := List.mem_map.mp hx
  exact Fl.ints) (by decide)
theorem ro_eqEnds {S : SS} {A B : List Gate} {rows : List (List Int)} : Ro K (rEqU K) (.dat (endsD A rows)) (.dat (endsD B rows)) S (.dat (.bool (decide (∀ k ∈ rows, runP k A = runP k B)))) S := by
  have := ro_eqD (K := K) (S := S) (x := .dat (endsD A rows)) (y := .dat (endsD B rows)) (.dat _) (.dat _) (sh_ends A rows) (sh_ends B rows)
  have e : PyData.eqv (endsD A rows) (endsD B rows) = decide (∀ k ∈ rows, runP k A = runP k B) := eqv_lists (f := fun k => runP k A) (g := fun k => runP k B) rows
  rw [e] at this
  exact this
abbrev Sf (n : Nat) (A : List Gate) (a b c d e : SD) : SS := ⟨[.dat (.int (n : Int)), .dat (nD A), a, .un, b, c, d, e], []⟩
def R_left : FR := fun as ob r ob' => ∃ (n : Nat) (A : List Gate), as = [.dat (.int (n : Int)), .dat (nD A)] ∧ (n = 3 ∨ n = 4) ∧ NetIn n A ∧ Tame n A A.length ∧ ob = [] ∧ r = .dat (.bool true) ∧ ob' = []
theorem sc_law_are_left : FnScope ["wide", "gates", "rows", "keys", "ends", "spot", "rest", "is_free"] ["wide", "gates"] (defScope s_law_are_left) := ⟨rfl, rfl, rfl, by decide +kernel, rfl, by decide +kernel, by decide +kernel⟩
theorem ok_law_are_left (D : Df K mg "_law_are_left" s_law_are_left ["wide", "gates"]) (B : Bi mg) (Cc : Cls K mg) (Dout : Df K mg "out" sout ["network", "row"]) (Dcame : Df K mg "came" scame ["network", "row"]) (Dexchanged : Df K mg "exchanged" sexchanged ["network", "row"]) (D_run : Df K mg "_run" s_run ["network", "row"]) (Ddescending : Df K mg "descending" sdescending ["n"]) (Dis_far : Df K mg "is_far" sis_far ["gate"]) (Dfirst_far : Df K mg "first_far" sfirst_far ["network", "spots"]) (Dimage : Df K mg "image" simage ["n", "network"]) (Dkeeps_all : Df K mg "keeps_all" skeeps_all ["n", "network"]) (Dkept_all_gates : Df K mg "kept_all_gates" skept_all_gates ["n", "network"]) (D_law_run : Df K mg "_law_run" s_law_run ["gates", "keys"]) (D_law_weak : Df K mg "_law_weak" s_law_weak ["wide"]) : FnG P w K mg base CX0 5 D.f D.fd ["wide", "gates"] (spD K 2 R_left) := by
  have okimage : FnG P w K mg base CX0 4 _ _ _ _ := okimage Dimage B Cc Dout Dcame D_run Ddescending
  have okkeeps_all : FnG P w K mg base CX0 4 _ _ _ _ := okkeeps_all Dkeeps_all B Cc Dexchanged D_run Ddescending Dis_far Dfirst_far Dkept_all_gates
  have ok_law_run : FnG P w K mg base CX0 1 _ _ _ _ := ok_law_run D_law_run B Cc
  have ok_law_weak : FnG P w K mg base CX0 1 _ _ _ _ := ok_law_weak D_law_weak B Cc
  refine okG D.F sc_law_are_left (fun vs H Q E h => h.1) (fun cdv A outer s H vs Q E hr gd h => ?_)
  have hu := huX hr
  refine ⟨_, (pss_cons (ps_set (i := 2) sc_law_are_left.nd rfl (Or.inl rfl) (pe_callG (ok_law_weak) (hr.mono (by decide)) gd (by rfl) D_law_weak.m D_law_weak.F.kp D_law_weak.b .nil pass0 (pa_cons (pv 0) pa_nil)))
      (pss_cons (ps_setLc (i := 4) (own := [("keys", 3)]) (g := gName 3) (tt := tYes) (by rfl) sc_law_are_left.nd rfl rfl (sw_true rfl rfl rfl (by decide +kernel)) (pi_list (pv 2)) (blkOk_by (own := [("keys", 3)]) (N := ["wide", "gates", "rows", "keys", "ends", "spot", "rest", "is_free"]) (sc := defScope s_law_are_left) (by decide +kernel)) (fun _ _ _ _ _ => (pg_name (i := 3) sc_law_are_left.nd rfl (Or.inl rfl))) (fun _ _ _ _ _ => pts_nil) (fun _ _ _ _ _ => (pe_ix (ixK K (R := rIx) ix_seq rfl) (pe_callG (ok_law_run) (hr.mono (by decide)) gd (by rfl) D_law_run.m D_law_run.F.kp D_law_run.b .nil pass0 (pa_cons (pv 1) (pa_cons (pv 3) pa_nil))) pe_int (fun _ _ => rfl))))
      (pss_cons (ps_for PassesOwn.never rfl (pi_range1 (by rfl) B.z_range (pa_cons (pe_callB cb_len (by rfl) B.z_len PySem.boot_len (pa_cons (pv 1) pa_nil)) pa_nil)) (pg_name (i := 5) sc_law_are_left.nd rfl (Or.inl rfl))
        (pss_cons (ps_set (i := 6) sc_law_are_left.nd rfl (Or.inr rfl) (pe_op op_plus (pe_slice sl_any (pv 1) po_none (po_some (pv 5))) (pe_slice sl_any (pv 1) (po_some (pe_op op_plus (pv 5) pe_int)) po_none)))
        (pss_cons (ps_set (i := 7) sc_law_are_left.nd rfl (Or.inl rfl) (pe_and (pe_callG (okkeeps_all) (hr.mono (by decide)) gd (by rfl) Dkeeps_all.m Dkeeps_all.F.kp Dkeeps_all.b .nil pass0 (pa_cons (pv 0) (pa_cons (pv 6) pa_nil))) (pe_one (pe_cmpR (op_eqU hu) (pe_callG (okimage) (hr.mono (by decide)) gd (by rfl) Dimage.m Dimage.F.kp Dimage.b .nil pass0 (pa_cons (pv 0) (pa_cons (pv 6) pa_nil))) (pe_callG (okimage) (hr.mono (by decide)) gd (by rfl) Dimage.m Dimage.F.kp Dimage.b .nil pass0 (pa_cons (pv 0) (pa_cons (pv 1) pa_nil))) (nomark _)))))
        (pss_one (ps_if (pt_cmpR (op_neU hu) (pe_callB (call_reprD gd hu) (by rfl) B.z_repr (by decide +kernel) (pa_cons (pv 7) pa_nil)) (pe_callB (call_reprD gd hu) (by rfl) B.z_repr (by decide +kernel) (pa_cons (pe_cmpR (op_eqU hu) (pe_lc (own := [("keys", 3)]) (g := gName 3) (tt := tYes) (by rfl) sc_law_are_left.nd (pi_list (pv 2)) (blkOk_by (own := [("keys", 3)]) (N := ["wide", "gates", "rows", "keys", "ends", "spot", "rest", "is_free"]) (sc := defScope s_law_are_left) (by decide +kernel)) (fun _ _ _ _ _ => (pg_name (i := 3) sc_law_are_left.nd rfl (Or.inl rfl))) (fun _ _ _ _ _ => pts_nil) (fun _ _ _ _ _ => (pe_ix (ixK K (R := rIx) ix_seq rfl) (pe_callG (ok_law_run) (hr.mono (by decide)) gd (by rfl) D_law_run.m D_law_run.F.kp D_law_run.b .nil pass0 (pa_cons (pv 6) (pa_cons (pv 3) pa_nil))) pe_int (fun _ _ => rfl)))) (pv 4) (nomark _)) pa_nil)) (nomark _)) (pss_one (ps_ret pe_bl)) pss_nil)))))
      (pss_one (ps_ret pe_bl))))), ?_⟩
  refine body_of h (by decide) fun as ob r ob' hR hl => ?_
  obtain ⟨n, A, rfl, h34, hi, t, rfl, rfl, rfl⟩ := hR
  have zl := hi.2.1
  refine ts_seq (ts_asg (x := .dat (.list ((weakN (n - 1)).map rD))) (S1 := Sf n A .un .un .un .un .un) (ee_callD (ed_cons (ee_var rfl) ed_nil) rfl ⟨n, rfl, by omega, by omega, rfl, rfl, rfl⟩) ?_)
  show Ts K _ (Sf n A (.dat (.list ((weakN (n - 1)).map rD))) .un .un .un .un) _
  have lf : ∀ rows : List (List Int), rows = weakN (n - 1) → ∀ rest, NetOk n rest → (kaB n rest && decide (imgN n rest = imgN n A)) = decide (∀ k ∈ rows, runP k rest = runP k A) := fun rows hw rest hr => left_iff h34 hi.1 t hr hw
  have wl : ∀ k ∈ weakN (n - 1), k.length = n := fun k hk => by
    have := (weak_row (n - 1) k hk).1
    omega
  have wz := weak_len (n - 1) (by omega)
  have w5 := pow_small (k := n - 1) (by omega)
  have lf := lf _ rfl
  generalize weakN (n - 1) = rows at lf wl wz ⊢
  have run : ∀ (X : List Gate), NetIn n X → ∀ row ∈ rows, R_lrun (([nD X, rD row] : List PyData).map SD.dat) [] (.dat (.tuple [.list ((runP row X).map PyData.int), .list ((runS row X).map PyData.int)])) [] := fun X hX row hr => ⟨X, row, rD row, rfl, .inr rfl, ⟨by rw [wl row hr]; exact hX.1, hX.2.1, by rw [wl row hr]; exact hX.2.2⟩, rfl, rfl, rfl⟩
  refine ts_seq (ts_asg (x := .dat (endsD A rows)) (S1 := Sf n A (.dat (.list (rows.map rD))) .un .un .un .un) (ee_of_el (el_lcmA (dA := rD) (lst := rows) (f := fun k => PyData.list ((runP k A).map PyData.int)) (S0 := Sf n A (.dat (.list (rows.map rD))) .un .un .un .un) (ei_list (ee_var rfl)) (by omega) fun x hx => ⟨_, egc_name (by decide), rfl, _, ee_op (ee_callD (ed_cons (ee_var rfl) (ed_cons (ee_var rfl) ed_nil)) rfl (run A hi x hx)) ee_int (ro_ixT (d := .list ((runP x A).map PyData.int)) rfl), rfl⟩)) ?_)
  show Ts K _ (Sf n A (.dat (.list (rows.map rD))) (.dat (endsD A rows)) .un .un .un) _
  refine ts_seq (ts_for (ds := rngD 0 A.length) (S0 := Sf n A (.dat (.list (rows.map rD))) (.dat (endsD A rows)) .un .un .un) (ei_rng1n (n := A.length) (ed_cons (ee_eq (ee_cb (ea_cons (ee_var rfl) ea_nil) rc_lenT) (by rw [List.length_map])) ed_nil) (by omega)) (fun i S => ∃ a b c, S = Sf n A (.dat (.list (rows.map rD))) (.dat (endsD A rows)) a b c) ⟨.un, .un, .un, rfl⟩ ?_ ?_)
  · rintro i d S' hd ⟨a, b, c, rfl⟩
    obtain ⟨hk, rfl⟩ := rngD_get hd
    have hk : i < A.length := hk
    have e0 : (0 : Int) + (i : Int) = (i : Int) := by omega
    rw [e0]
    have rk : NetOk n (A.take i ++ A.drop (i + 1)) := fun g hg => (List.mem_append.mp hg).elim (fun z => hi.1 g (List.mem_of_mem_take z)) fun z => hi.1 g (List.mem_of_mem_drop z)
    have rz : (A.take i ++ A.drop (i + 1)).length ≤ 2000 := by
      rw [List.length_append, List.length_take, List.length_drop]
      omega
    refine ⟨_, eg_name, ts_seq (ts_asg (x := .dat (nD (A.take i ++ A.drop (i + 1)))) (S1 := Sf n A (.dat (.list (rows.map rD))) (.dat (endsD A rows)) (.dat (.int (i : Int))) b c) (ee_ncat (ee_take (ee_var rfl) (ee_var rfl) rfl) (ee_from (ee_var rfl) (ee_op (ee_var rfl) ee_int ro_add) rfl) (by rw [List.length_take, List.length_drop]; omega)) ?_)⟩
    have v := lf _ rk
    generalize A.take i ++ A.drop (i + 1) = rest at rk rz v ⊢
    show Ts K _ (Sf n A (.dat (.list (rows.map rD))) (.dat (endsD A rows)) (.dat (.int (i : Int))) (.dat (nD rest)) c) _
    have ir : NetIn n rest := ⟨rk, rz, hi.2.2⟩
    have q1 : R_keeps (([.int (n : Int), nD rest] : List PyData).map SD.dat) [] (.dat (.bool (kaB n rest))) [] := ⟨n, rest, rfl, ir, rfl, rfl, rfl⟩
    have q2 : R_image (([.int (n : Int), nD rest] : List PyData).map SD.dat) [] (.dat (rD (imgN n rest))) [] := ⟨n, rest, rfl, ir, rfl, rfl, rfl⟩
    have q3 : R_image (([.int (n : Int), nD A] : List PyData).map SD.dat) [] (.dat (rD (imgN n A))) [] := ⟨n, A, rfl, hi, rfl, rfl, rfl⟩
    refine ts_seq (ts_asg (x := .dat (.bool (decide (∀ k ∈ rows, runP k rest = runP k A)))) (S1 := Sf n A (.dat (.list (rows.map rD))) (.dat (endsD A rows)) (.dat (.int (i : Int))) (.dat (nD rest)) c) (ee_eq (ee_andV (a := kaB n rest) (b := decide (imgN n rest = imgN n A)) (ee_callD (ed_cons (ee_var rfl) (ed_cons (ee_var rfl) ed_nil)) rfl q1) fun _ => ee_op (ee_callD (ed_cons (ee_var rfl) (ed_cons (ee_var rfl) ed_nil)) rfl q2) (ee_callD (ed_cons (ee_var rfl) (ed_cons (ee_var rfl) ed_nil)) rfl q3) ro_eqRow) (by rw [v])) ?_)
    show Ts K _ (Sf n A (.dat (.list (rows.map rD))) (.dat (endsD A rows)) (.dat (.int (i : Int))) (.dat (nD rest)) (.dat (.bool (decide (∀ k ∈ rows, runP k rest = runP k A))))) _
    have nb : ∀ b : Bool, Nc 60 16000000 (.bool b) := fun b => (Nc.bl (k := 0) b).mono (by decide) (by decide)
    refine ts_if (b := false) (S1 := Sf n A (.dat (.list (rows.map rD))) (.dat (endsD A rows)) (.dat (.int (i : Int))) (.dat (nD rest)) (.dat (.bool (decide (∀ k ∈ rows, runP k rest = runP k A))))) (et_test (ee_op (ee_cb (ea_cons (ee_var rfl) ea_nil) (rc_rep (nb _))) (ee_cb (ea_cons (ee_op (x := .dat (endsD rest rows)) (ee_of_el (el_lcmA (dA := rD) (lst := rows) (f := fun k => PyData.list ((runP k rest).map PyData.int)) (S0 := Sf n A (.dat (.list (rows.map rD))) (.dat (endsD A rows)) (.dat (.int (i : Int))) (.dat (nD rest)) (.dat (.bool (decide (∀ k ∈ rows, runP k rest = runP k A))))) (ei_list (ee_var rfl)) (by omega) fun x hx => ⟨_, egc_name (by decide), rfl, _, ee_op (ee_callD (ed_cons (ee_var rfl) (ed_cons (ee_var rfl) ed_nil)) rfl (run rest ir x hx)) ee_int (ro_ixT (d := .list ((runP x rest).map PyData.int)) rfl), rfl⟩)) (ee_var rfl) ro_eqEnds) ea_nil) (rc_rep (nb _))) ro_neS_self)) (fun z => by cases z) fun _ => ts_next ⟨_, _, _, rfl⟩
  · rintro S' ⟨a, b, c, rfl⟩
    exact ts_ret ee_bl ⟨rfl, rfl⟩
end
end K33

set_option maxRecDepth 100000
set_option maxHeartbeats 4000000
namespace K33
open PySem PySem.Spec PyProof.Rows L2 DL
/-! ### sorters -/
def ascI (n : Nat) : List Int := (List.range n).map fun (i : Nat) => 1 + (i : Int)
theorem ascI_D (n : Nat) : rngD 1 n = (ascI n).map PyData.int := by
  unfold rngD ascI
  rw [List.map_map]
  rfl
theorem asc_rev (n : Nat) : (ascI n).reverse = descI n := by
  refine List.ext_getElem (by simp [ascI, descI]) fun i h1 h2 => ?_
  rw [descI_len] at h2
  rw [List.getElem_reverse]
  simp only [ascI, descI, List.getElem_map, List.getElem_range, List.length_map, List.length_range]
  omega
theorem sort_desc (n : Nat) : sortI (descI n) = ascI n := by
  refine (sortI_of (ms := ascI n) ?_ ?_).symm
  · rw [← asc_rev]
    exact (List.reverse_perm _).symm
  · unfold ascI
    rw [List.pairwise_map]
    exact (List.pairwise_lt_range (n := n)).imp fun {a b} h => by omega
theorem asc_getD {n i : Nat} (h : i < n) : (ascI n).getD i 0 = 1 + (i : Int) := by
  unfold ascI
  rw [List.getD_eq_getElem?_getD, List.getElem?_map, List.getElem?_range h]
  rfl
theorem sorts_all {n : Nat} {A : List Gate} (hA : NetOk n A) (tA : Tame n A A.length) (im : imgN n A = ascI n) {row : List Int} (hl : row.length = n) : runO row A = sortI row := by
  refine sortI_of (out_perm (by rw [hl]; exact hA)) ?_
  have ol : (runO row A).length = n := by rw [runO_len, hl]
  have oa := out_asc hA tA hl
  refine List.pairwise_iff_getElem.mpr fun i j hi hj hij => ?_
  rw [get_D hi, get_D hj]
  refine oa i j hij (by omega) ?_
  rw [← out_ky (descI_len n) (show i < n by omega), ← out_ky (descI_len n) (show j < n by omega)]
  show (imgN n A).getD i 0 < (imgN n A).getD j 0
  rw [im, asc_getD (by omega), asc_getD (by omega)]
  omega
theorem sort_iff {n : Nat} {A : List Gate} (hA : NetOk n A) (tA : Tame n A A.length) {rows : List (List Int)} (hr : ∀ x ∈ rows, x.length = n) (hd : descI n ∈ rows) : (rows.filter fun x => !decide (runO x A = sortI x)).isEmpty = decide (imgN n A = ascI n) := by
  by_cases im : imgN n A = ascI n
  · rw [decide_eq_true im, List.filter_eq_nil_iff.mpr fun x hx => by
      rw [decide_eq_true (sorts_all hA tA im (hr x hx))]
      exact Bool.false_ne_true]
    rfl
  · rw [decide_eq_false im]
    have ne : ¬ runO (descI n) A = sortI (descI n) := fun z => im (by
      rw [sort_desc] at z
      exact z)
    have : descI n ∈ rows.filter fun x => !decide (runO x A = sortI x) := List.mem_filter.mpr ⟨hd, by rw [decide_eq_false ne]; rfl⟩
    cases hc : rows.filter fun x => !decide (runO x A = sortI x) with
    | nil =>
      rw [hc] at this
      cases this
    | cons a b => rfl
section
variable {P : Program} {w : World} {K : PySem.W.Frag} {mg : Str → Option Value} {base : Heap}
theorem ee_trng2 {S S1 S2 : SS} {ta tb : TE} {lo hi : Int} (h : Ee K ta S (.dat (.int lo)) S1) (h2 : Ee K tb S1 (.dat (.int hi)) S2) (hb : 0 ≤ lo ∧ lo ≤ 1000000 ∧ 0 ≤ hi ∧ hi ≤ 1000000) : Ee K (tTupRg (tRg2 ta tb)) S (.dat (.tuple (rngD lo (hi - lo).toNat))) S2 := fun c Hf H σ fp ok Q q =>
  h c Hf H σ fp ok _ fun v Hf1 H1 fp1 ok1 g1 r1 => h2 c Hf1 H1 σ fp1 ok1 _ fun v2 Hf2 H2 fp2 ok2 g2 r2 => by
    cases r1
    cases r2
    refine ⟨lo, hi, rfl, rfl, RgOk.of_le hb.1 (by omega) (by omega) hb.2.2.1, fun p hp => ?_⟩
    obtain ⟨ok3, g3⟩ := ok2.laid (.tup (rgV lo hi)) hp
    have r := rp_rng (K := K) (Hf := upd Hf2 p (.tup (rgV lo hi))) lo hi
    exact q _ _ _ _ ok3 ((g1.trans g2).trans g3) (Rp.tup (.inl (.inl upd_same)) r)
theorem ro_neList {S : SS} {xs ys : List Int} : Ro K (rNeU K) (.dat (.list (xs.map PyData.int))) (.dat (.list (ys.map PyData.int))) S (.dat (.bool (!decide (xs = ys)))) S := by
  have := ro_neD (K := K) (S := S) (x := .dat (.list (xs.map PyData.int))) (y := .dat (.list (ys.map PyData.int))) (.dat _) (.dat _) (Fl.sh (k := 1) Fl.ints (by decide)) (Fl.sh (k := 1) Fl.ints (by decide))
  rw [eqv_listI] at this
  exact this
abbrev Sz (ns : List Int) (W : Well) (a b c d e f : SD) : SS := ⟨[.scr ns, .own 0, a, b, c, d, .un, e, f], [W.oo]⟩
def R_law : FR := fun as ob r ob' => ∃ ns, as = [.scr ns] ∧ ob = [] ∧ r = .dat (.bool true) ∧ ob' = []
theorem sclaw : FnScope ["script", "loom", "turn", "wide", "gates", "rows", "keys", "is_sorted", "near"] ["script"] (defScope slaw) := ⟨rfl, rfl, rfl, by decide +kernel, rfl, by decide +kernel, by decide +kernel⟩
theorem oklaw (D : Df K mg "law" slaw ["script"]) (B : Bi mg) (Cc : Cls K mg) (Dout : Df K mg "out" sout ["network", "row"]) (Dcame : Df K mg "came" scame ["network", "row"]) (Dexchanged : Df K mg "exchanged" sexchanged ["network", "row"]) (D_run : Df K mg "_run" s_run ["network", "row"]) (Ddescending : Df K mg "descending" sdescending ["n"]) (Dat_work : Df K mg "at_work" sat_work ["n", "network"]) (Dis_far : Df K mg "is_far" sis_far ["gate"]) (Dfirst_far : Df K mg "first_far" sfirst_far ["network", "spots"]) (Dimage : Df K mg "image" simage ["n", "network"]) (Dkeeps_all : Df K mg "keeps_all" skeeps_all ["n", "network"]) (Dkept_all_gates : Df K mg "kept_all_gates" skept_all_gates ["n", "network"]) (Dword_lanes : Df K mg "word_lanes" sword_lanes ["n", "words"]) (Drun_lanes : Df K mg "run_lanes" srun_lanes ["network", "lanes"]) (Dfirst_told : Df K mg "first_told" sfirst_told ["words", "told"]) (Dlet_words : Df K mg "let_words" slet_words ["n", "order"]) (Dlet_rows : Df K mg "let_rows" slet_rows ["order", "choices"]) (D_let_keys : Df K mg "_let_keys" s_let_keys ["row", "below", "keys"]) (Dunlike_word : Df K mg "unlike_word" sunlike_word ["n", "order", "one", "other"]) (Dleast_network : Df K mg "least_network" sleast_network ["n", "network"]) (Dmended : Df K mg "mended" smended ["n", "network"]) (D_near_network : Df K mg "_near_network" s_near_network ["keys"]) (D_law_loom : Df K mg "_law_loom" s_law_loom ["script"]) (D_law_draw : Df K mg "_law_draw" s_law_draw ["loom", "many"]) (D_law_pick : Df K mg "_law_pick" s_law_pick ["loom", "things"]) (D_law_mixed : Df K mg "_law_mixed" s_law_mixed ["loom", "things"]) (D_law_run : Df K mg "_law_run" s_law_run ["gates", "keys"]) (D_law_end : Df K mg "_law_end" s_law_end ["wide", "gates"]) (D_law_gate : Df K mg "_law_gate" s_law_gate ["loom", "wide", "is_near"]) (D_law_kept : Df K mg "_law_kept" s_law_kept ["loom", "wide", "many"]) (D_law_weak : Df K mg "_law_weak" s_law_weak ["wide"]) (D_law_keys : Df K mg "_law_keys" s_law_keys ["loom", "wide"]) (D_law_back : Df K mg "_law_back" s_law_back ["wide", "keys"]) (D_law_mate : Df K mg "_law_mate" s_law_mate ["loom", "wide", "gates"]) (D_law_rows : Df K mg "_law_rows" s_law_rows ["loom", "wide"]) (D_law_are_alike : Df K mg "_law_are_alike" s_law_are_alike ["loom", "wide", "gates", "others"]) (D_law_are_left : Df K mg "_law_are_left" s_law_are_left ["wide", "gates"]) : FnG P w K mg base CX0 7 D.f D.fd ["script"] (spD K 1 R_law) := by
  have okout : FnG P w K mg base CX0 3 _ _ _ _ := okout Dout B Cc Dcame D_run
  have okcame : FnG P w K mg base CX0 2 _ _ _ _ := okcame Dcame B Cc D_run
  have okimage : FnG P w K mg base CX0 4 _ _ _ _ := okimage Dimage B Cc Dout Dcame D_run Ddescending
  have okmended : FnG P w K mg base (L2.CX P w) 5 _ _ _ _ := okmended Dmended B Cc Dout Dcame D_run Ddescending Dimage Dword_lanes Drun_lanes Dfirst_told Dlet_words Dlet_rows D_let_keys Dunlike_word D_near_network
  have ok_law_loom : FnG P w K mg base CX0 1 _ _ _ _ := ok_law_loom D_law_loom B Cc
  have ok_law_draw : FnG P w K mg base CX0 1 _ _ _ _ := ok_law_draw D_law_draw B Cc
  have ok_law_kept : FnG P w K mg base CX0 3 _ _ _ _ := ok_law_kept D_law_kept B Cc D_law_draw D_law_gate
  have ok_law_mate : FnG P w K mg base CX0 3 _ _ _ _ := ok_law_mate D_law_mate B Cc D_law_draw D_law_run D_law_end D_law_gate D_law_back
  have ok_law_rows : FnG P w K mg base CX0 4 _ _ _ _ := ok_law_rows D_law_rows B Cc D_law_draw D_law_pick D_law_mixed D_law_weak D_law_keys
  have ok_law_are_alike : FnG P w K mg base CX0 6 _ _ _ _ := ok_law_are_alike D_law_are_alike B Cc Dout Dcame Dexchanged D_run Ddescending Dat_work Dis_far Dfirst_far Dimage Dkeeps_all Dkept_all_gates Dleast_network D_law_draw D_law_pick D_law_mixed D_law_run D_law_end D_law_weak D_law_keys D_law_rows
  have ok_law_are_left : FnG P w K mg base CX0 5 _ _ _ _ := ok_law_are_left D_law_are_left B Cc Dout Dcame Dexchanged D_run Ddescending Dis_far Dfirst_far Dimage Dkeeps_all Dkept_all_gates D_law_run D_law_weak
  refine okG D.F sclaw (fun vs H Q E h => h.1) (fun cdv A outer s H vs Q E hr gd h => ?_)
  have hu := huX hr
  refine ⟨_, (pss_cons (ps_set (i := 1) sclaw.nd rfl (Or.inl rfl) (pe_callG (ok_law_loom) (hr.mono (by decide)) gd (by rfl) D_law_loom.m D_law_loom.F.kp D_law_loom.b .nil pass0 (pa_cons (pv 0) pa_nil)))
      (pss_cons (ps_for PassesOwn.never rfl (pi_range1 (by rfl) B.z_range (pa_cons pe_int pa_nil)) (pg_name (i := 2) sclaw.nd rfl (Or.inl rfl))
        (pss_cons (ps_set (i := 3) sclaw.nd rfl (Or.inr rfl) (pe_ix ix_seq (pe_lst (pa_cons pe_int (pa_cons pe_int (pa_cons pe_int (pa_cons pe_int (pa_cons pe_int (pa_cons (pe_op op_plus pe_int (pe_callG (ok_law_draw) (hr.mono (by decide)) gd (by rfl) D_law_draw.m D_law_draw.F.kp D_law_draw.b .nil pass0 (pa_cons (pv 1) (pa_cons pe_int pa_nil)))) pa_nil))))))) (pv 2) (fun _ _ => rfl)))
        (pss_cons (ps_set (i := 4) sclaw.nd rfl (Or.inr rfl) (pe_callG (ok_law_kept) (hr.mono (by decide)) gd (by rfl) D_law_kept.m D_law_kept.F.kp D_law_kept.b .nil pass0 (pa_cons (pv 1) (pa_cons (pv 3) (pa_cons (pe_callG (ok_law_draw) (hr.mono (by decide)) gd (by rfl) D_law_draw.m D_law_draw.F.kp D_law_draw.b .nil pass0 (pa_cons (pv 1) (pa_cons (pe_op op_plus pe_int (pe_op op_mulU pe_int (pv 3))) pa_nil))) pa_nil)))))
        (pss_cons (ps_if (pt_not (pt_val (pe_callG (ok_law_are_alike) (hr.mono (by decide)) gd (by rfl) D_law_are_alike.m D_law_are_alike.F.kp D_law_are_alike.b .nil pass0 (pa_cons (pv 1) (pa_cons (pv 3) (pa_cons (pv 4) (pa_cons (pe_callG (ok_law_mate) (hr.mono (by decide)) gd (by rfl) D_law_mate.m D_law_mate.F.kp D_law_mate.b .nil pass0 (pa_cons (pv 1) (pa_cons (pv 3) (pa_cons (pv 4) pa_nil)))) pa_nil))))))) (pss_one (ps_ret pe_bl)) pss_nil)
        (pss_cons (ps_if (pt_not (pt_val (pe_callG (ok_law_are_alike) (hr.mono (by decide)) gd (by rfl) D_law_are_alike.m D_law_are_alike.F.kp D_law_are_alike.b .nil pass0 (pa_cons (pv 1) (pa_cons (pv 3) (pa_cons (pv 4) (pa_cons (pe_callG (ok_law_kept) (hr.mono (by decide)) gd (by rfl) D_law_kept.m D_law_kept.F.kp D_law_kept.b .nil pass0 (pa_cons (pv 1) (pa_cons (pv 3) (pa_cons (pe_callG (ok_law_draw) (hr.mono (by decide)) gd (by rfl) D_law_draw.m D_law_draw.F.kp D_law_draw.b .nil pass0 (pa_cons (pv 1) (pa_cons (pe_op op_plus pe_int (pv 3)) pa_nil))) pa_nil)))) pa_nil))))))) (pss_one (ps_ret pe_bl)) pss_nil)
        (pss_cons (ps_set (i := 5) sclaw.nd rfl (Or.inl rfl) (pe_callG (ok_law_rows) (hr.mono (by decide)) gd (by rfl) D_law_rows.m D_law_rows.F.kp D_law_rows.b .nil pass0 (pa_cons (pv 1) (pa_cons (pe_callB (call_min2 rfl) (by rfl) B.z_min (by decide +kernel) (pa_cons (pv 3) (pa_cons pe_int pa_nil))) pa_nil))))
        (pss_cons (ps_set (i := 7) sclaw.nd rfl (Or.inl rfl) (pe_cmpR (op_eqU hu) (pe_lc (own := [("keys", 6)]) (g := gName 6) (by rfl) sclaw.nd (pi_list (pv 5)) (blkOk_by (own := [("keys", 6)]) (N := ["script", "loom", "turn", "wide", "gates", "rows", "keys", "is_sorted", "near"]) (sc := defScope slaw) (by decide +kernel)) (fun _ _ _ _ _ => (pg_name (i := 6) sclaw.nd rfl (Or.inl rfl))) (fun _ _ _ _ _ => (pts_one (PW.pt (pw_and (pt_cmpR (opK K (R := rLtU) (op_ltU hu) rfl) (pv 3) pe_int (nomark _)) (pw_and1 (pt_cmpR (opK K (R := rNeU) (op_neU hu) rfl) (pe_callTy (callK K (R := rListOf) cb_list rfl) (by rfl) B.z_list (by decide +kernel) (pa_cons (pe_callG (okout) (hr.mono (by decide)) gd (by rfl) Dout.m Dout.F.kp Dout.b .nil pass0 (pa_cons (pv 4) (pa_cons (pv 6) pa_nil))) pa_nil)) (pe_callB (callK K (R := rSortU) cr_sortU rfl) (by rfl) B.z_sorted (by decide +kernel) (pa_cons (pv 6) pa_nil)) (nomark _))))))) (fun _ _ _ _ _ => (pv 6))) (pe_lst pa_nil) (nomark _)))
        (pss_cons (ps_if (PW.pt (pw_and (pt_cmpR (op_ltU hu) (pv 3) pe_int (nomark _)) (pw_and1 (pt_cmpR (op_neU hu) (pv 7) (pe_cmpR (op_eqU hu) (pe_callG (okimage) (hr.mono (by decide)) gd (by rfl) Dimage.m Dimage.F.kp Dimage.b .nil pass0 (pa_cons (pv 3) (pa_cons (pv 4) pa_nil))) (pe_tupRg rfl (by rfl) B.z_tuple (prg_2 (by rfl) B.z_range pe_int (pe_op op_plus (pv 3) pe_int))) (nomark _)) (nomark _))))) (pss_one (ps_ret pe_bl)) pss_nil)
        (pss_one (ps_if (pt_cmpR (op_ltU hu) (pv 3) pe_int (nomark _)) (pss_cons (ps_set (i := 8) sclaw.nd rfl (Or.inr rfl) (pe_callG (okmended) (hr.mono (by decide)) gd (by rfl) Dmended.m Dmended.F.kp Dmended.b .nil passL (pa_cons (pv 3) (pa_cons (pv 4) pa_nil))))
          (pss_one (ps_if (pt_cmpR (op_neU hu) (pe_lc (own := [("keys", 6)]) (g := gName 6) (by rfl) sclaw.nd (pi_list (pv 5)) (blkOk_by (own := [("keys", 6)]) (N := ["script", "loom", "turn", "wide", "gates", "rows", "keys", "is_sorted", "near"]) (sc := defScope slaw) (by decide +kernel)) (fun _ _ _ _ _ => (pg_name (i := 6) sclaw.nd rfl (Or.inl rfl))) (fun _ _ _ _ _ => (pts_one (pt_cmpR (opK K (R := rNeU) (op_neU hu) rfl) (pe_callG (okcame) (hr.mono (by decide)) gd (by rfl) Dcame.m Dcame.F.kp Dcame.b .nil pass0 (pa_cons (pv 8) (pa_cons (pv 6) pa_nil))) (pe_callG (okcame) (hr.mono (by decide)) gd (by rfl) Dcame.m Dcame.F.kp Dcame.b .nil pass0 (pa_cons (pv 4) (pa_cons (pv 6) pa_nil))) (nomark _)))) (fun _ _ _ _ _ => (pv 6))) (pe_lst pa_nil) (nomark _)) (pss_one (ps_ret pe_bl)) pss_nil))) pss_nil))))))))))
      (pss_one (ps_ret (pe_and (pe_callG (ok_law_are_left) (hr.mono (by decide)) gd (by rfl) D_law_are_left.m D_law_are_left.F.kp D_law_are_left.b .nil pass0 (pa_cons pe_int (pa_cons (pe_callG (ok_law_kept) (hr.mono (by decide)) gd (by rfl) D_law_kept.m D_law_kept.F.kp D_law_kept.b .nil pass0 (pa_cons (pv 1) (pa_cons pe_int (pa_cons (pe_callG (ok_law_draw) (hr.mono (by decide)) gd (by rfl) D_law_draw.m D_law_draw.F.kp D_law_draw.b .nil pass0 (pa_cons (pv 1) (pa_cons pe_int pa_nil))) pa_nil)))) pa_nil))) (pe_one (pe_callG (ok_law_are_left) (hr.mono (by decide)) gd (by rfl) D_law_are_left.m D_law_are_left.F.kp D_law_are_left.b .nil pass0 (pa_cons pe_int (pa_cons (pe_callG (ok_law_kept) (hr.mono (by decide)) gd (by rfl) D_law_kept.m D_law_kept.F.kp D_law_kept.b .nil pass0 (pa_cons (pv 1) (pa_cons pe_int (pa_cons pe_int pa_nil)))) pa_nil))))))))), ?_⟩
  refine body_ofG h (by decide) (fun as ob r ob' hR => ?_) fun as ob r ob' hR hl => ?_
  · obtain ⟨ns, rfl, rfl, rfl, rfl⟩ := hR
    exact ⟨Nat.le_refl _, fun _ z => by cases z⟩
  obtain ⟨ns, rfl, rfl, rfl, rfl⟩ := hR
  refine ts_seq (ts_asg (x := .own 0) (S1 := ⟨[.scr ns, .un, .un, .un, .un, .un, .un, .un, .un], [(wellOf ns).oo]⟩) (ee_call0 (r := .own 0) (ob' := [(wellOf ns).oo]) (as := [.scr ns]) (S1 := ⟨[.scr ns, .un, .un, .un, .un, .un, .un, .un, .un], []⟩) (ea_cons (ee_var rfl) ea_nil) (fun a h => by rw [List.mem_singleton.mp h]; trivial) rfl ⟨_, ns, rfl, .inl rfl, rfl, rfl, rfl⟩) ?_)
  have hW := well_small ns
  generalize wellOf ns = W at hW ⊢
  show Ts K _ (Sz ns W .un .un .un .un .un .un) _
  refine ts_seq (ts_for (S0 := Sz ns W .un .un .un .un .un .un) (ei_rng1 (n := 6) (ed_cons ee_int ed_nil) (by decide)) (fun z S => ∃ W a b c d e f, S = Sz ns W a b c d e f ∧ W.deep.length ≤ 100) ⟨W, .un, .un, .un, .un, .un, .un, rfl, hW⟩ ?_ ?_)
  · rintro tn d0 S' hd ⟨W, a, b, c, d, e, f, rfl, hW⟩
    obtain ⟨ht6, rfl⟩ := rngD_get hd
    have ht6 : tn < 6 := ht6
    have e0 : (0 : Int) + (tn : Int) = (tn : Int) := by omega
    rw [e0]
    have d1 := draw_deep 19 W hW
    have r1 := draw_lo 19 W
    have r2 := draw_hi (m := 19) W (by decide)
    obtain ⟨n, hn, hn2, hn24⟩ : ∃ n : Nat, (([2, 3, 4, 4, 5, 6 + (draw 19 W).1] : List Int).map PyData.int)[tn]? = some (.int (n : Int)) ∧ 2 ≤ n ∧ n ≤ 24 := by
      match tn, ht6 with
      | 0, _ => exact ⟨2, rfl, by decide, by decide⟩
      | 1, _ => exact ⟨3, rfl, by decide, by decide⟩
      | 2, _ => exact ⟨4, rfl, by decide, by decide⟩
      | 3, _ => exact ⟨4, rfl, by decide, by decide⟩
      | 4, _ => exact ⟨5, rfl, by decide, by decide⟩
      | 5, _ =>
        refine ⟨(6 + (draw 19 W).1).toNat, ?_, by omega, by omega⟩
        rw [Int.toNat_of_nonneg (by omega)]
        rfl
    refine ⟨_, eg_name, ts_seq (ts_asg (x := .dat (.int (n : Int))) (S1 := Sz ns (draw 19 W).2 (.dat (.int (tn : Int))) b c d e f) (ee_op (S1 := Sz ns (draw 19 W).2 (.dat (.int (tn : Int))) b c d e f) (ee_lst (ds := ([2, 3, 4, 4, 5, 6 + (draw 19 W).1] : List Int).map PyData.int) (ed_cons ee_int (ed_cons ee_int (ed_cons ee_int (ed_cons ee_int (ed_cons ee_int (ed_cons (ee_op ee_int (ee_dr (W := W) (k := 0) (S1 := Sz ns W (.dat (.int (tn : Int))) b c d e f) (ea_cons (ee_var rfl) (ea_cons ee_int ea_nil)) rfl (by decide) hW) ro_add) ed_nil)))))) (show (6 : Nat) ≤ 1000000 by decide)) (ee_var rfl) (ro_ixL (.dat _) (atI_nat hn))) ?_)⟩
    clear hn r1 r2
    generalize (draw 19 W).2 = W1 at d1 ⊢
    show Ts K _ (Sz ns W1 (.dat (.int (tn : Int))) (.dat (.int (n : Int))) c d e f) _
    have d2 := draw_deep (4 + 2 * (n : Int)) W1 d1
    have l1 := draw_lo (4 + 2 * (n : Int)) W1
    have l2 := draw_hi (m := 4 + 2 * (n : Int)) W1 (by omega)
    obtain ⟨m, hm⟩ : ∃ m : Nat, (draw (4 + 2 * (n : Int)) W1).1 = (m : Int) := ⟨_, (Int.toNat_of_nonneg l1).symm⟩
    rw [hm] at l2
    have ka := kpL_all hn2 d2 m
    have kt := (kp_tame hn2 d2 m).2
    refine ts_seq (ts_asg (x := .dat (nD (kpL n (draw (4 + 2 * (n : Int)) W1).2 m).net)) (S1 := Sz ns (kpL n (draw (4 + 2 * (n : Int)) W1).2 m).W (.dat (.int (tn : Int))) (.dat (.int (n : Int))) c d e f) (ee_w1 (k := 0) (W := (draw (4 + 2 * (n : Int)) W1).2) (W' := (kpL n (draw (4 + 2 * (n : Int)) W1).2 m).W) (S1 := Sz ns (draw (4 + 2 * (n : Int)) W1).2 (.dat (.int (tn : Int))) (.dat (.int (n : Int))) c d e f) [.int (n : Int), .int (m : Int)] (ea_cons (ee_var rfl) (ea_cons (ee_var rfl) (ea_cons (ee_eq (ee_dr (W := W1) (k := 0) (S1 := Sz ns W1 (.dat (.int (tn : Int))) (.dat (.int (n : Int))) c d e f) (ea_cons (ee_var rfl) (ea_cons (ee_op ee_int (ee_op ee_int (ee_var rfl) (ro_mulR ⟨by omega, by omega⟩)) ro_add) ea_nil)) rfl (by omega) d1) (by rw [hm])) ea_nil))) rfl rfl ⟨(draw (4 + 2 * (n : Int)) W1).2, n, m, rfl, rfl, d2, hn2, by omega, by omega, rfl, rfl⟩) ?_)
    generalize kpL n (draw (4 + 2 * (n : Int)) W1).2 m = s at ka kt ⊢
    obtain ⟨st, A, W2⟩ := s
    obtain ⟨_, kA, kl, d3⟩ := ka
    dsimp only at kA kl d3 kt ⊢
    have iA : NetIn n A := ⟨kA, by omega, by omega⟩
    show Ts K _ (Sz ns W2 (.dat (.int (tn : Int))) (.dat (.int (n : Int))) (.dat (nD A)) d e f) _
    obtain ⟨m1, m2, m3, m4, m5⟩ := mateN_ok hn2 (img_perm kA) d3
    have nn : n * n ≤ 24 * 24 := Nat.mul_le_mul hn24 hn24
    have RM : R_mate (SD.own 0 :: ([.int (n : Int), nD A] : List PyData).map SD.dat) [W2.oo] (.dat (nD (mateN n (imgN n A) W2).1)) [(mateN n (imgN n A) W2).2.oo] := ⟨W2, n, A, rfl, rfl, d3, hn2, iA, rfl, rfl⟩
    have i2 : NetIn n (mateN n (imgN n A) W2).1 := ⟨m1, by omega, by omega⟩
    generalize mateN n (imgN n A) W2 = q at RM m1 m2 m5 i2 ⊢
    obtain ⟨B, W3⟩ := q
    dsimp only at RM m1 m2 m5 i2
    refine ts_seq (ts_if (b := false) (S1 := Sz ns (lookR n 10 W3).2 (.dat (.int (tn : Int))) (.dat (.int (n : Int))) (.dat (nD A)) d e f) (et_eq (et_not (et_B (b := true) (ee_w1 (k := 0) (W := W3) (W' := (lookR n 10 W3).2) (S1 := Sz ns W3 (.dat (.int (tn : Int))) (.dat (.int (n : Int))) (.dat (nD A)) d e f) [.int (n : Int), nD A, nD B] (ea_cons (ee_var rfl) (ea_cons (ee_var rfl) (ea_cons (ee_var rfl) (ea_cons (ee_w1 (k := 0) (W := W2) (W' := W3) (S1 := Sz ns W2 (.dat (.int (tn : Int))) (.dat (.int (n : Int))) (.dat (nD A)) d e f) [.int (n : Int), nD A] (ea_cons (ee_var rfl) (ea_cons (ee_var rfl) (ea_cons (ee_var rfl) ea_nil))) rfl rfl RM) ea_nil)))) rfl rfl ⟨W3, n, A, B, rfl, rfl, m5, hn2, hn24, iA, i2, kt, m2, rfl, rfl⟩))) rfl) (fun z => by cases z) fun _ => ts_next ?_)
    have d4 : (lookR n 10 W3).2.deep.length ≤ 100 := lookR_deep m5
    generalize (lookR n 10 W3).2 = W4 at d4 ⊢
    have d5 := draw_deep (4 + (n : Int)) W4 d4
    have l3 := draw_lo (4 + (n : Int)) W4
    have l4 := draw_hi (m := 4 + (n : Int)) W4 (by omega)
    obtain ⟨m', hm'⟩ : ∃ m : Nat, (draw (4 + (n : Int)) W4).1 = (m : Int) := ⟨_, (Int.toNat_of_nonneg l3).symm⟩
    rw [hm'] at l4
    have ka2 := kpL_all hn2 d5 m'
    have kt2 := (kp_tame hn2 d5 m').2
    have RK : R_kp (SD.own 0 :: ([.int (n : Int), .int (m' : Int)] : List PyData).map SD.dat) [(draw (4 + (n : Int)) W4).2.oo] (.dat (nD (kpL n (draw (4 + (n : Int)) W4).2 m').net)) [(kpL n (draw (4 + (n : Int)) W4).2 m').W.oo] := ⟨(draw (4 + (n : Int)) W4).2, n, m', rfl, rfl, d5, hn2, by omega, by omega, rfl, rfl⟩
    generalize kpL n (draw (4 + (n : Int)) W4).2 m' = s2 at ka2 kt2 RK ⊢
    obtain ⟨st2, C, W5⟩ := s2
    obtain ⟨_, kC, kl2, d6⟩ := ka2
    dsimp only at kC kl2 d6 kt2 RK
    have iC : NetIn n C := ⟨kC, by omega, by omega⟩
    refine ts_seq (ts_if (b := false) (S1 := Sz ns (lookR n 10 W5).2 (.dat (.int (tn : Int))) (.dat (.int (n : Int))) (.dat (nD A)) d e f) (et_eq (et_not (et_B (b := true) (ee_w1 (k := 0) (W := W5) (W' := (lookR n 10 W5).2) (S1 := Sz ns W5 (.dat (.int (tn : Int))) (.dat (.int (n : Int))) (.dat (nD A)) d e f) [.int (n : Int), nD A, nD C] (ea_cons (ee_var rfl) (ea_cons (ee_var rfl) (ea_cons (ee_var rfl) (ea_cons (ee_w1 (k := 0) (W := (draw (4 + (n : Int)) W4).2) (W' := W5) (S1 := Sz ns (draw (4 + (n : Int)) W4).2 (.dat (.int (tn : Int))) (.dat (.int (n : Int))) (.dat (nD A)) d e f) [.int (n : Int), .int (m' : Int)] (ea_cons (ee_var rfl) (ea_cons (ee_var rfl) (ea_cons (ee_eq (ee_dr (W := W4) (k := 0) (S1 := Sz ns W4 (.dat (.int (tn : Int))) (.dat (.int (n : Int))) (.dat (nD A)) d e f) (ea_cons (ee_var rfl) (ea_cons (ee_op ee_int (ee_var rfl) ro_add) ea_nil)) rfl (by omega) d4) (by rw [hm'])) ea_nil))) rfl rfl RK) ea_nil)))) rfl rfl ⟨W5, n, A, C, rfl, rfl, d6, hn2, hn24, iA, iC, kt, kt2, rfl, rfl⟩))) rfl) (fun z => by cases z) fun _ => ts_next ?_)
    have d7 : (lookR n 10 W5).2.deep.length ≤ 100 := lookR_deep d6
    generalize (lookR n 10 W5).2 = W6 at d7 ⊢
    have em : (if (5 : Int) < (n : Int) then (5 : Int) else (n : Int)) = ((min n 5 : Nat) : Int) := by split <;> omega
    refine ts_seq (ts_asg (x := .dat (.list ((rowsL (min n 5) W6).map rD))) (S1 := Sz ns (lookR (min n 5) 10 W6).2 (.dat (.int (tn : Int))) (.dat (.int (n : Int))) (.dat (nD A)) d e f) (ee_w1 (k := 0) (W := W6) (W' := (lookR (min n 5) 10 W6).2) (S1 := Sz ns W6 (.dat (.int (tn : Int))) (.dat (.int (n : Int))) (.dat (nD A)) d e f) [.int ((min n 5 : Nat) : Int)] (ea_cons (ee_var rfl) (ea_cons (ee_eq (ee_cb (ea_cons (ee_var rfl) (ea_cons ee_int ea_nil)) rc_min2) (by rw [em])) ea_nil)) rfl rfl ⟨W6, min n 5, rfl, rfl, d7, by omega, by omega, rfl, rfl⟩) ?_)
    have rl := rowsL_len (n := min n 5) (by omega) W6
    have rd := rowsL_desc (min n 5) W6
    have rf := rowsL_few (min n 5) W6
    have d8 : (lookR (min n 5) 10 W6).2.deep.length ≤ 100 := lookR_deep d7
    generalize rowsL (min n 5) W6 = rows at rl rd rf ⊢
    generalize (lookR (min n 5) 10 W6).2 = W7 at d8 ⊢
    show Ts K _ (Sz ns W7 (.dat (.int (tn : Int))) (.dat (.int (n : Int))) (.dat (nD A)) (.dat (.list (rows.map rD))) e f) _
    have good : ∀ {X : List Gate} {row : List Int}, NetIn n X → row.length = n → GoodIn X row := fun h e => ⟨by rw [e]; exact h.1, h.2.1, by rw [e]; exact h.2.2⟩
    refine ts_seq (ts_asg (x := .dat (.bool ((rows.filter fun x => decide ((n : Int) < 6) && !decide (runO x A = sortI x)).map rD).isEmpty)) (S1 := Sz ns W7 (.dat (.int (tn : Int))) (.dat (.int (n : Int))) (.dat (nD A)) (.dat (.list (rows.map rD))) e f) (ee_op (x := .dat (.list ((rows.filter fun x => decide ((n : Int) < 6) && !decide (runO x A = sortI x)).map rD))) (ee_of_el (S1 := Sz ns W7 (.dat (.int (tn : Int))) (.dat (.int (n : Int))) (.dat (nD A)) (.dat (.list (rows.map rD))) e f) (el_lcfA (dA := rD) (lst := rows) (p := fun x => decide ((n : Int) < 6) && !decide (runO x A = sortI x)) (f := rD) (ei_list (ee_var rfl)) (by omega) fun x hx => ?_)) (ee_lst ed_nil (by simp)) (ro_eqE (.dat _) (.dat _))) ?_)
    · refine ⟨_, _, egc_name (by decide), et_and (a := decide ((n : Int) < 6)) (b := !decide (runO x A = sortI x)) (et_test (ee_op (ee_var rfl) ee_int ro_lt)) (fun ha => ?_), rfl, fun _ => ⟨_, ee_var rfl, rfl⟩⟩
      have h6 : (n : Int) < 6 := of_decide_eq_true ha
      have xl : x.length = n := by
        have := rl x hx
        omega
      have q1 : R_out (([nD A, rD x] : List PyData).map SD.dat) [] (.dat (rD (runO x A))) [] := ⟨A, x, rfl, good iA xl, rfl, rfl, rfl⟩
      exact et_test (ee_op (ee_cb (ea_cons (ee_callD (ed_cons (ee_var rfl) (ed_cons (ee_var rfl) ed_nil)) rfl q1) ea_nil) rc_listT) (ee_cb (ea_cons (ee_var rfl) ea_nil) rc_sortT) ro_neList)
    have srt : (n : Int) < 6 → ((rows.filter fun x => decide ((n : Int) < 6) && !decide (runO x A = sortI x)).map rD).isEmpty = decide (imgN n A = ascI n) := fun h6 => by
      have mn : min n 5 = n := by omega
      rw [mn] at rl rd
      rw [List.isEmpty_map, decide_eq_true h6, ← sort_iff kA kt rl rd]
      rfl
    generalize ((rows.filter fun x => decide ((n : Int) < 6) && !decide (runO x A = sortI x)).map rD).isEmpty = sb at srt ⊢
    show Ts K _ (Sz ns W7 (.dat (.int (tn : Int))) (.dat (.int (n : Int))) (.dat (nD A)) (.dat (.list (rows.map rD))) (.dat (.bool sb)) f) _
    have qI : R_image (([.int (n : Int), nD A] : List PyData).map SD.dat) [] (.dat (rD (imgN n A))) [] := ⟨n, A, rfl, iA, rfl, rfl, rfl⟩
    have tr := ee_trng2 (K := K) (S := Sz ns W7 (.dat (.int (tn : Int))) (.dat (.int (n : Int))) (.dat (nD A)) (.dat (.list (rows.map rD))) (.dat (.bool sb)) f) (lo := 1) (hi := (n : Int) + 1) ee_int (ee_op (ee_var (i := 3) rfl) ee_int ro_add) (by omega)
    rw [show ((n : Int) + 1 - 1).toNat = n by omega, ascI_D] at tr
    refine ts_seq (ts_if (b := false) (S1 := Sz ns W7 (.dat (.int (tn : Int))) (.dat (.int (n : Int))) (.dat (nD A)) (.dat (.list (rows.map rD))) (.dat (.bool sb)) f) (et_eq (et_and (a := decide ((n : Int) < 6)) (b := false) (et_test (ee_op (ee_var rfl) ee_int ro_lt)) fun ha => et_eq (et_test (ee_op (ee_var rfl) (ee_op (ee_callD (ed_cons (ee_var rfl) (ed_cons (ee_var rfl) ed_nil)) rfl qI) tr ro_eqRow) ro_neBB)) (by rw [srt (of_decide_eq_true ha), decide_eq_true rfl]; rfl)) (by rw [Bool.and_false])) (fun z => by cases z) fun _ => ts_next ?_)
    refine ts_if (b := decide ((n : Int) < 6)) (S1 := Sz ns W7 (.dat (.int (tn : Int))) (.dat (.int (n : Int))) (.dat (nD A)) (.dat (.list (rows.map rD))) (.dat (.bool sb)) f) (et_test (ee_op (ee_var rfl) ee_int ro_lt)) (fun hb => ?_) fun _ => ts_next ⟨_, _, _, _, _, _, _, rfl, d8⟩
    have h6 : (n : Int) < 6 := of_decide_eq_true hb
    obtain ⟨z1, z2, z3⟩ := nearN_ok (show 1 ≤ n by omega) (img_perm kA)
    have qM : R_mended (([.int (n : Int), nD A] : List PyData).map SD.dat) [] (.dat (nD (nearN (imgN n A)))) [] := ⟨n, A, rfl, hn2, by omega, iA, kt, rfl, rfl, rfl⟩
    have iN : NetIn n (nearN (imgN n A)) := ⟨z1.ok, by omega, by omega⟩
    generalize nearN (imgN n A) = N at z1 z2 qM iN ⊢
    refine ts_seq (ts_asg (x := .dat (nD N)) (S1 := Sz ns W7 (.dat (.int (tn : Int))) (.dat (.int (n : Int))) (.dat (nD A)) (.dat (.list (rows.map rD))) (.dat (.bool sb)) f) (ee_callX0 (ed_cons (ee_var rfl) (ed_cons (ee_var rfl) ed_nil)) rfl qM) ?_)
    show Ts K _ (Sz ns W7 (.dat (.int (tn : Int))) (.dat (.int (n : Int))) (.dat (nD A)) (.dat (.list (rows.map rD))) (.dat (.bool sb)) (.dat (nD N))) _
    refine ts_if (b := false) (S1 := Sz ns W7 (.dat (.int (tn : Int))) (.dat (.int (n : Int))) (.dat (nD A)) (.dat (.list (rows.map rD))) (.dat (.bool sb)) (.dat (nD N))) (et_eq (et_test (ee_op (x := .dat (.list ((rows.filter fun _ => false).map rD))) (ee_of_el (S1 := Sz ns W7 (.dat (.int (tn : Int))) (.dat (.int (n : Int))) (.dat (nD A)) (.dat (.list (rows.map rD))) (.dat (.bool sb)) (.dat (nD N))) (el_lcfA (dA := rD) (lst := rows) (p := fun _ => false) (f := rD) (ei_list (ee_var rfl)) (by omega) fun x hx => ?_)) (ee_lst ed_nil (by simp)) (ro_neNil (k := 0) (.dat _) (.dat _) fun z hz => ?_))) ?_) (fun z => by cases z) fun _ => ts_next ⟨_, _, _, _, _, _, _, rfl, d8⟩
    · have xl : x.length = n := by
        have := rl x hx
        omega
      have c1 : R_came (([nD N, rD x] : List PyData).map SD.dat) [] (.dat (rD (runP x A))) [] := ⟨N, x, rfl, good iN xl, rfl, by rw [one_came z1.ok kA z1.tame kt z2 xl], rfl⟩
      have c2 : R_came (([nD A, rD x] : List PyData).map SD.dat) [] (.dat (rD (runP x A))) [] := ⟨A, x, rfl, good iA xl, rfl, rfl, rfl⟩
      exact ⟨_, _, egc_name (by decide), et_test (ee_op (ee_callD (ed_cons (ee_var rfl) (ed_cons (ee_var rfl) ed_nil)) rfl c1) (ee_callD (ed_cons (ee_var rfl) (ed_cons (ee_var rfl) ed_nil)) rfl c2) (ro_neD_self (k := 1) (.dat _) (.dat _) Fl.intsT)), rfl, fun z => by cases z⟩
    · rw [show rows.filter (fun _ => false) = [] from List.filter_eq_nil_iff.mpr fun _ _ => Bool.false_ne_true] at hz
      cases hz
    · rw [show rows.filter (fun _ => false) = [] from List.filter_eq_nil_iff.mpr fun _ _ => Bool.false_ne_true]
      rfl
  rintro S' ⟨W, a, b, c, d, e, f, rfl, hW⟩
  have d1 := draw_deep 9 W hW
  have l1 := draw_lo 9 W
  have l2 := draw_hi (m := 9) W (by decide)
  obtain ⟨m, hm⟩ : ∃ m : Nat, (draw 9 W).1 = (m : Int) := ⟨_, (Int.toNat_of_nonneg l1).symm⟩
  rw [hm] at l2
  have ka := kpL_all (n := 3) (by decide) d1 m
  have kt := (kp_tame (n := 3) (by decide) d1 m).2
  have RK : R_kp (SD.own 0 :: ([.int 3, .int (m : Int)] : List PyData).map SD.dat) [(draw 9 W).2.oo] (.dat (nD (kpL 3 (draw 9 W).2 m).net)) [(kpL 3 (draw 9 W).2 m).W.oo] := ⟨(draw 9 W).2, 3, m, rfl, rfl, d1, by decide, by decide, by omega, rfl, rfl⟩
  generalize kpL 3 (draw 9 W).2 m = s at ka kt RK
  obtain ⟨st, A, W1⟩ := s
  obtain ⟨_, kA, kl, d2⟩ := ka
  dsimp only at kA kl d2 kt RK
  have ka2 := kpL_all (n := 4) (by decide) d2 5
  have kt2 := (kp_tame (n := 4) (by decide) d2 5).2
  have RK2 : R_kp (SD.own 0 :: ([.int 4, .int 5] : List PyData).map SD.dat) [W1.oo] (.dat (nD (kpL 4 W1 5).net)) [(kpL 4 W1 5).W.oo] := ⟨W1, 4, 5, rfl, rfl, d2, by decide, by decide, by decide, rfl, rfl⟩
  generalize kpL 4 W1 5 = s2 at ka2 kt2 RK2
  obtain ⟨st2, C, W2⟩ := s2
  obtain ⟨_, kC, kl2, d3⟩ := ka2
  dsimp only at kC kl2 d3 kt2 RK2
  exact ts_ret (S1 := Sz ns W2 a b c d e f) (ee_andT (S1 := Sz ns W1 a b c d e f) (ee_callD (ds := [.int 3, nD A]) (ed_cons ee_int (ed_cons (ee_w1 (k := 0) (W := (draw 9 W).2) (W' := W1) (S1 := Sz ns (draw 9 W).2 a b c d e f) [.int 3, .int (m : Int)] (ea_cons (ee_var rfl) (ea_cons ee_int (ea_cons (ee_eq (ee_dr (W := W) (k := 0) (S1 := Sz ns W a b c d e f) (ea_cons (ee_var rfl) (ea_cons ee_int ea_nil)) rfl (by decide) hW) (by rw [hm])) ea_nil))) rfl rfl RK) ed_nil)) rfl ⟨3, A, rfl, .inl rfl, ⟨kA, by omega, by decide⟩, kt, rfl, rfl, rfl⟩) (ee_callD (ds := [.int 4, nD C]) (ed_cons ee_int (ed_cons (ee_w1 (k := 0) (W := W1) (W' := W2) (S1 := Sz ns W1 a b c d e f) [.int 4, .int 5] (ea_cons (ee_var rfl) (ea_cons ee_int (ea_cons ee_int ea_nil))) rfl rfl RK2) ed_nil)) rfl ⟨4, C, rfl, .inr rfl, ⟨kC, by omega, by decide⟩, kt2, rfl, rfl, rfl⟩)) ⟨rfl, List.nil_prefix⟩
end
end K33

set_option maxRecDepth 100000
set_option maxHeartbeats 4000000
namespace K33
open PySem PySem.Spec PyProof.Rows L2 DL
theorem all_mk {l : PySem.W.OpenLaw} {w : World} {K : PySem.W.Frag} {h : Heap} {mg : Str → Option Value} {fa : Addr} (X : K.In h) (G : h.Ns mainGlobals mg) (hfa : mg "law" = some (.ref fa))
    {f1 f2 f3 f4 f5 f6 f7 f8 f9 f10 f11 f12 f13 f14 f15 f16 f17 f18 f19 f20 f21 f22 f23 f24 f25 f26 f27 f28 f29 f30 f31 f32 f33 f34 f35 f36 f37 : Addr} {od1 an1 od2 an2 od3 an3 od4 an4 od5 an5 od6 an6 od7 an7 od8 an8 od9 an9 od10 an10 od11 an11 od12 an12 od13 an13 od14 an14 od15 an15 od16 an16 od17 an17 od18 an18 od19 an19 od20 an20 od21 an21 od22 an22 od23 an23 od24 an24 od25 an25 od26 an26 od27 an27 od28 an28 od29 an29 od30 an30 od31 an31 od32 an32 od33 an33 od34 an34 od35 an35 od36 an36 od37 an37 : Option Addr} {sl1 sl2 sl3 sl4 sl5 sl6 sl7 sl8 sl9 sl10 sl11 sl12 sl13 sl14 sl15 sl16 sl17 sl18 sl19 sl20 sl21 sl22 sl23 sl24 sl25 sl26 sl27 sl28 sl29 sl30 sl31 sl32 sl33 sl34 sl35 sl36 sl37 : Array (Option Value)} {oc1 kV1 dc1 pm1 cd1 ct1 oc2 kV2 dc2 pm2 cd2 ct2 oc3 kV3 dc3 pm3 cd3 ct3 oc4 kV4 dc4 pm4 cd4 ct4 oc5 kV5 dc5 pm5 cd5 ct5 oc6 kV6 dc6 pm6 cd6 ct6 oc7 kV7 dc7 pm7 cd7 ct7 oc8 kV8 dc8 pm8 cd8 ct8 oc9 kV9 dc9 pm9 cd9 ct9 oc10 kV10 dc10 pm10 cd10 ct10 oc11 kV11 dc11 pm11 cd11 ct11 oc12 kV12 dc12 pm12 cd12 ct12 oc13 kV13 dc13 pm13 cd13 ct13 oc14 kV14 dc14 pm14 cd14 ct14 oc15 kV15 dc15 pm15 cd15 ct15 oc16 kV16 dc16 pm16 cd16 ct16 oc17 kV17 dc17 pm17 cd17 ct17 oc18 kV18 dc18 pm18 cd18 ct18 oc19 kV19 dc19 pm19 cd19 ct19 oc20 kV20 dc20 pm20 cd20 ct20 oc21 kV21 dc21 pm21 cd21 ct21 oc22 kV22 dc22 pm22 cd22 ct22 oc23 kV23 dc23 pm23 cd23 ct23 oc24 kV24 dc24 pm24 cd24 ct24 oc25 kV25 dc25 pm25 cd25 ct25 oc26 kV26 dc26 pm26 cd26 ct26 oc27 kV27 dc27 pm27 cd27 ct27 oc28 kV28 dc28 pm28 cd28 ct28 oc29 kV29 dc29 pm29 cd29 ct29 oc30 kV30 dc30 pm30 cd30 ct30 oc31 kV31 dc31 pm31 cd31 ct31 oc32 kV32 dc32 pm32 cd32 ct32 oc33 kV33 dc33 pm33 cd33 ct33 oc34 kV34 dc34 pm34 cd34 ct34 oc35 kV35 dc35 pm35 cd35 ct35 oc36 kV36 dc36 pm36 cd36 ct36 oc37 kV37 dc37 pm37 cd37 ct37 : Value}
    (a1 : PySem.W.nsIn K mainGlobals "law" = some (some (.ref f1))) (l1 : K.lookup f1 = some ⟨oc1, od1, .func (PySem.W.fnOf "law" "law" (defArgs slaw) (defBody slaw) (defScope slaw) .none kV1 dc1 pm1 an1 cd1 ct1), sl1⟩) (c1 : PySem.W.codeIn K cd1 "law" = true) (k1 : PySem.W.keepIn K (.ref f1) = true)
    (a2 : PySem.W.nsIn K mainGlobals "out" = some (some (.ref f2))) (l2 : K.lookup f2 = some ⟨oc2, od2, .func (PySem.W.fnOf "out" "out" (defArgs sout) (defBody sout) (defScope sout) .none kV2 dc2 pm2 an2 cd2 ct2), sl2⟩) (c2 : PySem.W.codeIn K cd2 "out" = true) (k2 : PySem.W.keepIn K (.ref f2) = true)
    (a3 : PySem.W.nsIn K mainGlobals "came" = some (some (.ref f3))) (l3 : K.lookup f3 = some ⟨oc3, od3, .func (PySem.W.fnOf "came" "came" (defArgs scame) (defBody scame) (defScope scame) .none kV3 dc3 pm3 an3 cd3 ct3), sl3⟩) (c3 : PySem.W.codeIn K cd3 "came" = true) (k3 : PySem.W.keepIn K (.ref f3) = true)
    (a4 : PySem.W.nsIn K mainGlobals "exchanged" = some (some (.ref f4))) (l4 : K.lookup f4 = some ⟨oc4, od4, .func (PySem.W.fnOf "exchanged" "exchanged" (defArgs sexchanged) (defBody sexchanged) (defScope sexchanged) .none kV4 dc4 pm4 an4 cd4 ct4), sl4⟩) (c4 : PySem.W.codeIn K cd4 "exchanged" = true) (k4 : PySem.W.keepIn K (.ref f4) = true)
    (a5 : PySem.W.nsIn K mainGlobals "_run" = some (some (.ref f5))) (l5 : K.lookup f5 = some ⟨oc5, od5, .func (PySem.W.fnOf "_run" "_run" (defArgs s_run) (defBody s_run) (defScope s_run) .none kV5 dc5 pm5 an5 cd5 ct5), sl5⟩) (c5 : PySem.W.codeIn K cd5 "_run" = true) (k5 : PySem.W.keepIn K (.ref f5) = true)
    (a6 : PySem.W.nsIn K mainGlobals "descending" = some (some (.ref f6))) (l6 : K.lookup f6 = some ⟨oc6, od6, .func (PySem.W.fnOf "descending" "descending" (defArgs sdescending) (defBody sdescending) (defScope sdescending) .none kV6 dc6 pm6 an6 cd6 ct6), sl6⟩) (c6 : PySem.W.codeIn K cd6 "descending" = true) (k6 : PySem.W.keepIn K (.ref f6) = true)
    (a7 : PySem.W.nsIn K mainGlobals "at_work" = some (some (.ref f7))) (l7 : K.lookup f7 = some ⟨oc7, od7, .func (PySem.W.fnOf "at_work" "at_work" (defArgs sat_work) (defBody sat_work) (defScope sat_work) .none kV7 dc7 pm7 an7 cd7 ct7), sl7⟩) (c7 : PySem.W.codeIn K cd7 "at_work" = true) (k7 : PySem.W.keepIn K (.ref f7) = true)
    (a8 : PySem.W.nsIn K mainGlobals "is_far" = some (some (.ref f8))) (l8 : K.lookup f8 = some ⟨oc8, od8, .func (PySem.W.fnOf "is_far" "is_far" (defArgs sis_far) (defBody sis_far) (defScope sis_far) .none kV8 dc8 pm8 an8 cd8 ct8), sl8⟩) (c8 : PySem.W.codeIn K cd8 "is_far" = true) (k8 : PySem.W.keepIn K (.ref f8) = true)
    (a9 : PySem.W.nsIn K mainGlobals "first_far" = some (some (.ref f9))) (l9 : K.lookup f9 = some ⟨oc9, od9, .func (PySem.W.fnOf "first_far" "first_far" (defArgs sfirst_far) (defBody sfirst_far) (defScope sfirst_far) .none kV9 dc9 pm9 an9 cd9 ct9), sl9⟩) (c9 : PySem.W.codeIn K cd9 "first_far" = true) (k9 : PySem.W.keepIn K (.ref f9) = true)
    (a10 : PySem.W.nsIn K mainGlobals "image" = some (some (.ref f10))) (l10 : K.lookup f10 = some ⟨oc10, od10, .func (PySem.W.fnOf "image" "image" (defArgs simage) (defBody simage) (defScope simage) .none kV10 dc10 pm10 an10 cd10 ct10), sl10⟩) (c10 : PySem.W.codeIn K cd10 "image" = true) (k10 : PySem.W.keepIn K (.ref f10) = true)
    (a11 : PySem.W.nsIn K mainGlobals "keeps_all" = some (some (.ref f11))) (l11 : K.lookup f11 = some ⟨oc11, od11, .func (PySem.W.fnOf "keeps_all" "keeps_all" (defArgs skeeps_all) (defBody skeeps_all) (defScope skeeps_all) .none kV11 dc11 pm11 an11 cd11 ct11), sl11⟩) (c11 : PySem.W.codeIn K cd11 "keeps_all" = true) (k11 : PySem.W.keepIn K (.ref f11) = true)
    (a12 : PySem.W.nsIn K mainGlobals "kept_all_gates" = some (some (.ref f12))) (l12 : K.lookup f12 = some ⟨oc12, od12, .func (PySem.W.fnOf "kept_all_gates" "kept_all_gates" (defArgs skept_all_gates) (defBody skept_all_gates) (defScope skept_all_gates) .none kV12 dc12 pm12 an12 cd12 ct12), sl12⟩) (c12 : PySem.W.codeIn K cd12 "kept_all_gates" = true) (k12 : PySem.W.keepIn K (.ref f12) = true)
    (a13 : PySem.W.nsIn K mainGlobals "word_lanes" = some (some (.ref f13))) (l13 : K.lookup f13 = some ⟨oc13, od13, .func (PySem.W.fnOf "word_lanes" "word_lanes" (defArgs sword_lanes) (defBody sword_lanes) (defScope sword_lanes) .none kV13 dc13 pm13 an13 cd13 ct13), sl13⟩) (c13 : PySem.W.codeIn K cd13 "word_lanes" = true) (k13 : PySem.W.keepIn K (.ref f13) = true)
    (a14 : PySem.W.nsIn K mainGlobals "run_lanes" = some (some (.ref f14))) (l14 : K.lookup f14 = some ⟨oc14, od14, .func (PySem.W.fnOf "run_lanes" "run_lanes" (defArgs srun_lanes) (defBody srun_lanes) (defScope srun_lanes) .none kV14 dc14 pm14 an14 cd14 ct14), sl14⟩) (c14 : PySem.W.codeIn K cd14 "run_lanes" = true) (k14 : PySem.W.keepIn K (.ref f14) = true)
    (a15 : PySem.W.nsIn K mainGlobals "first_told" = some (some (.ref f15))) (l15 : K.lookup f15 = some ⟨oc15, od15, .func (PySem.W.fnOf "first_told" "first_told" (defArgs sfirst_told) (defBody sfirst_told) (defScope sfirst_told) .none kV15 dc15 pm15 an15 cd15 ct15), sl15⟩) (c15 : PySem.W.codeIn K cd15 "first_told" = true) (k15 : PySem.W.keepIn K (.ref f15) = true)
    (a16 : PySem.W.nsIn K mainGlobals "let_words" = some (some (.ref f16))) (l16 : K.lookup f16 = some ⟨oc16, od16, .func (PySem.W.fnOf "let_words" "let_words" (defArgs slet_words) (defBody slet_words) (defScope slet_words) .none kV16 dc16 pm16 an16 cd16 ct16), sl16⟩) (c16 : PySem.W.codeIn K cd16 "let_words" = true) (k16 : PySem.W.keepIn K (.ref f16) = true)
    (a17 : PySem.W.nsIn K mainGlobals "let_rows" = some (some (.ref f17))) (l17 : K.lookup f17 = some ⟨oc17, od17, .func (PySem.W.fnOf "let_rows" "let_rows" (defArgs slet_rows) (defBody slet_rows) (defScope slet_rows) .none kV17 dc17 pm17 an17 cd17 ct17), sl17⟩) (c17 : PySem.W.codeIn K cd17 "let_rows" = true) (k17 : PySem.W.keepIn K (.ref f17) = true)
    (a18 : PySem.W.nsIn K mainGlobals "_let_keys" = some (some (.ref f18))) (l18 : K.lookup f18 = some ⟨oc18, od18, .func (PySem.W.fnOf "_let_keys" "_let_keys" (defArgs s_let_keys) (defBody s_let_keys) (defScope s_let_keys) .none kV18 dc18 pm18 an18 cd18 ct18), sl18⟩) (c18 : PySem.W.codeIn K cd18 "_let_keys" = true) (k18 : PySem.W.keepIn K (.ref f18) = true)
    (a19 : PySem.W.nsIn K mainGlobals "unlike_word" = some (some (.ref f19))) (l19 : K.lookup f19 = some ⟨oc19, od19, .func (PySem.W.fnOf "unlike_word" "unlike_word" (defArgs sunlike_word) (defBody sunlike_word) (defScope sunlike_word) .none kV19 dc19 pm19 an19 cd19 ct19), sl19⟩) (c19 : PySem.W.codeIn K cd19 "unlike_word" = true) (k19 : PySem.W.keepIn K (.ref f19) = true)
    (a20 : PySem.W.nsIn K mainGlobals "least_network" = some (some (.ref f20))) (l20 : K.lookup f20 = some ⟨oc20, od20, .func (PySem.W.fnOf "least_network" "least_network" (defArgs sleast_network) (defBody sleast_network) (defScope sleast_network) .none kV20 dc20 pm20 an20 cd20 ct20), sl20⟩) (c20 : PySem.W.codeIn K cd20 "least_network" = true) (k20 : PySem.W.keepIn K (.ref f20) = true)
    (a21 : PySem.W.nsIn K mainGlobals "mended" = some (some (.ref f21))) (l21 : K.lookup f21 = some ⟨oc21, od21, .func (PySem.W.fnOf "mended" "mended" (defArgs smended) (defBody smended) (defScope smended) .none kV21 dc21 pm21 an21 cd21 ct21), sl21⟩) (c21 : PySem.W.codeIn K cd21 "mended" = true) (k21 : PySem.W.keepIn K (.ref f21) = true)
    (a22 : PySem.W.nsIn K mainGlobals "_near_network" = some (some (.ref f22))) (l22 : K.lookup f22 = some ⟨oc22, od22, .func (PySem.W.fnOf "_near_network" "_near_network" (defArgs s_near_network) (defBody s_near_network) (defScope s_near_network) .none kV22 dc22 pm22 an22 cd22 ct22), sl22⟩) (c22 : PySem.W.codeIn K cd22 "_near_network" = true) (k22 : PySem.W.keepIn K (.ref f22) = true)
    (a23 : PySem.W.nsIn K mainGlobals "_law_loom" = some (some (.ref f23))) (l23 : K.lookup f23 = some ⟨oc23, od23, .func (PySem.W.fnOf "_law_loom" "_law_loom" (defArgs s_law_loom) (defBody s_law_loom) (defScope s_law_loom) .none kV23 dc23 pm23 an23 cd23 ct23), sl23⟩) (c23 : PySem.W.codeIn K cd23 "_law_loom" = true) (k23 : PySem.W.keepIn K (.ref f23) = true)
    (a24 : PySem.W.nsIn K mainGlobals "_law_draw" = some (some (.ref f24))) (l24 : K.lookup f24 = some ⟨oc24, od24, .func (PySem.W.fnOf "_law_draw" "_law_draw" (defArgs s_law_draw) (defBody s_law_draw) (defScope s_law_draw) .none kV24 dc24 pm24 an24 cd24 ct24), sl24⟩) (c24 : PySem.W.codeIn K cd24 "_law_draw" = true) (k24 : PySem.W.keepIn K (.ref f24) = true)
    (a25 : PySem.W.nsIn K mainGlobals "_law_pick" = some (some (.ref f25))) (l25 : K.lookup f25 = some ⟨oc25, od25, .func (PySem.W.fnOf "_law_pick" "_law_pick" (defArgs s_law_pick) (defBody s_law_pick) (defScope s_law_pick) .none kV25 dc25 pm25 an25 cd25 ct25), sl25⟩) (c25 : PySem.W.codeIn K cd25 "_law_pick" = true) (k25 : PySem.W.keepIn K (.ref f25) = true)
    (a26 : PySem.W.nsIn K mainGlobals "_law_mixed" = some (some (.ref f26))) (l26 : K.lookup f26 = some ⟨oc26, od26, .func (PySem.W.fnOf "_law_mixed" "_law_mixed" (defArgs s_law_mixed) (defBody s_law_mixed) (defScope s_law_mixed) .none kV26 dc26 pm26 an26 cd26 ct26), sl26⟩) (c26 : PySem.W.codeIn K cd26 "_law_mixed" = true) (k26 : PySem.W.keepIn K (.ref f26) = true)
    (a27 : PySem.W.nsIn K mainGlobals "_law_run" = some (some (.ref f27))) (l27 : K.lookup f27 = some ⟨oc27, od27, .func (PySem.W.fnOf "_law_run" "_law_run" (defArgs s_law_run) (defBody s_law_run) (defScope s_law_run) .none kV27 dc27 pm27 an27 cd27 ct27), sl27⟩) (c27 : PySem.W.codeIn K cd27 "_law_run" = true) (k27 : PySem.W.keepIn K (.ref f27) = true)
    (a28 : PySem.W.nsIn K mainGlobals "_law_end" = some (some (.ref f28))) (l28 : K.lookup f28 = some ⟨oc28, od28, .func (PySem.W.fnOf "_law_end" "_law_end" (defArgs s_law_end) (defBody s_law_end) (defScope s_law_end) .none kV28 dc28 pm28 an28 cd28 ct28), sl28⟩) (c28 : PySem.W.codeIn K cd28 "_law_end" = true) (k28 : PySem.W.keepIn K (.ref f28) = true)
    (a29 : PySem.W.nsIn K mainGlobals "_law_gate" = some (some (.ref f29))) (l29 : K.lookup f29 = some ⟨oc29, od29, .func (PySem.W.fnOf "_law_gate" "_law_gate" (defArgs s_law_gate) (defBody s_law_gate) (defScope s_law_gate) .none kV29 dc29 pm29 an29 cd29 ct29), sl29⟩) (c29 : PySem.W.codeIn K cd29 "_law_gate" = true) (k29 : PySem.W.keepIn K (.ref f29) = true)
    (a30 : PySem.W.nsIn K mainGlobals "_law_kept" = some (some (.ref f30))) (l30 : K.lookup f30 = some ⟨oc30, od30, .func (PySem.W.fnOf "_law_kept" "_law_kept" (defArgs s_law_kept) (defBody s_law_kept) (defScope s_law_kept) .none kV30 dc30 pm30 an30 cd30 ct30), sl30⟩) (c30 : PySem.W.codeIn K cd30 "_law_kept" = true) (k30 : PySem.W.keepIn K (.ref f30) = true)
    (a31 : PySem.W.nsIn K mainGlobals "_law_weak" = some (some (.ref f31))) (l31 : K.lookup f31 = some ⟨oc31, od31, .func (PySem.W.fnOf "_law_weak" "_law_weak" (defArgs s_law_weak) (defBody s_law_weak) (defScope s_law_weak) .none kV31 dc31 pm31 an31 cd31 ct31), sl31⟩) (c31 : PySem.W.codeIn K cd31 "_law_weak" = true) (k31 : PySem.W.keepIn K (.ref f31) = true)
    (a32 : PySem.W.nsIn K mainGlobals "_law_keys" = some (some (.ref f32))) (l32 : K.lookup f32 = some ⟨oc32, od32, .func (PySem.W.fnOf "_law_keys" "_law_keys" (defArgs s_law_keys) (defBody s_law_keys) (defScope s_law_keys) .none kV32 dc32 pm32 an32 cd32 ct32), sl32⟩) (c32 : PySem.W.codeIn K cd32 "_law_keys" = true) (k32 : PySem.W.keepIn K (.ref f32) = true)
    (a33 : PySem.W.nsIn K mainGlobals "_law_back" = some (some (.ref f33))) (l33 : K.lookup f33 = some ⟨oc33, od33, .func (PySem.W.fnOf "_law_back" "_law_back" (defArgs s_law_back) (defBody s_law_back) (defScope s_law_back) .none kV33 dc33 pm33 an33 cd33 ct33), sl33⟩) (c33 : PySem.W.codeIn K cd33 "_law_back" = true) (k33 : PySem.W.keepIn K (.ref f33) = true)
    (a34 : PySem.W.nsIn K mainGlobals "_law_mate" = some (some (.ref f34))) (l34 : K.lookup f34 = some ⟨oc34, od34, .func (PySem.W.fnOf "_law_mate" "_law_mate" (defArgs s_law_mate) (defBody s_law_mate) (defScope s_law_mate) .none kV34 dc34 pm34 an34 cd34 ct34), sl34⟩) (c34 : PySem.W.codeIn K cd34 "_law_mate" = true) (k34 : PySem.W.keepIn K (.ref f34) = true)
    (a35 : PySem.W.nsIn K mainGlobals "_law_rows" = some (some (.ref f35))) (l35 : K.lookup f35 = some ⟨oc35, od35, .func (PySem.W.fnOf "_law_rows" "_law_rows" (defArgs s_law_rows) (defBody s_law_rows) (defScope s_law_rows) .none kV35 dc35 pm35 an35 cd35 ct35), sl35⟩) (c35 : PySem.W.codeIn K cd35 "_law_rows" = true) (k35 : PySem.W.keepIn K (.ref f35) = true)
    (a36 : PySem.W.nsIn K mainGlobals "_law_are_alike" = some (some (.ref f36))) (l36 : K.lookup f36 = some ⟨oc36, od36, .func (PySem.W.fnOf "_law_are_alike" "_law_are_alike" (defArgs s_law_are_alike) (defBody s_law_are_alike) (defScope s_law_are_alike) .none kV36 dc36 pm36 an36 cd36 ct36), sl36⟩) (c36 : PySem.W.codeIn K cd36 "_law_are_alike" = true) (k36 : PySem.W.keepIn K (.ref f36) = true)
    (a37 : PySem.W.nsIn K mainGlobals "_law_are_left" = some (some (.ref f37))) (l37 : K.lookup f37 = some ⟨oc37, od37, .func (PySem.W.fnOf "_law_are_left" "_law_are_left" (defArgs s_law_are_left) (defBody s_law_are_left) (defScope s_law_are_left) .none kV37 dc37 pm37 an37 cd37 ct37), sl37⟩) (c37 : PySem.W.codeIn K cd37 "_law_are_left" = true) (k37 : PySem.W.keepIn K (.ref f37) = true)
    {ATiesError AUnfit AUnmendable fUnmendable : Addr}
    {nmUnmendable : Str} {qUnmendable : Str} {NUnmendable : Addr} {bsUnmendable : List Value} {snUnmendable : List Str} {subUnmendable : List Value} {abUnmendable : Bool} {colUnmendable : Option Bool} {ddUnmendable : Option Addr} {m0Unmendable m1Unmendable m2Unmendable m3Unmendable m5Unmendable : Option Value}
    {odUnmendable anUnmendable : Option Addr} {slUnmendable : Array (Option Value)} {ocUnmendable kVUnmendable dcUnmendable pmUnmendable cdUnmendable ctUnmendable : Value}
    (xsn : PySem.W.specialIn K (.builtin "object.__class__") "__get__" = some (some (.builtin "getset_descriptor.__get__")))
    (xtk : PySem.W.takesIn K (.builtin "object.__class__") = some true)
    (xmTiesError : PySem.W.nsIn K mainGlobals "TiesError" = some (some (.ref ATiesError)))
    (xkTiesError : PySem.W.keepIn K (.ref ATiesError) = true)
    (xeTiesError : PySem.W.subIn K (.ref ATiesError) (.type "BaseException") = some true)
    (xtTiesError : PySem.W.typeIn K (.ref ATiesError) = some (.type "type"))
    (xhTiesError : PySem.W.hasDictIn K ATiesError = true)
    (xgaTiesError : PySem.W.findIn K (.ref ATiesError) "__getattribute__" = some (some (.builtin "BaseException.__getattribute__")))
    (xggTiesError : PySem.W.findIn K (.ref ATiesError) "__getattr__" = some none)
    (xclTiesError : PySem.W.findIn K (.ref ATiesError) "__class__" = some (some (.builtin "object.__class__")))
    (xmoTiesError : PySem.W.mroIn K ATiesError (.type "object") = some true)
    (xownTiesError : PySem.W.subIn K (.ref ATiesError) (.ref ATiesError) = some true)
    (xmUnfit : PySem.W.nsIn K mainGlobals "Unfit" = some (some (.ref AUnfit)))
    (xkUnfit : PySem.W.keepIn K (.ref AUnfit) = true)
    (xeUnfit : PySem.W.subIn K (.ref AUnfit) (.type "BaseException") = some true)
    (xtUnfit : PySem.W.typeIn K (.ref AUnfit) = some (.type "type"))
    (xhUnfit : PySem.W.hasDictIn K AUnfit = true)
    (xgaUnfit : PySem.W.findIn K (.ref AUnfit) "__getattribute__" = some (some (.builtin "BaseException.__getattribute__")))
    (xggUnfit : PySem.W.findIn K (.ref AUnfit) "__getattr__" = some none)
    (xclUnfit : PySem.W.findIn K (.ref AUnfit) "__class__" = some (some (.builtin "object.__class__")))
    (xmoUnfit : PySem.W.mroIn K AUnfit (.type "object") = some true)
    (xownUnfit : PySem.W.subIn K (.ref AUnfit) (.ref AUnfit) = some true)
    (xmUnmendable : PySem.W.nsIn K mainGlobals "Unmendable" = some (some (.ref AUnmendable)))
    (xkUnmendable : PySem.W.keepIn K (.ref AUnmendable) = true)
    (xeUnmendable : PySem.W.subIn K (.ref AUnmendable) (.type "BaseException") = some true)
    (xtUnmendable : PySem.W.typeIn K (.ref AUnmendable) = some (.type "type"))
    (xhUnmendable : PySem.W.hasDictIn K AUnmendable = true)
    (xgaUnmendable : PySem.W.findIn K (.ref AUnmendable) "__getattribute__" = some (some (.builtin "BaseException.__getattribute__")))
    (xggUnmendable : PySem.W.findIn K (.ref AUnmendable) "__getattr__" = some none)
    (xclUnmendable : PySem.W.findIn K (.ref AUnmendable) "__class__" = some (some (.builtin "object.__class__")))
    (xmoUnmendable : PySem.W.mroIn K AUnmendable (.type "object") = some true)
    (xownUnmendable : PySem.W.subIn K (.ref AUnmendable) (.ref AUnmendable) = some true)
    (xqUnfit : PySem.W.excIn K AUnfit veB "ValueError.__new__" = true)
    (xLUnmendable : K.lookup AUnmendable = some (excClassObj nmUnmendable qUnmendable AUnmendable NUnmendable bsUnmendable [.ref ATiesError, .type "ValueError", .type "Exception", .type "BaseException", .type "object"] true snUnmendable subUnmendable abUnmendable colUnmendable ddUnmendable m0Unmendable m1Unmendable m2Unmendable m3Unmendable m5Unmendable "ValueError.__new__"))
    (xsaUnmendable : PySem.W.findIn K (.ref AUnmendable) "__setattr__" = some (some (.builtin "object.__setattr__")))
    (xiUnmendable : PySem.W.findIn K (.ref AUnmendable) "__init__" = some (some (.ref fUnmendable)))
    (xtiUnmendable : PySem.W.typeIn K (.ref fUnmendable) = some (.type "function"))
    (xlUnmendable : K.lookup fUnmendable = some ⟨ocUnmendable, odUnmendable, .func (PySem.W.fnOf "__init__" "Unmendable.__init__" (defArgs sIUnmendable) (defBody sIUnmendable) (defScope sIUnmendable) .none kVUnmendable dcUnmendable pmUnmendable anUnmendable cdUnmendable ctUnmendable), slUnmendable⟩)
    (xcUnmendable : PySem.W.codeIn K cdUnmendable "Unmendable.__init__" = true)
    (xkiUnmendable : PySem.W.keepIn K (.ref fUnmendable) = true)
    (xnoUnmendable : PySem.W.findIn K (.ref AUnmendable) "word" = some none)
    (xgB : PySem.W.specialIn K (.ref ATiesError) "__getattribute__" = some (some (.builtin "type.__getattribute__")))
    (xrB : PySem.W.readsIn K ATiesError (.type "type") = true)
    (xvB : PySem.W.findCls K (.ref ATiesError) (.type "type") "__init__" = some (.val (.builtin "ValueError.__init__")))
    (xkitUnfit : PySem.W.subIn K (.ref AUnfit) (.ref ATiesError) = some true)
    (xsUnfit_Unmendable : PySem.W.subIn K (.ref AUnfit) (.ref AUnmendable) = some false)
    (xkitUnmendable : PySem.W.subIn K (.ref AUnmendable) (.ref ATiesError) = some true)
    (xsUnmendable_Unfit : PySem.W.subIn K (.ref AUnmendable) (.ref AUnfit) = some false)
    (z1 : PySem.W.nsIn K mainGlobals "abs" = some none) (z2 : PySem.W.nsIn K mainGlobals "enumerate" = some none) (z3 : PySem.W.nsIn K mainGlobals "int" = some none) (z4 : PySem.W.nsIn K mainGlobals "len" = some none) (z5 : PySem.W.nsIn K mainGlobals "list" = some none) (z6 : PySem.W.nsIn K mainGlobals "max" = some none) (z7 : PySem.W.nsIn K mainGlobals "min" = some none) (z8 : PySem.W.nsIn K mainGlobals "range" = some none) (z9 : PySem.W.nsIn K mainGlobals "repr" = some none) (z10 : PySem.W.nsIn K mainGlobals "sorted" = some none) (z11 : PySem.W.nsIn K mainGlobals "tuple" = some none) :
    ∃ fd : FuncData, (∀ (s : Shared) (v : Value), BindsTo s fd ⟨[v], []⟩ [("script", v)]) ∧ ∀ base : Heap, K.In base → base.Ns mainGlobals mg → FnG l.prog w K mg base CX0 7 fa fd ["script"] (spD K 1 R_law) := by
  have e := hfa.symm.trans (PySem.W.mg_of X G a1)
  cases e
  have D2 : Df K mg "out" sout ["network", "row"] := ⟨f2, _, fun_mk (st := sout) l2 c2 k2, .all fun us hl => match us, hl with | [_, _], _ => rfl, PySem.W.mg_of X G a2⟩
  have D3 : Df K mg "came" scame ["network", "row"] := ⟨f3, _, fun_mk (st := scame) l3 c3 k3, .all fun us hl => match us, hl with | [_, _], _ => rfl, PySem.W.mg_of X G a3⟩
  have D4 : Df K mg "exchanged" sexchanged ["network", "row"] := ⟨f4, _, fun_mk (st := sexchanged) l4 c4 k4, .all fun us hl => match us, hl with | [_, _], _ => rfl, PySem.W.mg_of X G a4⟩
  have D5 : Df K mg "_run" s_run ["network", "row"] := ⟨f5, _, fun_mk (st := s_run) l5 c5 k5, .all fun us hl => match us, hl with | [_, _], _ => rfl, PySem.W.mg_of X G a5⟩
  have D6 : Df K mg "descending" sdescending ["n"] := ⟨f6, _, fun_mk (st := sdescending) l6 c6 k6, .all fun us hl => match us, hl with | [_], _ => rfl, PySem.W.mg_of X G a6⟩
  have D7 : Df K mg "at_work" sat_work ["n", "network"] := ⟨f7, _, fun_mk (st := sat_work) l7 c7 k7, .all fun us hl => match us, hl with | [_, _], _ => rfl, PySem.W.mg_of X G a7⟩
  have D8 : Df K mg "is_far" sis_far ["gate"] := ⟨f8, _, fun_mk (st := sis_far) l8 c8 k8, .all fun us hl => match us, hl with | [_], _ => rfl, PySem.W.mg_of X G a8⟩
  have D9 : Df K mg "first_far" sfirst_far ["network", "spots"] := ⟨f9, _, fun_mk (st := sfirst_far) l9 c9 k9, .all fun us hl => match us, hl with | [_, _], _ => rfl, PySem.W.mg_of X G a9⟩
  have D10 : Df K mg "image" simage ["n", "network"] := ⟨f10, _, fun_mk (st := simage) l10 c10 k10, .all fun us hl => match us, hl with | [_, _], _ => rfl, PySem.W.mg_of X G a10⟩
  have D11 : Df K mg "keeps_all" skeeps_all ["n", "network"] := ⟨f11, _, fun_mk (st := skeeps_all) l11 c11 k11, .all fun us hl => match us, hl with | [_, _], _ => rfl, PySem.W.mg_of X G a11⟩
  have D12 : Df K mg "kept_all_gates" skept_all_gates ["n", "network"] := ⟨f12, _, fun_mk (st := skept_all_gates) l12 c12 k12, .all fun us hl => match us, hl with | [_, _], _ => rfl, PySem.W.mg_of X G a12⟩
  have D13 : Df K mg "word_lanes" sword_lanes ["n", "words"] := ⟨f13, _, fun_mk (st := sword_lanes) l13 c13 k13, .all fun us hl => match us, hl with | [_, _], _ => rfl, PySem.W.mg_of X G a13⟩
  have D14 : Df K mg "run_lanes" srun_lanes ["network", "lanes"] := ⟨f14, _, fun_mk (st := srun_lanes) l14 c14 k14, .all fun us hl => match us, hl with | [_, _], _ => rfl, PySem.W.mg_of X G a14⟩
  have D15 : Df K mg "first_told" sfirst_told ["words", "told"] := ⟨f15, _, fun_mk (st := sfirst_told) l15 c15 k15, .all fun us hl => match us, hl with | [_, _], _ => rfl, PySem.W.mg_of X G a15⟩
  have D16 : Df K mg "let_words" slet_words ["n", "order"] := ⟨f16, _, fun_mk (st := slet_words) l16 c16 k16, .all fun us hl => match us, hl with | [_, _], _ => rfl, PySem.W.mg_of X G a16⟩
  have D17 : Df K mg "let_rows" slet_rows ["order", "choices"] := ⟨f17, _, fun_mk (st := slet_rows) l17 c17 k17, .all fun us hl => match us, hl with | [_, _], _ => rfl, PySem.W.mg_of X G a17⟩
  have D18 : Df K mg "_let_keys" s_let_keys ["row", "below", "keys"] := ⟨f18, _, fun_mk (st := s_let_keys) l18 c18 k18, .all fun us hl => match us, hl with | [_, _, _], _ => rfl, PySem.W.mg_of X G a18⟩
  have D19 : Df K mg "unlike_word" sunlike_word ["n", "order", "one", "other"] := ⟨f19, _, fun_mk (st := sunlike_word) l19 c19 k19, .all fun us hl => match us, hl with | [_, _, _, _], _ => rfl, PySem.W.mg_of X G a19⟩
  have D20 : Df K mg "least_network" sleast_network ["n", "network"] := ⟨f20, _, fun_mk (st := sleast_network) l20 c20 k20, .all fun us hl => match us, hl with | [_, _], _ => rfl, PySem.W.mg_of X G a20⟩
  have D21 : Df K mg "mended" smended ["n", "network"] := ⟨f21, _, fun_mk (st := smended) l21 c21 k21, .all fun us hl => match us, hl with | [_, _], _ => rfl, PySem.W.mg_of X G a21⟩
  have D22 : Df K mg "_near_network" s_near_network ["keys"] := ⟨f22, _, fun_mk (st := s_near_network) l22 c22 k22, .all fun us hl => match us, hl with | [_], _ => rfl, PySem.W.mg_of X G a22⟩
  have D23 : Df K mg "_law_loom" s_law_loom ["script"] := ⟨f23, _, fun_mk (st := s_law_loom) l23 c23 k23, .all fun us hl => match us, hl with | [_], _ => rfl, PySem.W.mg_of X G a23⟩
  have D24 : Df K mg "_law_draw" s_law_draw ["loom", "many"] := ⟨f24, _, fun_mk (st := s_law_draw) l24 c24 k24, .all fun us hl => match us, hl with | [_, _], _ => rfl, PySem.W.mg_of X G a24⟩
  have D25 : Df K mg "_law_pick" s_law_pick ["loom", "things"] := ⟨f25, _, fun_mk (st := s_law_pick) l25 c25 k25, .all fun us hl => match us, hl with | [_, _], _ => rfl, PySem.W.mg_of X G a25⟩
  have D26 : Df K mg "_law_mixed" s_law_mixed ["loom", "things"] := ⟨f26, _, fun_mk (st := s_law_mixed) l26 c26 k26, .all fun us hl => match us, hl with | [_, _], _ => rfl, PySem.W.mg_of X G a26⟩
  have D27 : Df K mg "_law_run" s_law_run ["gates", "keys"] := ⟨f27, _, fun_mk (st := s_law_run) l27 c27 k27, .all fun us hl => match us, hl with | [_, _], _ => rfl, PySem.W.mg_of X G a27⟩
  have D28 : Df K mg "_law_end" s_law_end ["wide", "gates"] := ⟨f28, _, fun_mk (st := s_law_end) l28 c28 k28, .all fun us hl => match us, hl with | [_, _], _ => rfl, PySem.W.mg_of X G a28⟩
  have D29 : Df K mg "_law_gate" s_law_gate ["loom", "wide", "is_near"] := ⟨f29, _, fun_mk (st := s_law_gate) l29 c29 k29, .all fun us hl => match us, hl with | [_, _, _], _ => rfl, PySem.W.mg_of X G a29⟩
  have D30 : Df K mg "_law_kept" s_law_kept ["loom", "wide", "many"] := ⟨f30, _, fun_mk (st := s_law_kept) l30 c30 k30, .all fun us hl => match us, hl with | [_, _, _], _ => rfl, PySem.W.mg_of X G a30⟩
  have D31 : Df K mg "_law_weak" s_law_weak ["wide"] := ⟨f31, _, fun_mk (st := s_law_weak) l31 c31 k31, .all fun us hl => match us, hl with | [_], _ => rfl, PySem.W.mg_of X G a31⟩
  have D32 : Df K mg "_law_keys" s_law_keys ["loom", "wide"] := ⟨f32, _, fun_mk (st := s_law_keys) l32 c32 k32, .all fun us hl => match us, hl with | [_, _], _ => rfl, PySem.W.mg_of X G a32⟩
  have D33 : Df K mg "_law_back" s_law_back ["wide", "keys"] := ⟨f33, _, fun_mk (st := s_law_back) l33 c33 k33, .all fun us hl => match us, hl with | [_, _], _ => rfl, PySem.W.mg_of X G a33⟩
  have D34 : Df K mg "_law_mate" s_law_mate ["loom", "wide", "gates"] := ⟨f34, _, fun_mk (st := s_law_mate) l34 c34 k34, .all fun us hl => match us, hl with | [_, _, _], _ => rfl, PySem.W.mg_of X G a34⟩
  have D35 : Df K mg "_law_rows" s_law_rows ["loom", "wide"] := ⟨f35, _, fun_mk (st := s_law_rows) l35 c35 k35, .all fun us hl => match us, hl with | [_, _], _ => rfl, PySem.W.mg_of X G a35⟩
  have D36 : Df K mg "_law_are_alike" s_law_are_alike ["loom", "wide", "gates", "others"] := ⟨f36, _, fun_mk (st := s_law_are_alike) l36 c36 k36, .all fun us hl => match us, hl with | [_, _, _, _], _ => rfl, PySem.W.mg_of X G a36⟩
  have D37 : Df K mg "_law_are_left" s_law_are_left ["wide", "gates"] := ⟨f37, _, fun_mk (st := s_law_are_left) l37 c37 k37, .all fun us hl => match us, hl with | [_, _], _ => rfl, PySem.W.mg_of X G a37⟩
  have B : Bi mg := ⟨PySem.W.mg_none_of X G z1, PySem.W.mg_none_of X G z2, PySem.W.mg_none_of X G z3, PySem.W.mg_none_of X G z4, PySem.W.mg_none_of X G z5, PySem.W.mg_none_of X G z6, PySem.W.mg_none_of X G z7, PySem.W.mg_none_of X G z8, PySem.W.mg_none_of X G z9, PySem.W.mg_none_of X G z10, PySem.W.mg_none_of X G z11⟩
  refine ⟨PySem.W.fnOf "law" "law" (defArgs slaw) (defBody slaw) (defScope slaw) .none kV1 dc1 pm1 an1 cd1 ct1, fun s v => .of_eq rfl, fun base hK hN => ?_⟩
  have eTiesError : ErrC K mg "TiesError" ATiesError := ⟨PySem.W.mg_of X G xmTiesError, xkTiesError, xeTiesError, xtTiesError, xhTiesError, xgaTiesError, xggTiesError, xclTiesError, xsn, xtk, xmoTiesError, xownTiesError⟩
  have eUnfit : ErrC K mg "Unfit" AUnfit := ⟨PySem.W.mg_of X G xmUnfit, xkUnfit, xeUnfit, xtUnfit, xhUnfit, xgaUnfit, xggUnfit, xclUnfit, xsn, xtk, xmoUnfit, xownUnfit⟩
  have eUnmendable : ErrC K mg "Unmendable" AUnmendable := ⟨PySem.W.mg_of X G xmUnmendable, xkUnmendable, xeUnmendable, xtUnmendable, xhUnmendable, xgaUnmendable, xggUnmendable, xclUnmendable, xsn, xtk, xmoUnmendable, xownUnmendable⟩
  have Cc : Cls K mg := {
    aTiesError := ATiesError,
    eTiesError := eTiesError,
    aUnfit := AUnfit,
    eUnfit := eUnfit,
    aUnmendable := AUnmendable,
    eUnmendable := eUnmendable,
    qUnfit := xqUnfit,
    oUnmendable := ⟨⟨nmUnmendable, qUnmendable, NUnmendable, bsUnmendable, _, snUnmendable, subUnmendable, abUnmendable, colUnmendable, ddUnmendable, m0Unmendable, m1Unmendable, m2Unmendable, m3Unmendable, m5Unmendable, xLUnmendable, (show PySem.HandSPX.refsVE [.type "ValueError", .type "Exception", .type "BaseException", .type "object"] = true by decide +kernel)⟩, xsaUnmendable, xeUnmendable, xtUnmendable, xkUnmendable⟩,
    fUnmendable := fUnmendable,
    fdUnmendable := _,
    iUnmendable := xiUnmendable,
    tUnmendable := xtiUnmendable,
    FUnmendable := fun_mk (st := sIUnmendable) xlUnmendable xcUnmendable xkiUnmendable,
    bUnmendable := .all fun us hl => match us, hl with | [_, _], _ => rfl,
    noUnmendable_word := xnoUnmendable,
    gB := xgB,
    rB := xrB,
    vB := xvB,
    kUnfit := kit_own xtTiesError xhTiesError xkitUnfit,
    sUnfit_Unmendable := xsUnfit_Unmendable,
    kUnmendable := kit_own xtTiesError xhTiesError xkitUnmendable,
    sUnmendable_Unfit := xsUnmendable_Unfit }
  exact oklaw ⟨_, _, fun_mk (st := slaw) l1 c1 k1, .all fun us hl => match us, hl with | [_], _ => rfl, PySem.W.mg_of X G a1⟩ B Cc D2 D3 D4 D5 D6 D7 D8 D9 D10 D11 D12 D13 D14 D15 D16 D17 D18 D19 D20 D21 D22 D23 D24 D25 D26 D27 D28 D29 D30 D31 D32 D33 D34 D35 D36 D37
theorem law_start {K : PySem.W.Frag} {H : Hp} {a : Addr} {ns : List Int} (hS : SqL K H a (ns.map V.int)) :  spD K 1 R_law [.ref a] H (fun v _ => v = .bl true) fun _ _ _ => False := by
  refine ⟨rfl, H, [], [.scr ns], [], .dat (.bool true), [], ⟨Same.refl _, rfl, fun k a o e => by simp at e, by simp, fun a h => by simp at h, fun k p o e => by simp at e, fun a z => z, fun k p ds e => by simp at e⟩, fun o h => by simp at h, .cons ⟨a, rfl, hS⟩ .nil, ⟨ns, rfl, rfl, rfl, rfl⟩, fun v Hf' H' fp' _ _ rv => ?_⟩
  cases rv
  rfl
theorem walk {l : PySem.W.OpenLaw} {q : Program} {loose : List Str} {XP : (Str → Option Value) → Heap → Prop} {YP : World → Heap → Prop} {d : DefRec} {K : Params → PySem.W.Frag} (hn : l.most = some 63) (hdf : d.params.defaults = [])
    (hY : ∀ (w : World) (h : Heap), YP w h → (K w.params).In h)
    (F : ∀ (w : World) (mg : Str → Option Value) (fa : Addr) (h : Heap), (K w.params).In h → h.Ns mainGlobals mg → mg d.name = some (.ref fa) →
      ∃ fd : FuncData, (∀ (s : Shared) (u : Value), BindsTo s fd ⟨[u], []⟩ [("script", u)]) ∧ ∀ base : Heap, (K w.params).In base → base.Ns mainGlobals mg → FnG l.prog w (K w.params) mg base CX0 7 fa fd ["script"] (spD (K w.params) 1 R_law)) :
    PySem.W.WalkO q loose XP YP l.row.toRowW d [] (fun f vs => PySem.call f vs) :=
  walk_ofG (n := 63) (k := 7) (x := "script") (CX := fun _ => CX0) (sp := fun w => spD (K w.params) 1 R_law) hn (by decide) hdf ⟨rfl, by decide, by decide⟩ hY F (fun _ _ a ns hl _ hS => law_start hS) fun _ _ _ _ _ z => z
end K33
open PySem PySem.W PyProof.Rows
set_option maxRecDepth 100000 in
set_option maxHeartbeats 0 in
theorem PySem.Challenge.cw_tieskept_k33_whole_one_image_tells_all_holds : PySem.Challenge.rw_tieskept_k33_whole_one_image_tells_all.Holds := by
  w_on; o_law; k_head; (case hw => w_witness2)
  k_fill
  refine K33.walk (l := PySem.Challenge.rw_tieskept_k33_whole_one_image_tells_all) rfl rfl (fun w h Y => PySem.W.kIn_of Y) ?F
  case F =>
    intro w mg fa h KX G hmg
    refine' K33.all_mk KX G hmg ?a1 ?l1 ?c1 ?k1 ?a2 ?l2 ?c2 ?k2 ?a3 ?l3 ?c3 ?k3 ?a4 ?l4 ?c4 ?k4 ?a5 ?l5 ?c5 ?k5 ?a6 ?l6 ?c6 ?k6 ?a7 ?l7 ?c7 ?k7 ?a8 ?l8 ?c8 ?k8 ?a9 ?l9 ?c9 ?k9 ?a10 ?l10 ?c10 ?k10 ?a11 ?l11 ?c11 ?k11 ?a12 ?l12 ?c12 ?k12 ?a13 ?l13 ?c13 ?k13 ?a14 ?l14 ?c14 ?k14 ?a15 ?l15 ?c15 ?k15 ?a16 ?l16 ?c16 ?k16 ?a17 ?l17 ?c17 ?k17 ?a18 ?l18 ?c18 ?k18 ?a19 ?l19 ?c19 ?k19 ?a20 ?l20 ?c20 ?k20 ?a21 ?l21 ?c21 ?k21 ?a22 ?l22 ?c22 ?k22 ?a23 ?l23 ?c23 ?k23 ?a24 ?l24 ?c24 ?k24 ?a25 ?l25 ?c25 ?k25 ?a26 ?l26 ?c26 ?k26 ?a27 ?l27 ?c27 ?k27 ?a28 ?l28 ?c28 ?k28 ?a29 ?l29 ?c29 ?k29 ?a30 ?l30 ?c30 ?k30 ?a31 ?l31 ?c31 ?k31 ?a32 ?l32 ?c32 ?k32 ?a33 ?l33 ?c33 ?k33 ?a34 ?l34 ?c34 ?k34 ?a35 ?l35 ?c35 ?k35 ?a36 ?l36 ?c36 ?k36 ?a37 ?l37 ?c37 ?k37 ?xsn ?xtk ?xmTiesError ?xkTiesError ?xeTiesError ?xtTiesError ?xhTiesError ?xgaTiesError ?xggTiesError ?xclTiesError ?xmoTiesError ?xownTiesError ?xmUnfit ?xkUnfit ?xeUnfit ?xtUnfit ?xhUnfit ?xgaUnfit ?xggUnfit ?xclUnfit ?xmoUnfit ?xownUnfit ?xmUnmendable ?xkUnmendable ?xeUnmendable ?xtUnmendable ?xhUnmendable ?xgaUnmendable ?xggUnmendable ?xclUnmendable ?xmoUnmendable ?xownUnmendable ?xqUnfit ?xLUnmendable ?xsaUnmendable ?xiUnmendable ?xtiUnmendable ?xlUnmendable ?xcUnmendable ?xkiUnmendable ?xnoUnmendable ?xgB ?xrB ?xvB ?xkitUnfit ?xsUnfit_Unmendable ?xkitUnmendable ?xsUnmendable_Unfit ?z1 ?z2 ?z3 ?z4 ?z5 ?z6 ?z7 ?z8 ?z9 ?z10 ?z11
    (case xsn => k_is)
    (case xtk => k_is)
    (case xmTiesError => k_is)
    (case xkTiesError => k_is)
    (case xeTiesError => k_is)
    (case xtTiesError => k_is)
    (case xhTiesError => k_is)
    (case xgaTiesError => k_is)
    (case xggTiesError => k_is)
    (case xclTiesError => k_is)
    (case xmoTiesError => k_is)
    (case xownTiesError => k_is)
    (case xmUnfit => k_is)
    (case xkUnfit => k_is)
    (case xeUnfit => k_is)
    (case xtUnfit => k_is)
    (case xhUnfit => k_is)
    (case xgaUnfit => k_is)
    (case xggUnfit => k_is)
    (case xclUnfit => k_is)
    (case xmoUnfit => k_is)
    (case xownUnfit => k_is)
    (case xmUnmendable => k_is)
    (case xkUnmendable => k_is)
    (case xeUnmendable => k_is)
    (case xtUnmendable => k_is)
    (case xhUnmendable => k_is)
    (case xgaUnmendable => k_is)
    (case xggUnmendable => k_is)
    (case xclUnmendable => k_is)
    (case xmoUnmendable => k_is)
    (case xownUnmendable => k_is)
    (case xqUnfit => k_exc)
    (case xLUnmendable => k_is)
    (case xsaUnmendable => k_is)
    (case xiUnmendable => k_is)
    (case xtiUnmendable => k_is)
    (case xlUnmendable => k_is)
    (case xcUnmendable => k_is)
    (case xkiUnmendable => k_is)
    (case xnoUnmendable => k_is)
    (case xgB => k_is)
    (case xrB => k_is)
    (case xvB => k_is)
    (case xkitUnfit => k_is)
    (case xsUnfit_Unmendable => k_is)
    (case xkitUnmendable => k_is)
    (case xsUnmendable_Unfit => k_is)
    (case a1 => k_is); (case l1 => k_is); (case c1 => k_is); (case k1 => k_is)
    (case a2 => k_is); (case l2 => k_is); (case c2 => k_is); (case k2 => k_is)
    (case a3 => k_is); (case l3 => k_is); (case c3 => k_is); (case k3 => k_is)
    (case a4 => k_is); (case l4 => k_is); (case c4 => k_is); (case k4 => k_is)
    (case a5 => k_is); (case l5 => k_is); (case c5 => k_is); (case k5 => k_is)
    (case a6 => k_is); (case l6 => k_is); (case c6 => k_is); (case k6 => k_is)
    (case a7 => k_is); (case l7 => k_is); (case c7 => k_is); (case k7 => k_is)
    (case a8 => k_is); (case l8 => k_is); (case c8 => k_is); (case k8 => k_is)
    (case a9 => k_is); (case l9 => k_is); (case c9 => k_is); (case k9 => k_is)
    (case a10 => k_is); (case l10 => k_is); (case c10 => k_is); (case k10 => k_is)
    (case a11 => k_is); (case l11 => k_is); (case c11 => k_is); (case k11 => k_is)
    (case a12 => k_is); (case l12 => k_is); (case c12 => k_is); (case k12 => k_is)
    (case a13 => k_is); (case l13 => k_is); (case c13 => k_is); (case k13 => k_is)
    (case a14 => k_is); (case l14 => k_is); (case c14 => k_is); (case k14 => k_is)
    (case a15 => k_is); (case l15 => k_is); (case c15 => k_is); (case k15 => k_is)
    (case a16 => k_is); (case l16 => k_is); (case c16 => k_is); (case k16 => k_is)
    (case a17 => k_is); (case l17 => k_is); (case c17 => k_is); (case k17 => k_is)
    (case a18 => k_is); (case l18 => k_is); (case c18 => k_is); (case k18 => k_is)
    (case a19 => k_is); (case l19 => k_is); (case c19 => k_is); (case k19 => k_is)
    (case a20 => k_is); (case l20 => k_is); (case c20 => k_is); (case k20 => k_is)
    (case a21 => k_is); (case l21 => k_is); (case c21 => k_is); (case k21 => k_is)
    (case a22 => k_is); (case l22 => k_is); (case c22 => k_is); (case k22 => k_is)
    (case a23 => k_is); (case l23 => k_is); (case c23 => k_is); (case k23 => k_is)
    (case a24 => k_is); (case l24 => k_is); (case c24 => k_is); (case k24 => k_is)
    (case a25 => k_is); (case l25 => k_is); (case c25 => k_is); (case k25 => k_is)
    (case a26 => k_is); (case l26 => k_is); (case c26 => k_is); (case k26 => k_is)
    (case a27 => k_is); (case l27 => k_is); (case c27 => k_is); (case k27 => k_is)
    (case a28 => k_is); (case l28 => k_is); (case c28 => k_is); (case k28 => k_is)
    (case a29 => k_is); (case l29 => k_is); (case c29 => k_is); (case k29 => k_is)
    (case a30 => k_is); (case l30 => k_is); (case c30 => k_is); (case k30 => k_is)
    (case a31 => k_is); (case l31 => k_is); (case c31 => k_is); (case k31 => k_is)
    (case a32 => k_is); (case l32 => k_is); (case c32 => k_is); (case k32 => k_is)
    (case a33 => k_is); (case l33 => k_is); (case c33 => k_is); (case k33 => k_is)
    (case a34 => k_is); (case l34 => k_is); (case c34 => k_is); (case k34 => k_is)
    (case a35 => k_is); (case l35 => k_is); (case c35 => k_is); (case k35 => k_is)
    (case a36 => k_is); (case l36 => k_is); (case c36 => k_is); (case k36 => k_is)
    (case a37 => k_is); (case l37 => k_is); (case c37 => k_is); (case k37 => k_is)
    (case z1 => k_is); (case z2 => k_is); (case z3 => k_is); (case z4 => k_is); (case z5 => k_is); (case z6 => k_is); (case z7 => k_is); (case z8 => k_is); (case z9 => k_is); (case z10 => k_is); (case z11 => k_is)
