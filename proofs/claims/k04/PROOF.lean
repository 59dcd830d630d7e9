import PyProof.Rows.All
import Wide.All
import OpenK.AllK
import Wide.FinOn
import HandS.ForMost
import HandS.Walk
import HandS.IsInst
import HandS.TupAny
import HandS.TupLe
import HandS.Style
import HandS.Flow
import HandS.Wide
import HandS.Conv
import HandS.Lambda
import HandS.TupMul
import HandS.SortInts
import HandS.Zip
import HandS.NoneIn
import KE.GoesMore
import KE.KRevSl
import HandS.RaiseMore
import HandS.SetFor
import HandS.Strs
import PyProof.FactsAll.subtypes_4
import KE.DataMinMax
import KE.OsArith
import HandS.WideBits
import HandS.Rev
import HandS.Sort
import HandS.SortKw
import HandS.List
import HandS.Deep
import HandS.ReCall
import HandS.TupSets
import HandS.SortRule
import HandS.ExcValue
import KE.SortKeyHeap
import KE.SortData
import HandS.EndTab
import HandS.NestedK
import PySem.Challenge.RW_tieskept_k04_whole_rows_that_are_let
set_option Elab.async false
set_option linter.all false
set_option maxRecDepth 100000
set_option maxHeartbeats 1000000
/-! DL: a logic over data for the hand layer: values are read as data (PyData), a state is a list of slots and of own objects; no heap is seen in it. -/
namespace DL
open PySem PySem.Spec PyProof.Rows L2

/-! ### data that stands in a heap and is not changed any more -/
mutual
inductive Rp (K : PySem.W.Frag) (H : Hp) : V → PyData → Prop
  | non : Rp K H .non .none
  | bl (b : Bool) : Rp K H (.bl b) (.bool b)
  | int (i : Int) : Rp K H (.int i) (.int i)
  | str (x : Str) : Rp K H (.str x) (.str x)
  | lst {a : Addr} {xs : List V} {ds : List PyData} (h : H a = some (.lst xs)) (r : RpA K H xs ds) : Rp K H (.ref a) (.list ds)
  | tup {a : Addr} {xs : List V} {ds : List PyData} (h : SqT K H a xs) (r : RpA K H xs ds) : Rp K H (.ref a) (.tuple ds)
  | emp {a : Addr} (h : H a = some (.dK [])) : Rp K H (.ref a) (.dict [])
inductive RpA (K : PySem.W.Frag) (H : Hp) : List V → List PyData → Prop
  | nil : RpA K H [] []
  | cons {v : V} {vs : List V} {d : PyData} {ds : List PyData} (h : Rp K H v d) (t : RpA K H vs ds) : RpA K H (v :: vs) (d :: ds)
end
section
variable {K : PySem.W.Frag} {H H' : Hp}
theorem sameT {a : Addr} {xs : List V} (e : Same H H') (h : SqT K H a xs) : SqT K H' a xs := by
  rcases h with (h | ⟨o, h⟩) | h
  · exact .inl (.inl (e _ _ h))
  · exact .inl (.inr ⟨o, e _ _ h⟩)
  · exact .inr h
mutual
theorem Rp.mono (e : Same H H') : ∀ {v : V} {d : PyData}, Rp K H v d → Rp K H' v d
  | _, _, .non => .non
  | _, _, .bl b => .bl b
  | _, _, .int i => .int i
  | _, _, .str x => .str x
  | _, _, .lst h r => .lst (e _ _ h) (RpA.mono e r)
  | _, _, .tup h r => .tup (sameT e h) (RpA.mono e r)
  | _, _, .emp h => .emp (e _ _ h)
theorem RpA.mono (e : Same H H') : ∀ {vs : List V} {ds : List PyData}, RpA K H vs ds → RpA K H' vs ds
  | _, _, .nil => .nil
  | _, _, .cons h t => .cons (Rp.mono e h) (RpA.mono e t)
end
theorem RpA.len : ∀ {vs : List V} {ds : List PyData}, RpA K H vs ds → vs.length = ds.length
  | _, _, .nil => rfl
  | _, _, .cons _ t => by rw [List.length_cons, List.length_cons, RpA.len t]
theorem RpA.get : ∀ {vs : List V} {ds : List PyData} {i : Nat} {d : PyData}, RpA K H vs ds → ds[i]? = some d → ∃ v, vs[i]? = some v ∧ Rp K H v d
  | _, _, _, _, .nil, e => by simp at e
  | _, _, 0, _, .cons h _, e => by
    simp at e
    exact ⟨_, rfl, e ▸ h⟩
  | _, _, i + 1, _, .cons _ t, e => by
    obtain ⟨v, h1, h2⟩ := RpA.get (i := i) t (by simpa using e)
    exact ⟨v, by simpa using h1, h2⟩
theorem RpA.got : ∀ {vs : List V} {ds : List PyData} {i : Nat} {v : V}, RpA K H vs ds → vs[i]? = some v → ∃ d, ds[i]? = some d ∧ Rp K H v d
  | _, _, _, _, .nil, e => by simp at e
  | _, _, 0, _, .cons h _, e => by
    simp at e
    exact ⟨_, rfl, e ▸ h⟩
  | _, _, i + 1, _, .cons _ t, e => by
    obtain ⟨v, h1, h2⟩ := RpA.got (i := i) t (by simpa using e)
    exact ⟨v, by simpa using h1, h2⟩
theorem RpA.append : ∀ {vs us : List V} {ds es : List PyData}, RpA K H vs ds → RpA K H us es → RpA K H (vs ++ us) (ds ++ es)
  | _, _, _, _, .nil, s => s
  | _, _, _, _, .cons h t, s => .cons h (RpA.append t s)
theorem RpA.take : ∀ {vs : List V} {ds : List PyData} (n : Nat), RpA K H vs ds → RpA K H (vs.take n) (ds.take n)
  | _, _, 0, _ => .nil
  | _, _, _ + 1, .nil => .nil
  | _, _, n + 1, .cons h t => .cons h (RpA.take n t)
theorem RpA.drop : ∀ {vs : List V} {ds : List PyData} (n : Nat), RpA K H vs ds → RpA K H (vs.drop n) (ds.drop n)
  | _, _, 0, r => r
  | _, _, _ + 1, .nil => .nil
  | _, _, n + 1, .cons _ t => RpA.drop n t
theorem RpA.set {v : V} {d : PyData} (h : Rp K H v d) : ∀ {vs : List V} {ds : List PyData} (i : Nat), RpA K H vs ds → RpA K H (vs.set i v) (ds.set i d)
  | _, _, _, .nil => .nil
  | _, _, 0, .cons _ t => .cons h t
  | _, _, i + 1, .cons g t => .cons g (RpA.set h i t)
theorem RpA.reverse : ∀ {vs : List V} {ds : List PyData}, RpA K H vs ds → RpA K H vs.reverse ds.reverse
  | _, _, .nil => .nil
  | _, _, .cons h t => by
    rw [List.reverse_cons, List.reverse_cons]
    exact (RpA.reverse t).append (.cons h .nil)
theorem RpA.ints : ∀ ns : List Int, RpA K H (ns.map V.int) (ns.map PyData.int)
  | [] => .nil
  | n :: r => .cons (.int n) (RpA.ints r)
theorem RpA.ints_inv : ∀ {ns : List Int} {vs : List V}, RpA K H vs (ns.map PyData.int) → vs = ns.map V.int
  | [], _, .nil => rfl
  | n :: r, _, .cons h t => by
    cases h
    rw [RpA.ints_inv t]
    rfl
end

/-! ### own objects: lists that may still grow, the law's well -/
inductive OO where
  | gone
  | lst (ds : List PyData)
  | lstP (ds : List PyData)
  | well (deep : List Int) (stirred turns : Int)
  | dic (f : Int → Option Int) (n : Nat)
  | raw (a : Addr) (o : HO)
  | dtt (kv : List (List Int × PyData))
  | dpp (e : Addr → List (Addr × Int × Int) → Heap → Prop) (ks : List (Int × Int))
  | dpr (e : Addr → List (Addr × List Int) → Heap → Prop) (ks : List (List Int))
  | tab (P : Addr) (q : Str)
abbrev kD : Key := Sum.inr "deep"
abbrev kS : Key := Sum.inr "stirred"
abbrev kT : Key := Sum.inr "turns"
def wellK (l : Addr) (s t : Int) : List (Key × V) := [(kD, V.ref l), (kS, V.int s), (kT, V.int t)]
/-- a dict whose keys are tuples of numbers: its rows and what they are read as -/
abbrev KvR (K : PySem.W.Frag) (Hf : Hp) : List (List Key × V) → List (List Int × PyData) → Prop := Paired fun p q => p.1 = q.1.map Sum.inl ∧ Rp K Hf p.2 q.2
def OOk (K : PySem.W.Frag) (Hf H : Hp) (fp : List Addr) : OO → Prop
  | .gone => True
  | .lst ds => ∃ a xs, fp = [a] ∧ H a = some (.lst xs) ∧ RpA K Hf xs ds
  | .lstP ds => ∃ a xs, fp = [a] ∧ H a = some (.lst xs) ∧ RpA K Hf xs ds
  | .well d s t => ∃ a l, fp = [a, l] ∧ H a = some (.dK (wellK l s t)) ∧ H l = some (.lst (d.map V.int))
  | .dic f n => ∃ a kvs, fp = [a] ∧ H a = some (.dK kvs) ∧ kvs.length ≤ n ∧ ∀ k : Int, valV kvs (Sum.inl k) = (f k).map V.int
  | .raw a o => fp = [a] ∧ H a = some o
  | .dtt kv => ∃ a kvs, fp = [a] ∧ H a = some (.dT kvs) ∧ KvR K Hf kvs kv
  | .dpp e ks => ∃ a ps, fp = [a] ∧ H a = some (.ext (e a ps)) ∧ (∀ z, z ∈ ps.map (·.2) ↔ z ∈ ks) ∧ ps.length ≤ ks.length ∧ ∀ p ∈ ps, SqT K Hf p.1 [.int p.2.1, .int p.2.2]
  | .dpr e ks => ∃ a ps, fp = [a] ∧ H a = some (.ext (e a ps)) ∧ ps.map (·.2) = ks ∧ ∀ p ∈ ps, SqT K Hf p.1 (p.2.map V.int)
  | .tab P q => ∃ ps : Array Value, fp = [P] ∧ H P = some (.tbl ps) ∧ TriplesOk ps.toList ∧ ∀ (pos : Pos) (cv : Value), codeAmong pos ps.toList = some cv → ∃ c, cv = .ref c ∧ Hf c = some (LamX.CodeO c q)
theorem OOk.mono {K : PySem.W.Frag} {Hf Hf' H H' : Hp} {fp : List Addr} {o : OO} (h : OOk K Hf H fp o) (e : Same Hf Hf') (k : ∀ a ∈ fp, H' a = H a) : OOk K Hf' H' fp o := by
  cases o with
  | gone => trivial
  | lst ds =>
    obtain ⟨a, xs, rfl, h1, h2⟩ := h
    exact ⟨a, xs, rfl, by rw [k a (by simp)]; exact h1, h2.mono e⟩
  | lstP ds =>
    obtain ⟨a, xs, rfl, h1, h2⟩ := h
    exact ⟨a, xs, rfl, by rw [k a (by simp)]; exact h1, h2.mono e⟩
  | well d s t =>
    obtain ⟨a, l, rfl, h1, h2⟩ := h
    exact ⟨a, l, rfl, by rw [k a (by simp)]; exact h1, by rw [k l (by simp)]; exact h2⟩
  | dic f n =>
    obtain ⟨a, kvs, rfl, h1, h2, h3⟩ := h
    exact ⟨a, kvs, rfl, by rw [k a (by simp)]; exact h1, h2, h3⟩
  | raw a o =>
    obtain ⟨rfl, h1⟩ := h
    exact ⟨rfl, by rw [k a (by simp)]; exact h1⟩
  | dtt kv =>
    obtain ⟨a, kvs, rfl, h1, h2⟩ := h
    exact ⟨a, kvs, rfl, by rw [k a (by simp)]; exact h1, Paired.mapP h2 fun _ _ z => ⟨z.1, z.2.mono e⟩⟩
  | dpp g ks =>
    obtain ⟨a, ps, rfl, h1, h2, h4, h3⟩ := h
    exact ⟨a, ps, rfl, by rw [k a (by simp)]; exact h1, h2, h4, fun p hp => sameT e (h3 p hp)⟩
  | dpr g ks =>
    obtain ⟨a, ps, rfl, h1, h2, h3⟩ := h
    exact ⟨a, ps, rfl, by rw [k a (by simp)]; exact h1, h2, fun p hp => sameT e (h3 p hp)⟩
  | tab P q =>
    obtain ⟨ps, rfl, h1, h2, h3⟩ := h
    exact ⟨ps, rfl, by rw [k P (by simp)]; exact h1, h2, fun pos cv z => by
      obtain ⟨c, z1, z2⟩ := h3 pos cv z
      exact ⟨c, z1, e _ _ z2⟩⟩

/-- what a slot, a value is known to be: nothing, data, the k-th own object -/
inductive SD where
  | un
  | dat (d : PyData)
  | own (k : Nat)
  | scr (ns : List Int)
  | rng (lo hi : Int)
  | lown (ks : List Nat)
  | tx (ns : List Int)
  | tq (d1 : PyData) (ns : List Int) (d3 : PyData)
  | no
def SRl (K : PySem.W.Frag) (Hf : Hp) (fp : List (List Addr)) : Option V → SD → Prop
  | _, .un => True
  | some v, .dat d => Rp K Hf v d
  | some v, .own k => ∃ a r, fp[k]? = some (a :: r) ∧ v = .ref a
  | some v, .scr ns => ∃ a, v = .ref a ∧ SqL K Hf a (ns.map V.int)
  | some v, .rng lo hi => ∃ a, v = .ref a ∧ Hf a = some (.rng lo hi)
  | some v, .lown ks => ∃ a xs, v = .ref a ∧ Hf a = some (.lst xs) ∧ xs.length = ks.length ∧ ∀ (i k : Nat) (x : V), ks[i]? = some k → xs[i]? = some x → ∃ b r, fp[k]? = some (b :: r) ∧ x = V.ref b
  | some v, .tx ns => ∃ a o, v = .ref a ∧ Hf a = some (.frz o (.tup (ns.map V.int))) ∧ o.cls = .type "tuple" ∧ o.dict = none
  | some v, .tq d1 ns d3 => ∃ a v1 b o v3, v = .ref a ∧ Hf a = some (.tup [v1, .ref b, v3]) ∧ Rp K Hf v1 d1 ∧ Hf b = some (.frz o (.tup (ns.map V.int))) ∧ o.cls = .type "tuple" ∧ o.dict = none ∧ Rp K Hf v3 d3
  | some _, .no => False
  | none, _ => False
theorem pre_get {α : Type} {l l' : List α} {k : Nat} {x : α} (p : l <+: l') (h : l[k]? = some x) : l'[k]? = some x := by
  obtain ⟨t, rfl⟩ := p
  rw [List.getElem?_append_left (List.getElem?_eq_some_iff.mp h).1]
  exact h
theorem SRl.mono {K : PySem.W.Frag} {Hf Hf' : Hp} {fp fp' : List (List Addr)} {x : Option V} {d : SD} (h : SRl K Hf fp x d) (e : Same Hf Hf') (p : fp <+: fp') : SRl K Hf' fp' x d := by
  cases d with
  | un => cases x <;> trivial
  | dat d => cases x with
    | none => exact h
    | some v => exact Rp.mono e h
  | own k => cases x with
    | none => exact h
    | some v =>
      obtain ⟨a, r, h1, h2⟩ := h
      exact ⟨a, r, pre_get p h1, h2⟩
  | scr ns => cases x with
    | none => exact h
    | some v =>
      obtain ⟨a, h1, h2⟩ := h
      exact ⟨a, h1, e.seq h2⟩
  | rng lo hi => cases x with
    | none => exact h
    | some v =>
      obtain ⟨a, h1, h2⟩ := h
      exact ⟨a, h1, e _ _ h2⟩
  | lown ks => cases x with
    | none => exact h
    | some v =>
      obtain ⟨a, xs, h1, h2, h3, h4⟩ := h
      exact ⟨a, xs, h1, e _ _ h2, h3, fun i k y e1 e2 => by
        obtain ⟨b, r, q1, q2⟩ := h4 i k y e1 e2
        exact ⟨b, r, pre_get p q1, q2⟩⟩
  | tx ns => cases x with
    | none => exact h
    | some v =>
      obtain ⟨a, o, h1, h2, h3⟩ := h
      exact ⟨a, o, h1, e _ _ h2, h3⟩
  | tq d1 ns d3 => cases x with
    | none => exact h
    | some v =>
      obtain ⟨a, v1, b, o, v3, h1, h2, h3, h4, h5, h6, h7⟩ := h
      exact ⟨a, v1, b, o, v3, h1, e _ _ h2, Rp.mono e h3, e _ _ h4, h5, h6, Rp.mono e h7⟩
  | no => cases x with
    | none => exact h
    | some v => exact h

/-- what a step leaves: what does not change stays so, all that is not one's own stays as it was, new objects are new -/
structure Gr (Hf H : Hp) (fp : List (List Addr)) (Hf' H' : Hp) (fp' : List (List Addr)) : Prop where
  sm : Same Hf Hf'
  pr : fp <+: fp'
  fr : ∀ a o, H a = some o → a ∉ fp.flatten → H' a = some o
  nw : ∀ a ∈ fp'.flatten, a ∈ fp.flatten ∨ H a = none
  th : ∀ a o, H a = some o → ∃ o', H' a = some o'
theorem Gr.refl {Hf H : Hp} {fp : List (List Addr)} : Gr Hf H fp Hf H fp := ⟨Same.refl _, List.prefix_rfl, fun _ _ e _ => e, fun _ h => .inl h, fun _ o e => ⟨o, e⟩⟩
theorem Gr.trans {Hf H Hf1 H1 Hf2 H2 : Hp} {fp fp1 fp2 : List (List Addr)} (g : Gr Hf H fp Hf1 H1 fp1) (k : Gr Hf1 H1 fp1 Hf2 H2 fp2) : Gr Hf H fp Hf2 H2 fp2 where
  sm := g.sm.trans k.sm
  pr := g.pr.trans k.pr
  fr := fun a o e n => k.fr a o (g.fr a o e n) fun m => (g.nw a m).elim n fun z => by
    rw [e] at z
    cases z
  nw := fun a m => (k.nw a m).elim (g.nw a) fun z => .inr (by
    cases q : H a with
    | none => rfl
    | some o =>
      obtain ⟨o', e⟩ := g.th a o q
      rw [z] at e
      cases e)
  th := fun a o e => let ⟨o', e'⟩ := g.th a o e; k.th a o' e'
/-- the objects as they stand; c: what must not be taken for unchanging -/
structure Hd (K : PySem.W.Frag) (c : Addr → Prop) (Hf H : Hp) (fp : List (List Addr)) (ob : List OO) : Prop where
  ex : Same Hf H
  fl : fp.length = ob.length
  oo : ∀ (k : Nat) (a : List Addr) (o : OO), fp[k]? = some a → ob[k]? = some o → OOk K Hf H a o
  nd : fp.flatten.Nodup
  al : ∀ a ∈ fp.flatten, ∃ o, H a = some o
  nf : ∀ (k : Nat) (p : List Addr) (o : OO), fp[k]? = some p → ob[k]? = some o → o ≠ .gone → ∀ a ∈ p, Hf a = none
  pt : ∀ a, c a → Hf a = none ∧ ∃ o, H a = some o
  np : ∀ (k : Nat) (p : List Addr) (ds : List PyData), fp[k]? = some p → ob[k]? = some (.lst ds) → ∀ a ∈ p, ¬ c a

section
variable {K : PySem.W.Frag} {c c' : Addr → Prop} {Hf H : Hp} {fp : List (List Addr)} {ob : List OO}
theorem mem_fl {fp : List (List Addr)} {k : Nat} {p : List Addr} {a : Addr} (h : fp[k]? = some p) (ha : a ∈ p) : a ∈ fp.flatten :=
  List.mem_flatten.mpr ⟨p, List.mem_of_getElem? h, ha⟩
theorem Hd.weak (h : Hd K c Hf H fp ob) (w : ∀ a, c' a → c a) : Hd K c' Hf H fp ob :=
  ⟨h.ex, h.fl, h.oo, h.nd, h.al, h.nf, fun a z => h.pt a (w a z), fun k p ds h1 h2 a m z => h.np k p ds h1 h2 a m (w a z)⟩
theorem Gr.new {p : Addr} {o : HO} (hf : Hf p = none) (hp : H p = none) : Gr Hf H fp (upd Hf p o) (upd H p o) fp := ⟨fun b x e => by
    rw [upd_ne (ne_of_none e hf)]
    exact e, List.prefix_rfl, fun a x e _ => by
    rw [upd_ne (ne_of_none e hp)]
    exact e, fun _ h => .inl h, fun a x e => ⟨x, by
    rw [upd_ne (ne_of_none e hp)]
    exact e⟩⟩
/-- a new object that will not change -/
theorem Hd.laid (h : Hd K c Hf H fp ob) {p : Addr} (o : HO) (hp : H p = none) : Hd K c (upd Hf p o) (upd H p o) fp ob := by
  have hfp : Hf p = none := h.ex.free hp
  have hs : Same Hf (upd Hf p o) := fun b x e => by
    rw [upd_ne (ne_of_none e hfp)]
    exact e
  have npf : ∀ a ∈ fp.flatten, a ≠ p := fun a ha => by
    obtain ⟨x, e⟩ := h.al a ha
    exact ne_of_none e hp
  refine ⟨fun b x e => ?_, h.fl, fun k a x h1 h2 => (h.oo k a x h1 h2).mono hs fun b hb => upd_ne (npf b (mem_fl h1 hb)), h.nd, fun a ha => ?_, fun k q x h1 h2 hx a ha => ?_, fun a z => ?_, h.np⟩
  · by_cases hb : b = p
    · subst hb
      rw [upd_same] at e ⊢
      exact e
    · rw [upd_ne hb] at e ⊢
      exact h.ex b x e
  · obtain ⟨x, e⟩ := h.al a ha
    exact ⟨x, by rw [upd_ne (npf a ha)]; exact e⟩
  · rw [upd_ne (npf a (mem_fl h1 ha))]
    exact h.nf k q x h1 h2 hx a ha
  · obtain ⟨z1, x, z2⟩ := h.pt a z
    rw [upd_ne (ne_of_none z2 hp), upd_ne (ne_of_none z2 hp)]
    exact ⟨z1, x, z2⟩
/-- a list that stands by itself, as one's own -/
theorem Hd.own (h : Hd K c Hf H fp ob) {p : Addr} {xs : List V} {ds : List PyData} (hp : H p = some (.lst xs)) (hf : Hf p = none) (hm : p ∉ fp.flatten) (hc : ¬ c p) (r : RpA K Hf xs ds) : Hd K c Hf H (fp ++ [[p]]) (ob ++ [.lst ds]) := by
  have hsz : ∀ {α : Type} (l : List α) (x y : α) (k : Nat), (l ++ [x])[k]? = some y → (k < l.length ∧ l[k]? = some y) ∨ (k = l.length ∧ y = x) := fun l x y k e => by
    by_cases hk : k < l.length
    · rw [List.getElem?_append_left hk] at e
      exact .inl ⟨hk, e⟩
    · have e2 := (List.getElem?_eq_some_iff.mp e).1
      rw [List.length_append, List.length_singleton] at e2
      have e3 : k = l.length := by omega
      subst e3
      rw [List.getElem?_concat_length] at e
      exact .inr ⟨rfl, (Option.some.inj e).symm⟩
  refine ⟨h.ex, by rw [List.length_append, List.length_append, h.fl]; rfl, fun k a x h1 h2 => ?_, ?_, fun a ha => ?_, fun k q x h1 h2 hx a ha => ?_, h.pt, fun k q ds' h1 h2 a ha => ?_⟩
  · rcases hsz _ _ _ _ h1 with ⟨hk, h1'⟩ | ⟨hk, rfl⟩
    · rcases hsz _ _ _ _ h2 with ⟨hk2, h2'⟩ | ⟨hk2, rfl⟩
      · exact h.oo k a x h1' h2'
      · have := h.fl
        omega
    · rcases hsz _ _ _ _ h2 with ⟨hk2, h2'⟩ | ⟨hk2, rfl⟩
      · have := h.fl
        omega
      · exact ⟨p, xs, rfl, hp, r⟩
  · rw [List.flatten_append, List.nodup_append]
    refine ⟨h.nd, by simp, fun a ha b hb => ?_⟩
    have e : b = p := by simpa using hb
    rw [e]
    exact fun z => hm (z ▸ ha)
  · rw [List.flatten_append, List.mem_append] at ha
    rcases ha with ha | ha
    · exact h.al a ha
    · have e : a = p := by simpa using ha
      rw [e]
      exact ⟨_, hp⟩
  · rcases hsz _ _ _ _ h1 with ⟨hk, h1'⟩ | ⟨hk, rfl⟩
    · rcases hsz _ _ _ _ h2 with ⟨hk2, h2'⟩ | ⟨hk2, rfl⟩
      · exact h.nf k q x h1' h2' hx a ha
      · have := h.fl
        omega
    · have e : a = p := by simpa using ha
      rw [e]
      exact hf
  · rcases hsz _ _ _ _ h1 with ⟨hk, h1'⟩ | ⟨hk, rfl⟩
    · rcases hsz _ _ _ _ h2 with ⟨hk2, h2'⟩ | ⟨hk2, e2⟩
      · exact h.np k q ds' h1' h2' a ha
      · have := h.fl
        omega
    · have e : a = p := by simpa using ha
      rw [e]
      exact hc
theorem nodup_fl {fp : List (List Addr)} {a : Addr} {p q : List Addr} {i j : Nat} (nd : fp.flatten.Nodup) (hi : fp[i]? = some p) (hj : fp[j]? = some q) (ha : a ∈ p) (hb : a ∈ q) : i = j := by
  obtain ⟨_, pw⟩ := List.pairwise_flatten.mp nd
  obtain ⟨li, ei⟩ := List.getElem?_eq_some_iff.mp hi
  obtain ⟨lj, ej⟩ := List.getElem?_eq_some_iff.mp hj
  rcases Nat.lt_trichotomy i j with h | h | h
  · have := List.pairwise_iff_getElem.mp pw i j li lj h
    rw [ei, ej] at this
    exact (this a ha a hb rfl).elim
  · exact h
  · have := List.pairwise_iff_getElem.mp pw j i lj li h
    rw [ei, ej] at this
    exact (this a hb a ha rfl).elim
/-- an own object changes at its places -/
theorem Hd.put (h : Hd K c Hf H fp ob) {k : Nat} {p : List Addr} {o o' : OO} {H' : Hp} (hk : fp[k]? = some p) (ho : ob[k]? = some o) (hg : o ≠ .gone) (ht : ∀ a, a ∉ p → H' a = H a) (hn : OOk K Hf H' p o') (hal : ∀ a ∈ p, ∃ x, H' a = some x) (hl : ∀ ds, o' = .lst ds → ∃ ds0, o = .lst ds0) :
    Hd K c Hf H' fp (ob.set k o') ∧ Gr Hf H fp Hf H' fp := by
  have hth : ∀ a o, H a = some o → ∃ o', H' a = some o' := fun a o e => by
    by_cases hb : a ∈ p
    · exact hal a hb
    · exact ⟨o, by rw [ht a hb]; exact e⟩
  refine ⟨⟨fun b x e => ?_, by rw [List.length_set]; exact h.fl, fun j q x h1 h2 => ?_, h.nd, fun a ha => ?_, fun j q x h1 h2 hx a ha => ?_, fun a z => ?_, fun j q ds' h1 h2 a ha => ?_⟩, Same.refl _, List.prefix_rfl, fun a o e n => ?_, fun _ m => .inl m, hth⟩
  · by_cases hb : b ∈ p
    · rw [h.nf k p o hk ho hg b hb] at e
      cases e
    · rw [ht b hb]
      exact h.ex b x e
  · by_cases hj : j = k
    · subst hj
      rw [hk] at h1
      obtain rfl := Option.some.inj h1
      rw [List.getElem?_set_self (List.getElem?_eq_some_iff.mp ho).1] at h2
      obtain rfl := Option.some.inj h2
      exact hn
    · rw [List.getElem?_set_ne (Ne.symm hj)] at h2
      exact (h.oo j q x h1 h2).mono (Same.refl _) fun b hb => ht b fun hb' => hj (nodup_fl h.nd h1 hk hb hb')
  · obtain ⟨x, e⟩ := h.al a ha
    exact hth a x e
  · by_cases hj : j = k
    · subst hj
      rw [hk] at h1
      obtain rfl := Option.some.inj h1
      exact h.nf j p o hk ho hg a ha
    · rw [List.getElem?_set_ne (Ne.symm hj)] at h2
      exact h.nf j q x h1 h2 hx a ha
  · obtain ⟨z1, x, z2⟩ := h.pt a z
    exact ⟨z1, hth a x z2⟩
  · by_cases hj : j = k
    · subst hj
      rw [List.getElem?_set_self (List.getElem?_eq_some_iff.mp ho).1] at h2
      obtain ⟨ds0, e0⟩ := hl ds' (Option.some.inj h2)
      rw [e0] at ho
      exact h.np j q ds0 h1 ho a ha
    · rw [List.getElem?_set_ne (Ne.symm hj)] at h2
      exact h.np j q ds' h1 h2 a ha
  · rw [ht a fun hb => n (mem_fl hk hb)]
    exact e
/-- a list that stands by itself, or an own one, will not change any more -/
theorem Hd.stop (h : Hd K c Hf H fp ob) {a : Addr} {o : HO} (hm : a ∉ fp.flatten) (hc : ¬ c a) (hf : Hf a = none) (hx : H a = some o) : Hd K c (upd Hf a o) H fp ob ∧ Gr Hf H fp (upd Hf a o) H fp := by
  have hs : Same Hf (upd Hf a o) := fun b x e => by
    rw [upd_ne (ne_of_none e hf)]
    exact e
  have npf : ∀ b ∈ fp.flatten, b ≠ a := fun b hb z => hm (z ▸ hb)
  refine ⟨⟨fun b x e => ?_, h.fl, fun j q x h1 h2 => (h.oo j q x h1 h2).mono hs fun b hb => rfl, h.nd, h.al, fun j q x h1 h2 hx b hb => ?_, fun b z => ?_, h.np⟩, hs, List.prefix_rfl, fun _ _ e _ => e, fun _ m => .inl m, fun _ o e => ⟨o, e⟩⟩
  · by_cases hb : b = a
    · subst hb
      rw [upd_same] at e
      rw [hx, ← Option.some.inj e]
    · rw [upd_ne hb] at e
      exact h.ex b x e
  · rw [upd_ne (npf b (mem_fl h1 hb))]
    exact h.nf j q x h1 h2 hx b hb
  · obtain ⟨z1, z2⟩ := h.pt b z
    rw [upd_ne (show b ≠ a from fun q => hc (by rw [← q]; exact z))]
    exact ⟨z1, z2⟩
theorem Hd.freeze (h : Hd K c Hf H fp ob) {k : Nat} {a : Addr} {xs : List V} {ds : List PyData} (hk : fp[k]? = some [a]) (ho : ob[k]? = some (.lst ds)) (hx : H a = some (.lst xs)) :
    Hd K c (upd Hf a (.lst xs)) H fp (ob.set k .gone) ∧ Gr Hf H fp (upd Hf a (.lst xs)) H fp := by
  have hfa : Hf a = none := h.nf k [a] _ hk ho (by intro z; cases z) a (by simp)
  have hs : Same Hf (upd Hf a (.lst xs)) := fun b x e => by
    rw [upd_ne (ne_of_none e hfa)]
    exact e
  have hca : ¬ c a := h.np k [a] ds hk ho a (by simp)
  refine ⟨⟨fun b x e => ?_, by rw [List.length_set]; exact h.fl, fun j q x h1 h2 => ?_, h.nd, h.al, fun j q x h1 h2 hx b hb => ?_, fun b z => ?_, fun j q ds' h1 h2 b hb => ?_⟩, hs, List.prefix_rfl, fun _ _ e _ => e, fun _ m => .inl m, fun _ o e => ⟨o, e⟩⟩
  · by_cases hb : b = a
    · subst hb
      rw [upd_same] at e
      rw [hx, ← Option.some.inj e]
    · rw [upd_ne hb] at e
      exact h.ex b x e
  · by_cases hj : j = k
    · subst hj
      rw [List.getElem?_set_self (List.getElem?_eq_some_iff.mp ho).1] at h2
      obtain rfl := Option.some.inj h2
      trivial
    · rw [List.getElem?_set_ne (Ne.symm hj)] at h2
      exact (h.oo j q x h1 h2).mono hs fun b hb => rfl
  · by_cases hj : j = k
    · subst hj
      rw [List.getElem?_set_self (List.getElem?_eq_some_iff.mp ho).1] at h2
      exact absurd (Option.some.inj h2).symm hx
    · rw [List.getElem?_set_ne (Ne.symm hj)] at h2
      have hba : b ≠ a := fun z => hj (nodup_fl h.nd h1 hk hb (by simp [z]))
      rw [upd_ne hba]
      exact h.nf j q x h1 h2 hx b hb
  · obtain ⟨z1, z2⟩ := h.pt b z
    rw [upd_ne (show b ≠ a from fun q => hca (by rw [← q]; exact z))]
    exact ⟨z1, z2⟩
  · by_cases hj : j = k
    · subst hj
      rw [List.getElem?_set_self (List.getElem?_eq_some_iff.mp ho).1] at h2
      cases Option.some.inj h2
    · rw [List.getElem?_set_ne (Ne.symm hj)] at h2
      exact h.np j q ds' h1 h2 b hb
end
end DL

set_option maxRecDepth 100000
set_option maxHeartbeats 1000000
namespace DL
open PySem PySem.Spec PyProof.Rows L2

/-! ### a state over data -/
structure SS where
  sl : List SD
  ob : List OO
structure Okk (K : PySem.W.Frag) (c : Addr → Prop) (Hf H : Hp) (σ : L2.St) (fp : List (List Addr)) (S : SS) : Prop where
  hd : Hd K c Hf H fp S.ob
  ln : σ.length = S.sl.length
  sr : ∀ (i : Nat) (d : SD), S.sl[i]? = some d → ∃ x, σ[i]? = some x ∧ SRl K Hf fp x d
/-- values that are known to be so -/
abbrev SRA (K : PySem.W.Frag) (Hf : Hp) (fp : List (List Addr)) : List V → List SD → Prop := Paired fun v d => SRl K Hf fp (some v) d
theorem SRA.mono {K : PySem.W.Frag} {Hf Hf' : Hp} {fp fp' : List (List Addr)} {vs : List V} {ds : List SD} (h : SRA K Hf fp vs ds) (e : Same Hf Hf') (p : fp <+: fp') : SRA K Hf' fp' vs ds :=
  Paired.mapP h fun _ _ q => q.mono e p
theorem SRA.rp {K : PySem.W.Frag} {Hf : Hp} {fp : List (List Addr)} : ∀ {vs : List V} {ds : List PyData}, SRA K Hf fp vs (ds.map SD.dat) → RpA K Hf vs ds
  | _, [], .nil => .nil
  | _, _ :: _, .cons h t => .cons h (SRA.rp t)

def Ee (K : PySem.W.Frag) (te : TE) (S : SS) (r : SD) (S' : SS) : Prop := ∀ c Hf H σ fp, Okk K c Hf H σ fp S → ∀ Q : VK,
  (∀ v Hf' H' fp', Okk K c Hf' H' σ fp' S' → Gr Hf H fp Hf' H' fp' → SRl K Hf' fp' (some v) r → Q v H') → te σ H Q
def Et (K : PySem.W.Frag) (tt : TT) (S : SS) (b : Bool) (S' : SS) : Prop := ∀ c Hf H σ fp, Okk K c Hf H σ fp S → ∀ Q : Bool → Hp → Prop,
  (∀ Hf' H' fp', Okk K c Hf' H' σ fp' S' → Gr Hf H fp Hf' H' fp' → Q b H') → tt σ H Q
def Ea (K : PySem.W.Frag) (ta : TA) (S : SS) (rs : List SD) (S' : SS) : Prop := ∀ c Hf H σ fp, Okk K c Hf H σ fp S → ∀ Q : List V → Hp → Prop,
  (∀ vs Hf' H' fp', Okk K c Hf' H' σ fp' S' → Gr Hf H fp Hf' H' fp' → SRA K Hf' fp' vs rs → Q vs H') → ta σ H Q
/-- a two-place operation on values; a one-place one; a call on values -/
def Ro (K : PySem.W.Frag) (r : R2) (x y : SD) (S : SS) (z : SD) (S' : SS) : Prop := ∀ c Hf H σ fp, Okk K c Hf H σ fp S → ∀ v u, SRl K Hf fp (some v) x → SRl K Hf fp (some u) y → ∀ Q : VK,
  (∀ w Hf' H' fp', Okk K c Hf' H' σ fp' S' → Gr Hf H fp Hf' H' fp' → SRl K Hf' fp' (some w) z → Q w H') → r v u H Q
def Ru (K : PySem.W.Frag) (r : V → Hp → VK → Prop) (x : SD) (S : SS) (z : SD) (S' : SS) : Prop := ∀ c Hf H σ fp, Okk K c Hf H σ fp S → ∀ v, SRl K Hf fp (some v) x → ∀ Q : VK,
  (∀ w Hf' H' fp', Okk K c Hf' H' σ fp' S' → Gr Hf H fp Hf' H' fp' → SRl K Hf' fp' (some w) z → Q w H') → r v H Q
def Rc (K : PySem.W.Frag) (r : List V → Hp → VK → Prop) (xs : List SD) (S : SS) (z : SD) (S' : SS) : Prop := ∀ c Hf H σ fp, Okk K c Hf H σ fp S → ∀ vs, SRA K Hf fp vs xs → ∀ Q : VK,
  (∀ w Hf' H' fp', Okk K c Hf' H' σ fp' S' → Gr Hf H fp Hf' H' fp' → SRl K Hf' fp' (some w) z → Q w H') → r vs H Q
/-- a new list that stands by itself -/
structure Alone (K : PySem.W.Frag) (c : Addr → Prop) (Hf H : Hp) (fp : List (List Addr)) (p : Addr) (ds : List PyData) : Prop where
  at_ : ∃ xs, H p = some (.lst xs) ∧ RpA K Hf xs ds
  hf : Hf p = none
  nm : p ∉ fp.flatten
  nc : ¬ c p
def El (K : PySem.W.Frag) (te : TE) (S : SS) (ds : List PyData) (S' : SS) : Prop := ∀ c Hf H σ fp, Okk K c Hf H σ fp S → ∀ Q : VK,
  (∀ p Hf' H' fp', Okk K c Hf' H' σ fp' S' → Gr Hf H fp Hf' H' fp' → H p = none → Alone K c Hf' H' fp' p ds → Q (.ref p) H') → te σ H Q
def RcL (K : PySem.W.Frag) (r : List V → Hp → VK → Prop) (xs : List SD) (S : SS) (ds : List PyData) (S' : SS) : Prop := ∀ c Hf H σ fp, Okk K c Hf H σ fp S → ∀ vs, SRA K Hf fp vs xs → ∀ Q : VK,
  (∀ p Hf' H' fp', Okk K c Hf' H' σ fp' S' → Gr Hf H fp Hf' H' fp' → H p = none → Alone K c Hf' H' fp' p ds → Q (.ref p) H') → r vs H Q
def RoL (K : PySem.W.Frag) (r : R2) (x y : SD) (S : SS) (ds : List PyData) (S' : SS) : Prop := ∀ c Hf H σ fp, Okk K c Hf H σ fp S → ∀ v u, SRl K Hf fp (some v) x → SRl K Hf fp (some u) y → ∀ Q : VK,
  (∀ p Hf' H' fp', Okk K c Hf' H' σ fp' S' → Gr Hf H fp Hf' H' fp' → H p = none → Alone K c Hf' H' fp' p ds → Q (.ref p) H') → r v u H Q

structure DE where
  nx : SS → Prop
  rt : SD → SS → Prop
  bk : SS → Prop := fun _ => False
  ct : SS → Prop := fun _ => False
def Ts (K : PySem.W.Frag) (ts : TS) (S : SS) (E : DE) : Prop := ∀ c Hf H σ fp, Okk K c Hf H σ fp S → ∀ D : Ends,
  (∀ S' Hf' H' σ' fp', Okk K c Hf' H' σ' fp' S' → Gr Hf H fp Hf' H' fp' → E.nx S' → D.nx σ' H') →
  (∀ r S' v Hf' H' σ' fp', Okk K c Hf' H' σ' fp' S' → Gr Hf H fp Hf' H' fp' → SRl K Hf' fp' (some v) r → E.rt r S' → D.rt v H') →
  (∀ S' Hf' H' σ' fp', Okk K c Hf' H' σ' fp' S' → Gr Hf H fp Hf' H' fp' → E.bk S' → D.bk σ' H') →
  (∀ S' Hf' H' σ' fp', Okk K c Hf' H' σ' fp' S' → Gr Hf H fp Hf' H' fp' → E.ct S' → D.ct σ' H') → ts D σ H

section
variable {K : PySem.W.Frag} {S S1 S2 S3 S4 : SS} {ta tb te tc : TE} {t u : TT} {x y z : SD} {d e : PyData} {a b : Bool} {r : R2} {i : Nat}
variable {c c' : Addr → Prop} {Hf H : Hp} {σ : L2.St} {fp : List (List Addr)}
theorem Okk.weak (h : Okk K c Hf H σ fp S) (w : ∀ a, c' a → c a) : Okk K c' Hf H σ fp S := ⟨h.hd.weak w, h.ln, h.sr⟩
/-- a new object that will not change -/
theorem Okk.laid (h : Okk K c Hf H σ fp S) {p : Addr} (o : HO) (hp : H p = none) : Okk K c (upd Hf p o) (upd H p o) σ fp S ∧ Gr Hf H fp (upd Hf p o) (upd H p o) fp := by
  have g : Gr Hf H fp (upd Hf p o) (upd H p o) fp := Gr.new (h.hd.ex.free hp) hp
  refine ⟨⟨h.hd.laid o hp, h.ln, fun i d e => ?_⟩, g⟩
  obtain ⟨x, h1, h2⟩ := h.sr i d e
  exact ⟨x, h1, h2.mono g.sm g.pr⟩
theorem Okk.rd (h : Okk K c Hf H σ fp S) {a : Addr} {o : HO} (e : Hf a = some o) : H a = some o := h.hd.ex a o e
theorem Okk.obL (h : Okk K c Hf H σ fp S) {k : Nat} {ds : List PyData} {v : V} (e : S.ob[k]? = some (.lst ds)) (hv : SRl K Hf fp (some v) (.own k)) : ∃ a xs, v = .ref a ∧ fp[k]? = some [a] ∧ H a = some (.lst xs) ∧ RpA K Hf xs ds := by
  obtain ⟨a, r, h1, h2⟩ := hv
  obtain ⟨a', xs, q, h3, h4⟩ := h.hd.oo k _ _ h1 e
  have q1 : a = a' ∧ r = [] := by simpa using q
  obtain ⟨rfl, rfl⟩ := q1
  exact ⟨a, xs, h2, h1, h3, h4⟩
/-- a list alone: as data; as one's own -/
theorem Alone.dat {p : Addr} {ds : List PyData} (ok : Okk K c Hf H σ fp S) (h : Alone K c Hf H fp p ds) : ∃ Hf', Okk K c Hf' H σ fp S ∧ Gr Hf H fp Hf' H fp ∧ Rp K Hf' (.ref p) (.list ds) := by
  obtain ⟨⟨xs, h1, h2⟩, hf, nm, nc⟩ := h
  obtain ⟨hd, g⟩ := ok.hd.stop nm nc hf h1
  refine ⟨_, ⟨hd, ok.ln, fun i d e => ?_⟩, g, .lst upd_same (h2.mono g.sm)⟩
  obtain ⟨x, q1, q2⟩ := ok.sr i d e
  exact ⟨x, q1, q2.mono g.sm g.pr⟩
theorem Alone.own {p : Addr} {ds : List PyData} (ok : Okk K c Hf H σ fp S) (h : Alone K c Hf H fp p ds) :
    Okk K c Hf H σ (fp ++ [[p]]) { S with ob := S.ob ++ [.lst ds] } ∧ SRl K Hf (fp ++ [[p]]) (some (.ref p)) (.own S.ob.length) := by
  obtain ⟨⟨xs, h1, h2⟩, hf, nm, nc⟩ := h
  refine ⟨⟨ok.hd.own h1 hf nm nc h2, ok.ln, fun i d e => ?_⟩, ⟨p, [], ?_, rfl⟩⟩
  · obtain ⟨x, q1, q2⟩ := ok.sr i d e
    exact ⟨x, q1, q2.mono (Same.refl _) (List.prefix_append _ _)⟩
  · rw [← ok.hd.fl, List.getElem?_concat_length]
theorem Gr.own {p : Addr} {Hf' H' : Hp} {fp' : List (List Addr)} (g : Gr Hf H fp Hf' H' fp') (hp : H p = none) : Gr Hf H fp Hf' H' (fp' ++ [[p]]) :=
  ⟨g.sm, g.pr.trans (List.prefix_append _ _), g.fr, fun a m => by
    rw [List.flatten_append, List.mem_append] at m
    rcases m with m | m
    · exact g.nw a m
    · have e : a = p := by simpa using m
      rw [e]
      exact .inr hp, g.th⟩
theorem Okk.alone (ok : Okk K c Hf H σ fp S) {p : Addr} {xs : List V} {ds : List PyData} (hp : H p = none) (r : RpA K Hf xs ds) :
    Okk K c Hf (upd H p (.lst xs)) σ fp S ∧ Gr Hf H fp Hf (upd H p (.lst xs)) fp ∧ Alone K c Hf (upd H p (.lst xs)) fp p ds := by
  have npf : ∀ a ∈ fp.flatten, a ≠ p := fun a ha => by
    obtain ⟨x, e⟩ := ok.hd.al a ha
    exact ne_of_none e hp
  have keep : ∀ a o, H a = some o → (upd H p (.lst xs)) a = some o := fun a o e => by
    rw [upd_ne (ne_of_none e hp)]
    exact e
  refine ⟨⟨⟨fun b o e => keep b o (ok.hd.ex b o e), ok.hd.fl, fun k q o h1 h2 => (ok.hd.oo k q o h1 h2).mono (Same.refl _) fun b hb => upd_ne (npf b (mem_fl h1 hb)), ok.hd.nd, fun a ha => ?_, ok.hd.nf, fun a z => ?_, ok.hd.np⟩, ok.ln, ok.sr⟩,
    ⟨Same.refl _, List.prefix_rfl, fun a o e _ => keep a o e, fun _ m => .inl m, fun a o e => ⟨o, keep a o e⟩⟩, ⟨xs, upd_same, r⟩, ok.hd.ex.free hp, fun m => npf p m rfl, fun z => ?_⟩
  · obtain ⟨x, e⟩ := ok.hd.al a ha
    exact ⟨x, keep a x e⟩
  · obtain ⟨z1, o, z2⟩ := ok.hd.pt a z
    exact ⟨z1, o, keep a o z2⟩
  · obtain ⟨_, o, z2⟩ := ok.hd.pt p z
    rw [hp] at z2
    cases z2

theorem ee_var (h : S.sl[i]? = some x) (hx : x ≠ .un := by intro z; cases z) : Ee K (tVar i) S x S := fun c Hf H σ fp ok Q q => by
  obtain ⟨y, h1, h2⟩ := ok.sr i x h
  cases y with
  | none => cases x with
    | un => exact (hx rfl).elim
    | dat d => exact h2.elim
    | own k => exact h2.elim
    | scr ns => exact h2.elim
    | rng _ _ => exact h2.elim
    | lown _ => exact h2.elim
    | tx _ => exact h2.elim
    | tq _ _ _ => exact h2.elim
    | no => exact h2.elim
  | some v => exact ⟨v, h1, q v Hf H fp ok Gr.refl h2⟩
theorem ee_int {j : Int} : Ee K (tC (.int j)) S (.dat (.int j)) S := fun _ Hf H _ fp ok _ q => q _ Hf H fp ok Gr.refl (Rp.int j)
theorem ee_bl : Ee K (tC (.bl b)) S (.dat (.bool b)) S := fun _ Hf H _ fp ok _ q => q _ Hf H fp ok Gr.refl (Rp.bl b)
theorem ee_non : Ee K (tC .non) S (.dat .none) S := fun _ Hf H _ fp ok _ q => q _ Hf H fp ok Gr.refl Rp.non
theorem ee_str {w : Str} : Ee K (tC (.str w)) S (.dat (.str w)) S := fun _ Hf H _ fp ok _ q => q _ Hf H fp ok Gr.refl (Rp.str w)
theorem ee_op (ha : Ee K ta S x S1) (hb : Ee K tb S1 y S2) (hr : Ro K r x y S2 z S3) : Ee K (tOp r ta tb) S z S3 := fun c Hf H σ fp ok Q q =>
  ha c Hf H σ fp ok _ fun v Hf1 H1 fp1 ok1 g1 r1 => hb c Hf1 H1 σ fp1 ok1 _ fun u Hf2 H2 fp2 ok2 g2 r2 =>
    hr c Hf2 H2 σ fp2 ok2 v u (r1.mono g2.sm g2.pr) r2 Q fun w Hf3 H3 fp3 ok3 g3 r3 => q w Hf3 H3 fp3 ok3 ((g1.trans g2).trans g3) r3
theorem el_op {ds : List PyData} (ha : Ee K ta S x S1) (hb : Ee K tb S1 y S2) (hr : RoL K r x y S2 ds S3) : El K (tOp r ta tb) S ds S3 := fun c Hf H σ fp ok Q q =>
  ha c Hf H σ fp ok _ fun v Hf1 H1 fp1 ok1 g1 r1 => hb c Hf1 H1 σ fp1 ok1 _ fun u Hf2 H2 fp2 ok2 g2 r2 =>
    hr c Hf2 H2 σ fp2 ok2 v u (r1.mono g2.sm g2.pr) r2 Q fun w Hf3 H3 fp3 ok3 g3 hn r3 => q w Hf3 H3 fp3 ok3 ((g1.trans g2).trans g3) (by
      cases e : H w with
      | none => rfl
      | some o =>
        obtain ⟨o', e'⟩ := (g1.trans g2).th w o e
        rw [hn] at e'
        cases e') r3
theorem ee_un {ru : V → Hp → VK → Prop} (ha : Ee K ta S x S1) (hr : Ru K ru x S1 z S2) : Ee K (tUn ru ta) S z S2 := fun c Hf H σ fp ok Q q =>
  ha c Hf H σ fp ok _ fun v Hf1 H1 fp1 ok1 g1 r1 => hr c Hf1 H1 σ fp1 ok1 v r1 Q fun w Hf3 H3 fp3 ok3 g3 r3 => q w Hf3 H3 fp3 ok3 (g1.trans g3) r3
theorem ee_eq (h : Ee K te S x S1) (e : x = y) : Ee K te S y S1 := e ▸ h
theorem ee_cb {rc : List V → Hp → VK → Prop} {tas : TA} {rs : List SD} (ha : Ea K tas S rs S1) (hr : Rc K rc rs S1 z S2) : Ee K (tCB rc tas) S z S2 := fun c Hf H σ fp ok Q q =>
  ha c Hf H σ fp ok _ fun v Hf1 H1 fp1 ok1 g1 r1 => hr c Hf1 H1 σ fp1 ok1 v r1 Q fun w Hf3 H3 fp3 ok3 g3 r3 => q w Hf3 H3 fp3 ok3 (g1.trans g3) r3
theorem none_back {H H1 : Hp} {p : Addr} (th : ∀ a o, H a = some o → ∃ o', H1 a = some o') (hn : H1 p = none) : H p = none := by
  cases e : H p with
  | none => rfl
  | some o =>
    obtain ⟨o', e'⟩ := th p o e
    rw [hn] at e'
    cases e'
theorem el_cb {rc : List V → Hp → VK → Prop} {tas : TA} {rs : List SD} {ds : List PyData} (ha : Ea K tas S rs S1) (hr : RcL K rc rs S1 ds S2) : El K (tCB rc tas) S ds S2 := fun c Hf H σ fp ok Q q =>
  ha c Hf H σ fp ok _ fun v Hf1 H1 fp1 ok1 g1 r1 => hr c Hf1 H1 σ fp1 ok1 v r1 Q fun w Hf3 H3 fp3 ok3 g3 hn r3 => q w Hf3 H3 fp3 ok3 (g1.trans g3) (none_back g1.th hn) r3
theorem ea_nil : Ea K tNil S [] S := fun _ Hf H _ fp ok _ q => q [] Hf H fp ok Gr.refl .nil
theorem ea_cons {tas : TA} {rs : List SD} (ha : Ee K ta S x S1) (hr : Ea K tas S1 rs S2) : Ea K (tCons ta tas) S (x :: rs) S2 := fun c Hf H σ fp ok Q q =>
  ha c Hf H σ fp ok _ fun v Hf1 H1 fp1 ok1 g1 r1 => hr c Hf1 H1 σ fp1 ok1 _ fun vs Hf2 H2 fp2 ok2 g2 r2 => q (v :: vs) Hf2 H2 fp2 ok2 (g1.trans g2) (.cons (r1.mono g2.sm g2.pr) r2)
/-- items that are data -/
def Ed (K : PySem.W.Frag) (ta : TA) (S : SS) (ds : List PyData) (S' : SS) : Prop := Ea K ta S (ds.map SD.dat) S'
theorem ed_nil : Ed K tNil S [] S := ea_nil
theorem ed_cons {tas : TA} {ds : List PyData} (ha : Ee K ta S (.dat d) S1) (hr : Ed K tas S1 ds S2) : Ed K (tCons ta tas) S (d :: ds) S2 := ea_cons ha hr
theorem ee_tup {tas : TA} {ds : List PyData} (ha : Ed K tas S ds S1) (hz : ds.length ≤ 1000000 := by first | decide | (simp; done) | (simp; omega)) : Ee K (tTup tas) S (.dat (.tuple ds)) S1 := fun c Hf H σ fp ok Q q =>
  ha c Hf H σ fp ok _ fun vs Hf1 H1 fp1 ok1 g1 r1 => ⟨by
      rw [(SRA.rp r1).len]
      exact Nat.le_trans hz (by decide), fun p hp => by
      obtain ⟨ok2, g2⟩ := ok1.laid (.tup vs) hp
      exact q _ _ _ _ ok2 (g1.trans g2) (Rp.tup (.inl (.inl upd_same)) ((SRA.rp r1).mono g2.sm))⟩
theorem el_lst {tas : TA} {ds : List PyData} (ha : Ed K tas S ds S1) (hz : ds.length ≤ 1000000 := by first | decide | (simp; done) | (simp; omega)) : El K (tLst tas) S ds S1 := fun c Hf H σ fp ok Q q =>
  ha c Hf H σ fp ok _ fun vs Hf1 H1 fp1 ok1 g1 r1 => ⟨by
      rw [(SRA.rp r1).len]
      exact Nat.le_trans hz (by decide), fun p hp => by
      obtain ⟨ok2, g2, al⟩ := ok1.alone hp (SRA.rp r1)
      exact q p _ _ _ ok2 (g1.trans g2) (none_back g1.th hp) al⟩
/-- a new list as data -/
theorem ee_of_el {ds : List PyData} (h : El K te S ds S1) : Ee K te S (.dat (.list ds)) S1 := fun c Hf H σ fp ok Q q =>
  h c Hf H σ fp ok _ fun p Hf1 H1 fp1 ok1 g1 hp al => by
    obtain ⟨Hf2, ok2, g2, rp⟩ := al.dat ok1
    exact q _ _ _ _ ok2 (g1.trans g2) rp
/-- a new list as one's own -/
theorem eo_of_el {ds : List PyData} (h : El K te S ds S1) : Ee K te S (.own S1.ob.length) { S1 with ob := S1.ob ++ [.lst ds] } := fun c Hf H σ fp ok Q q =>
  h c Hf H σ fp ok _ fun p Hf1 H1 fp1 ok1 g1 hp al => by
    obtain ⟨ok2, sr⟩ := al.own ok1
    exact q _ _ _ _ ok2 (g1.own hp) sr
/-- a list of one's own turns to data: it is not changed any more -/
theorem ee_frz {k : Nat} {ds : List PyData} (h : Ee K te S (.own k) S1) (ho : S1.ob[k]? = some (.lst ds)) : Ee K te S (.dat (.list ds)) { S1 with ob := S1.ob.set k .gone } := fun c Hf H σ fp ok Q q =>
  h c Hf H σ fp ok _ fun v Hf1 H1 fp1 ok1 g1 sr => by
    obtain ⟨a, xs, rfl, h1, h2, h3⟩ := ok1.obL ho sr
    obtain ⟨hd, g2⟩ := ok1.hd.freeze h1 ho h2
    refine q _ _ _ _ ⟨hd, ok1.ln, fun i d e => ?_⟩ (g1.trans g2) (Rp.lst upd_same (h3.mono g2.sm))
    obtain ⟨x, q1, q2⟩ := ok1.sr i d e
    exact ⟨x, q1, q2.mono g2.sm g2.pr⟩

/-! ### tests -/
theorem et_test (h : Ee K te S (.dat (.bool b)) S1) : Et K (tTest te) S b S1 := fun c Hf H σ fp ok Q q => h c Hf H σ fp ok _ fun v Hf1 H1 fp1 ok1 g1 r1 => by
  cases r1
  exact ⟨b, rfl, q Hf1 H1 fp1 ok1 g1⟩
theorem et_B (h : Ee K te S (.dat (.bool b)) S1) : Et K (tB te) S b S1 := fun c Hf H σ fp ok Q q => h c Hf H σ fp ok _ fun v Hf1 H1 fp1 ok1 g1 r1 => by
  cases r1
  exact ⟨b, rfl, q Hf1 H1 fp1 ok1 g1⟩
theorem et_yes : Et K tYes S true S := fun _ Hf H _ fp ok _ q => q Hf H fp ok Gr.refl
theorem et_not (h : Et K t S b S1) : Et K (tNot t) S (!b) S1 := fun c Hf H σ fp ok Q q => h c Hf H σ fp ok _ fun Hf1 H1 fp1 ok1 g1 => q Hf1 H1 fp1 ok1 g1
theorem et_and (h1 : Et K t S a S1) (h2 : a = true → Et K u S1 b S1) : Et K (tAnd t u) S (a && b) S1 := fun c Hf H σ fp ok Q q => h1 c Hf H σ fp ok _ fun Hf1 H1 fp1 ok1 g1 => by
  cases a with
  | true =>
    show u σ H1 Q
    exact h2 rfl c Hf1 H1 σ fp1 ok1 Q fun Hf2 H2 fp2 ok2 g2 => q Hf2 H2 fp2 ok2 (g1.trans g2)
  | false =>
    show Q false H1
    exact q Hf1 H1 fp1 ok1 g1
theorem et_or (h1 : Et K t S a S1) (h2 : a = false → Et K u S1 b S1) : Et K (tOr t u) S (a || b) S1 := fun c Hf H σ fp ok Q q => h1 c Hf H σ fp ok _ fun Hf1 H1 fp1 ok1 g1 => by
  cases a with
  | true =>
    show Q true H1
    exact q Hf1 H1 fp1 ok1 g1
  | false =>
    show u σ H1 Q
    exact h2 rfl c Hf1 H1 σ fp1 ok1 Q fun Hf2 H2 fp2 ok2 g2 => q Hf2 H2 fp2 ok2 (g1.trans g2)
theorem et_eq (h : Et K t S a S1) (e : a = b) : Et K t S b S1 := e ▸ h
theorem ee_andV (h1 : Ee K ta S (.dat (.bool a)) S1) (h2 : a = true → Ee K tb S1 (.dat (.bool b)) S1) : Ee K (tAndV ta tb) S (.dat (.bool (a && b))) S1 := fun c Hf H σ fp ok Q q => h1 c Hf H σ fp ok _ fun v Hf1 H1 fp1 ok1 g1 r1 => by
  cases r1
  refine ⟨a, rfl, ?_⟩
  cases a with
  | true =>
    show tb σ H1 Q
    exact h2 rfl c Hf1 H1 σ fp1 ok1 Q fun v Hf2 H2 fp2 ok2 g2 r2 => q v Hf2 H2 fp2 ok2 (g1.trans g2) r2
  | false =>
    show Q (.bl false) H1
    exact q _ Hf1 H1 fp1 ok1 g1 (Rp.bl _)
theorem ee_orV (h1 : Ee K ta S (.dat (.bool a)) S1) (h2 : a = false → Ee K tb S1 (.dat (.bool b)) S1) : Ee K (tOrV ta tb) S (.dat (.bool (a || b))) S1 := fun c Hf H σ fp ok Q q => h1 c Hf H σ fp ok _ fun v Hf1 H1 fp1 ok1 g1 r1 => by
  cases r1
  refine ⟨a, rfl, ?_⟩
  cases a with
  | true =>
    show Q (.bl true) H1
    exact q _ Hf1 H1 fp1 ok1 g1 (Rp.bl _)
  | false =>
    show tb σ H1 Q
    exact h2 rfl c Hf1 H1 σ fp1 ok1 Q fun v Hf2 H2 fp2 ok2 g2 r2 => q v Hf2 H2 fp2 ok2 (g1.trans g2) r2
theorem ee_notV (h1 : Ee K ta S (.dat (.bool a)) S1) : Ee K (tNotV ta) S (.dat (.bool (!a))) S1 := fun c Hf H σ fp ok Q q => h1 c Hf H σ fp ok _ fun v Hf1 H1 fp1 ok1 g1 r1 => by
  cases r1
  exact ⟨a, rfl, q _ Hf1 H1 fp1 ok1 g1 (Rp.bl _)⟩
/-- a if t else b -/
theorem ee_if (h : Et K t S b S1) (h1 : b = true → Ee K ta S1 x S2) (h2 : b = false → Ee K tb S1 x S2) : Ee K (tIf t ta tb) S x S2 := fun c Hf H σ fp ok Q q => h c Hf H σ fp ok _ fun Hf1 H1 fp1 ok1 g1 => by
  cases b with
  | true =>
    show ta σ H1 Q
    exact h1 rfl c Hf1 H1 σ fp1 ok1 Q fun v Hf2 H2 fp2 ok2 g2 r2 => q v Hf2 H2 fp2 ok2 (g1.trans g2) r2
  | false =>
    show tb σ H1 Q
    exact h2 rfl c Hf1 H1 σ fp1 ok1 Q fun v Hf2 H2 fp2 ok2 g2 r2 => q v Hf2 H2 fp2 ok2 (g1.trans g2) r2

/-! ### statements -/
variable {E : DE} {tu tw : TS}
theorem ts_seq (h : Ts K tu S { E with nx := fun S' => Ts K tw S' E }) : Ts K (tSeq tu tw) S E := fun c Hf H σ fp ok D n r bk ct =>
  h c Hf H σ fp ok { D with nx := tw D } (fun S' Hf1 H1 σ1 fp1 ok1 g1 w => w c Hf1 H1 σ1 fp1 ok1 D (fun S' Hf2 H2 σ2 fp2 ok2 g2 => n S' Hf2 H2 σ2 fp2 ok2 (g1.trans g2)) (fun x S' v Hf2 H2 σ2 fp2 ok2 g2 => r x S' v Hf2 H2 σ2 fp2 ok2 (g1.trans g2))
    (fun S' Hf2 H2 σ2 fp2 ok2 g2 => bk S' Hf2 H2 σ2 fp2 ok2 (g1.trans g2)) (fun S' Hf2 H2 σ2 fp2 ok2 g2 => ct S' Hf2 H2 σ2 fp2 ok2 (g1.trans g2))) r bk ct
theorem ts_next (h : E.nx S) : Ts K tNext S E := fun c Hf H σ fp ok D n r bk ct => n S Hf H σ fp ok Gr.refl h
theorem ts_brk (h : E.bk S) : Ts K tBreak S E := fun c Hf H σ fp ok D n r bk ct => bk S Hf H σ fp ok Gr.refl h
theorem ts_cont (h : E.ct S) : Ts K tCont S E := fun c Hf H σ fp ok D n r bk ct => ct S Hf H σ fp ok Gr.refl h
theorem ts_ret (h : Ee K te S x S1) (k : E.rt x S1) : Ts K (tRet te) S E := fun c Hf H σ fp ok D n r bk ct =>
  h c Hf H σ fp ok _ fun v Hf1 H1 fp1 ok1 g1 r1 => r x S1 v Hf1 H1 σ fp1 ok1 g1 r1 k
theorem ts_retN (k : E.rt (.dat .none) S) : Ts K tRetN S E := fun c Hf H σ fp ok D n r bk ct => r (.dat .none) S _ Hf H σ fp ok Gr.refl (show Rp K Hf .non .none from Rp.non) k
theorem ts_drop (h : Ee K te S x S1) (k : E.nx S1) : Ts K (tDrop te) S E := fun c Hf H σ fp ok D n r bk ct =>
  h c Hf H σ fp ok _ fun v Hf1 H1 fp1 ok1 g1 r1 => n S1 Hf1 H1 σ fp1 ok1 g1 k
theorem ts_if (h : Et K t S b S1) (h1 : b = true → Ts K tu S1 E) (h2 : b = false → Ts K tw S1 E) : Ts K (tIfS t tu tw) S E := fun c Hf H σ fp ok D n r bk ct =>
  h c Hf H σ fp ok _ fun Hf1 H1 fp1 ok1 g1 => by
    cases b with
    | true =>
      show tu D σ H1
      exact h1 rfl c Hf1 H1 σ fp1 ok1 D (fun S' Hf2 H2 σ2 fp2 ok2 g2 => n S' Hf2 H2 σ2 fp2 ok2 (g1.trans g2)) (fun x S' v Hf2 H2 σ2 fp2 ok2 g2 => r x S' v Hf2 H2 σ2 fp2 ok2 (g1.trans g2))
        (fun S' Hf2 H2 σ2 fp2 ok2 g2 => bk S' Hf2 H2 σ2 fp2 ok2 (g1.trans g2)) (fun S' Hf2 H2 σ2 fp2 ok2 g2 => ct S' Hf2 H2 σ2 fp2 ok2 (g1.trans g2))
    | false =>
      show tw D σ H1
      exact h2 rfl c Hf1 H1 σ fp1 ok1 D (fun S' Hf2 H2 σ2 fp2 ok2 g2 => n S' Hf2 H2 σ2 fp2 ok2 (g1.trans g2)) (fun x S' v Hf2 H2 σ2 fp2 ok2 g2 => r x S' v Hf2 H2 σ2 fp2 ok2 (g1.trans g2))
        (fun S' Hf2 H2 σ2 fp2 ok2 g2 => bk S' Hf2 H2 σ2 fp2 ok2 (g1.trans g2)) (fun S' Hf2 H2 σ2 fp2 ok2 g2 => ct S' Hf2 H2 σ2 fp2 ok2 (g1.trans g2))
/-- a slot is stored -/
theorem Okk.put (ok : Okk K c Hf H σ fp S) {i : Nat} {v : V} {x : SD} (r : SRl K Hf fp (some v) x) : Okk K c Hf H (σ.set i (some v)) fp { S with sl := S.sl.set i x } := by
  refine ⟨ok.hd, by rw [List.length_set, List.length_set]; exact ok.ln, fun j d e => ?_⟩
  by_cases hj : i = j
  · subst hj
    have hl : i < S.sl.length := by
      have := (List.getElem?_eq_some_iff.mp e).1
      simpa using this
    rw [List.getElem?_set_self hl] at e
    obtain rfl := Option.some.inj e
    exact ⟨some v, List.getElem?_set_self (by rw [ok.ln]; exact hl), r⟩
  · rw [List.getElem?_set_ne hj] at e
    obtain ⟨y, h1, h2⟩ := ok.sr j d e
    exact ⟨y, by rw [List.getElem?_set_ne hj]; exact h1, h2⟩
theorem ts_asg (h : Ee K te S x S1) (k : E.nx { S1 with sl := S1.sl.set i x }) : Ts K (tAsg te (gName i)) S E := fun c Hf H σ fp ok D n r bk ct =>
  h c Hf H σ fp ok _ fun v Hf1 H1 fp1 ok1 g1 r1 => n _ Hf1 H1 _ fp1 (ok1.put r1) g1 k
theorem ts_par {j : Nat} {tas : TA} (h : Ea K tas S [x, y] S1) (k : E.nx { S1 with sl := (S1.sl.set i x).set j y }) : Ts K (tPar i j tas) S E := fun c Hf H σ fp ok D n r bk ct =>
  h c Hf H σ fp ok _ fun vs Hf1 H1 fp1 ok1 g1 r1 => by
    cases r1 with
    | cons r1 rr => cases rr with
      | cons r2 rr => cases rr with
        | nil => exact ⟨_, _, rfl, n _ Hf1 H1 _ fp1 ((ok1.put r1).put r2) g1 k⟩
theorem ts_aug {f : Int → Int → Int} {j l : Int} (hx : S.sl[i]? = some (.dat (.int j))) (h : Ee K te S (.dat (.int l)) S1) (k : E.nx { S1 with sl := S1.sl.set i (.dat (.int (f j l))) }) : Ts K (tAug i te (ipI f)) S E := fun c Hf H σ fp ok D n r bk ct => by
  obtain ⟨y, q1, q2⟩ := ok.sr i _ hx
  cases y with
  | none => exact q2.elim
  | some v =>
    cases q2
    refine ⟨_, q1, h c Hf H σ fp ok _ fun v Hf1 H1 fp1 ok1 g1 r1 => ?_⟩
    cases r1
    exact ⟨j, l, rfl, rfl, n _ Hf1 H1 _ fp1 (ok1.put (x := .dat (.int (f j l))) (show Rp K Hf1 _ _ from Rp.int _)) g1 k⟩
theorem ts_mono {E' : DE} (h : Ts K tu S E) (hn : ∀ S, E.nx S → E'.nx S) (hr : ∀ x S, E.rt x S → E'.rt x S) (hb : ∀ S, E.bk S → E'.bk S) (hc : ∀ S, E.ct S → E'.ct S) : Ts K tu S E' := fun c Hf H σ fp ok D n r bk ct =>
  h c Hf H σ fp ok D (fun S' Hf' H' σ' fp' o g e => n S' Hf' H' σ' fp' o g (hn S' e)) (fun x S' v Hf' H' σ' fp' o g q e => r x S' v Hf' H' σ' fp' o g q (hr x S' e)) (fun S' Hf' H' σ' fp' o g e => bk S' Hf' H' σ' fp' o g (hb S' e)) (fun S' Hf' H' σ' fp' o g e => ct S' Hf' H' σ' fp' o g (hc S' e))
end
end DL

set_option maxRecDepth 100000
set_option maxHeartbeats 1000000
namespace DL
open PySem PySem.Spec PyProof.Rows L2

/-! ### what is walked -/
structure Wk (K : PySem.W.Frag) (J : It) (Hf : Hp) (ds : List PyData) : Prop where
  go : ∀ (i : Nat) Hf1 H1, Same Hf Hf1 → Same Hf1 H1 → i < ds.length → J.go i H1
  st : ∀ Hf1 H1, Same Hf Hf1 → Same Hf1 H1 → J.stop ds.length H1
  yl : ∀ (i : Nat) d Hf1 H1 x H2, Same Hf Hf1 → Same Hf1 H1 → ds[i]? = some d → J.yld i H1 x H2 → (H2 = H1 ∧ Rp K Hf1 x d) ∨ ∃ p o, H1 p = none ∧ H2 = upd H1 p o ∧ Rp K (upd Hf1 p o) x d
def Ei (K : PySem.W.Frag) (wi : TI) (S : SS) (ds : List PyData) (S' : SS) : Prop := ∀ c Hf H σ fp, Okk K c Hf H σ fp S → ∀ R : It → Hp → Prop,
  (∀ J Hf' H' fp', Okk K c Hf' H' σ fp' S' → Gr Hf H fp Hf' H' fp' → Wk K J Hf' ds → R J H') → wi σ H R
/-- a target; vs: the slots that a comprehension forgets -/
def Eg (K : PySem.W.Frag) (g : TG) (d : PyData) (S S' : SS) : Prop := ∀ c Hf H σ fp, Okk K c Hf H σ fp S → ∀ x, Rp K Hf x d → ∀ Q : L2.St → Hp → Prop, (∀ σ', Okk K c Hf H σ' fp S' → Q σ' H) → g x σ H Q
def Egs (K : PySem.W.Frag) (g : TGs) (ds : List PyData) (S S' : SS) : Prop := ∀ c Hf H σ fp, Okk K c Hf H σ fp S → ∀ xs, RpA K Hf xs ds → ∀ Q : L2.St → Hp → Prop, (∀ σ', Okk K c Hf H σ' fp S' → Q σ' H) → g xs σ H Q
def wipeS (l : List SD) : List Nat → List SD
  | [] => l
  | v :: vs => (wipeS l vs).set v .un
/-- within a comprehension -/
def Egc (K : PySem.W.Frag) (vs : List Nat) (g : TG) (d : PyData) (S S' : SS) : Prop := ∀ c Hf H σ fp, Okk K c Hf H σ fp S → ∀ x, Rp K Hf x d → ∀ Q : L2.St → Hp → Prop, (∀ σ', wipe σ' vs = wipe σ vs → Okk K c Hf H σ' fp S' → Q σ' H) → g x σ H Q
def Egcs (K : PySem.W.Frag) (vs : List Nat) (g : TGs) (ds : List PyData) (S S' : SS) : Prop := ∀ c Hf H σ fp, Okk K c Hf H σ fp S → ∀ xs, RpA K Hf xs ds → ∀ Q : L2.St → Hp → Prop, (∀ σ', wipe σ' vs = wipe σ vs → Okk K c Hf H σ' fp S' → Q σ' H) → g xs σ H Q
theorem wipe_set {σ : L2.St} {x : Option V} {j : Nat} : ∀ {vs : List Nat}, j ∈ vs → wipe (σ.set j x) vs = wipe σ vs
  | [], h => by cases h
  | v :: vs, h => by
    show (wipe (σ.set j x) vs).set v none = (wipe σ vs).set v none
    by_cases hv : j ∈ vs
    · rw [wipe_set hv]
    · have e : j = v := by
        rcases List.mem_cons.mp h with e | e
        · exact e
        · exact absurd e hv
      subst e
      have key : ∀ ws : List Nat, j ∉ ws → wipe (σ.set j x) ws = (wipe σ ws).set j x := fun ws => by
        induction ws with
        | nil => intro _; rfl
        | cons w ws ih =>
          intro hn
          rw [List.mem_cons, not_or] at hn
          show (wipe (σ.set j x) ws).set w none = ((wipe σ ws).set w none).set j x
          rw [ih hn.2, List.set_comm _ _ (Ne.symm hn.1)]
      rw [key vs hv, List.set_set]
theorem wipe_wipe (σ : L2.St) : ∀ vs : List Nat, ∀ ws : List Nat, (∀ v ∈ ws, v ∈ vs) → wipe (wipe σ ws) vs = wipe σ vs
  | vs, [], _ => rfl
  | vs, w :: ws, h => by
    show wipe ((wipe σ ws).set w none) vs = wipe σ vs
    rw [wipe_set (h w (by simp)), wipe_wipe σ vs ws fun v hv => h v (List.mem_cons_of_mem _ hv)]

section
variable {K : PySem.W.Frag} {S S0 S1 S2 S3 S4 : SS} {ta tb te tc : TE} {t u : TT} {x y z : SD} {d e : PyData} {a b : Bool} {r : R2} {i : Nat} {wi : TI} {g : TG} {tbd : TS} {E : DE} {ds : List PyData} {vs : List Nat}
variable {c c' : Addr → Prop} {Hf H : Hp} {σ : L2.St} {fp : List (List Addr)}
theorem Okk.wiped (ok : Okk K c Hf H σ fp S) : ∀ vs : List Nat, Okk K c Hf H (wipe σ vs) fp { S with sl := wipeS S.sl vs }
  | [] => ok
  | v :: vs => by
    have h := Okk.wiped ok vs
    refine ⟨h.hd, ?_, fun j d e => ?_⟩
    · show ((wipe σ vs).set v none).length = ((wipeS S.sl vs).set v .un).length
      rw [List.length_set, List.length_set]
      exact h.ln
    · show ∃ x, ((wipe σ vs).set v none)[j]? = some x ∧ _
      have e' : ((wipeS S.sl vs).set v .un)[j]? = some d := e
      by_cases hj : v = j
      · subst hj
        have hl : v < (wipeS S.sl vs).length := by
          have := (List.getElem?_eq_some_iff.mp e').1
          simpa using this
        rw [List.getElem?_set_self hl] at e'
        obtain rfl := Option.some.inj e'
        exact ⟨none, List.getElem?_set_self (by rw [show (wipe σ vs).length = (wipeS S.sl vs).length from h.ln]; exact hl), trivial⟩
      · rw [List.getElem?_set_ne hj] at e'
        obtain ⟨y, h1, h2⟩ := h.sr j d e'
        exact ⟨y, by rw [List.getElem?_set_ne hj]; exact h1, h2⟩
theorem Okk.heap (ok : Okk K c Hf H σ fp S) {Hf' H' : Hp} {fp' : List (List Addr)} {σ' : L2.St} {S' : SS} (ok' : Okk K c Hf' H' σ' fp' S') (g : Gr Hf H fp Hf' H' fp') : Okk K c Hf' H' σ fp' { S with ob := S'.ob } :=
  ⟨ok'.hd, ok.ln, fun i d e => by
    obtain ⟨x, h1, h2⟩ := ok.sr i d e
    exact ⟨x, h1, h2.mono g.sm g.pr⟩⟩

theorem eg_name : Eg K (gName i) d S { S with sl := S.sl.set i (.dat d) } := fun c Hf H σ fp ok x r Q q => q _ (ok.put (x := .dat d) r)
theorem egs_nil : Egs K gNil [] S S := fun c Hf H σ fp ok xs r Q q => by
  cases r
  exact ⟨rfl, q σ ok⟩
theorem egs_cons {gs : TGs} (h : Eg K g d S S1) (hs : Egs K gs ds S1 S2) : Egs K (gCons g gs) (d :: ds) S S2 := fun c Hf H σ fp ok xs r Q q => by
  cases r with
  | cons r rr => exact ⟨_, _, rfl, h c Hf H σ fp ok _ r _ fun σ' ok' => hs c Hf H σ' fp ok' _ rr Q q⟩
theorem eg_tup {gs : TGs} {n : Nat} (h : Egs K gs ds S S1) (hn : ds.length = n := by rfl) : Eg K (gTup K n gs) (.tuple ds) S S1 := fun c Hf H σ fp ok x r Q q => by
  cases r with
  | tup h1 h2 => exact ⟨_, _, rfl, sameT ok.hd.ex h1, h2.len.trans hn, h c Hf H σ fp ok _ h2 Q q⟩
theorem egc_name (hv : i ∈ vs := by decide) : Egc K vs (gName i) d S { S with sl := S.sl.set i (.dat d) } := fun c Hf H σ fp ok x r Q q => q _ (wipe_set hv) (ok.put (x := .dat d) r)
theorem egcs_nil : Egcs K vs gNil [] S S := fun c Hf H σ fp ok xs r Q q => by
  cases r
  exact ⟨rfl, q σ rfl ok⟩
theorem egcs_cons {gs : TGs} (h : Egc K vs g d S S1) (hs : Egcs K vs gs ds S1 S2) : Egcs K vs (gCons g gs) (d :: ds) S S2 := fun c Hf H σ fp ok xs r Q q => by
  cases r with
  | cons r rr => exact ⟨_, _, rfl, h c Hf H σ fp ok _ r _ fun σ' w ok' => hs c Hf H σ' fp ok' _ rr Q fun σ2 w2 ok2 => q σ2 (w2.trans w) ok2⟩
theorem egc_tup {gs : TGs} {n : Nat} (h : Egcs K vs gs ds S S1) (hn : ds.length = n := by rfl) : Egc K vs (gTup K n gs) (.tuple ds) S S1 := fun c Hf H σ fp ok x r Q q => by
  cases r with
  | tup h1 h2 => exact ⟨_, _, rfl, sameT ok.hd.ex h1, h2.len.trans hn, h c Hf H σ fp ok _ h2 Q q⟩

theorem wk_of {J : It} {n : Nat} {G : Hp → Prop} {Y : Nat → Hp → V → Hp → Prop} (w : Walk J n G Y) (hn : ds.length = n) (hG : ∀ Hf1 H1, Same Hf Hf1 → Same Hf1 H1 → G H1)
    (hY : ∀ (i : Nat) d Hf1 H1 x H2, Same Hf Hf1 → Same Hf1 H1 → ds[i]? = some d → Y i H1 x H2 → (H2 = H1 ∧ Rp K Hf1 x d) ∨ ∃ p o, H1 p = none ∧ H2 = upd H1 p o ∧ Rp K (upd Hf1 p o) x d) : Wk K J Hf ds := by
  subst hn
  exact ⟨fun i Hf1 H1 e1 e2 hi => w.goes i H1 hi (hG Hf1 H1 e1 e2), fun Hf1 H1 e1 e2 => w.stops H1 (hG Hf1 H1 e1 e2), fun i d Hf1 H1 x H2 e1 e2 hd y => hY i d Hf1 H1 x H2 e1 e2 hd (w.yields i H1 x H2 (List.getElem?_eq_some_iff.mp hd).1 (hG Hf1 H1 e1 e2) y)⟩
theorem ei_list (h : Ee K te S (.dat (.list ds)) S1) : Ei K (iList K te) S ds S1 := fun c Hf H σ fp ok R q => h c Hf H σ fp ok _ fun v Hf1 H1 fp1 ok1 g1 r1 => by
  cases r1 with
  | lst h1 h2 =>
    refine ⟨_, rfl, ⟨_, .inl (.inl (ok1.hd.ex _ _ h1))⟩, q _ Hf1 H1 fp1 ok1 g1 (wk_of (walk_list (K := K)) h2.len.symm (fun Hf2 H2 e1 e2 => .inl (.inl (e2 _ _ (e1 _ _ h1)))) fun i d Hf2 H2 x H3 e1 e2 hd y => .inl ?_)⟩
    obtain ⟨rfl, y⟩ := y
    obtain ⟨w, k1, k2⟩ := h2.get hd
    rw [y] at k1
    obtain rfl := Option.some.inj k1
    exact ⟨rfl, k2.mono e1⟩
theorem ei_tup (h : Ee K te S (.dat (.tuple ds)) S1) : Ei K (iTup K te) S ds S1 := fun c Hf H σ fp ok R q => h c Hf H σ fp ok _ fun v Hf1 H1 fp1 ok1 g1 r1 => by
  cases r1 with
  | tup h1 h2 =>
    refine ⟨_, rfl, ⟨_, sameT ok1.hd.ex h1⟩, q _ Hf1 H1 fp1 ok1 g1 (wk_of (walk_tup (K := K)) h2.len.symm (fun Hf2 H2 e1 e2 => sameT e2 (sameT e1 h1)) fun i d Hf2 H2 x H3 e1 e2 hd y => .inl ?_)⟩
    obtain ⟨rfl, y⟩ := y
    obtain ⟨w, k1, k2⟩ := h2.get hd
    rw [y] at k1
    obtain rfl := Option.some.inj k1
    exact ⟨rfl, k2.mono e1⟩
/-- lo, lo + 1, .. -/
def rngD (lo : Int) (n : Nat) : List PyData := (List.range n).map fun (i : Nat) => .int (lo + (i : Int))
theorem rngD_len {lo : Int} {n : Nat} : (rngD lo n).length = n := by
  unfold rngD
  rw [List.length_map, List.length_range]
theorem rngD_get {lo : Int} {n : Nat} {d : PyData} (h : (rngD lo n)[i]? = some d) : i < n ∧ d = .int (lo + (i : Int)) := by
  unfold rngD at h
  rw [List.getElem?_map] at h
  by_cases hi : i < n
  · rw [List.getElem?_range hi] at h
    exact ⟨hi, (Option.some.inj h).symm⟩
  · rw [List.getElem?_eq_none (by rw [List.length_range]; omega)] at h
    cases h
theorem wk_range {lo : Int} {n : Nat} : Wk K (Itr lo n) Hf (rngD lo n) := wk_of walk_range rngD_len (fun _ _ _ _ => trivial) fun i d Hf1 H1 x H2 e1 e2 hd y => .inl (by
  obtain ⟨rfl, rfl⟩ := y
  obtain ⟨_, rfl⟩ := rngD_get hd
  exact ⟨rfl, .int _⟩)
theorem ei_rng1 {tas : TA} {n : Int} (h : Ed K tas S [.int n] S1) (hn : -1000000 ≤ n ∧ n ≤ 1000000) : Ei K (iRng1 tas) S (rngD 0 n.toNat) S1 := fun c Hf H σ fp ok R q => h c Hf H σ fp ok _ fun v Hf1 H1 fp1 ok1 g1 r1 => by
  cases r1 with
  | cons r1 rr =>
    cases rr
    cases r1
    exact ⟨n, rfl, by omega, by omega, q _ Hf1 H1 fp1 ok1 g1 wk_range⟩
theorem ei_rng2 {tas : TA} {lo n : Int} (h : Ed K tas S [.int lo, .int n] S1) (hn : -1000000 ≤ lo ∧ lo ≤ 1000000 ∧ -1000000 ≤ n ∧ n ≤ 1000000) : Ei K (iRng2 tas) S (rngD lo (n - lo).toNat) S1 := fun c Hf H σ fp ok R q => h c Hf H σ fp ok _ fun v Hf1 H1 fp1 ok1 g1 r1 => by
  cases r1 with
  | cons r1 rr => cases rr with
    | cons r2 rr =>
      cases rr
      cases r1
      cases r2
      exact ⟨lo, n, rfl, ⟨by omega, by omega, by omega, by omega⟩, q _ Hf1 H1 fp1 ok1 g1 wk_range⟩
/-- pairs of a number and an item -/
def enumD (ds : List PyData) : List PyData := (List.range ds.length).map fun (i : Nat) => .tuple [.int (i : Int), ds.getD i .none]
theorem enumD_len : (enumD ds).length = ds.length := by
  unfold enumD
  rw [List.length_map, List.length_range]
theorem enumD_get {d : PyData} (h : (enumD ds)[i]? = some d) : ∃ e, ds[i]? = some e ∧ d = .tuple [.int (i : Int), e] := by
  unfold enumD at h
  rw [List.getElem?_map] at h
  by_cases hi : i < ds.length
  · rw [List.getElem?_range hi] at h
    refine ⟨ds[i], List.getElem?_eq_getElem hi, ?_⟩
    rw [← Option.some.inj h]
    show PyData.tuple [PyData.int (i : Int), ds.getD i PyData.none] = _
    rw [List.getD_eq_getElem?_getD, List.getElem?_eq_getElem hi]
    rfl
  · rw [List.getElem?_eq_none (by rw [List.length_range]; omega)] at h
    cases h
theorem ei_enum {tas : TA} (h : Ed K tas S [.list ds] S1) : Ei K (iEnum K tas) S (enumD ds) S1 := fun c Hf H σ fp ok R q => h c Hf H σ fp ok _ fun v Hf1 H1 fp1 ok1 g1 r1 => by
  cases r1 with
  | cons r1 rr =>
    cases rr
    cases r1 with
    | lst h1 h2 =>
      refine ⟨_, _, rfl, .inl (.inl (ok1.hd.ex _ _ h1)), q _ Hf1 H1 fp1 ok1 g1 (wk_of (walk_enum (K := K)) (enumD_len.trans h2.len.symm) (fun Hf2 H2 e1 e2 => .inl (.inl (e2 _ _ (e1 _ _ h1)))) fun i d Hf2 H2 x H3 e1 e2 hd y => .inr ?_)⟩
      obtain ⟨T, v1, v2, rfl, hT, rfl, y1, y2⟩ := y
      obtain ⟨e, k1, rfl⟩ := enumD_get hd
      obtain ⟨w, k2, k3⟩ := h2.get k1
      have y3 : some v2 = some w := y2.symm.trans k2
      obtain rfl := Option.some.inj y3
      obtain rfl := Option.some.inj y1
      refine ⟨T, _, hT, rfl, .tup (.inl (.inl upd_same)) (.cons (.int _) (.cons (k3.mono (e1.trans ?_)) .nil))⟩
      intro b o eb
      rw [upd_ne (ne_of_none eb (e2.free hT))]
      exact eb

/-! ### loops -/
theorem ts_for (h : Ei K wi S ds S0) (Pv : Nat → SS → Prop) (h0 : Pv 0 S0) (hs : ∀ i d S', ds[i]? = some d → Pv i S' → ∃ S'', Eg K g d S' S'' ∧ Ts K tbd S'' { nx := Pv (i + 1), rt := E.rt, bk := E.nx, ct := Pv (i + 1) }) (hd : ∀ S', Pv ds.length S' → E.nx S') : Ts K (tFor wi g tbd) S E := fun c Hf H σ fp ok D n r bk ct =>
  h c Hf H σ fp ok _ fun J Hf1 H1 fp1 ok1 g1 w => by
    refine ⟨fun i m σ' H' => m = ds.length - i ∧ i ≤ ds.length ∧ ∃ S' Hf' fp', Okk K c Hf' H' σ' fp' S' ∧ Gr Hf H fp Hf' H' fp' ∧ Same Hf1 Hf' ∧ Pv i S', ⟨ds.length, by simp, Nat.zero_le _, S0, Hf1, fp1, ok1, g1, Same.refl _, h0⟩, ?_⟩
    rintro i m σ' H' ⟨rfl, hi, S', Hf', fp', ok', g', s', p⟩
    by_cases hlt : i < ds.length
    · refine .inr ⟨w.go i Hf' H' s' ok'.hd.ex hlt, fun σ2 H2 => ∃ S' Hf' fp', Okk K c Hf' H2 σ2 fp' S' ∧ Gr Hf H fp Hf' H2 fp' ∧ Same Hf1 Hf' ∧ Pv (i + 1) S', fun σ2 H2 ⟨S2, Hf2, fp2, a1, a2, a3, a4⟩ => ⟨ds.length - (i + 1), by omega, rfl, hlt, S2, Hf2, fp2, a1, a2, a3, a4⟩, fun x H2 y => ?_⟩
      obtain ⟨S2, hg, hb⟩ := hs i ds[i] S' (List.getElem?_eq_getElem hlt) p
      have fin : ∀ Hf2, Okk K c Hf2 H2 σ' fp' S' → Gr Hf' H' fp' Hf2 H2 fp' → Rp K Hf2 x ds[i] → g x σ' H2 fun σ2 H2 => tbd { D with nx := fun σ2 H2 => ∃ S' Hf' fp', Okk K c Hf' H2 σ2 fp' S' ∧ Gr Hf H fp Hf' H2 fp' ∧ Same Hf1 Hf' ∧ Pv (i + 1) S', ct := fun σ2 H2 => ∃ S' Hf' fp', Okk K c Hf' H2 σ2 fp' S' ∧ Gr Hf H fp Hf' H2 fp' ∧ Same Hf1 Hf' ∧ Pv (i + 1) S', bk := D.nx } σ2 H2 := fun Hf2 ok2 g2 rp =>
        hg c Hf2 H2 σ' fp' ok2 x rp _ fun σ3 ok3 => hb c Hf2 H2 σ3 fp' ok3 _ (fun S4 Hf4 H4 σ4 fp4 ok4 g4 p4 => ⟨S4, Hf4, fp4, ok4, (g'.trans g2).trans g4, (s'.trans g2.sm).trans g4.sm, p4⟩)
          (fun x S4 v Hf4 H4 σ4 fp4 ok4 g4 sr p4 => r x S4 v Hf4 H4 σ4 fp4 ok4 ((g'.trans g2).trans g4) sr p4) (fun S4 Hf4 H4 σ4 fp4 ok4 g4 p4 => n S4 Hf4 H4 σ4 fp4 ok4 ((g'.trans g2).trans g4) p4)
          (fun S4 Hf4 H4 σ4 fp4 ok4 g4 p4 => ⟨S4, Hf4, fp4, ok4, (g'.trans g2).trans g4, (s'.trans g2.sm).trans g4.sm, p4⟩)
      rcases w.yl i ds[i] Hf' H' x H2 s' ok'.hd.ex (List.getElem?_eq_getElem hlt) y with ⟨rfl, rp⟩ | ⟨p, o, hp, rfl, rp⟩
      · exact fin Hf' ok' Gr.refl rp
      · obtain ⟨ok2, g2⟩ := ok'.laid o hp
        exact fin _ ok2 g2 rp
    · have e : i = ds.length := by omega
      subst e
      exact .inl ⟨w.st Hf' H' s' ok'.hd.ex, n S' Hf' H' σ' fp' ok' g' (hd S' p)⟩

/-! ### comprehensions -/
theorem el_lc {out : List PyData} {obo : List OO} (h : Ei K wi S ds S0) (Pv : Nat → List PyData → List OO → Prop) (h0 : Pv 0 [] S0.ob)
    (hs : ∀ i d acc ob, ds[i]? = some d → Pv i acc ob → ∃ Sg b S2, Egc K vs g d { S0 with ob := ob, sl := wipeS S0.sl vs } Sg ∧ Et K t Sg b S2 ∧ (b = false → Pv (i + 1) acc S2.ob) ∧ (b = true → ∃ y S3, Ee K te S2 (.dat y) S3 ∧ Pv (i + 1) (acc ++ [y]) S3.ob))
    (hl : ds.length ≤ 1000000) (hd : ∀ acc ob, Pv ds.length acc ob → acc = out ∧ ob = obo) : El K (tLc wi g t te vs) S out { S0 with ob := obo } := fun c Hf H σ fp ok Q q =>
  h c Hf H σ fp ok _ fun J Hf1 H1 fp1 ok1 g1 w Dl hD => by
    -- the new list at Dl stands apart
    refine ⟨fun i m H' => m = ds.length - i ∧ i ≤ ds.length ∧ ∃ acc ob Hf' fp' xs, Okk K (fun a => c a ∨ a = Dl) Hf' H' σ fp' { S0 with ob := ob } ∧ Gr Hf H fp Hf' H' fp' ∧ Same Hf1 Hf' ∧ H' Dl = some (.lst xs) ∧ RpA K Hf' xs acc ∧ Dl ∉ fp'.flatten ∧ acc.length ≤ i ∧ Pv i acc ob, ⟨ds.length, by simp, Nat.zero_le _, [], S0.ob, Hf1, fp1, [], ?_⟩, ?_⟩
    · obtain ⟨ok2, g2, al⟩ := ok1.alone (xs := []) (ds := []) hD .nil
      refine ⟨⟨⟨ok2.hd.ex, ok2.hd.fl, ok2.hd.oo, ok2.hd.nd, ok2.hd.al, ok2.hd.nf, fun a z => ?_, fun k p ds' e1 e2 a ha z => ?_⟩, ok2.ln, ok2.sr⟩, g1.trans g2, Same.refl _, upd_same, .nil, al.nm, Nat.le_refl _, h0⟩
      · rcases z with z | rfl
        · exact ok2.hd.pt a z
        · exact ⟨al.hf, _, upd_same⟩
      · rcases z with z | rfl
        · exact ok2.hd.np k p ds' e1 e2 a ha z
        · exact al.nm (mem_fl e1 ha)
    · rintro i m H' ⟨rfl, hi, acc, ob, Hf', fp', xs, ok', g', s', hx, hr, nm, hacc, p⟩
      by_cases hlt : i < ds.length
      · refine .inr ⟨w.go i Hf' H' s' ok'.hd.ex hlt, fun H2 => i + 1 ≤ ds.length ∧ ∃ acc ob Hf' fp' xs, Okk K (fun a => c a ∨ a = Dl) Hf' H2 σ fp' { S0 with ob := ob } ∧ Gr Hf H fp Hf' H2 fp' ∧ Same Hf1 Hf' ∧ H2 Dl = some (.lst xs) ∧ RpA K Hf' xs acc ∧ Dl ∉ fp'.flatten ∧ acc.length ≤ i + 1 ∧ Pv (i + 1) acc ob, fun H2 ⟨a1, a2⟩ => ⟨ds.length - (i + 1), by omega, rfl, a1, a2⟩, fun x H2 y => ?_⟩
        obtain ⟨Sg, b, S2, hg, ht, hf, hy⟩ := hs i ds[i] acc ob (List.getElem?_eq_getElem hlt) p
        have fin : ∀ Hf2, Okk K (fun a => c a ∨ a = Dl) Hf2 H2 σ fp' { S0 with ob := ob } → Gr Hf' H' fp' Hf2 H2 fp' → Rp K Hf2 x ds[i] → g x (wipe σ vs) H2 fun σ2 H2 => wipe σ2 vs = wipe σ vs ∧ t σ2 H2 fun b H3 =>
            if b = true then te σ2 H3 fun y H4 => ∃ acc, H4 Dl = some (.lst acc) ∧ acc.length < sizeLine ∧ (i + 1 ≤ ds.length ∧ ∃ acc' ob Hf' fp' xs, Okk K (fun a => c a ∨ a = Dl) Hf' (upd H4 Dl (.lst (acc ++ [y]))) σ fp' { S0 with ob := ob } ∧ Gr Hf H fp Hf' (upd H4 Dl (.lst (acc ++ [y]))) fp' ∧ Same Hf1 Hf' ∧ (upd H4 Dl (.lst (acc ++ [y]))) Dl = some (.lst xs) ∧ RpA K Hf' xs acc' ∧ Dl ∉ fp'.flatten ∧ acc'.length ≤ i + 1 ∧ Pv (i + 1) acc' ob)
            else (i + 1 ≤ ds.length ∧ ∃ acc ob Hf' fp' xs, Okk K (fun a => c a ∨ a = Dl) Hf' H3 σ fp' { S0 with ob := ob } ∧ Gr Hf H fp Hf' H3 fp' ∧ Same Hf1 Hf' ∧ H3 Dl = some (.lst xs) ∧ RpA K Hf' xs acc ∧ Dl ∉ fp'.flatten ∧ acc.length ≤ i + 1 ∧ Pv (i + 1) acc ob) := fun Hf2 ok2 g2 rp => by
          refine hg _ Hf2 H2 _ fp' (ok2.wiped vs) x rp _ fun σ3 w3 ok3 => ⟨?_, ?_⟩
          · rw [w3, wipe_wipe σ vs vs fun _ h => h]
          refine ht _ Hf2 H2 σ3 fp' ok3 _ fun Hf4 H4 fp4 ok4 g4 => ?_
          have hx2 : H2 Dl = some (.lst xs) := g2.fr _ _ hx nm
          have hx4 : H4 Dl = some (.lst xs) := g4.fr _ _ hx2 nm
          have nm4 : Dl ∉ fp4.flatten := fun m => (g4.nw Dl m).elim nm fun z => by
            rw [hx2] at z
            cases z
          cases b with
          | false =>
            refine iteF ⟨hlt, acc, S2.ob, Hf4, fp4, xs, ok2.heap ok4 g4, (g'.trans g2).trans g4, (s'.trans g2.sm).trans g4.sm, hx4, hr.mono (g2.sm.trans g4.sm), nm4, by omega, hf rfl⟩
          | true =>
            refine iteT ?_
            obtain ⟨yd, S3, he, p3⟩ := hy rfl
            refine he _ Hf4 H4 σ3 fp4 ok4 _ fun v Hf5 H5 fp5 ok5 g5 r5 => ?_
            have hx5 : H5 Dl = some (.lst xs) := g5.fr _ _ hx4 nm4
            have nm5 : Dl ∉ fp5.flatten := fun m => (g5.nw Dl m).elim nm4 fun z => by
              rw [hx4] at z
              cases z
            have hxl : xs.length = acc.length := hr.len
            refine ⟨xs, hx5, Nat.lt_of_le_of_lt (show xs.length ≤ 1000000 by omega) (by decide), hlt, acc ++ [yd], S3.ob, Hf5, fp5, xs ++ [v], ?_, ?_, ((s'.trans g2.sm).trans g4.sm).trans g5.sm, upd_same, (hr.mono ((g2.sm.trans g4.sm).trans g5.sm)).append (.cons r5 .nil), nm5, by rw [List.length_append, List.length_singleton]; omega, p3⟩
            · have okA := ok2.heap ok5 (g4.trans g5)
              have hfD : Hf5 Dl = none := (ok5.hd.pt Dl (.inr rfl)).1
              refine ⟨⟨fun b o e => ?_, okA.hd.fl, fun k q o e1 e2 => (okA.hd.oo k q o e1 e2).mono (Same.refl _) fun b hb => upd_ne fun z => nm5 (mem_fl e1 (by rw [← z]; exact hb)), okA.hd.nd, fun a ha => ?_, okA.hd.nf, fun a z => ?_, okA.hd.np⟩, okA.ln, okA.sr⟩
              · rw [upd_ne (ne_of_none e hfD)]
                exact okA.hd.ex b o e
              · obtain ⟨o, e⟩ := okA.hd.al a ha
                exact ⟨o, by rw [upd_ne (show a ≠ Dl from fun z => nm5 (by rw [← z]; exact ha))]; exact e⟩
              · obtain ⟨z1, o, z2⟩ := okA.hd.pt a z
                refine ⟨z1, ?_⟩
                by_cases hb : a = Dl
                · rw [hb]
                  exact ⟨_, upd_same⟩
                · exact ⟨o, by rw [upd_ne hb]; exact z2⟩
            · have G := ((g'.trans g2).trans g4).trans g5
              have hHD : H Dl = none := none_back g1.th hD
              refine ⟨G.sm, G.pr, fun a o e n => ?_, G.nw, fun a o e => ?_⟩
              · rw [upd_ne (ne_of_none e hHD)]
                exact G.fr a o e n
              · rw [upd_ne (ne_of_none e hHD)]
                exact G.th a o e
        rcases w.yl i ds[i] Hf' H' x H2 s' ok'.hd.ex (List.getElem?_eq_getElem hlt) y with ⟨rfl, rp⟩ | ⟨pp, o, hp, rfl, rp⟩
        · exact fin Hf' ok' Gr.refl rp
        · obtain ⟨ok2, g2⟩ := ok'.laid o hp
          exact fin _ ok2 g2 rp
      · have e : i = ds.length := by omega
        subst e
        obtain ⟨rfl, rfl⟩ := hd acc ob p
        refine .inl ⟨w.st Hf' H' s' ok'.hd.ex, ?_⟩
        have hfD := (ok'.hd.pt Dl (.inr rfl)).1
        refine q Dl Hf' H' fp' (ok'.weak fun a z => .inl z) g' (none_back g1.th hD) ⟨⟨xs, hx, hr⟩, hfD, nm, fun z => ?_⟩
        obtain ⟨_, o, z2⟩ := ok.hd.pt Dl z
        rw [none_back g1.th hD] at z2
        cases z2
end
end DL

set_option maxRecDepth 100000
set_option maxHeartbeats 1000000
/-! DLlow: rules that the hand layer has for lists, here for tuples: t > u, enumerate(t), t[::-1] -/
namespace DL
open PySem PySem.Spec PyProof.Rows L2

/-! ### t > u, whole numbers -/
def rGtT (K : PySem.W.Frag) : R2 := fun x y H Q => ∃ (a b : Addr) (ns ms : List Int), x = .ref a ∧ y = .ref b ∧ SqT K H a (ns.map V.int) ∧ SqT K H b (ms.map V.int) ∧
  Q (.bl (Ob.lexAt (fun j => decide (ns.getD j 0 = ms.getD j 0)) (fun j => decide (ms.getD j 0 < ns.getD j 0)) (decide (ns.length > ms.length)) 0 (min ns.length ms.length))) H
theorem op_gtT {X : Cx} (hu : X.A.units < cLine) : OpR X (compareOp .Gt) (rGtT X.K) := by
  intro pins s σ H x y v u Q I rx ry h
  obtain ⟨a, b, ns, ms, rfl, rfl, ha, hb, q⟩ := h
  cases rx
  cases ry
  obtain ⟨us, k1, w1, _⟩ := I.tuple ha
  obtain ⟨ws, k2, w2, _⟩ := I.tuple hb
  have q1 : IntsAre us ns := Vals.ints k1
  have q2 : IntsAre ws ms := Vals.ints k2
  have z1 : us.toArray.size = ns.length := by rw [List.size_toArray]; exact q1.length
  have z2 : ws.toArray.size = ms.length := by rw [List.size_toArray]; exact q2.length
  have f1 : ∀ j (hj : j < us.toArray.size), ∃ t, us.toArray[j] = .int (ns.getD j 0) t := fun j hj => PyProof.Rows.IntsAre.int_at q1 _ _ (by simp at hj; simp [hj])
  have f2 : ∀ j (hj : j < ws.toArray.size), ∃ t, ws.toArray[j] = .int (ms.getD j 0) t := fun j hj => PyProof.Rows.IntsAre.int_at q2 _ _ (by simp at hj; simp [hj])
  have G := Ob.RcOp.tuples_gt (A := X.A) (s := s) (e := fun j => decide (ns.getD j 0 = ms.getD j 0)) (r := fun j => decide (ms.getD j 0 < ns.getD j 0)) w1 w2 hu (fun j h1 h2 => by
    obtain ⟨t, g1⟩ := f1 j h1
    obtain ⟨t', g2⟩ := f2 j h2
    have z : decide (ns.getD j 0 = ms.getD j 0) = (ns.getD j 0 == ms.getD j 0) := by
      by_cases q : ns.getD j 0 = ms.getD j 0
      · rw [decide_eq_true q, beq_iff_eq.mpr q]
      · rw [decide_eq_false q, beq_eq_false_iff_ne.mpr q]
    rw [g1, g2, z]
    exact SeqAt.EqAt.int_int _ _ _ _) (fun j h1 h2 _ => by
    obtain ⟨t, g1⟩ := f1 j h1
    obtain ⟨t', g2⟩ := f2 j h2
    rw [g1, g2]
    exact Ob.RcOp.gt_int _ _ _ _)
  rw [z1, z2] at G
  exact G X.prog X.w X.xe (EP X pins σ Q) ⟨.bl _, H, I, rfl, q⟩

/-! ### enumerate(t) -/
theorem enum_newT (l : Addr) (items : Array Value) (n : Nat) (dct : Option Addr) (sl : Array (Option Value)) :
    Meets (Builtin.«enumerate.__new__» ⟨[.type "enumerate", .ref l], []⟩) (fun _ R s => s.heap.get? l = some { cls := .type "tuple", dict := dct, data := .seq items n, slots := sl } ∧
      R (.ok (.ret (.ref (s.heap.push { cls := .type "tuple_iterator", data := .fields #[.ref l, .int 0 0] }).objs.size)))
        { s with heap := (s.heap.push { cls := .type "tuple_iterator", data := .fields #[.ref l, .int 0 0] }).push { cls := .type "enumerate", data := .fields #[.none, .bool false, .ref s.heap.objs.size, rawInt 0, .none, .none] } }) :=
  .of_wp fun prog w A R s h => by
    obtain ⟨hp, g, d, tk, os⟩ := s
    obtain ⟨hl, h⟩ := h
    have hs := sub_enumerate
    have hT : Heap.IsTuple (Shared.heap ⟨hp, g, d, tk, os⟩) l items := ⟨_, hl, rfl, n, rfl⟩
    wp_walk using AutoSeq1.wpAny_loadPart' hT
    refine wpAny_stack_any fun st => wpAny_pure ?_
    split
    · rename_i c _ _ _ _ _
      cases (c == Value.type "enumerate")
      · wp_walk using AutoSeq1.wpAny_loadPart' hT, wpAny_pyIter_tuple hT
        exact ⟨_, rfl, h⟩
      · wp_walk using AutoSeq1.wpAny_loadPart' hT, wpAny_pyIter_tuple hT
        exact ⟨_, rfl, h⟩
    · wp_walk using AutoSeq1.wpAny_loadPart' hT, wpAny_pyIter_tuple hT
      exact ⟨_, rfl, h⟩
section
variable {prog : Program} {w : World} {A : Around} {E : Value → Shared → Prop} {s : Shared}
theorem call_enumT {l : Addr} {items : Array Value} {Q : Value → Shared → Prop} (hT : s.heap.IsTuple l items)
    (h : ∀ h', IsEnum h' (s.heap.objs.size + 1) s.heap.objs.size 0 .none → h'.IsTupleIter s.heap.objs.size l 0 → (∀ b o, s.heap.get? b = some o → h'.get? b = some o) → Q (.ref (s.heap.objs.size + 1)) { s with heap := h' }) :
    wpAny (model prog w) A (call (.type "enumerate") [.ref l]) Q E s := by
  obtain ⟨⟨c, dct, dt, sl⟩, hl, hc, n, hd⟩ := hT
  replace hc : c = .type "tuple" := hc
  replace hd : dt = .seq items n := hd
  subst hc hd
  refine callType_new F.called_enumerate (by decide) (F.typeCall_enumerate_1 _) (F.newCall_enumerate_1 _) (fun obj => F.args_object_init_2 obj _) F.entry_enumerate_new (enum_newT l items n dct sl) ⟨hl, ?_⟩
  generalize hg : (Heap.push s.heap { cls := .type "tuple_iterator", data := .fields #[.ref l, .int 0 0] }) = g1
  have hz : g1.objs.size = s.heap.objs.size + 1 := by
    rw [← hg]
    exact Heap.size_push ..
  have k1 : g1.get? s.heap.objs.size = some { cls := .type "tuple_iterator", data := .fields #[.ref l, .int 0 0] } := by
    rw [← hg]
    exact Heap.get?_push_size _ rfl
  have k0 : ∀ b o, s.heap.get? b = some o → g1.get? b = some o := fun b o q => by
    rw [← hg]
    exact Heap.get?_push_of_some _ q
  have k2 := Heap.get?_push_size g1 (o := { cls := .type "enumerate", data := .fields #[.none, .bool false, .ref s.heap.objs.size, rawInt 0, .none, .none] }) rfl
  rw [hz] at k2
  show _ ∧ _
  rw [hz]
  exact ⟨⟨_, k2, rfl⟩, h _ k2 ⟨_, Heap.get?_push_of_some _ k1, rfl, rfl⟩ fun b o q => Heap.get?_push_of_some _ (k0 b o q)⟩
end
/-- the tuple at a, each item in a new pair -/
def IteT (K : PySem.W.Frag) (a : Addr) : It :=
  ⟨fun i H => ∃ (xs : List V) (x : V), SqT K H a xs ∧ xs[i]? = some x, fun i H v H' => ∃ T x, v = .ref T ∧ H T = none ∧ H' = upd H T (.tup [.int (i : Nat), x]) ∧ ∀ xs, SqT K H a xs → xs[i]? = some x, fun i H => ∃ xs : List V, SqT K H a xs ∧ xs.length = i⟩
theorem turn_enumT {P : Program} {w : World} {K : PySem.W.Frag} {elts : List Expr} {kk : Nat} {tpos : Pos} (a e it : Addr) :
    Turn P w K (.Tuple elts kk tpos) (IteT K a) [e, it] e (fun i h => (∃ old, IsEnum h e it ((i : Nat) : Int) old) ∧ h.IsTupleIter it a i ∧ e ≠ it) where
  mem := List.mem_cons_self
  obj := fun i h st b hb => by
    obtain ⟨⟨old, he⟩, ⟨o, ho, hc, hd⟩, _⟩ := st
    rcases List.mem_cons.mp hb with z | z
    · rw [z]
      exact ⟨_, he, fun v q => nomatch q⟩
    · rw [List.mem_singleton.mp z]
      exact ⟨o, ho, fun v q => by
        rw [hd] at q
        cases q⟩
  keep := fun i h h' st k => by
    obtain ⟨⟨old, he⟩, hi, hne⟩ := st
    exact ⟨⟨old, k e List.mem_cons_self _ he⟩, hi.at fun o q => k it (List.mem_cons_of_mem _ List.mem_cons_self) o q, hne⟩
  item := by
    intro X hP hw hK hc i pins s σ H E I hf st hg
    subst hP hw hK
    obtain ⟨⟨old, he⟩, hit, hne⟩ := st
    obtain ⟨xs, x, hq, hx⟩ := hg
    obtain ⟨us, rv, p, hz⟩ := I.tuple hq
    have hT : s.heap.IsTuple a us.toArray := p
    obtain ⟨u, hu, ru⟩ := rv.get hx
    have hel : e < s.heap.objs.size := Heap.lt_size he
    have hil : it < s.heap.objs.size := by
      obtain ⟨_, q, _⟩ := hit
      exact Heap.lt_size q
    have hai : a ≠ it := fun z => by
      obtain ⟨o, h1, h2, _⟩ := hit
      obtain ⟨o', h1', h2', _⟩ := hT
      rw [z, h1] at h1'
      rw [← Option.some.inj h1', h2] at h2'
      simp at h2'
    have hea : e ≠ a := fun z => by
      obtain ⟨o', h1', h2', _⟩ := hT
      rw [← z, he] at h1'
      rw [← Option.some.inj h1'] at h2'
      simp at h2'
    have hh : X.A.in1.handled = none := I.ok.hd hc
    refine wpAny_pyNext_enum_itemD (Draws.tuple (prog := X.prog) (w := X.w) hh it a hai us.toArray) he ⟨hit, hT⟩ (by have := (List.getElem?_eq_some_iff.mp hu).1; simpa using this) hne (by simp [hne, hea]) fun y h' tk hy hout st' ht hsz hk => ?_
    have ey : y = u := by
      have : us.toArray[i]? = some u := by simpa using hu
      rw [this] at hy
      exact (Option.some.inj hy).symm
    subst ey
    refine ⟨_, rfl, wpAny_letOwnedTupleGo_enum (s := { s with heap := h', toks := tk + 1 }) hout fun g he' sb => ?_⟩
    have ht2 : g.get? s.heap.objs.size = some { cls := .type "tuple", data := .seq #[.int i tk, y] } := (sb.2 _ (Nat.ne_of_gt hel)).trans ht
    have new : ObjOk X.prog X.w (upd H s.heap.objs.size (.tup [.int (i : Nat), x])) g s.heap.objs.size (.tup [.int (i : Nat), x]) :=
      ⟨(by decide : 2 ≤ sizeLine), [.int i tk, y], .cons ⟨_, rfl⟩ (.cons ru .nil), ⟨_, ht2, rfl, _, rfl⟩⟩
    have J : Inv X pins σ (upd H s.heap.objs.size (.tup [.int (i : Nat), x])) { s with heap := g, toks := tk + 1 } :=
      I.turnedNew (ch := [e, it]) (fun b ob hb q => (sb.2 b (fun z => hb (by simp [z]))).trans (hk b ob (fun z => hb (by simp [z])) (fun z => hb (by simp [z])) q)) hf (Nat.le_refl _) new
    refine ⟨.ref s.heap.objs.size, _, J, rfl, ⟨_, x, rfl, I.hok.fresh (Nat.le_refl _), rfl, fun ys hy => ?_⟩, ⟨⟨y, ?_⟩, st'.1.at fun o q => (sb.2 it (Ne.symm hne)).trans q, hne⟩, fun b hb => ?_⟩
    · rw [I.tuple_inj hy hq]
      exact hx
    · rw [show ((i + 1 : Nat) : Int) = (i : Int) + 1 from by omega]
      exact he'
    · have hb' : b < s.heap.objs.size := by
        rcases List.mem_cons.mp hb with z | z
        · rw [z]
          exact hel
        · rw [List.mem_singleton.mp z]
          exact hil
      rw [upd_ne (Nat.ne_of_lt hb')]
      exact (hf b hb).1
  done := by
    intro X hP hw hK hc i pins s σ H E I hf st hg
    subst hP hw hK
    obtain ⟨⟨old, he⟩, hit, hne⟩ := st
    obtain ⟨xs, hq, hx⟩ := hg
    obtain ⟨us, rv, p, hz⟩ := I.tuple hq
    have hT : s.heap.IsTuple a us.toArray := p
    have hl := rv.length
    have hai : a ≠ it := fun z => by
      obtain ⟨o, h1, h2, _⟩ := hit
      obtain ⟨o', h1', h2', _⟩ := hT
      rw [z, h1] at h1'
      rw [← Option.some.inj h1', h2] at h2'
      simp at h2'
    have hh : X.A.in1.handled = none := I.ok.hd hc
    have hsz : us.toArray.size = i := by
      rw [List.size_toArray, ← hl]
      exact hx
    refine wpAny_pyNext_enum_endD (Draws.tuple (prog := X.prog) (w := X.w) hh it a hai us.toArray) he (by rw [hsz]; exact ⟨hit, hT⟩) fun h' eb => ⟨rfl, ?_⟩
    obtain ⟨f0, f1, f2, f3, f4, f5⟩ := hf it (List.mem_cons_of_mem _ List.mem_cons_self)
    exact I.turned (t' := s.toks) (fun b o hb q => eb b o hb q) f0 f1 f3 f4 f5
  self := fun A i s Q E st h => by
    obtain ⟨⟨_, he⟩, _⟩ := st
    exact wpAny_pyIter_enum he h
def iEnumT (K : PySem.W.Frag) (ta : TA) : TI := fun σ H R => ta σ H fun vs H1 => ∃ a xs, vs = [.ref a] ∧ SqT K H1 a xs ∧ R (IteT K a) H1
theorem pi_enumT {X : Cx} {e : Expr} {ta : TA} {p pos tpos : Pos} {elts : List Expr} {kk : Nat} (hg : Gl X "enumerate") (hm : X.mg "enumerate" = none) (ha : PA X [e] ta) (hs : starEach [e] X.env = [(false, eval e X.env)] := by rfl) :
    PI X (.Tuple elts kk tpos) (.Call (.Name "enumerate" p) [e] [] pos) (iEnumT X.K ta) := by
  constructor
  intro pins s σ H R I h
  refine Call_ (ld_blt I hg hm boot_enumerate (PyProof.Rows.callWith_type1 (thn (ha.run pos pins s σ H _ I h) fun us s1 ⟨vs, H1, J, r1, q1⟩ => ?_) hs rfl))
  obtain ⟨a, xs, ex, hq, q⟩ := q1
  subst ex
  cases r1 with
  | cons r rr =>
    cases rr
    cases r
    obtain ⟨us, rv, p', hz⟩ := J.tuple hq
    refine call_enumT (show s1.heap.IsTuple a us.toArray from p') fun h' he hit hk => wpAny_pyIter_enum he ?_
    have J2 : Inv X pins σ H1 { s1 with heap := h' } := J.kept (t' := s1.toks) hk
    refine ⟨s1.heap.objs.size + 1, [s1.heap.objs.size + 1, s1.heap.objs.size], _, _, H1, rfl, J2, turn_enumT a (s1.heap.objs.size + 1) s1.heap.objs.size, ⟨⟨.none, he⟩, hit, Nat.succ_ne_self _⟩, fun b hb => ?_, q⟩
    have hle : s1.heap.objs.size ≤ b := by
      rcases List.mem_cons.mp hb with z | z
      · rw [z]
        exact Nat.le_add_right _ _
      · rw [List.mem_singleton.mp z]
        exact Nat.le_refl _
    exact J.fpOk hle (J.hok.fresh hle)
theorem walk_enumT {K : PySem.W.Frag} {a : Addr} {xs : List V} : Walk (IteT K a) xs.length (fun H => SqT K H a xs) (YPair (fun i => some (.int (i : Nat))) (fun i => xs[i]?)) := by
  refine ⟨fun i _ hi q => ⟨xs, xs[i], q, by simp [hi]⟩, fun _ q => ⟨xs, q, rfl⟩, fun i H v H' _ q y => ?_⟩
  obtain ⟨T, x, h1, h2, h3, h4⟩ := y
  exact ⟨T, .int (i : Nat), x, h1, h2, h3, rfl, h4 xs q⟩

/-! ### t[::-1] -/
def tRevT (K : PySem.W.Frag) (te : TE) : TE := fun σ H Q => te σ H fun x H1 => ∃ a xs, x = .ref a ∧ SqT K H1 a xs ∧ ∀ p, H1 p = none → Q (.ref p) (upd H1 p (.tup xs.reverse))
section
variable {prog : Program} {w : World} {A : Around} {E : Value → Shared → Prop} {s : Shared}
theorem applied_back {sl : Addr} {n : Nat} {u : Tok} {Q : Int × Int × Nat → Shared → Prop} (hs : s.heap.IsSliceOf sl .none .none (.int (-1) u)) (h : Q ((n : Int) - 1, -1, n) s) : wpAny (model prog w) A (Builtin.Slice.sliceApplied (.ref sl) (pure (n : Int))) Q E s := by
  obtain ⟨os, ho, hc, hd⟩ := id hs
  unfold Builtin.Slice.sliceApplied Builtin.Slice.sliceFields
  refine wpAny_bind (wpAny_bind (wpAny_field ho hd (x := .none) rfl (wpAny_bind (wpAny_field ho hd (x := .none) rfl (wpAny_bind (wpAny_field ho hd (x := .int (-1) u) rfl (wpAny_pure ?_)))))))
  refine wpAny_bind (HT.slicePart_ (.int (-1) u) ?_)
  show wpAny _ _ (if ((-1 : Int) == 0) = true then _ else _) _ _ s
  rw [if_neg (by decide)]
  refine wpAny_bind (HT.slicePart_ .none (wpAny_bind (HT.slicePart_ .none (wpAny_bind (wpAny_pure ?_)))))
  have e1 : Builtin.Slice.sliceAdjust none none (-1) (n : Int) = ((n : Int) - 1, -1) := rfl
  have e2 : Builtin.Slice.slicePlaces ((n : Int) - 1) (-1) (-1) = n := by
    unfold Builtin.Slice.slicePlaces
    have h1 : ¬ ((-1 : Int) > 0) := by decide
    simp only [h1, if_false]
    split
    · rw [show (-(-1) : Int) = 1 from by decide, Int.ediv_one]
      omega
    · omega
  show wpAny _ _ (match Builtin.Slice.sliceAdjust none none (-1) (n : Int) with | (lo, hi) => pure (lo, (-1 : Int), Builtin.Slice.slicePlaces lo hi (-1))) _ _ s
  rw [e1]
  show wpAny _ _ (pure ((n : Int) - 1, (-1 : Int), Builtin.Slice.slicePlaces ((n : Int) - 1) (-1) (-1))) _ _ s
  rw [e2]
  exact wpAny_pure h
theorem fm_congr {α β : Type} {f g : α → Option β} : ∀ {l : List α}, (∀ x ∈ l, f x = g x) → l.filterMap f = l.filterMap g
  | [], _ => rfl
  | x :: l, h => by
    rw [List.filterMap_cons, List.filterMap_cons, h x List.mem_cons_self, fm_congr fun y hy => h y (List.mem_cons_of_mem _ hy)]
theorem pick_back (xs : Array Value) : ((List.range xs.size).filterMap fun (m : Nat) => xs[(((xs.size : Int) - 1) + (m : Int) * (-1)).toNat]?).toArray = xs.toList.reverse.toArray := by
  rw [← PySem.W.krv_pick]
  unfold slicePick
  rw [PySem.W.krv_bounds]
  show _ = ((sliceRange ((xs.size : Int) - 1) (-1) (-1)).filterMap (xs[·]?)).toArray
  rw [PySem.W.krv_sliceRange, List.filterMap_map]
  refine congrArg List.toArray (fm_congr fun m hm => ?_)
  have := List.mem_range.mp hm
  show xs[(((xs.size : Int) - 1) + (m : Int) * (-1)).toNat]? = xs[xs.size - 1 - m]?
  rw [show (((xs.size : Int) - 1) + (m : Int) * (-1)).toNat = xs.size - 1 - m from by omega]
theorem getItem_back {t sl : Addr} {items : Array Value} {u : Tok} {Q : Value → Shared → Prop} (ht : IsTup s.heap t items) (hs : s.heap.IsSliceOf sl .none .none (.int (-1) u))
    (h : Q (.ref s.heap.objs.size) { s with heap := s.heap.push { cls := .type "tuple", data := .seq items.toList.reverse.toArray } }) (hz : items.size ≤ sizeLine) : wpAny (model prog w) A (getItem (.ref t) (.ref sl)) Q E s := by
  have hok : sizeOk (.seq items.toList.reverse.toArray) := by
    show items.toList.reverse.toArray.size ≤ sizeLine
    rw [List.size_toArray, List.length_reverse, Array.length_toList]
    exact hz
  obtain ⟨os, ho, hc, hd⟩ := id hs
  have hT : s.TypeIs (.ref sl) "slice" := ⟨os, ho, hc⟩
  unfold getItem
  try with_reducible refine wpAny_holding ?_
  try refine wpAny_bind (wpAny_pure ?_)
  refine wpAny_bind (wpAny_sequenceKey ht.typeIs (by decide) ?_)
  refine wpAny_bind (wpAny_callSpecial?_slot (name := Str.ofString "__getitem__") ht.typeIs PyProof.Rows.slot_tuple_getitem (wpAny_call_entry PyProof.Rows.slot_tuple_getitem ht.typeIs entry_tuple_getitem ?_ (args_tuple_getitem _ _)))
  show wpAny _ _ (Builtin.Tuple.tupleItemsOf (.ref t) >>= _) _ _ s
  refine wpAny_bind (tupleItemsOf_ ht (wpAny_bind (wpAny_typeOf hT ?_)))
  rw [if_pos (by decide)]
  refine wpAny_bind (applied_back (n := items.size) hs ?_)
  have hno : ¬ ((((items.size : Int) - 1) == 0 && (-1 : Int) == 1 && items.size == items.size) = true) := by simp
  show wpAny _ _ (if (((items.size : Int) - 1) == 0 && (-1 : Int) == 1 && items.size == items.size) = true then _ else _) _ _ s
  rw [if_neg hno, pick_back]
  first
    | exact wpAny_bind (m := Builtin.Tuple.tupleExact _) (wpAny_newObj_type (wpAny_pure ⟨_, rfl, wpAny_pure h⟩) hok)
    | exact wpAny_bind (wpAny_bind (m := Builtin.Tuple.tupleExact _) (wpAny_newObj_type (wpAny_pure (wpAny_pure ⟨_, rfl, wpAny_pure h⟩)) hok))
end
theorem pe_revT {X : Cx} {e : Expr} {te : TE} {k : Nat} {p1 p2 p3 pos : Pos} (he : PE X e te) : PE X (.Subscript e (.Slice none none (some (.UnaryOp .USub (.Constant (.int 1) k p1) p2)) p3) pos) (tRevT X.K te) := by
  constructor
  intro pins s σ H Q I h
  refine Subscript_ (thn (he.run pins s σ H _ I h) fun v s1 ⟨x, H1, J1, r1, q1⟩ => ?_)
  obtain ⟨a, xs, ex, hx, q⟩ := q1
  subst ex
  cases r1
  have st : PO X (some (.UnaryOp .USub (.Constant (.int 1) k p1) p2)) (tPart (tUn (rU fun i => .int (-i)) (tC (.int 1)))) := po_some (pe_un un_neg pe_int)
  refine wpAny_Slice (thn (po_none.run pins s1 σ H1 (fun o H2 => o = none ∧ H2 = H1) J1 ⟨rfl, rfl⟩) fun vl s2 ⟨l, H2, J2, pl, el, e2⟩ => ?_)
  subst el e2
  refine thn (po_none.run pins s2 σ H2 (fun o H3 => o = none ∧ H3 = H2) J2 ⟨rfl, rfl⟩) fun vu s3 ⟨u, H3, J3, pu, eu, e3⟩ => ?_
  subst eu e3
  refine thn (st.run pins s3 σ H3 (fun o H4 => o = some (-1) ∧ H4 = H3) J3 ⟨1, rfl, -1, rfl, rfl, rfl⟩) fun vs s4 ⟨o, H4, J4, ps, eo, e4⟩ => ?_
  subst eo e4
  cases pl
  cases pu
  cases ps with
  | int i tk =>
    have J5 : Inv X pins σ H4 { s4 with heap := s4.heap.push { cls := .type "slice", data := .fields #[.none, .none, .int (-1) tk] } } := J4.kept (t' := s4.toks) fun b ob q => Heap.get?_push_of_some _ q
    obtain ⟨us, r, ht, hz⟩ := J5.tuple hx
    have hlen := r.length
    show wpAny (model X.prog X.w) X.A (subscriptTail e (.Slice none none (some (.UnaryOp .USub (.Constant (.int 1) k p1) p2)) p3) (.ref a) (.ref s4.heap.objs.size)) (EP X pins σ Q) X.xe { s4 with heap := s4.heap.push { cls := .type "slice", data := .fields #[.none, .none, .int (-1) tk] } }
    refine tail_any (ops := [.ref a, .ref s4.heap.objs.size]) ht.typeIs (PyProof.Rows.slot_tuple_getitem.lookup) ?_ (by with_unfolding_all rfl)
    refine getItem_back ht (Heap.IsSliceOf.new _ _ _ _) ?_ (by rw [List.size_toArray]; omega)
    refine ⟨.ref _, _, J5.laid (t' := s4.toks) (o := .tup xs.reverse) (fun b ob q => Heap.get?_push_of_some _ q) (Nat.le_refl _) ?_, rfl, q _ (J5.hok.fresh (Nat.le_refl _))⟩
    exact ⟨by rw [List.length_reverse]; exact hz, _, r.reverse, ⟨_, Heap.get?_push_size _ rfl, rfl, _, rfl⟩⟩

/-! ### t * k, a tuple of some items, two times and more -/
def rRepU (K : PySem.W.Frag) : R2 := fun x y H Q => ∃ t k xs, x = .ref t ∧ y = .int k ∧ SqT K H t xs ∧ xs ≠ [] ∧ 2 ≤ k ∧ xs.length * k.toNat ≤ 1000000 ∧ ∀ p, H p = none → Q (.ref p) (upd H p (.tup (List.replicate k.toNat xs).flatten))
theorem op_repU {X : Cx} : OpR X (binaryOp .Mult) (rRepU X.K) := fun pins s σ H x y v u Q I rx ry h => by
  obtain ⟨t, k, xs, rfl, rfl, hT, ne, k2, small, q⟩ := h
  obtain ⟨tok, rfl⟩ := ry
  cases rx
  obtain ⟨vs, rel, ⟨ob, at_, cl, n, dat⟩, fits⟩ := I.tuple hT
  obtain ⟨c0, dd, data, sl⟩ := ob
  obtain rfl : c0 = _ := cl
  obtain rfl : data = _ := dat
  have same : vs.length = xs.length := rel.length.symm
  have pos : 0 < xs.length := List.length_pos_iff.mpr ne
  have prod : ((vs.toArray.size : Nat) : Int) * k = ((xs.length * k.toNat : Nat) : Int) := by rw [List.size_toArray, same, Int.natCast_mul, Int.toNat_of_nonneg (by omega)]
  have flat : (List.replicate k.toNat vs).flatten.length = xs.length * k.toNat := by rw [PyProof.Rows.lm_len_rep_flat, same, Nat.mul_comm]
  have kk : k.toNat ≤ 1000000 := Nat.le_trans (by have := Nat.mul_le_mul_right k.toNat pos; omega) small
  have full : vs.toArray.isEmpty = false := by
    cases vs with
    | nil => simp at same; omega
    | cons _ _ => rfl
  have ty : s.TypeIs (.ref t) "tuple" := ⟨_, at_, rfl⟩
  have line : (1000000 : Nat) ≤ sizeLine := by decide
  have few : Builtin.Tuple.tupleTooMany (((vs.toArray.size : Nat) : Int) * k) = false := by
    rw [prod]
    exact decide_eq_false (by rw [sizeLine_eq]; omega)
  have mul := tuple_mulW t vs.toArray n dd sl k tok (by rw [decide_eq_false (by omega), decide_eq_false (by omega)]; rfl) (by rw [full]; exact beq_eq_false_iff_ne.mpr (by omega)) (by rw [full, decide_eq_false (by omega)]; rfl) (by rw [prod]; omega) few (by rw [size_rep, List.size_toArray, flat]; exact Nat.le_trans small line)
  refine wpAny_binaryOp_repeat_ref (T := "tuple") (U := "int") (by decide) ty (typeIs_int · k tok) noFill_tuple_mul F.fills_int_mul F.slot_int_rmul repeat_tuple F.slot_int_index.lookup ?_
  refine call_meets F.slot_int_rmul (typeIs_int s k tok) F.entry_int_rmul (F.args_int_rmul_2 _ _) (int_rmul_tuple k tok t vs.toArray n dd sl) ⟨at_, rfl, ty, ?_⟩
  refine call_meets F.slot_tuple_mul ty F.entry_tuple_mul (F.args_tuple_mul_2 _ _) mul ⟨at_, ?_⟩
  rw [size_rep]
  exact ⟨.ref _, _, I.laid (t' := s.toks) (o := .tup (List.replicate k.toNat xs).flatten) (fun _ _ e => Heap.get?_push_of_some _ e) (Nat.le_refl _) ⟨by rw [PyProof.Rows.lm_len_rep_flat, Nat.mul_comm]; exact Nat.le_trans small line, _, rel.rep k.toNat, IsTup.new _ _⟩, rfl, q _ (I.hok.fresh (Nat.le_refl _))⟩

/-! ### sorted(t), a tuple of whole numbers -/
theorem gather_tup {prog : Program} {w : World} {A : Around} {E : Value → Shared → Prop} {s : Shared} {t : Addr} {vs : List Value} {Q : List Value → Shared → Prop} (ht : s.heap.IsTuple t vs.toArray) (hz : vs.length ≤ sizeLine)
    (h : Q vs { s with heap := (s.heap.push (seqObj "list" #[] 0)).update s.heap.objs.size (Obj.mapSeq (· ++ vs.toArray)) }) : wpAny (model prog w) A (collect (.ref t)) Q E s := by
  obtain ⟨ob, at_, cl, n, dat⟩ := id ht
  have at2 : (s.heap.push (seqObj "list" #[] 0)).get? t = some ob := Heap.get?_push_of_some _ at_
  have new : (s.heap.push (seqObj "list" #[] 0)).get? s.heap.objs.size = some (seqObj "list" #[] 0) := Heap.get?_push_size _ rfl
  unfold collect
  refine wpAny_bind (wpAny_runValue (codeAny_builtin entry_proto_collect' (show wpAny _ _ (do again (.builtin "list.__iadd__" ⟨[← newList [], .ref t], []⟩)) _ _ s from wpAny_bind (wpAny_newList (wpAny_pure ⟨Code.quiet_builtin _ (by decide +kernel), codeAny_builtin entry_list_iadd' ?_⟩)))))
  show wpAny _ _ (Builtin.List.listExtendWith (.ref s.heap.objs.size) (.ref t) (.ref s.heap.objs.size)) _ _ { s with heap := s.heap.push (seqObj "list" #[] 0) }
  unfold Builtin.List.listExtendWith
  refine wpAny_bind (wpAny_typeOf (T := "tuple") ⟨ob, at2, cl⟩ ?_)
  have yes : (Value.type "tuple" == Value.type "tuple") = true := by rfl
  rw [if_pos (by rw [yes]; simp)]
  refine wpAny_bind (listItems_at at2 dat (wpAny_bind (listItems_at (xs := #[]) (n := 0) new rfl ?_)))
  rw [if_neg (by simp)]
  refine wpAny_bind (listUpdate_at (xs := #[]) (n := 0) new rfl (wpAny_pure ?_) (Nat.zero_le _) (by show (#[] ++ vs.toArray).size ≤ sizeLine + 1; rw [Array.size_append, List.size_toArray]; exact Nat.le_trans (by simpa using hz) (Nat.le_succ _)))
  show wpAny (model prog w) A (do
      let got ← load s.heap.objs.size
      match got.data with
      | .seq ys _ => pure ys.toList
      | _ => unsupported "internal:collect") Q E _
  refine wpAny_bind (wpAny_load (get?_update_seq new _) (show wpAny _ _ (pure ((#[] : Array Value) ++ vs.toArray).toList) Q E _ from ?_))
  have e : ((#[] : Array Value) ++ vs.toArray).toList = vs := by simp
  rw [e]
  exact wpAny_pure h
theorem sorted_tup {prog : Program} {w : World} {A : Around} {E : Value → Shared → Prop} {s : Shared} {t : Addr} {vs : List Value} {ltv : Value → Value → Bool} {Q : Value → Shared → Prop} (O : SrtO.Swo ltv) (ht : s.heap.IsTuple t vs.toArray) (hz : vs.length ≤ sizeLine)
    (hS : 2 ≤ vs.length → ∀ (h1 : Heap) (a : Addr), SrtO.SortableO prog w A.in1.in1 { s with heap := h1 } a vs ltv) (h : ∀ out : List Value, SrtO.Srtd ltv out → SrtO.Stb ltv out vs → Q (.ref (s.heap.objs.size + 1)) { s with heap := sortedAll s.heap vs out.toArray }) :
    wpAny (model prog w) A (call (.builtin "sorted") [.ref t]) Q E s := by
  refine Calls.call_function_entry kind_sorted plain_sorted entry_sorted (args_sorted1 _) ?_
  unfold Builtin.«sorted»
  refine wpAny_bind (m := checkCount "sorted" 1 1 _) (wpAny_pure (wpAny_bind (gather_tup ht hz (wpAny_bind (wpAny_newList ?_ hz)))))
  have size : ((s.heap.push (seqObj "list" #[] 0)).update s.heap.objs.size (Obj.mapSeq (· ++ vs.toArray))).objs.size = s.heap.objs.size + 1 := (Heap.size_update ..).trans (size_push' ..)
  have new : (((s.heap.push (seqObj "list" #[] 0)).update s.heap.objs.size (Obj.mapSeq (· ++ vs.toArray))).push (seqObj "list" vs.toArray 0)).get? (s.heap.objs.size + 1) = some (seqObj "list" vs.toArray 0) := size ▸ Heap.get?_push_size _ rfl
  show wpAny _ _ _ _ _ { s with heap := ((s.heap.push (seqObj "list" #[] 0)).update s.heap.objs.size (Obj.mapSeq (· ++ vs.toArray))).push (seqObj "list" vs.toArray 0) }
  rw [size]
  exact wpAny_bind (wpAny_holding (wpAny_call_entry slot_list_sort ⟨_, new, rfl⟩ entry_list_sort (SrtO.list_sort_ord O new hz (hS · _ _) fun out a b => ⟨_, rfl, wpAny_pure ⟨_, rfl, h out a b⟩⟩) (args_list_sort _)))
def rSortedTI (K : PySem.W.Frag) : List V → Hp → VK → Prop := fun vs H Q => ∃ (t : Addr) (ns : List Int), vs = [V.ref t] ∧ SqT K H t (ns.map V.int) ∧ ∀ (ms : List Int) (p : Addr), ms.Perm ns → ms.Pairwise (· ≤ ·) → H p = none → Q (.ref p) (upd H p (.lst (ms.map V.int)))
theorem cr_sortedTI {X : Cx} : CallR X (.builtin "sorted") (rSortedTI X.K) := fun pins s σ H vs us Q I r h => by
  obtain ⟨t, ns, rfl, hs, q⟩ := h
  obtain ⟨its, rv, p, fits⟩ := I.tuple hs
  rw [Vals.ref1 r]
  have num := rv.ints
  have len : its.length ≤ sizeLine := by rw [← rv.length]; exact fits
  refine sorted_tup SrtO.swo_int (show s.heap.IsTuple t its.toArray from p) len (fun h2 _ a => SrtO.ints_sortable num h2) fun out a b => ?_
  obtain ⟨e1, e2, e3⟩ := SrtO.ints_out num a b
  obtain ⟨ep, there⟩ := PyProof.Rows.sortedAll_at s.heap its out.toArray
  refine ⟨.ref _, upd H (s.heap.objs.size + 1) (.lst ((out.map SrtO.iv).map V.int)), I.laid (t' := s.toks) (fun _ _ => PyProof.Rows.sortedAll_old) (Nat.le_succ _) ⟨?_, out, ep, vals_of_ints e1, there⟩, rfl, q _ _ e2 e3 (I.hok.fresh (Nat.le_succ _))⟩
  rw [List.length_map, e2.length_eq, ← List.length_map (f := V.int)]
  exact fits
def rSortU (K : PySem.W.Frag) : List V → Hp → VK → Prop := fun vs H Q => rSortedI K vs H Q ∨ rSortedTI K vs H Q
theorem cr_sortU {X : Cx} : CallR X (.builtin "sorted") (rSortU X.K) := fun pins s σ H xs us Q I r q => q.elim (cr_sortedI pins s σ H xs us Q I r) (cr_sortedTI pins s σ H xs us Q I r)

/-! ### zip of two tuples -/
theorem walk_zipT {K : PySem.W.Frag} {a b : Addr} {xs ys : List V} : Walk (RZ.ItzT K a b) (min xs.length ys.length) (fun H => SqT K H a xs ∧ SqT K H b ys) (YPair (fun i => xs[i]?) (fun i => ys[i]?)) :=
  ⟨fun i _ hi q => ⟨xs, ys, xs[i]'(by omega), ys[i]'(by omega), q.1, q.2, List.getElem?_eq_getElem _, List.getElem?_eq_getElem _⟩, fun _ q => ⟨xs, ys, q.1, q.2, by omega⟩, fun i H v H' _ q y => by
    obtain ⟨T, x, z, e1, e2, e3, e4, e5⟩ := y
    exact ⟨T, x, z, e1, e2, e3, e4 xs q.1, e5 ys q.2⟩⟩
end DL

set_option maxRecDepth 100000
set_option maxHeartbeats 1000000
/-! DLg: a def's promise where nothing is being shown around it (repr asks that): calls, bodies, the law's end. -/
namespace DL
open PySem PySem.Spec PyProof.Rows L2

structure FnG (P : Program) (w : World) (K : PySem.W.Frag) (mg : Str → Option Value) (base : Heap) (CX : CXT) (k : Nat) (f : Addr) (fd : FuncData) (ps : List Str) (sp : Sp) : Prop where
  len : ∀ vs H Q E, sp vs H Q E → vs.length = ps.length
  run : ∀ (A : Around) (outer : List Env) (s : Shared) (H : Hp) (args : Args) (us : List Value) (vs : List V) (Q : VK) (E : XK), Room k A → A.guards = some [] → Env0 P w K mg base A outer s H → BindsTo s fd args (ps.zip us) → Vals vs us → sp vs H Q E →
    codeAny (model P w) A (.call (.ref f) args) (CR CX outer P w H s Q E) s
section
variable {P : Program} {w : World} {K : PySem.W.Frag} {mg : Str → Option Value} {base : Heap}
theorem FnG.mono {CX : CXT} {j k : Nat} {f : Addr} {fd : FuncData} {ps : List Str} {sp : Sp} (F : FnG P w K mg base CX j f fd ps sp) (h : j ≤ k) : FnG P w K mg base CX k f fd ps sp :=
  ⟨F.len, fun A outer s H args us vs Q E hr => F.run A outer s H args us vs Q E (hr.mono h)⟩
theorem FnG.imp {CX : CXT} {k : Nat} {f : Addr} {fd : FuncData} {ps : List Str} {sp sp' : Sp} (F : FnG P w K mg base CX k f fd ps sp) (h : ∀ vs H Q E, sp' vs H Q E → sp vs H Q E) : FnG P w K mg base CX k f fd ps sp' :=
  ⟨fun vs H Q E q => F.len vs H Q E (h _ _ _ _ q), fun A outer s H args us vs Q E hr hg he hb hv hs => F.run A outer s H args us vs Q E hr hg he hb hv (h _ _ _ _ hs)⟩
/-- a def by its body -/
theorem fng_of {CX : CXT} {k : Nat} {f : Addr} {name qual : Str} {params : Arguments} {body : List Stmt} {scope : Scope} {dV kV doc pm cdv ct oc : Value} {an od : Option Addr}
    {osl : Array (Option Value)} {N ps : List Str} {sp : Sp} (lk : K.lookup f = some ⟨oc, od, .func (PySem.W.fnOf name qual params body scope dV kV doc pm an cdv ct), osl⟩) (hcd : PySem.W.codeIn K cdv qual = true) (S : FnScope N ps scope)
    (len : ∀ vs H Q E, sp vs H Q E → vs.length = ps.length)
    (hbody : ∀ (A : Around) (outer : List Env) (s : Shared) (H : Hp) (vs : List V) (Q : VK) (E : XK), Room k (A.deeper (envOfC qual scope s.heap.objs.size f cdv)) → (A.deeper (envOfC qual scope s.heap.objs.size f cdv)).guards = some [] → sp vs H Q E →
      ∃ t, PSs (cxOf CX P w K mg base N qual scope f cdv A outer s H E) body t ∧ t { nx := fun _ H' => Q .non H', rt := Q } (start N vs) H) :
    FnG P w K mg base CX (k + 1) f (PySem.W.fnOf name qual params body scope dV kV doc pm an cdv ct) ps sp := by
  constructor
  · exact len
  intro A outer s H args us vs Q E hr hgd e0 hb r hsp
  have hl := len _ _ _ _ hsp
  have kx : K.In s.heap := e0.mod.kin.keeps fun b o e => (e0.bs b o e).1
  have nl : s.heap.NoLimit := e0.mod.nolimit.keeps fun b o e => (e0.bs b o e).1
  have kd : ∀ y ∈ ps.zip us, scope.names.lookup y.1 = some .local ∨ (scope.names.lookup y.1 = some .cell ∧ ((cellsFrom (s.heap.objs.size + 1) scope.names []).lookup y.1).isSome = true) := by
    rintro ⟨n, v⟩ hy
    exact (S.par n (List.of_mem_zip hy).1).elim .inl fun q => .inr ⟨q, PySem.W.cellsFrom_some _ _ _ (.inl q)⟩
  refine codeAny_call_function hr.depth (kx _ _ lk) rfl S.co S.gen rfl (PySem.W.codeRec_of kx hcd) (hb _ _ _ _ (wpAny_newFunctionEnv_cells S.kind kd fun env he s1 x => ?_))
  subst he
  refine ⟨nl.keeps x.toInCall.keep, codeAny_func ?_⟩
  obtain ⟨t, ht, hq⟩ := hbody A outer s H vs Q E (hr.deeper _) hgd hsp
  have J : Inv (cxOf CX P w K mg base N qual scope f cdv A outer s H E) [] (start N vs) H s1 := inv_start S hr.hd e0 hl r x
  refine wpAny_mono (ht.run [] s1 (start N vs) H _ J hq) (fun fl s' hs => ?_) fun e s' hs => hs
  cases fl with
  | ret u =>
    obtain ⟨v, σ', H', J', rv, q⟩ := hs
    exact ⟨v, H', J'.os, J'.bare, J'.base, J'.hok, rv, q⟩
  | next =>
    obtain ⟨σ', H', J', q⟩ := hs
    exact ⟨V.non, H', J'.os, J'.bare, J'.base, J'.hok, (rfl : RelV V.non Value.none), q⟩
  | brk => exact hs.elim fun _ z => z.elim fun _ z => z.2.elim
  | cont => exact hs.elim fun _ z => z.elim fun _ z => z.2.elim
theorem okG {x qual : Str} {st : Stmt} {f : Addr} {fd : FuncData} {N ps : List Str} {k : Nat} {sp : Sp} (F : Fun K x qual st f fd) (S : FnScope N ps (defScope st)) (len : ∀ vs H Q E, sp vs H Q E → vs.length = ps.length)
    (hbody : ∀ (cdv : Value) (A : Around) (outer : List Env) (s : Shared) (H : Hp) (vs : List V) (Q : VK) (E : XK), Room k (A.deeper (envOfC qual (defScope st) s.heap.objs.size f cdv)) → (A.deeper (envOfC qual (defScope st) s.heap.objs.size f cdv)).guards = some [] → sp vs H Q E →
      ∃ t, PSs (cxOf CX0 P w K mg base N qual (defScope st) f cdv A outer s H E).nox (defBody st) t ∧ t { nx := fun _ H' => Q .non H', rt := Q } (start N vs) H) : FnG P w K mg base CX0 (k + 1) f fd ps sp := by
  obtain ⟨oc, od, kV, doc, pm, an, cdv, ct, osl, rfl, lk, hcd⟩ := F.ex
  exact fng_of lk hcd S len fun A outer s H vs Q E hr hg hsp => (hbody cdv A outer s H vs Q E hr hg hsp).elim fun t z => ⟨t, z.1.nox, z.2⟩
end

section
variable {X : Cx} {CX : CXT} {k : Nat} {f : Addr} {fd : FuncData} {ps ks : List Str} {sp : Sp} {dvs : List V} {ds : List Value} {E : XK} {x : Str} {p pos : Pos} {e : Expr} {es : List Expr} {kws : List Keyword} {t tk : TA}
theorem end_of {pins : List (Addr × Obj)} {σ : L2.St} {H : Hp} {s : Shared} {Q : VK} {r : Result} {s' : Shared} (hx : Passes CX X E) (I : Inv X pins σ H s) (hq : CR CX X.stack X.prog X.w H s Q E r s') :
    (match r with | .ok (.ret u) => EP X pins σ Q u s' | .ok _ => False | .error e => X.xe e s') := by
  cases r with
  | error e => exact hx pins σ H s e s' I hq
  | ok fl =>
    cases fl with
    | ret u => exact I.after hq
    | next => exact hq
    | brk => exact hq
    | cont => exact hq
theorem run_fng {pins : List (Addr × Obj)} {σ : L2.St} {H : Hp} {s : Shared} {Q : VK} {us : List Value} {vs : List V} (F : FnG X.prog X.w X.K X.mg X.base CX k f fd ps sp) (hr : Room k X.A) (gd : X.A.guards = some []) (hb : Binds X.K fd ps ds) (hd : Vals dvs ds) (hx : Passes CX X E)
    (I : Inv X pins σ H s) (r : Vals vs us) (h : sp (vs ++ dvs) H Q E) : wpAny (model X.prog X.w) X.A (call (.ref f) us) (EP X pins σ Q) X.xe s := by
  have rr : Vals (vs ++ dvs) (us ++ ds) := r.append hd
  have hl : (us ++ ds).length = ps.length := rr.length.symm.trans (F.len _ _ _ _ h)
  refine wpAny_call (codeAny_mono (F.run X.A X.stack s H ⟨us, []⟩ (us ++ ds) (vs ++ dvs) Q E hr gd I.env0 (hb s us I.kIn hl) rr h) fun res s' hq => ?_)
  have := end_of hx I hq
  rcases res with e | fl
  · exact this
  · rcases fl with _ | _ | _ | u
    all_goals exact this
theorem pe_callG (F : FnG X.prog X.w X.K X.mg X.base CX k f fd ps sp) (hr : Room k X.A) (gd : X.A.guards = some []) (hg : Gl X x) (hm : X.mg x = some (.ref f)) (hk : PySem.W.keepIn X.K (.ref f) = true) (hb : Binds X.K fd ps ds) (hd : Vals dvs ds) (hx : Passes CX X E)
    (ha : PA X (e :: es) t) (hdb : (x == ("__debug__" : Str)) = false := by decide) (he : starEach (e :: es) X.env = (false, eval e X.env) :: starEach es X.env := by rfl) (hpl : (backTo pos (starEach es X.env)).any (·.1) = false := by rfl) :
    PE X (.Call (.Name x p) (e :: es) [] pos) (tCall sp dvs E t) := by
  constructor
  intro pins s σ H Q I h
  exact wpAny_Call_Name_kw (ld_glob I hg hm (PySem.W.callWith_K (h₀ := X.base) I.ok.mod.kin hk (thn (ha.run pos pins s σ H _ I h) fun us s1 ⟨vs, H1, I1, r, q⟩ => ⟨I1.kIn, run_fng F hr gd hb hd hx I1 r q⟩) he hpl) hdb)
theorem pe_call0G (F : FnG X.prog X.w X.K X.mg X.base CX k f fd ps sp) (hr : Room k X.A) (gd : X.A.guards = some []) (hg : Gl X x) (hm : X.mg x = some (.ref f)) (hk : PySem.W.keepIn X.K (.ref f) = true) (hb : Binds X.K fd ps ds) (hd : Vals dvs ds) (hx : Passes CX X E)
    (hdb : (x == ("__debug__" : Str)) = false := by decide) : PE X (.Call (.Name x p) [] [] pos) (tCall sp dvs E tNil) := by
  constructor
  intro pins s σ H Q I h
  exact wpAny_Call_Name_kw (ld_glob I hg hm (PySem.W.callWith_K0 I.kIn hk (run_fng (us := []) F hr gd hb hd hx I .nil h)) hdb)
variable {g : List Value → List Value → List Value} {gV : List V → List V → List V}
/-- f(k = v, ..): keywords alone -/
theorem pe_callK0 (F : FnG X.prog X.w X.K X.mg X.base CX k f fd ps sp) (hr : Room k X.A) (gd : X.A.guards = some []) (hg : Gl X x) (hm : X.mg x = some (.ref f)) (hk : PySem.W.keepIn X.K (.ref f) = true) (hb : KBinds X.K fd ps ks g gV) (hx : Passes CX X E)
    (hkw : PK X kws tk) (hall : (backToKw pos (keywordEach kws X.env)).all (·.1.isSome) = true := by rfl) (hks : (backToKw pos (keywordEach kws X.env)).filterMap (·.1) = ks := by rfl)
    (hdb : (x == ("__debug__" : Str)) = false := by decide)
    (hpl : ((backTo pos (starEach [] X.env)).any (·.1) || (backToKw pos (keywordEach kws X.env)).any (·.1.isNone)) = false := by rfl) :
    PE X (.Call (.Name x p) [] kws pos) (tCallK sp gV E tNil tk) := by
  constructor
  intro pins s σ H Q I h
  refine wpAny_Call_Name_kw (ld_glob I hg hm ?_ hdb)
  refine PySem.W.callWith_KW0 (h₀ := X.base) (first := []) I.ok.mod.kin hk hall ?_ hpl
  refine thn (hkw.run pos pins s σ H _ I h) fun ws s2 ⟨zs, H2, I2, rz, q2⟩ => ⟨I2.kIn, ?_⟩
  rw [hks]
  have rr := hb.rel (vs := []) (us := []) .nil rz
  have hl : (g [] ws).length = ps.length := rr.length.symm.trans (F.len _ _ _ _ q2)
  refine wpAny_call (codeAny_mono (F.run X.A X.stack s2 H2 ⟨[], ks.zip ws⟩ (g [] ws) (gV [] zs) Q E hr gd I2.env0 (hb.to s2 [] ws I2.kIn hl) rr q2) fun res s' hq => ?_)
  have := end_of hx I2 hq
  rcases res with e | fl
  · exact this
  · rcases fl with _ | _ | _ | u
    all_goals exact this
end

/-! ### the end of a law -/
theorem law_callG {P : Program} {w : World} {K : PySem.W.Frag} {mg mb : Str → Option Value} {CX : CXT} {k : Nat} {fa a : Addr} {fd : FuncData} {x : Str} {sp : Sp} {s₁ : Shared} {vs : List Value} {ns : List Int}
    (KX : K.In s₁.heap) (hns : s₁.heap.Ns mainGlobals mg) (hb : s₁.heap.Ns builtinsNs mb) (hbb : ∀ x : Str, x ≠ "__name__" → mb x = bootBuiltins x) (hlim : s₁.heap.NoLimit) (hg : s₁.gens = #[])
    (ha : s₁.heap.get? a = some { cls := .type "list", data := .seq vs.toArray }) (hi : IntsAre vs ns) (hl : ns.length ≤ sizeLine) (hr : Room k callerA)
    (F : ∀ base : Heap, K.In base → base.Ns mainGlobals mg → FnG P w K mg base CX k fa fd [x] sp) (hbind : ∀ (s : Shared) (u : Value), BindsTo s fd ⟨[u], []⟩ [(x, u)])
    (hsp : ∀ H : Hp, Only H → SqL K H a (ns.map V.int) → sp [.ref a] H (fun v _ => v = .bl true) fun _ _ _ => False)
    (hCX : ∀ H e s', CX [] H s₁ (fun _ _ _ => False) e s' → False) :
    codeAny (model P w) callerA (.call (.ref fa) ⟨[.ref a], []⟩) (fun r s' => r = .ok (.ret (.bool true)) ∧ OldK s₁.heap s'.heap ∧ s'.os = s₁.os ∧ AllBare s'.gens) s₁ := by
  have main : ∀ H : Hp, Only H → SqL K H a (ns.map V.int) → HOk P w H s₁.heap → (∀ b, H b ≠ none → b = a) → (H a ≠ none → K.lookup a = none) →
      codeAny (model P w) callerA (.call (.ref fa) ⟨[.ref a], []⟩) (fun r s' => r = .ok (.ret (.bool true)) ∧ OldK s₁.heap s'.heap ∧ s'.os = s₁.os ∧ AllBare s'.gens) s₁ := by
    intro H hO hS hok hA hK
    have isA : ∀ {b : Addr} {u : HO}, H b = some u → b = a := fun {b u} q => hA b (by rw [q]; exact fun z => nomatch z)
    have low : ∀ {b : Addr} {o : Obj}, s₁.heap.get? b = some o → H b = none → (hidT s₁.heap H).get? b = some o := fun e n => hidT_get e n
    have dictN : ∀ {b : Addr} {o : Obj} {es : Array DictEntry} {ep : Nat}, s₁.heap.get? b = some o → o.data = .dict es ep → H b = none := fun {b o es ep} e d => by
      cases q : H b with
      | none => rfl
      | some u =>
        rw [isA q, ha] at e
        obtain rfl := Option.some.inj e
        cases (show Data.seq vs.toArray _ = Data.dict es ep from d)
    have nsB : ∀ {b : Addr} {m : Str → Option Value}, s₁.heap.Ns b m → (hidT s₁.heap H).Ns b m := fun {b m} ⟨o, es, ep, e, d, r⟩ => ⟨o, es, ep, low e (dictN e d), d, r⟩
    have kB : K.In (hidT s₁.heap H) := fun b o e => low (KX b o e) (by
      cases q : H b with
      | none => rfl
      | some u =>
        have eb := isA q
        subst eb
        rw [hK (by rw [q]; exact fun z => nomatch z)] at e
        cases e)
    have M : Mod K mg (hidT s₁.heap H) := ⟨kB, nsB hns, ⟨mb, nsB hb, hbb⟩, let ⟨mc, h1, h2⟩ := hlim; ⟨mc, nsB h1, h2⟩⟩
    have e0 : Env0 P w K mg (hidT s₁.heap H) callerA [] s₁ H := ⟨rfl, M, fun b o e => of_hidT e, Nat.le_of_eq (hidT_size _ _), trivial, fun b hb => absurd (show b ∈ ([] : List Addr) from hb) List.not_mem_nil, hok, .of_eq hg⟩
    refine codeAny_mono ((F _ kB (nsB hns)).run callerA [] s₁ H ⟨[.ref a], []⟩ [.ref a] [.ref a] _ _ hr rfl e0 (hbind s₁ (.ref a)) (.cons rfl .nil) (hsp H hO hS)) fun r s' h => ?_
    rcases r with e | fl
    · exact (hCX H e s' h).elim
    rcases fl with _ | _ | _ | u
    · exact h.elim
    · exact h.elim
    · exact h.elim
    obtain ⟨v, H', os, bare, un, hok', r', q⟩ := h
    obtain rfl : v = .bl true := q
    obtain rfl : u = Value.bool true := r'
    refine ⟨rfl, OldK.of_keep fun b o e => ?_, os, bare⟩
    cases q : H b with
    | none => exact un.keep b o e q (fun z => nomatch z) (by simp)
    | some u =>
      rcases hO b with z | ⟨ob, xs, z⟩
      · rw [q] at z
        cases z
      · have f1 := (hok b _ z).1
        have f2 := (hok' b _ (un.frzs b ob _ z)).1
        rw [e] at f1
        obtain rfl := Option.some.inj f1
        exact f2
  have rv := vals_ints hi
  cases hk : K.lookup a with
  | some o =>
    have e := KX a o hk
    rw [ha] at e
    obtain rfl := Option.some.inj e
    exact main (fun _ => none) (fun _ => .inl rfl) (.inr ⟨_, vs.toArray, _, hk, rfl, rfl, rfl, by rw [List.size_toArray, hi.length]; exact hl, by simpa using rv⟩) (fun b u z => nomatch z) (fun b z => absurd rfl z) fun z => absurd rfl z
  | none =>
    refine main (fun b => if b = a then some (.frz { cls := .type "list", data := .seq vs.toArray } (.lst (ns.map V.int))) else none) (fun b => ?_) (.inl (.inr ⟨{ cls := .type "list", data := .seq vs.toArray }, if_pos rfl⟩)) (fun b u z => ?_) (fun b z => ?_) fun _ => hk
    · by_cases eb : b = a
      · exact .inr ⟨_, _, if_pos eb⟩
      · exact .inl (if_neg eb)
    · by_cases eb : b = a
      · subst eb
        cases (if_pos rfl).symm.trans z
        exact ⟨ha, by rw [List.length_map]; exact hl, vs, _, rv, ha⟩
      · cases (if_neg eb).symm.trans z
    · exact Decidable.byContradiction fun eb => z (if_neg eb)
theorem walk_ofG {l : PySem.W.OpenLaw} {n k : Nat} {q : Program} {loose : List Str} {XP : (Str → Option Value) → Heap → Prop} {YP : World → Heap → Prop} {d : DefRec} {K : Params → PySem.W.Frag} {CX : World → CXT} {sp : World → Sp} {x : Str}
    (hn : l.most = some n) (hn2 : n ≤ sizeLine) (hdf : d.params.defaults = []) (hr : Room k callerA)
    (hY : ∀ (w : World) (h : Heap), YP w h → (K w.params).In h)
    (F : ∀ (w : World) (mg : Str → Option Value) (fa : Addr) (h : Heap), (K w.params).In h → h.Ns mainGlobals mg → mg d.name = some (.ref fa) →
      ∃ fd : FuncData, (∀ (s : Shared) (u : Value), BindsTo s fd ⟨[u], []⟩ [(x, u)]) ∧
        ∀ base : Heap, (K w.params).In base → base.Ns mainGlobals mg → FnG l.prog w (K w.params) mg base (CX w) k fa fd [x] (sp w))
    (hsp : ∀ (w : World) (H : Hp) (a : Addr) (ns : List Int), ns.length ≤ n → Only H → SqL (K w.params) H a (ns.map V.int) → sp w [.ref a] H (fun v _ => v = .bl true) fun _ _ _ => False)
    (hCX : ∀ (w : World) (H : Hp) (s : Shared) (e : Value) (s' : Shared), CX w [] H s (fun _ _ _ => False) e s' → False) :
    PySem.W.WalkO q loose XP YP l.row.toRowW d [] (fun f vs => PySem.call f vs) := by
  refine Att.attach_call hn hdf fun w s₀ s₁ mg mb fa o pm cd doc a vs ns G Y ho hd hcd hmg hobj hints hlen hg => ?_
  obtain ⟨fd, hb, hF⟩ := F w mg fa _ (hY w _ Y) G.T.g hmg
  exact law_callG (hY w _ Y) G.T.g G.T.b G.T.builtins G.T.nolimit hg hobj hints (Nat.le_trans hlen hn2) hr hF hb (fun H hO hS => hsp w H a ns hlen hO hS) fun H e s' => hCX w H s₁ e s'
end DL

set_option maxRecDepth 100000
set_option maxHeartbeats 1000000
namespace DL
open PySem PySem.Spec PyProof.Rows L2

/-! ### operators of several kinds in one -/
theorem opr_or {X : Cx} {f : Value → Value → Sem Value} {r r' : R2} (h : OpR X f r) (h' : OpR X f r') : OpR X f (fun x y H Q => r x y H Q ∨ r' x y H Q) := fun pins s σ H x y v u Q I rx ry q =>
  q.elim (h pins s σ H x y v u Q I rx ry) (h' pins s σ H x y v u Q I rx ry)
def rAddStr : R2 := fun x y H Q => ∃ i j, x = .str i ∧ y = .str j ∧ i.length + j.length ≤ sizeLine ∧ Q (.str (i ++ j)) H
def rPlus (K : PySem.W.Frag) : R2 := fun x y H Q => rI0 (fun i j => .int (i + j)) x y H Q ∨ (rCat x y H Q ∨ (rCatA K x y H Q ∨ rAddStr x y H Q))
/-- a list == an empty one -/
def rEqE : R2 := fun x y H Q => ∃ a b xs, x = .ref a ∧ y = .ref b ∧ H a = some (.lst xs) ∧ H b = some (.lst []) ∧ Q (.bl xs.isEmpty) H
theorem op_eqE {X : Cx} (hu : X.A.units + 64 < cLine) : OpR X (compareOp .Eq) rEqE := by
  intro pins s σ H x y v u Q I rx ry h
  obtain ⟨a, b, xs, rfl, rfl, h1, h2, q⟩ := h
  cases (show v = Value.ref a from rx)
  cases (show u = Value.ref b from ry)
  obtain ⟨_, its, m, rv, e⟩ := (show ObjOk X.prog X.w H s.heap a (.lst xs) from I.hok a _ h1)
  obtain ⟨_, its2, m2, rv2, e2⟩ := (show ObjOk X.prog X.w H s.heap b (.lst []) from I.hok b _ h2)
  cases rv2
  have n1 : its.length = xs.length := (Paired.length rv).symm
  cases xs with
  | nil =>
    cases rv
    exact SeqAt.RcAt.lists (e := fun _ => true) ⟨_, e, rfl, _, rfl⟩ ⟨_, e2, rfl, _, rfl⟩ rfl (by omega) (fun j j1 => absurd j1 (by simp)) _ _ _ _ ⟨.bl true, H, I, rfl, q⟩
  | cons z zs =>
    refine SeqAt.RcAt.lists_lengths (s := s) ⟨_, e, rfl, _, rfl⟩ ⟨_, e2, rfl, _, rfl⟩ ?_ (by omega) _ _ _ _ ⟨.bl false, H, I, rfl, q⟩
    cases rv
    simp
def rEqU (K : PySem.W.Frag) : R2 := fun x y H Q => rEq x y H Q ∨ (rEqD K x y H Q ∨ rEqE x y H Q)
def rNeU (K : PySem.W.Frag) : R2 := fun x y H Q => rNe x y H Q ∨ rNeD K x y H Q
def rLeU (K : PySem.W.Frag) : R2 := fun x y H Q => rI0 (fun i j => .bl (decide (i ≤ j))) x y H Q ∨ rLeT K x y H Q
def rLtU (K : PySem.W.Frag) : R2 := fun x y H Q => rI0 (fun i j => .bl (decide (i < j))) x y H Q ∨ rLtT K x y H Q
def rGtU (K : PySem.W.Frag) : R2 := fun x y H Q => rI0 (fun i j => .bl (decide (j < i))) x y H Q ∨ rGtT K x y H Q
abbrev rGe' : R2 := rI0 fun i j => .bl (decide (j ≤ i))
abbrev rSub' : R2 := rI0 fun i j => .int (i - j)
abbrev rMul' : R2 := rI CMul fun i j => .int (i * j)
abbrev rMulW' : R2 := rI CMulW fun i j => .int (i * j)
def rMulU (K : PySem.W.Frag) : R2 := fun x y H Q => rMul' x y H Q ∨ (rMulW' x y H Q ∨ (rRep x y H Q ∨ rRepU K x y H Q))
def rSlU (K : PySem.W.Frag) : V → Option Int → Option Int → Hp → VK → Prop := fun x lo hi H Q => rSlL K x lo hi H Q ∨ rSlA K x lo hi H Q
abbrev rMod' : R2 := rI (fun _ j => 0 < j) fun i j => .int (i % j)
abbrev rDiv' : R2 := rI CDivW fun i j => .int (i / j)
abbrev rPow' : R2 := rI CPow fun i j => .int (i ^ j.toNat)
def rIsNo : R2 := fun x y H Q => y = .non ∧ Q (.bl (decide (x = .non))) H
def rNotNo : R2 := fun x y H Q => y = .non ∧ Q (.bl (!decide (x = .non))) H
section
variable {X : Cx}
theorem op_plus : OpR X (binaryOp .Add) (rPlus X.K) := opr_or op_add (opr_or op_cat (opr_or op_catA op_add_str))
theorem op_eqU (hu : X.A.units + 100 < cLine) : OpR X (compareOp .Eq) (rEqU X.K) := opr_or op_eq (opr_or (op_eqD (by omega)) (op_eqE (by omega)))
theorem op_neU (hu : X.A.units + 100 < cLine) : OpR X (compareOp .NotEq) (rNeU X.K) := opr_or op_ne (op_neD (by omega))
theorem op_leU (hu : X.A.units + 100 < cLine) : OpR X (compareOp .LtE) (rLeU X.K) := opr_or op_le (op_leT (by omega))
theorem op_ltU (hu : X.A.units + 100 < cLine) : OpR X (compareOp .Lt) (rLtU X.K) := opr_or op_lt (op_ltT (by omega))
theorem op_gtU (hu : X.A.units + 100 < cLine) : OpR X (compareOp .Gt) (rGtU X.K) := opr_or op_gt (op_gtT (by omega))
theorem op_geU : OpR X (compareOp .GtE) rGe' := op_ge
theorem op_subU : OpR X (binaryOp .Sub) rSub' := op_sub
theorem op_mulU : OpR X (binaryOp .Mult) (rMulU X.K) := opr_or op_mul (opr_or op_mulW (opr_or op_rep op_repU))
theorem sl_any : SlR X (rSlU X.K) := SlR.or sl_list sl_tupA
theorem op_modU : OpR X (binaryOp .Mod) rMod' := op_mod
theorem op_divU : OpR X (binaryOp .FloorDiv) rDiv' := op_fdivW
theorem op_powU : OpR X (binaryOp .Pow) rPow' := op_pow
theorem op_isU : OpR X (compareOp .Is) rIsNo := op_isN
theorem op_notU : OpR X (compareOp .IsNot) rNotNo := op_notN
end

/-! ### the same over data -/
section
variable {K : PySem.W.Frag} {S S0 S1 S2 S3 : SS} {ta tb te : TE} {x y z : SD} {d e : PyData} {i j : Int} {ds es : List PyData}
variable {c : Addr → Prop} {Hf H : Hp} {σ : L2.St} {fp : List (List Addr)}
theorem ro_I0 {g : Int → Int → V} {gd : PyData} (h : ∀ H, Rp K H (g i j) gd) : Ro K (rI0 g) (.dat (.int i)) (.dat (.int j)) S (.dat gd) S := fun c Hf H σ fp ok v u rv ru Q q => by
  cases rv
  cases ru
  exact ⟨i, j, rfl, rfl, q _ _ _ _ ok Gr.refl (h Hf)⟩
theorem ro_I {C : Int → Int → Prop} {g : Int → Int → V} {gd : PyData} (h : ∀ H, Rp K H (g i j) gd) (hc : C i j) : Ro K (rI C g) (.dat (.int i)) (.dat (.int j)) S (.dat gd) S := fun c Hf H σ fp ok v u rv ru Q q => by
  cases rv
  cases ru
  exact ⟨i, j, rfl, rfl, hc, q _ _ _ _ ok Gr.refl (h Hf)⟩
theorem ro_l {r r' : R2} (h : Ro K r x y S z S1) : Ro K (fun x y H Q => r x y H Q ∨ r' x y H Q) x y S z S1 := fun c Hf H σ fp ok v u rv ru Q q => .inl (h c Hf H σ fp ok v u rv ru Q q)
theorem ro_r {r r' : R2} (h : Ro K r' x y S z S1) : Ro K (fun x y H Q => r x y H Q ∨ r' x y H Q) x y S z S1 := fun c Hf H σ fp ok v u rv ru Q q => .inr (h c Hf H σ fp ok v u rv ru Q q)
theorem rol_l {r r' : R2} (h : RoL K r x y S ds S1) : RoL K (fun x y H Q => r x y H Q ∨ r' x y H Q) x y S ds S1 := fun c Hf H σ fp ok v u rv ru Q q => .inl (h c Hf H σ fp ok v u rv ru Q q)
theorem rol_r {r r' : R2} (h : RoL K r' x y S ds S1) : RoL K (fun x y H Q => r x y H Q ∨ r' x y H Q) x y S ds S1 := fun c Hf H σ fp ok v u rv ru Q q => .inr (h c Hf H σ fp ok v u rv ru Q q)
theorem ro_add : Ro K (rPlus K) (.dat (.int i)) (.dat (.int j)) S (.dat (.int (i + j))) S := ro_l (ro_I0 fun _ => .int _)
theorem ro_sub : Ro K rSub' (.dat (.int i)) (.dat (.int j)) S (.dat (.int (i - j))) S := ro_I0 fun _ => .int _
theorem ro_mulL (h : -(2 ^ 64) < i ∧ i < 2 ^ 64 := by decide) : Ro K (rMulU K) (.dat (.int i)) (.dat (.int j)) S (.dat (.int (i * j))) S := ro_l (ro_I (fun _ => .int _) (.inl h))
theorem ro_mulR (h : -(2 ^ 64) < j ∧ j < 2 ^ 64 := by decide) : Ro K (rMulU K) (.dat (.int i)) (.dat (.int j)) S (.dat (.int (i * j))) S := ro_l (ro_I (fun _ => .int _) (.inr h))
theorem ro_mulW (h : CMulW i j) : Ro K (rMulU K) (.dat (.int i)) (.dat (.int j)) S (.dat (.int (i * j))) S := ro_r (ro_l (ro_I (fun _ => .int _) h))
theorem ro_mod (h : 0 < j := by decide) : Ro K rMod' (.dat (.int i)) (.dat (.int j)) S (.dat (.int (i % j))) S := ro_I (fun _ => .int _) h
theorem ro_div (h : CDivW i j) : Ro K rDiv' (.dat (.int i)) (.dat (.int j)) S (.dat (.int (i / j))) S := ro_I (fun _ => .int _) h
theorem ro_pow (h : CPow i j := by unfold CPow; decide) : Ro K rPow' (.dat (.int i)) (.dat (.int j)) S (.dat (.int (i ^ j.toNat))) S := ro_I (fun _ => .int _) h
theorem ro_le : Ro K (rLeU K) (.dat (.int i)) (.dat (.int j)) S (.dat (.bool (decide (i ≤ j)))) S := ro_l (ro_I0 fun _ => .bl _)
theorem ro_lt : Ro K (rLtU K) (.dat (.int i)) (.dat (.int j)) S (.dat (.bool (decide (i < j)))) S := ro_l (ro_I0 fun _ => .bl _)
theorem ro_gt : Ro K (rGtU K) (.dat (.int i)) (.dat (.int j)) S (.dat (.bool (decide (j < i)))) S := ro_l (ro_I0 fun _ => .bl _)
theorem ro_ge : Ro K rGe' (.dat (.int i)) (.dat (.int j)) S (.dat (.bool (decide (j ≤ i)))) S := ro_I0 fun _ => .bl _
/-- x is None, where x is data -/
def isNoD : PyData → Bool
  | .none => true
  | _ => false
theorem rp_non {v : V} (h : Rp K H v d) : decide (v = .non) = isNoD d := by cases h <;> rfl
theorem ro_is : Ro K rIsNo (.dat d) (.dat .none) S (.dat (.bool (isNoD d))) S := fun c Hf H σ fp ok v u rv ru Q q => by
  have e := rp_non (show Rp K Hf v d from rv)
  cases ru
  exact ⟨rfl, by rw [e]; exact q _ _ _ _ ok Gr.refl (Rp.bl _)⟩
theorem ro_isnot : Ro K rNotNo (.dat d) (.dat .none) S (.dat (.bool (!isNoD d))) S := fun c Hf H σ fp ok v u rv ru Q q => by
  have e := rp_non (show Rp K Hf v d from rv)
  cases ru
  exact ⟨rfl, by rw [e]; exact q _ _ _ _ ok Gr.refl (Rp.bl _)⟩
/-- data that is read as the library's own relation tells it -/
theorem dp_ofs : (∀ (v : V) (d : PyData) (_ : Rp K H v d), d.hasDict = false → Dp K H v d) ∧ (∀ (vs : List V) (ds : List PyData) (_ : RpA K H vs ds), PyData.hasDictAll ds = false → DpAll K H vs ds) := by
  have key : ∀ n : Nat, (∀ (v : V) (d : PyData), sizeOf d ≤ n → Rp K H v d → d.hasDict = false → Dp K H v d) ∧ (∀ (vs : List V) (ds : List PyData), sizeOf ds ≤ n → RpA K H vs ds → PyData.hasDictAll ds = false → DpAll K H vs ds) := by
    intro n
    induction n with
    | zero =>
      refine ⟨fun v d hn => ?_, fun vs ds hn => ?_⟩
      · cases d <;> simp at hn
      · cases ds <;> simp at hn
    | succ n ih =>
      refine ⟨fun v d hn h e => ?_, fun vs ds hn h e => ?_⟩
      · cases h with
        | non => exact .non
        | bl b => exact .bl b
        | int i => exact .int i
        | str x => exact .str x
        | lst h r => exact .lst (.inl (.inl h)) (ih.2 _ _ (by simp at hn; omega) r (by simpa [PyData.hasDict] using e))
        | tup h r => exact .tup h (ih.2 _ _ (by simp at hn; omega) r (by simpa [PyData.hasDict] using e))
        | emp h => simp [PyData.hasDict] at e
      · cases h with
        | nil => exact .nil
        | cons h t =>
          rw [PyData.hasDictAll, Bool.or_eq_false_iff] at e
          simp at hn
          exact .cons (ih.1 _ _ (by omega) h e.1) (ih.2 _ _ (by omega) t e.2)
  exact ⟨fun v d h e => (key _).1 v d (Nat.le_refl _) h e, fun vs ds h e => (key _).2 vs ds (Nat.le_refl _) h e⟩
/-- what is known of a value, read as data; as a list -/
inductive AsD (S : SS) : SD → PyData → Prop
  | dat (d : PyData) : AsD S (.dat d) d
  | own {k : Nat} {ds : List PyData} (h : S.ob[k]? = some (.lst ds)) : AsD S (.own k) (.list ds)
  | ownP {k : Nat} {ds : List PyData} (h : S.ob[k]? = some (.lstP ds)) : AsD S (.own k) (.list ds)
theorem Okk.obP (h : Okk K c Hf H σ fp S) {k : Nat} {ds : List PyData} {v : V} (e : S.ob[k]? = some (.lstP ds)) (hv : SRl K Hf fp (some v) (.own k)) : ∃ a xs, v = .ref a ∧ fp[k]? = some [a] ∧ H a = some (.lst xs) ∧ RpA K Hf xs ds := by
  obtain ⟨a, r, h1, h2⟩ := hv
  obtain ⟨a', xs, q, h3, h4⟩ := h.hd.oo k _ _ h1 e
  have q1 : a = a' ∧ r = [] := by simpa using q
  obtain ⟨rfl, rfl⟩ := q1
  exact ⟨a, xs, h2, h1, h3, h4⟩
theorem Okk.asL (ok : Okk K c Hf H σ fp S) {v : V} (r : SRl K Hf fp (some v) x) (h : AsD S x (.list ds)) : ∃ a xs, v = .ref a ∧ H a = some (.lst xs) ∧ RpA K Hf xs ds := by
  cases h with
  | dat _ =>
    cases r with
    | lst h1 h2 => exact ⟨_, _, rfl, ok.hd.ex _ _ h1, h2⟩
  | own ho =>
    obtain ⟨a, xs, h1, _, h3, h4⟩ := ok.obL ho r
    exact ⟨a, xs, h1, h3, h4⟩
  | ownP ho =>
    obtain ⟨a, xs, h1, _, h3, h4⟩ := ok.obP ho r
    exact ⟨a, xs, h1, h3, h4⟩
theorem Okk.asDp (ok : Okk K c Hf H σ fp S) {v : V} (r : SRl K Hf fp (some v) x) (h : AsD S x d) (e : d.hasDict = false) : Dp K H v d := by
  cases h with
  | dat _ => exact dp_ofs.1 _ _ (Rp.mono ok.hd.ex r) e
  | own ho =>
    obtain ⟨a, xs, rfl, _, h3, h4⟩ := ok.obL ho r
    exact .lst (.inl (.inl h3)) (dp_ofs.2 _ _ (h4.mono ok.hd.ex) (by simpa [PyData.hasDict] using e))
  | ownP ho =>
    obtain ⟨a, xs, rfl, _, h3, h4⟩ := ok.obP ho r
    exact .lst (.inl (.inl h3)) (dp_ofs.2 _ _ (h4.mono ok.hd.ex) (by simpa [PyData.hasDict] using e))
theorem shaped_noDict (h : SeqAt.shaped d = true) : d.hasDict = false := by
  unfold SeqAt.shaped at h
  rw [Bool.and_eq_true] at h
  exact PyData.hasDict_of_canLay d h.1
theorem ro_eqD (hx : AsD S x d) (hy : AsD S y e) (h1 : SeqAt.shaped d = true) (h2 : SeqAt.shaped e = true) : Ro K (rEqU K) x y S (.dat (.bool (PyData.eqv d e))) S := fun c Hf H σ fp ok v u rv ru Q q =>
  .inr (.inl ⟨d, e, ok.asDp rv hx (shaped_noDict h1), ok.asDp ru hy (shaped_noDict h2), h1, h2, q _ _ _ _ ok Gr.refl (Rp.bl _)⟩)
theorem ro_eqE (hx : AsD S x (.list ds)) (hy : AsD S y (.list [])) : Ro K (rEqU K) x y S (.dat (.bool ds.isEmpty)) S := fun c Hf H σ fp ok v u rv ru Q q => by
  obtain ⟨a, xs, rfl, h1, h2⟩ := ok.asL rv hx
  obtain ⟨b, zs, rfl, h3, h4⟩ := ok.asL ru hy
  cases h4
  refine .inr (.inr ⟨a, b, xs, rfl, rfl, h1, h3, ?_⟩)
  have e : xs.isEmpty = ds.isEmpty := by
    cases h2 <;> rfl
  rw [e]
  exact q _ _ _ _ ok Gr.refl (Rp.bl _)
theorem ro_neD (hx : AsD S x d) (hy : AsD S y e) (h1 : SeqAt.shaped d = true) (h2 : SeqAt.shaped e = true) : Ro K (rNeU K) x y S (.dat (.bool (!PyData.eqv d e))) S := fun c Hf H σ fp ok v u rv ru Q q =>
  .inr ⟨d, e, ok.asDp rv hx (shaped_noDict h1), ok.asDp ru hy (shaped_noDict h2), h1, h2, q _ _ _ _ ok Gr.refl (Rp.bl _)⟩
theorem int_dec : decide (V.int i = V.int j) = decide (i = j) := by
  by_cases h : i = j
  · subst h
    simp
  · rw [decide_eq_false h, decide_eq_false fun z => h (V.int.inj z)]
theorem str_dec {a b : Str} : decide (V.str a = V.str b) = decide (a = b) := by
  by_cases h : a = b
  · subst h
    simp
  · rw [decide_eq_false h, decide_eq_false fun z => h (V.str.inj z)]
theorem ro_eqI : Ro K (rEqU K) (.dat (.int i)) (.dat (.int j)) S (.dat (.bool (decide (i = j)))) S := fun c Hf H σ fp ok v u rv ru Q q => by
  cases rv
  cases ru
  exact .inl ⟨rfl, by rw [int_dec]; exact q _ _ _ _ ok Gr.refl (Rp.bl _)⟩
theorem ro_neI : Ro K (rNeU K) (.dat (.int i)) (.dat (.int j)) S (.dat (.bool (!decide (i = j)))) S := fun c Hf H σ fp ok v u rv ru Q q => by
  cases rv
  cases ru
  exact .inl ⟨rfl, by rw [int_dec]; exact q _ _ _ _ ok Gr.refl (Rp.bl _)⟩
theorem ro_eqS {a b : Str} : Ro K (rEqU K) (.dat (.str a)) (.dat (.str b)) S (.dat (.bool (decide (a = b)))) S := fun c Hf H σ fp ok v u rv ru Q q => by
  cases rv
  cases ru
  exact .inl ⟨rfl, by rw [str_dec]; exact q _ _ _ _ ok Gr.refl (Rp.bl _)⟩
theorem ro_neS {a b : Str} : Ro K (rNeU K) (.dat (.str a)) (.dat (.str b)) S (.dat (.bool (!decide (a = b)))) S := fun c Hf H σ fp ok v u rv ru Q q => by
  cases rv
  cases ru
  exact .inl ⟨rfl, by rw [str_dec]; exact q _ _ _ _ ok Gr.refl (Rp.bl _)⟩
/-- two lists in one new list; two tuples in one -/
theorem rol_cat (hx : AsD S x (.list ds)) (hy : AsD S y (.list es)) (hl : ds.length + es.length ≤ 1000000) : RoL K (rPlus K) x y S (ds ++ es) S := fun c Hf H σ fp ok v u rv ru Q q => by
  obtain ⟨a, xs, rfl, h1, h2⟩ := ok.asL rv hx
  obtain ⟨b, zs, rfl, h3, h4⟩ := ok.asL ru hy
  refine .inr (.inl ⟨a, b, xs, zs, rfl, rfl, h1, h3, ?_, fun p hp => ?_⟩)
  · rw [h2.len, h4.len]
    exact Nat.le_trans hl (by decide)
  · obtain ⟨ok2, g2, al⟩ := ok.alone hp (h2.append h4)
    exact q p _ _ _ ok2 g2 hp al
theorem ro_catT (hl : ds.length + es.length ≤ 1000000) : Ro K (rPlus K) (.dat (.tuple ds)) (.dat (.tuple es)) S (.dat (.tuple (ds ++ es))) S := fun c Hf H σ fp ok v u rv ru Q q => by
  cases rv with
  | tup h1 h2 => cases ru with
    | tup h3 h4 =>
      refine .inr (.inr (.inl ⟨_, _, _, _, rfl, rfl, sameT ok.hd.ex h1, sameT ok.hd.ex h3, ?_, fun e => ?_, fun _ e => ?_, fun _ _ p hp => ?_⟩))
      · rw [h2.len, h4.len]
        exact Nat.le_trans hl (by decide)
      · subst e
        cases h2
        exact q _ _ _ _ ok Gr.refl (Rp.tup h3 h4)
      · subst e
        cases h4
        refine q _ _ _ _ ok Gr.refl ?_
        rw [List.append_nil]
        exact Rp.tup h1 h2
      · obtain ⟨ok2, g2⟩ := ok.laid (.tup _) hp
        exact q _ _ _ _ ok2 g2 (Rp.tup (.inl (.inl upd_same)) ((h2.append h4).mono g2.sm))
/-! ### items -/
def ixD (ds : List PyData) (i : Int) : Option PyData := atI ds i
theorem ix_len {α β : Type} {xs : List α} {ds : List β} (h : xs.length = ds.length) (i : Int) : ixN xs.length i = ixN ds.length i := by rw [h]
theorem atI_rp {xs : List V} (h : RpA K Hf xs ds) (e : atI ds i = some d) : ∃ v, atI xs i = some v ∧ Rp K Hf v d := by
  unfold atI at e ⊢
  rw [h.len]
  cases q : ixN ds.length i with
  | none =>
    rw [q] at e
    cases e
  | some j =>
    rw [q] at e
    exact h.get (show ds[j]? = some d from e)
theorem ro_ixL (hx : AsD S x (.list ds)) (e : atI ds i = some d) : Ro K (rIx K) x (.dat (.int i)) S (.dat d) S := fun c Hf H σ fp ok v u rv ru Q q => by
  obtain ⟨a, xs, rfl, h1, h2⟩ := ok.asL rv hx
  obtain ⟨w, h3, h4⟩ := atI_rp h2 e
  cases ru
  exact .inl ⟨a, xs, i, w, rfl, rfl, .inl (.inl h1), h3, q _ _ _ _ ok Gr.refl h4⟩
theorem ro_ixT (e : atI ds i = some d) : Ro K (rIx K) (.dat (.tuple ds)) (.dat (.int i)) S (.dat d) S := fun c Hf H σ fp ok v u rv ru Q q => by
  cases rv with
  | tup h1 h2 =>
    obtain ⟨w, h3, h4⟩ := atI_rp h2 e
    cases ru
    exact .inr (.inl ⟨_, _, i, w, rfl, rfl, sameT ok.hd.ex h1, h3, q _ _ _ _ ok Gr.refl h4⟩)
/-! ### slices -/
def Eo (K : PySem.W.Frag) (to : TO) (S : SS) (o : Option Int) (S' : SS) : Prop := ∀ c Hf H σ fp, Okk K c Hf H σ fp S → ∀ Q : Option Int → Hp → Prop, (∀ Hf' H' fp', Okk K c Hf' H' σ fp' S' → Gr Hf H fp Hf' H' fp' → Q o H') → to σ H Q
theorem eo_none : Eo K tNoPart S none S := fun c Hf H σ fp ok Q q => q _ _ _ ok Gr.refl
theorem eo_some (h : Ee K te S (.dat (.int i)) S1) : Eo K (tPart te) S (some i) S1 := fun c Hf H σ fp ok Q q => h c Hf H σ fp ok _ fun v Hf1 H1 fp1 ok1 g1 r1 => by
  cases r1
  exact ⟨i, rfl, q _ _ _ ok1 g1⟩
def cutD (ds : List PyData) (lo hi : Option Int) : List PyData := (ds.drop (HT.sIx ds.length 0 lo)).take (HT.sIx ds.length ds.length hi - HT.sIx ds.length 0 lo)
theorem cutD_rp {xs : List V} (h : RpA K Hf xs ds) {lo hi : Option Int} : RpA K Hf (cutV xs lo hi) (cutD ds lo hi) := by
  unfold cutV cutD
  rw [h.len]
  exact (h.drop _).take _
theorem ee_revT (h : Ee K te S (.dat (.tuple ds)) S1) : Ee K (tRevT K te) S (.dat (.tuple ds.reverse)) S1 := fun c Hf H σ fp ok Q q =>
  h c Hf H σ fp ok _ fun v Hf1 H1 fp1 ok1 g1 r1 => by
    cases r1 with
    | tup h1 h2 =>
      refine ⟨_, _, rfl, sameT ok1.hd.ex h1, fun p hp => ?_⟩
      obtain ⟨ok2, g2⟩ := ok1.laid (.tup _) hp
      exact q _ _ _ _ ok2 (g1.trans g2) (Rp.tup (.inl (.inl upd_same)) (h2.reverse.mono g2.sm))
/-! ### built-ins by their names -/
theorem SRA.one {vs : List V} (r : SRA K Hf fp vs [x]) : ∃ v, vs = [v] ∧ SRl K Hf fp (some v) x := by
  cases r with
  | cons h t =>
    cases t
    exact ⟨_, rfl, h⟩
theorem SRA.two {vs : List V} (r : SRA K Hf fp vs [x, y]) : ∃ v u, vs = [v, u] ∧ SRl K Hf fp (some v) x ∧ SRl K Hf fp (some u) y := by
  cases r with
  | cons h t =>
    obtain ⟨u, rfl, h2⟩ := SRA.one t
    exact ⟨_, u, rfl, h, h2⟩
def rLen (K : PySem.W.Frag) : List V → Hp → VK → Prop := fun xs H Q => ∃ x n, xs = [x] ∧ LenV K x H n ∧ Q (.int n) H
def rAbs : List V → Hp → VK → Prop := fun xs H Q => ∃ i, xs = [.int i] ∧ Q (.int (if i < 0 then -i else i)) H
def rInt1 : List V → Hp → VK → Prop := fun xs H Q => (∃ i, xs = [.int i] ∧ Q (.int i) H) ∨ ∃ k, xs = [.bl k] ∧ Q (.int (if k then 1 else 0)) H
def rListOf (K : PySem.W.Frag) : List V → Hp → VK → Prop := fun xs H Q => ∃ p ys, xs = [.ref p] ∧ (SqL K H p ys ∨ SqT K H p ys) ∧ ∀ l, H l = none → Q (.ref l) (upd H l (.lst ys))
def rTupleOf (K : PySem.W.Frag) : List V → Hp → VK → Prop := fun xs H Q => ∃ p ys, xs = [.ref p] ∧ ((SqL K H p ys ∧ ∀ l, H l = none → Q (.ref l) (upd H l (.tup ys))) ∨ (SqT K H p ys ∧ Q (.ref p) H))
theorem rc_lenL (h : AsD S x (.list ds)) : Rc K (rLen K) [x] S (.dat (.int ds.length)) S := fun c Hf H σ fp ok vs r Q q => by
  obtain ⟨v, rfl, rv⟩ := r.one
  obtain ⟨a, xs, rfl, h1, h2⟩ := ok.asL rv h
  refine ⟨_, ds.length, rfl, .inl ⟨xs, .inl (.inl h1), h2.len.symm⟩, q _ _ _ _ ok Gr.refl (Rp.int _)⟩
theorem rc_lenT : Rc K (rLen K) [.dat (.tuple ds)] S (.dat (.int ds.length)) S := fun c Hf H σ fp ok vs r Q q => by
  obtain ⟨v, rfl, rv⟩ := r.one
  cases rv with
  | tup h1 h2 => exact ⟨_, ds.length, rfl, .inr ⟨_, sameT ok.hd.ex h1, h2.len.symm⟩, q _ _ _ _ ok Gr.refl (Rp.int _)⟩
theorem rc_lenScr {ns : List Int} : Rc K (rLen K) [.scr ns] S (.dat (.int ns.length)) S := fun c Hf H σ fp ok vs r Q q => by
  obtain ⟨v, rfl, a, rfl, h⟩ := r.one
  exact ⟨_, ns.length, rfl, .inl ⟨_, ok.hd.ex.seq h, by rw [List.length_map]⟩, q _ _ _ _ ok Gr.refl (Rp.int _)⟩
theorem rc_abs : Rc K rAbs [.dat (.int i)] S (.dat (.int (if i < 0 then -i else i))) S := fun c Hf H σ fp ok vs r Q q => by
  obtain ⟨v, rfl, rv⟩ := r.one
  cases rv
  exact ⟨i, rfl, q _ _ _ _ ok Gr.refl (Rp.int _)⟩
theorem rc_intI : Rc K rInt1 [.dat (.int i)] S (.dat (.int i)) S := fun c Hf H σ fp ok vs r Q q => by
  obtain ⟨v, rfl, rv⟩ := r.one
  cases rv
  exact .inl ⟨i, rfl, q _ _ _ _ ok Gr.refl (Rp.int _)⟩
theorem rc_intB {b : Bool} : Rc K rInt1 [.dat (.bool b)] S (.dat (.int (if b then 1 else 0))) S := fun c Hf H σ fp ok vs r Q q => by
  obtain ⟨v, rfl, rv⟩ := r.one
  cases rv
  exact .inr ⟨b, rfl, q _ _ _ _ ok Gr.refl (Rp.int _)⟩
theorem rcl_listL (h : AsD S x (.list ds)) : RcL K (rListOf K) [x] S ds S := fun c Hf H σ fp ok vs r Q q => by
  obtain ⟨v, rfl, rv⟩ := r.one
  obtain ⟨a, xs, rfl, h1, h2⟩ := ok.asL rv h
  refine ⟨a, xs, rfl, .inl (.inl (.inl h1)), fun p hp => ?_⟩
  obtain ⟨ok2, g2, al⟩ := ok.alone hp h2
  exact q p _ _ _ ok2 g2 hp al
theorem rcl_listT : RcL K (rListOf K) [.dat (.tuple ds)] S ds S := fun c Hf H σ fp ok vs r Q q => by
  obtain ⟨v, rfl, rv⟩ := r.one
  cases rv with
  | tup h1 h2 =>
    refine ⟨_, _, rfl, .inr (sameT ok.hd.ex h1), fun p hp => ?_⟩
    obtain ⟨ok2, g2, al⟩ := ok.alone hp h2
    exact q p _ _ _ ok2 g2 hp al
theorem rc_tupL (h : AsD S x (.list ds)) : Rc K (rTupleOf K) [x] S (.dat (.tuple ds)) S := fun c Hf H σ fp ok vs r Q q => by
  obtain ⟨v, rfl, rv⟩ := r.one
  obtain ⟨a, xs, rfl, h1, h2⟩ := ok.asL rv h
  refine ⟨a, xs, rfl, .inl ⟨.inl (.inl h1), fun p hp => ?_⟩⟩
  obtain ⟨ok2, g2⟩ := ok.laid (.tup _) hp
  exact q _ _ _ _ ok2 g2 (Rp.tup (.inl (.inl upd_same)) (h2.mono g2.sm))
theorem rc_tupT : Rc K (rTupleOf K) [.dat (.tuple ds)] S (.dat (.tuple ds)) S := fun c Hf H σ fp ok vs r Q q => by
  obtain ⟨v, rfl, rv⟩ := r.one
  cases rv with
  | tup h1 h2 => exact ⟨_, _, rfl, .inr ⟨sameT ok.hd.ex h1, q _ _ _ _ ok Gr.refl (Rp.tup h1 h2)⟩⟩
/-! ### isinstance -/
def tyD : PyData → String
  | .none => "NoneType"
  | .bool _ => "bool"
  | .int _ => "int"
  | .str _ => "str"
  | .list _ => "list"
  | .tuple _ => "tuple"
  | .dict _ => "dict"
theorem ee_ty {n : String} : ∀ c Hf H σ fp, Okk K c Hf H σ fp S → ∀ Q : VK, Q (.ty n) H → tC (.ty n) σ H Q := fun _ _ _ _ _ _ _ q => q
theorem ee_isi {n : String} {b : Bool} (h : Ee K te S (.dat d) S1) (hk : PySem.W.kitOne K (.type (tyD d)) (.type n) = some b) : Ee K (tCB (rIsi K) (tCons te (tCons (tC (.ty n)) tNil))) S (.dat (.bool b)) S1 := fun c Hf H σ fp ok Q q =>
  h c Hf H σ fp ok _ fun v Hf1 H1 fp1 ok1 g1 r1 => by
    have fin : ∀ {t : Value}, TyX K H1 v t → t = .type (tyD d) → rIsi K [v, .ty n] H1 Q := fun {t} ty e => ⟨v, .ty n, t, .type n, b, rfl, .ty n, ty, by rw [e]; exact hk, q _ _ _ _ ok1 g1 (Rp.bl _)⟩
    have r2 : Rp K H1 v d := Rp.mono ok1.hd.ex r1
    cases r2 with
    | non => exact fin (.base .non) rfl
    | bl b => exact fin (.base (.bl b)) rfl
    | int i => exact fin (.base (.int i)) rfl
    | str x => exact fin (.base (.str x)) rfl
    | lst h1 h2 => exact fin (.base (.lst h1)) rfl
    | emp h1 => exact fin (.base (.dK h1)) rfl
    | tup h1 h2 =>
      rcases h1 with (h1 | ⟨o, h1⟩) | ⟨o, its, n', h1, h3, _⟩
      · exact fin (.base (.tup h1)) rfl
      · exact fin (.fTuple h1) rfl
      · exact fin (.kTuple h1 h3) rfl
end
end DL

set_option maxRecDepth 100000
set_option maxHeartbeats 1000000
namespace DL
open PySem PySem.Spec PyProof.Rows L2

/-! ### repr of data -/
section
variable {X : Cx} {pins : List (Addr × Obj)} {σ : L2.St} {H : Hp} {s : Shared}
/-- data that stands in a heap is shown as its text; a dict is never the table of the modules -/
theorem shows_of (I : Inv X pins σ H s) : ∀ n : Nat,
    (∀ (d : PyData) (v : V) (u : Value), sizeOf d ≤ n → Rp X.K H v d → RelV v u → d.showable = true → d.shown.length ≤ sizeLine → ∃ as bs, Reads s.heap u d as ∧ ReadAtMost s.heap d.depth bs ∧ ReprK X.prog X.w bs s.heap d.depth u d.shown) ∧
    (∀ (ds : List PyData) (vs : List V) (us : List Value), sizeOf ds ≤ n → RpA X.K H vs ds → Vals vs us → PyData.showableAll ds = true → (∀ t ∈ PyData.shownAll ds, t.length ≤ sizeLine) →
      ∃ as bs, ReadsAll s.heap us ds as ∧ ReadAtMost s.heap (PyData.depthAll ds) bs ∧ ReprAllK X.prog X.w bs s.heap (PyData.depthAll ds) us (PyData.shownAll ds))
  | 0 => ⟨fun d v u hn => by cases d <;> simp at hn, fun ds vs us hn => by cases ds <;> simp at hn⟩
  | n + 1 => by
    obtain ⟨ih1, ih2⟩ := shows_of I n
    have no : ∀ k, ReadAtMost s.heap k [] := fun k b h => nomatch h
    refine ⟨fun d v u hn h r hs hz => ?_, fun ds vs us hn h r hs hz => ?_⟩
    · cases h with
      | non => cases (show u = Value.none from r); exact ⟨[], [], .none, no _, .of_is ReprIs.none _ _ _⟩
      | bl b => cases (show u = Value.bool b from r); exact ⟨[], [], .bool b, no _, .of_is (ReprIs.bool b) _ _ _⟩
      | int i => obtain ⟨t, q⟩ := (show ∃ t, u = Value.int i t from r); cases q; exact ⟨[], [], .int i t, no _, .of_is (ReprIs.int t (by simpa [PyData.showable] using hs)) _ _ _⟩
      | str x => obtain ⟨t, q⟩ := (show ∃ t, u = Value.str x t from r); cases q; exact ⟨[], [], .str x t, no _, .of_is (ReprIs.str x t (by simpa only [PyData.shown] using hz)) _ _ _⟩
      | @lst a xs ds h1 h2 =>
        cases (show u = Value.ref a from r)
        obtain ⟨_, its, m, rv, e⟩ := (show ObjOk X.prog X.w H s.heap a (.lst xs) from I.hok a _ h1)
        have hz2 : (listText (PyData.shownAll ds)).length ≤ sizeLine := by simpa only [PyData.shown] using hz
        obtain ⟨as, bs, r1, r2, r3⟩ := ih2 ds xs its (by simp at hn; omega) h2 rv (by simpa [PyData.showable] using hs) fun t ht => Nat.le_trans (listText_mem_le ht) hz2
        have rr : Reads s.heap (.ref a) (.list ds) (a :: as) := .list e rfl rfl (by simpa using r1)
        have out : a ∉ bs := not_mem_of_deeper rr (by rw [PyData.depth]; omega) r2
        refine ⟨_, a :: bs, rr, .cons rr (by rw [PyData.depth]; omega) r2, ?_⟩
        rw [PyData.depth, PyData.shown]
        cases its with
        | nil =>
          cases r3' : ds with
          | nil =>
            rw [PyData.shownAll, listText_nil]
            exact ReprK.listEmpty e rfl rfl
          | cons y ys =>
            rw [r3'] at r1
            cases r1
        | cons y ys => exact ReprK.list e rfl rfl out (by simpa using r3.length_eq) fun i z q => r3.item i z (by simpa using q)
      | @tup a xs ds h1 h2 =>
        cases (show u = Value.ref a from r)
        obtain ⟨its, rv, p, _⟩ := I.tuple h1
        obtain ⟨o, e, c, m, dd⟩ := p
        have hz2 : (tupleText (PyData.shownAll ds)).length ≤ sizeLine := by simpa only [PyData.shown] using hz
        obtain ⟨as, bs, r1, r2, r3⟩ := ih2 ds xs its (by simp at hn; omega) h2 rv (by simpa [PyData.showable] using hs) fun t ht => Nat.le_trans (tupleText_mem_le ht) hz2
        have rr : Reads s.heap (.ref a) (.tuple ds) as := .tuple e c dd (by simpa using r1)
        have out : a ∉ bs := not_mem_of_deeper rr (by rw [PyData.depth]; omega) r2
        refine ⟨_, a :: bs, rr, .cons rr (by rw [PyData.depth]; omega) r2, ?_⟩
        rw [PyData.depth, PyData.shown]
        exact ReprK.tuple e c dd out (by simpa using r3)
      | @emp a h1 =>
        cases (show u = Value.ref a from r)
        obtain ⟨_, hm, vs, kv, o, es, ep, e, ex, q⟩ := (show ObjOk X.prog X.w H s.heap a (.dK []) from I.hok a _ h1)
        cases kv
        obtain ⟨q1, q2, q3, q4⟩ := q
        have he : es.toList = [] := by
          cases hl : es.toList with
          | nil => rfl
          | cons y ys =>
            rw [hl] at q3
            cases q3
        have rr : Reads s.heap (.ref a) (.dict []) [a] := .dict (es := es) (n := ep) (as := []) (bs := []) e ex.1 q1 (by
          rw [he]
          exact .nil) (by
          rw [he]
          exact .nil)
        refine ⟨_, [a], rr, .cons (bs := []) rr (by rw [PyData.depth]; omega) (no 0), ?_⟩
        refine ReprK.dict (as := []) e ex.1 q1 hm (by simp) ?_
        rw [he]
        exact .nil
    · cases h with
      | nil => cases r; exact ⟨[], [], .nil, no _, .nil⟩
      | cons h t => cases r with
        | cons r1 r2 =>
          simp at hn
          rw [PyData.showableAll, Bool.and_eq_true] at hs
          rw [PyData.shownAll] at hz
          obtain ⟨as, cs, a1, a2, a3⟩ := ih1 _ _ _ (by omega) h r1 hs.1 (hz _ List.mem_cons_self)
          obtain ⟨bs, ds, b1, b2, b3⟩ := ih2 _ _ _ (by omega) t r2 hs.2 fun y hy => hz y (List.mem_cons_of_mem _ hy)
          refine ⟨as ++ bs, cs ++ ds, .cons a1 b1, ?_, ?_⟩
          · rw [PyData.depthAll]
            exact (a2.mono (Nat.le_max_left _ _)).append (b2.mono (Nat.le_max_right _ _))
          · rw [PyData.depthAll, PyData.shownAll]
            exact .cons ((a3.more fun _ m => List.mem_append_left _ m).level_le (Nat.le_max_left _ _)) (b3.more_le (fun _ m => List.mem_append_right _ m) (Nat.le_max_right _ _))
def rRepr (K : PySem.W.Frag) : List V → Hp → VK → Prop := fun xs H Q => ∃ v d, xs = [v] ∧ Rp K H v d ∧ d.showable = true ∧ d.depth ≤ 64 ∧ d.shown.length ≤ sizeLine ∧ Q (.str d.shown) H
theorem call_reprD (gd : X.A.guards = some []) (hu : X.A.units + 100 < cLine) : CallR X (.builtin "repr") (rRepr X.K) := by
  intro pins s σ H xs us Q I r h
  obtain ⟨v, d, rfl, rp, hs, hd, hz, q⟩ := h
  obtain ⟨u, rfl, ru⟩ := vals1 r
  have fin : ∀ t : Nat, EP X pins σ Q (.str d.shown t) { s with toks := s.toks + 1 } := fun t => ⟨.str d.shown, H, I.tok _, ⟨t, rfl⟩, q⟩
  have fin2 : ∀ (h' : Heap) (u t : Nat), (∀ b o, s.heap.get? b = some o → h'.get? b = some o) → EP X pins σ Q (.str d.shown u) { s with heap := h', toks := t } := fun h' u t hk => ⟨.str d.shown, H, I.kept hk, ⟨u, rfl⟩, q⟩
  have self : ∀ b o, s.heap.get? b = some o → s.heap.get? b = some o := fun _ _ e => e
  cases rp with
  | non =>
    cases (show u = Value.none from ru)
    exact PySem.P.repr_of_none (by simpa only [PyData.shown] using fin _)
  | bl b =>
    cases (show u = Value.bool b from ru)
    exact PySem.P.repr_of_bool (by simpa only [PyData.shown] using fin _)
  | int i =>
    obtain ⟨t, e⟩ := (show ∃ t, u = Value.int i t from ru)
    subst e
    exact PySem.P.repr_of_int (by simpa [PyData.showable] using hs) (by simpa only [PyData.shown] using fin _)
  | str x =>
    obtain ⟨t, e⟩ := (show ∃ t, u = Value.str x t from ru)
    subst e
    exact PySem.P.repr_of_str (by simpa only [PyData.shown] using fin _) (by simpa only [PyData.shown] using hz)
  | @lst a xs ds h1 h2 =>
    cases (show u = Value.ref a from ru)
    obtain ⟨_, its, m, rv, e⟩ := (show ObjOk X.prog X.w H s.heap a (.lst xs) from I.hok a _ h1)
    have hz2 : (listText (PyData.shownAll ds)).length ≤ sizeLine := by simpa only [PyData.shown] using hz
    obtain ⟨as, bs, r1, r2, r3⟩ := (shows_of I _).2 ds xs its (Nat.le_refl _) h2 rv (by simpa [PyData.showable] using hs) fun t ht => Nat.le_trans (listText_mem_le ht) hz2
    have rr : Reads s.heap (.ref a) (.list ds) (a :: as) := .list e rfl rfl (by simpa using r1)
    have out : a ∉ bs := not_mem_of_deeper rr (by rw [PyData.depth]; omega) r2
    rw [PyData.shown] at fin2
    rw [PyData.depth] at hd
    refine call_repr_slot (by omega) ⟨_, e, rfl⟩ F.slot_list_repr.toG ?_
    cases its with
    | nil =>
      cases r3' : ds with
      | nil =>
        rw [r3', PyData.shownAll, listText_nil] at fin2
        exact call_list_repr_empty ⟨_, e, rfl⟩ e rfl ⟨_, _, rfl, fin2 s.heap _ _ self⟩
      | cons y ys =>
        rw [r3'] at r1
        cases r1
    | cons y ys => exact call_list_reprK e rfl rfl out (by simpa using r3.length_eq) (fun i z q => r3.item i z (by simpa using q)) gd (fun b _ => Clear.nil b) (by show X.A.units + 1 + _ < cLine; omega) self (fun h' u t hk => ⟨_, _, rfl, fin2 h' u t hk⟩) hz2
  | @tup a xs ds h1 h2 =>
    cases (show u = Value.ref a from ru)
    obtain ⟨its, rv, p, _⟩ := I.tuple h1
    obtain ⟨o, e, c, m, dd⟩ := p
    have hz2 : (tupleText (PyData.shownAll ds)).length ≤ sizeLine := by simpa only [PyData.shown] using hz
    obtain ⟨as, bs, r1, r2, r3⟩ := (shows_of I _).2 ds xs its (Nat.le_refl _) h2 rv (by simpa [PyData.showable] using hs) fun t ht => Nat.le_trans (tupleText_mem_le ht) hz2
    have rr : Reads s.heap (.ref a) (.tuple ds) as := .tuple e c dd (by simpa using r1)
    have out : a ∉ bs := not_mem_of_deeper rr (by rw [PyData.depth]; omega) r2
    rw [PyData.shown] at fin2
    rw [PyData.depth] at hd
    refine call_repr_slot (by omega) ⟨o, e, c⟩ F.slot_tuple_repr ?_
    exact call_tuple_reprK e c dd out (by simpa using r3) gd (fun b _ => Clear.nil b) (by show X.A.units + 1 + _ < cLine; omega) self (fun h' u t hk => ⟨_, _, rfl, fin2 h' u t hk⟩) hz2
  | @emp a h1 =>
    cases (show u = Value.ref a from ru)
    obtain ⟨_, hm, vs, kv, o, es, ep, e, ex, q'⟩ := (show ObjOk X.prog X.w H s.heap a (.dK []) from I.hok a _ h1)
    cases kv
    obtain ⟨q1, q2, q3, q4⟩ := q'
    have he : es.toList = [] := by
      cases hl : es.toList with
      | nil => rfl
      | cons y ys =>
        rw [hl] at q3
        cases q3
    refine call_repr_slot (by omega) ⟨o, e, ex.1⟩ F.slot_dict_repr ?_
    refine call_dict_reprK (as := []) (d := 0) (ps := []) e ex.1 q1 hm (by simp) (by rw [he]; exact .nil) gd (fun b _ => Clear.nil b) (by show X.A.units + 1 + _ < cLine; omega) self (fun h' u t hk => ⟨_, _, rfl, fin2 h' u t hk⟩) (by decide)
end

section
variable {K : PySem.W.Frag} {S S0 S1 S2 S3 : SS} {ta tb te : TE} {x y z : SD} {d e : PyData} {i j : Int} {ds es : List PyData} {k : Nat}
variable {c : Addr → Prop} {Hf H : Hp} {σ : L2.St} {fp : List (List Addr)}
theorem rc_repr (hs : d.showable = true) (hd : d.depth ≤ 64) (hz : d.shown.length ≤ sizeLine) : Rc K (rRepr K) [.dat d] S (.dat (.str d.shown)) S := fun c Hf H σ fp ok vs r Q q => by
  obtain ⟨v, rfl, rv⟩ := r.one
  exact ⟨v, d, rfl, Rp.mono ok.hd.ex rv, hs, hd, hz, q _ _ _ _ ok Gr.refl (Rp.str _)⟩
/-! ### an own list changes -/
theorem Okk.setL (ok : Okk K c Hf H σ fp S) (ho : S.ob[k]? = some (.lst ds)) {v : V} (r : SRl K Hf fp (some v) (.own k)) :
    ∃ a xs, v = .ref a ∧ H a = some (.lst xs) ∧ RpA K Hf xs ds ∧ ∀ zs es, RpA K Hf zs es → Okk K c Hf (upd H a (.lst zs)) σ fp { S with ob := S.ob.set k (.lst es) } ∧ Gr Hf H fp Hf (upd H a (.lst zs)) fp := by
  obtain ⟨a, xs, rfl, h1, h2, h3⟩ := ok.obL ho r
  refine ⟨a, xs, rfl, h2, h3, fun zs es rz => ?_⟩
  obtain ⟨hd, g⟩ := ok.hd.put (o' := .lst es) (H' := upd H a (.lst zs)) h1 ho (by intro z; cases z) (fun b hb => upd_ne (by simpa using hb)) ⟨a, zs, rfl, upd_same, rz⟩ (fun b hb => by
    have e : b = a := by simpa using hb
    rw [e]
    exact ⟨_, upd_same⟩) (fun _ _ => ⟨ds, rfl⟩)
  exact ⟨⟨hd, ok.ln, ok.sr⟩, g⟩
/-- xs.append(e) -/
theorem ee_append (hl : Ee K ta S (.own k) S1) (he : Ee K te S1 (.dat d) S2) (ho1 : ∃ ds1, S1.ob[k]? = some (.lst ds1)) (ho : S2.ob[k]? = some (.lst ds)) (hz : ds.length < 1000000) :
    Ee K (tBM K "list" rAppend ta (tCons te tNil)) S (.dat .none) { S2 with ob := S2.ob.set k (.lst (ds ++ [d])) } := fun c Hf H σ fp ok Q q =>
  hl c Hf H σ fp ok _ fun v Hf1 H1 fp1 ok1 g1 r1 => by
    obtain ⟨ds1, ho1⟩ := ho1
    obtain ⟨a, xs, rfl, h1, h2, h3⟩ := ok1.obL ho1 r1
    refine ⟨.inl ⟨rfl, xs, .inl (.inl h2)⟩, he c Hf1 H1 σ fp1 ok1 _ fun u Hf2 H2 fp2 ok2 g2 r2 => ?_⟩
    obtain ⟨b, zs, e, k1, k2, k3⟩ := ok2.setL ho (r1.mono g2.sm g2.pr)
    cases e
    obtain ⟨ok3, g3⟩ := k3 (zs ++ [u]) (ds ++ [d]) (k2.append (.cons r2 .nil))
    refine ⟨_, zs, u, rfl, rfl, k1, ?_, q _ _ _ _ ok3 ((g1.trans g2).trans g3) Rp.non⟩
    rw [k2.len]
    exact Nat.lt_of_lt_of_le hz (by decide)
/-- xs.extend(ys), ys a list -/
theorem ee_extend (hl : Ee K ta S (.own k) S1) (he : Ee K te S1 x S2) (hx : AsD S2 x (.list es)) (ho1 : ∃ ds1, S1.ob[k]? = some (.lst ds1)) (ho : S2.ob[k]? = some (.lst ds)) (hz : ds.length + es.length ≤ 1000000) :
    Ee K (tBM K "list" rExtend ta (tCons te tNil)) S (.dat .none) { S2 with ob := S2.ob.set k (.lst (ds ++ es)) } := fun c Hf H σ fp ok Q q =>
  hl c Hf H σ fp ok _ fun v Hf1 H1 fp1 ok1 g1 r1 => by
    obtain ⟨ds1, ho1⟩ := ho1
    obtain ⟨a, xs, rfl, h1, h2, h3⟩ := ok1.obL ho1 r1
    refine ⟨.inl ⟨rfl, xs, .inl (.inl h2)⟩, he c Hf1 H1 σ fp1 ok1 _ fun u Hf2 H2 fp2 ok2 g2 r2 => ?_⟩
    obtain ⟨b, zs, e, k1, k2, k3⟩ := ok2.setL ho (r1.mono g2.sm g2.pr)
    cases e
    obtain ⟨p, ws, rfl, w1, w2⟩ := ok2.asL r2 hx
    obtain ⟨ok3, g3⟩ := k3 (zs ++ ws) (ds ++ es) (k2.append w2)
    refine ⟨_, p, zs, ws, rfl, rfl, k1, w1, ?_, q _ _ _ _ ok3 ((g1.trans g2).trans g3) Rp.non⟩
    rw [k2.len, w2.len]
    exact Nat.le_trans hz (by decide)
/-- xs.pop() -/
theorem ee_pop (hl : Ee K ta S (.own k) S1) (ho : S1.ob[k]? = some (.lst (ds ++ [d]))) : Ee K (tBM0 K "list" rPop ta) S (.dat d) { S1 with ob := S1.ob.set k (.lst ds) } := fun c Hf H σ fp ok Q q =>
  hl c Hf H σ fp ok _ fun v Hf1 H1 fp1 ok1 g1 r1 => by
    obtain ⟨b, zs, e, k1, k2, k3⟩ := ok1.setL ho r1
    cases e
    have hl := k2.len
    rw [List.length_append, List.length_singleton] at hl
    obtain ⟨w, w1, w2⟩ := k2.get (i := zs.length - 1) (d := d) (by rw [hl, Nat.add_sub_cancel, List.getElem?_concat_length])
    have k4 : RpA K Hf1 zs.dropLast ds := by
      have := k2.take ds.length
      rw [List.take_left] at this
      rw [List.dropLast_eq_take, hl, Nat.add_sub_cancel]
      exact this
    obtain ⟨ok3, g3⟩ := k3 _ _ k4
    exact ⟨.inl ⟨rfl, zs, .inl (.inl k1)⟩, _, zs, w, rfl, rfl, k1, w1, q _ _ _ _ ok3 (g1.trans g3) w2⟩
end

/-! ### calls: what a def promises, over data -/
/-- a def: from what its arguments and the objects handed in are known to be, what it gives and leaves -/
abbrev FR := List SD → List OO → SD → List OO → Prop
/-- the objects that a caller has, others of them handed in: none is taken for unchanging -/
def prot (Hf H : Hp) : Addr → Prop := fun a => Hf a = none ∧ ∃ o, H a = some o
/-- a result: no list of own lists leaves a def -/
def nol : SD → SD
  | .lown _ => .un
  | x => x
theorem srl_nol {K : PySem.W.Frag} {Hf : Hp} {fp : List (List Addr)} {v : V} {r : SD} (h : SRl K Hf fp (some v) r) : SRl K Hf fp (some v) (nol r) := by
  cases r <;> first | exact h | trivial
def spD (K : PySem.W.Frag) (np : Nat) (R : FR) : Sp := fun vs H Q _ => vs.length = np ∧ ∃ Hf fp as ob r ob', Hd K (prot Hf H) Hf H fp ob ∧ (∀ o ∈ ob, ∀ ds, o ≠ .lst ds) ∧ SRA K Hf fp vs as ∧ R as ob r ob' ∧
  ∀ v Hf' H' fp', Hd K (prot Hf H) Hf' H' fp' ob' → Gr Hf H fp Hf' H' fp' → SRl K Hf' fp' (some v) (nol r) → Q v H'
/-- the state of a def's frame at its entry -/
def entry (n : Nat) (as : List SD) (ob : List OO) : SS := ⟨as ++ List.replicate (n - as.length) .un, ob⟩
section
variable {K : PySem.W.Frag} {S S0 S1 S2 S3 : SS} {x y z : SD} {ob ob' : List OO} {as : List SD} {R : FR} {r : SD}
variable {c : Addr → Prop} {Hf H : Hp} {σ : L2.St} {fp : List (List Addr)}
theorem SRA.get {vs : List V} : ∀ {as : List SD} {i : Nat} {d : SD}, SRA K Hf fp vs as → as[i]? = some d → ∃ v, vs[i]? = some v ∧ SRl K Hf fp (some v) d := by
  induction vs with
  | nil => intro as i d h e; cases h; simp at e
  | cons v vs ih =>
    intro as i d h e
    cases h with
    | cons h t => cases i with
      | zero =>
        simp at e
        subst e
        exact ⟨v, rfl, h⟩
      | succ i =>
        obtain ⟨u, h1, h2⟩ := ih t (by simpa using e)
        exact ⟨u, by simpa using h1, h2⟩
/-- a def's body, over data -/
theorem body_of {N : List Str} {np : Nat} {ts : TS} {vs : List V} {Q : VK} {E : XK} (h : spD K np R vs H Q E) (hN : np ≤ N.length)
    (hb : ∀ as ob r ob', R as ob r ob' → as.length = np → Ts K ts (entry N.length as ob) { nx := fun S' => r = .dat .none ∧ S'.ob = ob', rt := fun x S' => x = r ∧ S'.ob = ob' }) : ts { nx := fun _ H' => Q .non H', rt := Q } (L2.start N vs) H := by
  obtain ⟨hl, Hf, fp, as, ob, r, ob', hd, hno, sr, hR, k⟩ := h
  have la : as.length = np := by
    rw [← hl]
    exact (Paired.length sr).symm
  have ok : Okk K (prot Hf H) Hf H (L2.start N vs) fp (entry N.length as ob) := by
    refine ⟨hd, ?_, fun i d e => ?_⟩
    · unfold L2.start entry
      simp only [List.length_append, List.length_map, List.length_replicate]
      omega
    · unfold entry at e
      by_cases hi : i < as.length
      · rw [List.getElem?_append_left hi] at e
        obtain ⟨v, h1, h2⟩ := sr.get e
        refine ⟨some v, ?_, h2⟩
        unfold L2.start
        rw [List.getElem?_append_left (by rw [List.length_map]; omega), List.getElem?_map, h1]
        rfl
      · rw [List.getElem?_append_right (by omega), List.getElem?_replicate] at e
        split at e
        · rename_i hlt
          obtain rfl := Option.some.inj e
          refine ⟨none, ?_, trivial⟩
          unfold L2.start
          rw [List.getElem?_append_right (by rw [List.length_map]; omega), List.getElem?_replicate, if_pos (by rw [List.length_map]; omega)]
        · cases e
  refine hb as ob r ob' hR la _ Hf H _ fp ok _ (fun S' Hf' H' σ' fp' ok' g e => ?_) (fun x S' v Hf' H' σ' fp' ok' g rv e => ?_) (fun _ _ _ _ _ _ _ z => z.elim) fun _ _ _ _ _ _ _ z => z.elim
  · obtain ⟨rfl, rfl⟩ := e
    exact k .non Hf' H' fp' ok'.hd g Rp.non
  · obtain ⟨rfl, rfl⟩ := e
    exact k v Hf' H' fp' ok'.hd g (srl_nol rv)
/-- an object of a callee's, as its caller counts them -/
def shR (n : Nat) : SD → SD
  | .own i => .own (n + i)
  | .lown _ => .un
  | x => x
theorem srl_nil {v : V} {d : PyData} (h : SRl K Hf fp (some v) (.dat d)) : SRl K Hf [] (some v) (.dat d) := h
theorem sra_nil : ∀ {vs : List V} {ds : List PyData}, SRA K Hf fp vs (ds.map SD.dat) → SRA K Hf [] vs (ds.map SD.dat)
  | _, [], .nil => .nil
  | _, _ :: _, .cons h t => .cons h (sra_nil t)
/-- args that are data, or the script -/
def Plain : SD → Prop
  | .dat _ => True
  | .scr _ => True
  | .tx _ => True
  | _ => False
theorem sra_plain : ∀ {as : List SD} {vs : List V} {fp' : List (List Addr)}, (∀ a ∈ as, Plain a) → SRA K Hf fp vs as → SRA K Hf fp' vs as
  | [], _, _, _, .nil => .nil
  | a :: as, _, fp', hp, .cons h t => .cons (by
      have := hp a List.mem_cons_self
      cases a with
      | dat d => exact h
      | scr ns => exact h
      | rng _ _ => exact this.elim
      | lown _ => exact this.elim
      | tx _ => exact h
      | tq _ _ _ => exact this.elim
      | no => exact this.elim
      | own k => exact this.elim
      | un => exact this.elim) (sra_plain (fun b hb => hp b (List.mem_cons_of_mem _ hb)) t)
theorem Hd.join {Hf' H' : Hp} {fpn : List (List Addr)} (h : Hd K c Hf H fp ob) (h2 : Hd K (prot Hf H) Hf' H' fpn ob') (g : Gr Hf H [] Hf' H' fpn) : Hd K c Hf' H' (fp ++ fpn) (ob ++ ob') ∧ Gr Hf H fp Hf' H' (fp ++ fpn) := by
  have cut : ∀ {α : Type} (l m : List α) (y : α) (k : Nat), (l ++ m)[k]? = some y → (k < l.length ∧ l[k]? = some y) ∨ (l.length ≤ k ∧ m[k - l.length]? = some y) := fun l m y k e => by
    by_cases hk : k < l.length
    · rw [List.getElem?_append_left hk] at e
      exact .inl ⟨hk, e⟩
    · rw [List.getElem?_append_right (by omega)] at e
      exact .inr ⟨by omega, e⟩
  have same : ∀ a ∈ fp.flatten, H' a = H a := fun a ha => by
    obtain ⟨o, e⟩ := h.al a ha
    rw [e]
    exact g.fr a o e (by simp)
  have new : ∀ a ∈ fpn.flatten, H a = none := fun a ha => (g.nw a ha).elim (fun z => by simp at z) id
  have pr : ∀ a, c a → prot Hf H a := fun a z => h.pt a z
  refine ⟨⟨h2.ex, by rw [List.length_append, List.length_append, h.fl, h2.fl], fun k a o e1 e2 => ?_, ?_, fun a ha => ?_, fun k p o e1 e2 hx a ha => ?_, fun a z => h2.pt a (pr a z), fun k p ds e1 e2 a ha z => ?_⟩, g.sm, List.prefix_append _ _, fun a o e _ => g.fr a o e (by simp), fun a ha => ?_, g.th⟩
  · rcases cut _ _ _ _ e1 with ⟨l1, e1⟩ | ⟨l1, e1⟩
    · rcases cut _ _ _ _ e2 with ⟨l2, e2⟩ | ⟨l2, e2⟩
      · exact (h.oo k a o e1 e2).mono g.sm fun b hb => same b (mem_fl e1 hb)
      · have := h.fl
        omega
    · rcases cut _ _ _ _ e2 with ⟨l2, e2⟩ | ⟨l2, e2⟩
      · have := h.fl
        omega
      · rw [← h.fl] at e2
        exact h2.oo _ a o e1 e2
  · rw [List.flatten_append, List.nodup_append]
    refine ⟨h.nd, h2.nd, fun a ha b hb e => ?_⟩
    subst e
    obtain ⟨o, q⟩ := h.al a ha
    rw [new a hb] at q
    cases q
  · rw [List.flatten_append, List.mem_append] at ha
    rcases ha with ha | ha
    · obtain ⟨o, e⟩ := h.al a ha
      exact ⟨o, by rw [same a ha]; exact e⟩
    · exact h2.al a ha
  · rcases cut _ _ _ _ e1 with ⟨l1, e1⟩ | ⟨l1, e1⟩
    · rcases cut _ _ _ _ e2 with ⟨l2, e2⟩ | ⟨l2, e2⟩
      · exact (h2.pt a ⟨h.nf k p o e1 e2 hx a ha, h.al a (mem_fl e1 ha)⟩).1
      · have := h.fl
        omega
    · rcases cut _ _ _ _ e2 with ⟨l2, e2⟩ | ⟨l2, e2⟩
      · have := h.fl
        omega
      · rw [← h.fl] at e2
        exact h2.nf _ p o e1 e2 hx a ha
  · rcases cut _ _ _ _ e1 with ⟨l1, e1⟩ | ⟨l1, e1⟩
    · rcases cut _ _ _ _ e2 with ⟨l2, e2⟩ | ⟨l2, e2⟩
      · exact h.np k p ds e1 e2 a ha z
      · have := h.fl
        omega
    · rcases cut _ _ _ _ e2 with ⟨l2, e2⟩ | ⟨l2, e2⟩
      · have := h.fl
        omega
      · rw [← h.fl] at e2
        exact h2.np _ p ds e1 e2 a ha (pr a z)
  · rw [List.flatten_append, List.mem_append] at ha
    exact ha.elim .inl fun z => .inr (new a z)
/-- a call to which no own object is handed in -/
theorem sp_call0 {np : Nat} {E : XK} {vs : List V} (ok : Okk K c Hf H σ fp S) (sr : SRA K Hf fp vs as) (hp : ∀ a ∈ as, Plain a) (hl : as.length = np) (hR : R as [] r ob') {Q : VK}
    (k : ∀ v Hf' H' fp', Okk K c Hf' H' σ fp' { S with ob := S.ob ++ ob' } → Gr Hf H fp Hf' H' fp' → SRl K Hf' fp' (some v) (shR S.ob.length r) → Q v H') : spD K np R vs H Q E := by
  refine ⟨by rw [Paired.length sr]; exact hl, Hf, [], as, [], r, ob', ⟨ok.hd.ex, rfl, fun k a o e => by simp at e, by simp, fun a h => by simp at h, fun k p o e => by simp at e, fun a z => z, fun k p ds e => by simp at e⟩, fun o h => by simp at h, sra_plain hp sr, hR, fun v Hf2 H2 fp2 hd2 g2 rv => ?_⟩
  obtain ⟨hd, g⟩ := ok.hd.join hd2 g2
  refine k v Hf2 H2 (fp ++ fp2) ⟨hd, ok.ln, fun i d e => ?_⟩ g ?_
  · obtain ⟨x, h1, h2⟩ := ok.sr i d e
    exact ⟨x, h1, h2.mono g.sm g.pr⟩
  · cases r with
    | un => trivial
    | dat d => exact rv
    | scr ns => exact rv
    | rng _ _ => exact rv
    | lown _ => trivial
    | tx _ => exact rv
    | tq _ _ _ => exact rv
    | no => exact rv
    | own i =>
      obtain ⟨a, p, h1, h2⟩ := rv
      refine ⟨a, p, ?_, h2⟩
      rw [List.getElem?_append_right (by rw [ok.hd.fl]; omega), ok.hd.fl, Nat.add_sub_cancel_left]
      exact h1
/-- a call to which the k-th own object is handed in -/
def atK (k : Nat) : SD → SD
  | .own _ => .own k
  | .lown _ => .no
  | x => x
def atR (k : Nat) : SD → SD
  | .own _ => .own k
  | .lown _ => .un
  | x => x
theorem sra_one {k : Nat} {p : List Addr} (hk : fp[k]? = some p) : ∀ {as : List SD} {vs : List V}, (∀ a ∈ as, ∀ j, a = .own j → j = 0) → SRA K Hf fp vs (as.map (atK k)) → SRA K Hf [p] vs as
  | [], _, _, .nil => .nil
  | a :: as, _, h0, .cons h t => .cons (by
      cases a with
      | dat d => exact h
      | scr ns => exact h
      | rng _ _ => exact h
      | lown _ => exact False.elim h
      | tx _ => exact h
      | tq _ _ _ => exact h
      | no => exact h
      | un => trivial
      | own j =>
        have e := h0 _ List.mem_cons_self j rfl
        subst e
        obtain ⟨b, q, h1, h2⟩ := h
        rw [hk] at h1
        exact ⟨b, q, h1, h2⟩) (sra_one hk (fun b hb => h0 b (List.mem_cons_of_mem _ hb)) t)
theorem sp_call1 {np k : Nat} {E : XK} {vs : List V} {o o' : OO} (ok : Okk K c Hf H σ fp S) (sr : SRA K Hf fp vs (as.map (atK k))) (h0 : ∀ a ∈ as, ∀ j, a = .own j → j = 0) (hl : as.length = np) (ho : S.ob[k]? = some o) (hg : o ≠ .gone) (hn : ∀ ds, o ≠ .lst ds) (hR : R as [o] r [o']) {Q : VK}
    (kq : ∀ v Hf' H' fp', Okk K c Hf' H' σ fp' { S with ob := S.ob.set k o' } → Gr Hf H fp Hf' H' fp' → SRl K Hf' fp' (some v) (atR k r) → Q v H') : spD K np R vs H Q E := by
  obtain ⟨p, hk⟩ : ∃ p, fp[k]? = some p := ⟨_, List.getElem?_eq_getElem (by rw [ok.hd.fl]; exact (List.getElem?_eq_some_iff.mp ho).1)⟩
  have mp : ∀ a ∈ p, a ∈ fp.flatten := fun a ha => mem_fl hk ha
  have one : ∀ {j : Nat} {α : Type} {x y : α}, [x][j]? = some y → j = 0 ∧ y = x := fun {j α x y} e => by
    cases j with
    | zero => exact ⟨rfl, (Option.some.inj e).symm⟩
    | succ j => simp at e
  have ndp : p.Nodup := (List.pairwise_flatten.mp ok.hd.nd).1 p (List.mem_of_getElem? hk)
  have prp : ∀ a ∈ p, prot Hf H a := fun a ha => ⟨ok.hd.nf k p o hk ho hg a ha, ok.hd.al a (mp a ha)⟩
  refine ⟨by rw [Paired.length sr, List.length_map]; exact hl, Hf, [p], as, [o], r, [o'], ⟨ok.hd.ex, rfl, fun j a u e1 e2 => ?_, by simpa using ndp, fun a h => ok.hd.al a (mp a (by simpa using h)), fun j q u e1 e2 hx a ha => ?_, fun a z => z, fun j q ds e1 e2 => ?_⟩, fun u hu ds => ?_, sra_one hk h0 sr, hR, fun v Hf2 H2 fp2 hd2 g2 rv => ?_⟩
  · obtain ⟨rfl, rfl⟩ := one e1
    obtain ⟨_, rfl⟩ := one e2
    exact ok.hd.oo k _ _ hk ho
  · obtain ⟨rfl, rfl⟩ := one e1
    exact (prp a ha).1
  · obtain ⟨_, e⟩ := one e2
    exact absurd e.symm (hn ds)
  · rw [List.mem_singleton.mp hu]
    exact hn ds
  · have f2 : fp2 = [p] := by
      obtain ⟨t, rfl⟩ := g2.pr
      have := hd2.fl
      simp at this
      rw [this]
      rfl
    subst f2
    have off : ∀ {j : Nat} {q : List Addr}, fp[j]? = some q → j ≠ k → ∀ b ∈ q, H2 b = H b := fun {j q} e hj b hb => by
      obtain ⟨u, e'⟩ := ok.hd.al b (mem_fl e hb)
      rw [e']
      refine g2.fr b u e' fun m => hj (nodup_fl ok.hd.nd e hk hb (by simpa using m))
    have hlt : k < S.ob.length := (List.getElem?_eq_some_iff.mp ho).1
    have hd : Hd K c Hf2 H2 fp (S.ob.set k o') := by
      refine ⟨hd2.ex, by rw [List.length_set]; exact ok.hd.fl, fun j q u e1 e2 => ?_, ok.hd.nd, fun a ha => ?_, fun j q u e1 e2 hx a ha => ?_, fun a z => hd2.pt a (ok.hd.pt a z), fun j q ds e1 e2 a ha z => ?_⟩
      · by_cases hj : j = k
        · subst hj
          rw [hk] at e1
          obtain rfl := Option.some.inj e1
          rw [List.getElem?_set_self hlt] at e2
          obtain rfl := Option.some.inj e2
          exact hd2.oo 0 _ _ rfl rfl
        · rw [List.getElem?_set_ne (Ne.symm hj)] at e2
          exact (ok.hd.oo j q u e1 e2).mono g2.sm (off e1 hj)
      · obtain ⟨u, e⟩ := ok.hd.al a ha
        exact g2.th a u e
      · by_cases hj : j = k
        · subst hj
          rw [hk] at e1
          obtain rfl := Option.some.inj e1
          exact (hd2.pt a (prp a ha)).1
        · rw [List.getElem?_set_ne (Ne.symm hj)] at e2
          exact (hd2.pt a ⟨ok.hd.nf j q u e1 e2 hx a ha, ok.hd.al a (mem_fl e1 ha)⟩).1
      · by_cases hj : j = k
        · subst hj
          rw [hk] at e1
          obtain rfl := Option.some.inj e1
          rw [List.getElem?_set_self hlt] at e2
          obtain rfl := Option.some.inj e2
          exact hd2.np 0 p ds rfl rfl a ha (prp a ha)
        · rw [List.getElem?_set_ne (Ne.symm hj)] at e2
          exact ok.hd.np j q ds e1 e2 a ha z
    have g : Gr Hf H fp Hf2 H2 fp := ⟨g2.sm, List.prefix_rfl, fun a u e n => g2.fr a u e fun m => n (mp a (by simpa using m)), fun a m => .inl m, g2.th⟩
    refine kq v Hf2 H2 fp ⟨hd, ok.ln, fun i d e => ?_⟩ g ?_
    · obtain ⟨x, h1, h2⟩ := ok.sr i d e
      exact ⟨x, h1, h2.mono g.sm g.pr⟩
    · cases r with
      | un => trivial
      | dat d => exact rv
      | scr ns => exact rv
      | rng _ _ => exact rv
      | lown _ => trivial
      | tx _ => exact rv
      | tq _ _ _ => exact rv
      | no => exact rv
      | own i =>
        obtain ⟨a, q, h1, h2⟩ := rv
        obtain ⟨_, e⟩ := one h1
        exact ⟨a, q, by rw [hk, e], h2⟩
theorem ee_call0 {np : Nat} {E : XK} {ta : TA} (ha : Ea K ta S as S1) (hp : ∀ a ∈ as, Plain a) (hl : as.length = np) (hR : R as [] r ob') : Ee K (tCall (spD K np R) [] E ta) S (shR S1.ob.length r) { S1 with ob := S1.ob ++ ob' } := fun c Hf H σ fp ok Q q =>
  ha c Hf H σ fp ok _ fun vs Hf1 H1 fp1 ok1 g1 sr => by
    rw [List.append_nil]
    exact sp_call0 ok1 sr hp hl hR fun v Hf' H' fp' ok' g' rv => q v Hf' H' fp' ok' (g1.trans g') rv
/-- a call of data alone, that gives data -/
theorem ee_callD {np : Nat} {E : XK} {ta : TA} {ds : List PyData} {d : PyData} (ha : Ed K ta S ds S1) (hl : ds.length = np) (hR : R (ds.map SD.dat) [] (.dat d) []) : Ee K (tCall (spD K np R) [] E ta) S (.dat d) S1 := by
  have h := ee_call0 (np := np) (E := E) (R := R) (r := .dat d) (ob' := []) ha (fun a h => by
    obtain ⟨x, _, rfl⟩ := List.mem_map.mp h
    trivial) (by rw [List.length_map]; exact hl) hR
  rw [List.append_nil] at h
  exact h
theorem ee_callK {np : Nat} {E : XK} {ta tk : TA} {gV : List V → List V → List V} {ds es fs : List PyData} {d : PyData} (ha : Ed K ta S ds S1) (hk : Ed K tk S1 es S2)
    (hg : ∀ (Hf : Hp) vs zs, RpA K Hf vs ds → RpA K Hf zs es → RpA K Hf (gV vs zs) fs) (hl : fs.length = np) (hR : R (fs.map SD.dat) [] (.dat d) []) : Ee K (tCallK (spD K np R) gV E ta tk) S (.dat d) S2 := fun c Hf H σ fp ok Q q =>
  ha c Hf H σ fp ok _ fun vs Hf1 H1 fp1 ok1 g1 sr => hk c Hf1 H1 σ fp1 ok1 _ fun zs Hf2 H2 fp2 ok2 g2 sr2 => by
    have rr := hg Hf2 vs zs ((SRA.rp sr).mono g2.sm) (SRA.rp sr2)
    have back : ∀ {ds : List PyData} {vs : List V}, RpA K Hf2 vs ds → SRA K Hf2 fp2 vs (ds.map SD.dat) := fun {ds} => by
      induction ds with
      | nil => intro vs h; cases h; exact .nil
      | cons d ds ih => intro vs h; cases h with
        | cons h t => exact .cons h (ih t)
    refine sp_call0 (R := R) (r := .dat d) (ob' := []) ok2 (back rr) (fun a h => by
      obtain ⟨x, _, rfl⟩ := List.mem_map.mp h
      trivial) (by rw [List.length_map]; exact hl) hR fun v Hf' H' fp' ok' g' rv => q v Hf' H' fp' ?_ ((g1.trans g2).trans g') rv
    rw [List.append_nil] at ok'
    exact ok'
theorem ee_call1 {np k : Nat} {E : XK} {ta : TA} {o o' : OO} {asC : List SD} (ha : Ea K ta S asC S1) (he : asC = as.map (atK k)) (h0 : ∀ a ∈ as, ∀ j, a = .own j → j = 0) (hl : as.length = np) (ho : S1.ob[k]? = some o) (hg : o ≠ .gone) (hn : ∀ ds, o ≠ .lst ds) (hR : R as [o] r [o']) :
    Ee K (tCall (spD K np R) [] E ta) S (atR k r) { S1 with ob := S1.ob.set k o' } := fun c Hf H σ fp ok Q q =>
  ha c Hf H σ fp ok _ fun vs Hf1 H1 fp1 ok1 g1 sr => by
    rw [List.append_nil]
    subst he
    exact sp_call1 ok1 sr h0 hl ho hg hn hR fun v Hf' H' fp' ok' g' rv => q v Hf' H' fp' ok' (g1.trans g') rv
end
end DL

set_option maxRecDepth 100000
set_option maxHeartbeats 1000000
namespace DL
open PySem PySem.Spec PyProof.Rows L2

/-! ### built-ins, as they are named here -/
section
variable {X : Cx}
theorem cb_len : CallR X (.builtin "len") (rLen X.K) := call_len
theorem cb_abs : CallR X (.builtin "abs") rAbs := call_abs
theorem cb_int : CallR X (.type "int") rInt1 := call_int1
theorem cb_list : CallR X (.type "list") (rListOf X.K) := call_list_of
theorem cb_tuple : CallR X (.type "tuple") (rTupleOf X.K) := call_tuple_of
theorem un_negU : UnR X (unaryOp .USub) (rU fun i => .int (-i)) := un_neg
/-- a op b op2 c op3 d -/
def tChain3 (r r2 r3 : R2) (ta tb tc td : TE) : TE := fun σ H Q => ta σ H fun x H1 => tb σ H1 fun y H2 => r x y H2 fun z H3 => ∃ k, z = .bl k ∧
  (if k = true then tc σ H3 fun u H4 => r2 y u H4 fun z2 H5 => ∃ k2, z2 = .bl k2 ∧ (if k2 = true then td σ H5 fun v H6 => r3 u v H6 Q else Q (.bl false) H5) else Q (.bl false) H3)
theorem pe_chain3 {op op2 op3 : CmpOp} {r r2 r3 : R2} {ta tb tc td : TE} {a b c d : Expr} {pos : Pos} (ho : OpR X (compareOp op) r) (ho2 : OpR X (compareOp op2) r2) (ho3 : OpR X (compareOp op3) r3) (ha : PE X a ta) (hb : PE X b tb) (hc : PE X c tc) (hd : PE X d td)
    (hm : lastMarks [op, op2, op3] [b, c, d] = false := by with_unfolding_all rfl) : PE X (.Compare a [op, op2, op3] [b, c, d] pos) (tChain3 r r2 r3 ta tb tc td) := by
  constructor
  intro pins s σ H Q I h
  refine Compare_chain (thn (ha.run pins s σ H _ I h) fun v s1 ⟨x, H1, I1, r1, q1⟩ => chain_link (thn (hb.run pins s1 σ H1 _ I1 q1) fun u s2 ⟨y, H2, I2, k2, q2⟩ => thn (ho pins s2 σ H2 x y v u _ I2 r1 k2 q2) fun e s3 ⟨z, H3, I3, k3, k, ez, q3⟩ => ?_)) hm
  subst ez
  cases k3
  refine wpAny_truthy_bool ?_
  cases k with
  | false => exact ite_ff ⟨.bl false, H3, I3, rfl, q3⟩
  | true =>
    refine ite_tt (chain_link (thn (hc.run pins s3 σ H3 _ I3 q3) fun u' s4 ⟨w, H4, I4, k4, q4⟩ => thn (ho2 pins s4 σ H4 y w u u' _ I4 k2 k4 q4) fun e' s5 ⟨z', H5, I5, k5, k', ez', q5⟩ => ?_))
    subst ez'
    cases k5
    refine wpAny_truthy_bool ?_
    cases k' with
    | false => exact ite_ff ⟨.bl false, H5, I5, rfl, q5⟩
    | true => exact ite_tt (chain_last (thn (hd.run pins s5 σ H5 _ I5 q5) fun v' s6 ⟨w', H6, I6, k6, q6⟩ => ho3 pins s6 σ H6 w w' u' v' Q I6 k4 k6 q6))
end

section
variable {K : PySem.W.Frag} {S S0 S1 S2 S3 S4 : SS} {ta tb tc td te : TE} {t u : TT} {x y z w : SD} {d e : PyData} {i j l : Int} {ds es : List PyData} {k n : Nat} {E : DE} {g : TG} {a b : Bool} {r r2 r3 : R2}
variable {c : Addr → Prop} {Hf H : Hp} {σ : L2.St} {fp : List (List Addr)}
theorem ru_neg : Ru K (rU fun i => .int (-i)) (.dat (.int i)) S (.dat (.int (-i))) S := fun c Hf H σ fp ok v rv Q q => by
  cases rv
  exact ⟨i, rfl, q _ _ _ _ ok Gr.refl (Rp.int _)⟩
/-- a op b op2 c; the state stays -/
theorem ee_chain (ha : Ee K ta S x S) (hb : Ee K tb S y S) (hr : Ro K r x y S (.dat (.bool a)) S) (hc : a = true → Ee K tc S z S) (hr2 : a = true → Ro K r2 y z S (.dat (.bool b)) S) : Ee K (tChain r r2 ta tb tc) S (.dat (.bool (a && b))) S := fun c Hf H σ fp ok Q q =>
  ha c Hf H σ fp ok _ fun v Hf1 H1 fp1 ok1 g1 r1 => hb c Hf1 H1 σ fp1 ok1 _ fun u Hf2 H2 fp2 ok2 g2 q2 => hr c Hf2 H2 σ fp2 ok2 v u (r1.mono g2.sm g2.pr) q2 _ fun w Hf3 H3 fp3 ok3 g3 q3 => by
    cases q3
    refine ⟨a, rfl, ?_⟩
    have G := (g1.trans g2).trans g3
    cases a with
    | false => exact iteF (q _ _ _ _ ok3 G (Rp.bl _))
    | true =>
      refine iteT (hc rfl c Hf3 H3 σ fp3 ok3 _ fun w Hf4 H4 fp4 ok4 g4 q4 => hr2 rfl c Hf4 H4 σ fp4 ok4 u w (q2.mono (g3.trans g4).sm (g3.trans g4).pr) q4 Q fun w' Hf5 H5 fp5 ok5 g5 q5 => ?_)
      exact q w' Hf5 H5 fp5 ok5 ((G.trans g4).trans g5) q5
theorem ee_chain3 {e' : Bool} (ha : Ee K ta S x S) (hb : Ee K tb S y S) (hr : Ro K r x y S (.dat (.bool a)) S) (hc : a = true → Ee K tc S z S) (hr2 : a = true → Ro K r2 y z S (.dat (.bool b)) S) (hd : a = true → b = true → Ee K td S w S) (hr3 : a = true → b = true → Ro K r3 z w S (.dat (.bool e')) S) :
    Ee K (tChain3 r r2 r3 ta tb tc td) S (.dat (.bool (a && (b && e')))) S := fun c Hf H σ fp ok Q q =>
  ha c Hf H σ fp ok _ fun v Hf1 H1 fp1 ok1 g1 r1 => hb c Hf1 H1 σ fp1 ok1 _ fun u Hf2 H2 fp2 ok2 g2 q2 => hr c Hf2 H2 σ fp2 ok2 v u (r1.mono g2.sm g2.pr) q2 _ fun w1 Hf3 H3 fp3 ok3 g3 q3 => by
    cases q3
    refine ⟨a, rfl, ?_⟩
    have G := (g1.trans g2).trans g3
    cases a with
    | false => exact iteF (q _ _ _ _ ok3 G (Rp.bl _))
    | true =>
      refine iteT (hc rfl c Hf3 H3 σ fp3 ok3 _ fun w2 Hf4 H4 fp4 ok4 g4 q4 => hr2 rfl c Hf4 H4 σ fp4 ok4 u w2 (q2.mono (g3.trans g4).sm (g3.trans g4).pr) q4 _ fun w' Hf5 H5 fp5 ok5 g5 q5 => ?_)
      cases q5
      refine ⟨b, rfl, ?_⟩
      have G2 := (G.trans g4).trans g5
      cases b with
      | false => exact iteF (q _ _ _ _ ok5 G2 (Rp.bl _))
      | true =>
        refine iteT (hd rfl rfl c Hf5 H5 σ fp5 ok5 _ fun w3 Hf6 H6 fp6 ok6 g6 q6 => hr3 rfl rfl c Hf6 H6 σ fp6 ok6 w2 w3 (q4.mono (g5.trans g6).sm (g5.trans g6).pr) q6 Q fun w4 Hf7 H7 fp7 ok7 g7 q7 => ?_)
        exact q w4 Hf7 H7 fp7 ok7 ((G2.trans g6).trans g7) q7
/-- enumerate(t) -/
theorem ei_enumT {tas : TA} (h : Ed K tas S [.tuple ds] S1) : Ei K (iEnumT K tas) S (enumD ds) S1 := fun c Hf H σ fp ok R q => h c Hf H σ fp ok _ fun v Hf1 H1 fp1 ok1 g1 r1 => by
  cases r1 with
  | cons r1 rr =>
    cases rr
    cases r1 with
    | tup h1 h2 =>
      refine ⟨_, _, rfl, sameT ok1.hd.ex h1, q _ Hf1 H1 fp1 ok1 g1 (wk_of (walk_enumT (K := K)) (enumD_len.trans h2.len.symm) (fun Hf2 H2 e1 e2 => sameT e2 (sameT e1 h1)) fun i d Hf2 H2 x H3 e1 e2 hd y => .inr ?_)⟩
      obtain ⟨T, v1, v2, rfl, hT, rfl, y1, y2⟩ := y
      obtain ⟨e, k1, rfl⟩ := enumD_get hd
      obtain ⟨w, k2, k3⟩ := h2.get k1
      have y3 : some v2 = some w := y2.symm.trans k2
      obtain rfl := Option.some.inj y3
      obtain rfl := Option.some.inj y1
      refine ⟨T, _, hT, rfl, .tup (.inl (.inl upd_same)) (.cons (.int _) (.cons (k3.mono (e1.trans ?_)) .nil))⟩
      intro b o eb
      rw [upd_ne (ne_of_none eb (e2.free hT))]
      exact eb
/-! ### targets that store into objects -/
def Egh (K : PySem.W.Frag) (g : TG) (d : PyData) (S S' : SS) : Prop := ∀ c Hf H σ fp, Okk K c Hf H σ fp S → ∀ x, Rp K Hf x d → ∀ Q : L2.St → Hp → Prop, (∀ σ' Hf' H' fp', Okk K c Hf' H' σ' fp' S' → Gr Hf H fp Hf' H' fp' → Q σ' H') → g x σ H Q
def Eghs (K : PySem.W.Frag) (g : TGs) (ds : List PyData) (S S' : SS) : Prop := ∀ c Hf H σ fp, Okk K c Hf H σ fp S → ∀ xs, RpA K Hf xs ds → ∀ Q : L2.St → Hp → Prop, (∀ σ' Hf' H' fp', Okk K c Hf' H' σ' fp' S' → Gr Hf H fp Hf' H' fp' → Q σ' H') → g xs σ H Q
theorem egh_of (h : Eg K g d S S1) : Egh K g d S S1 := fun c Hf H σ fp ok x r Q q => h c Hf H σ fp ok x r Q fun σ' ok' => q σ' Hf H fp ok' Gr.refl
theorem egh_sub (hl : Ee K ta S (.own k) S1) (hi : Ee K tb S1 (.dat (.int i)) S2) (ho : S2.ob[k]? = some (.lst ds)) (hx : ixN ds.length i = some n) : Egh K (gSub ta tb rSetL) d S { S2 with ob := S2.ob.set k (.lst (ds.set n d)) } := fun c Hf H σ fp ok v rv Q q =>
  hl c Hf H σ fp ok _ fun o Hf1 H1 fp1 ok1 g1 r1 => hi c Hf1 H1 σ fp1 ok1 _ fun u Hf2 H2 fp2 ok2 g2 r2 => by
    cases r2
    obtain ⟨b, zs, e, k1, k2, k3⟩ := ok2.setL ho (r1.mono g2.sm g2.pr)
    subst e
    obtain ⟨ok3, g3⟩ := k3 _ _ (k2.set (rv.mono (g1.trans g2).sm) n)
    exact ⟨b, zs, i, n, rfl, rfl, k1, by rw [k2.len]; exact hx, q _ _ _ _ ok3 ((g1.trans g2).trans g3)⟩
theorem eghs_nil : Eghs K gNil [] S S := fun c Hf H σ fp ok xs r Q q => by
  cases r
  exact ⟨rfl, q σ _ _ _ ok Gr.refl⟩
theorem eghs_cons {gs : TGs} (h : Egh K g d S S1) (hs : Eghs K gs ds S1 S2) : Eghs K (gCons g gs) (d :: ds) S S2 := fun c Hf H σ fp ok xs r Q q => by
  cases r with
  | cons r rr => exact ⟨_, _, rfl, h c Hf H σ fp ok _ r _ fun σ' Hf' H' fp' ok' g' => hs c Hf' H' σ' fp' ok' _ (rr.mono g'.sm) Q fun σ2 Hf2 H2 fp2 ok2 g2 => q σ2 Hf2 H2 fp2 ok2 (g'.trans g2)⟩
theorem egh_tup {gs : TGs} {n : Nat} (h : Eghs K gs ds S S1) (hn : ds.length = n := by rfl) : Egh K (gTup K n gs) (.tuple ds) S S1 := fun c Hf H σ fp ok x r Q q => by
  cases r with
  | tup h1 h2 => exact ⟨_, _, rfl, sameT ok.hd.ex h1, h2.len.trans hn, h c Hf H σ fp ok _ h2 Q q⟩
theorem ts_asgG (h : Ee K te S (.dat d) S1) (hg : Egh K g d S1 S2) (k : E.nx S2) : Ts K (tAsg te g) S E := fun c Hf H σ fp ok D n r bk ct =>
  h c Hf H σ fp ok _ fun v Hf1 H1 fp1 ok1 g1 r1 => hg c Hf1 H1 σ fp1 ok1 v r1 _ fun σ' Hf2 H2 fp2 ok2 g2 => n _ Hf2 H2 σ' fp2 ok2 (g1.trans g2) k
/-! ### new empty dict as data -/
theorem ee_emp : Ee K tDNewK S (.dat (.dict [])) S := fun c Hf H σ fp ok Q q p hp => by
  obtain ⟨ok2, g2⟩ := ok.laid (.dK []) hp
  exact q _ _ _ _ ok2 g2 (Rp.emp upd_same)
end
end DL

set_option maxRecDepth 100000
set_option maxHeartbeats 1000000
/-! DLraw: own objects as they stand -/
namespace DL
open PySem PySem.Spec PyProof.Rows L2
section
variable {K : PySem.W.Frag} {S S0 S1 S2 S3 : SS} {td te tv : TE} {x y z : SD} {i : Int} {k : Nat} {ds : List Int} {s t : Int} {E : DE}
variable {c : Addr → Prop} {Hf H : Hp} {σ : L2.St} {fp : List (List Addr)}
theorem Okk.guard (ok : Okk K c Hf H σ fp S) {p : Addr} {o : HO} (h : H p = some o) (hf : Hf p = none) (nm : p ∉ fp.flatten) : Okk K (fun a => c a ∨ a = p) Hf H σ fp S :=
  ⟨⟨ok.hd.ex, ok.hd.fl, ok.hd.oo, ok.hd.nd, ok.hd.al, ok.hd.nf, fun a z => by
    rcases z with z | rfl
    · exact ok.hd.pt a z
    · exact ⟨hf, o, h⟩, fun k q ds e1 e2 a ha z => by
    rcases z with z | rfl
    · exact ok.hd.np k q ds e1 e2 a ha z
    · exact nm (mem_fl e1 ha)⟩, ok.ln, ok.sr⟩
theorem Gr.out {Hf' H' : Hp} {fp' : List (List Addr)} (g : Gr Hf H fp Hf' H' fp') {p : Addr} {o : HO} (h : H p = some o) (nm : p ∉ fp.flatten) : H' p = some o ∧ p ∉ fp'.flatten :=
  ⟨g.fr p o h nm, fun m => (g.nw p m).elim nm fun z => by
    rw [h] at z
    cases z⟩
/-- an object that stands by itself is laid, as it is -/
theorem Okk.apart (ok : Okk K c Hf H σ fp S) {p : Addr} (o : HO) (hp : H p = none) : Okk K c Hf (upd H p o) σ fp S ∧ Gr Hf H fp Hf (upd H p o) fp ∧ p ∉ fp.flatten ∧ ¬ c p := by
  have npf : ∀ a ∈ fp.flatten, a ≠ p := fun a ha => by
    obtain ⟨x, e⟩ := ok.hd.al a ha
    exact ne_of_none e hp
  have keep : ∀ a u, H a = some u → (upd H p o) a = some u := fun a u e => by
    rw [upd_ne (ne_of_none e hp)]
    exact e
  refine ⟨⟨⟨fun b u e => keep b u (ok.hd.ex b u e), ok.hd.fl, fun k q u h1 h2 => (ok.hd.oo k q u h1 h2).mono (Same.refl _) fun b hb => upd_ne (npf b (mem_fl h1 hb)), ok.hd.nd, fun a ha => ?_, ok.hd.nf, fun a z => ?_, ok.hd.np⟩, ok.ln, ok.sr⟩,
    ⟨Same.refl _, List.prefix_rfl, fun a u e _ => keep a u e, fun _ m => .inl m, fun a u e => ⟨u, keep a u e⟩⟩, fun m => npf p m rfl, fun z => ?_⟩
  · obtain ⟨x, e⟩ := ok.hd.al a ha
    exact ⟨x, keep a x e⟩
  · obtain ⟨z1, u, z2⟩ := ok.hd.pt a z
    exact ⟨z1, u, keep a u z2⟩
  · obtain ⟨_, u, z2⟩ := ok.hd.pt p z
    rw [hp] at z2
    cases z2
/-- an object that stands by itself, as it is, as one's own -/
theorem Hd.ownR (h : Hd K c Hf H fp ob) {p : Addr} {o : HO} (hp : H p = some o) (hf : Hf p = none) (hm : p ∉ fp.flatten) : Hd K c Hf H (fp ++ [[p]]) (ob ++ [.raw p o]) := by
  have hsz : ∀ {α : Type} (l : List α) (x y : α) (k : Nat), (l ++ [x])[k]? = some y → (k < l.length ∧ l[k]? = some y) ∨ (k = l.length ∧ y = x) := fun l x y k e => by
    by_cases hk : k < l.length
    · rw [List.getElem?_append_left hk] at e
      exact .inl ⟨hk, e⟩
    · have e2 := (List.getElem?_eq_some_iff.mp e).1
      rw [List.length_append, List.length_singleton] at e2
      have e3 : k = l.length := by omega
      subst e3
      rw [List.getElem?_concat_length] at e
      exact .inr ⟨rfl, (Option.some.inj e).symm⟩
  refine ⟨h.ex, by rw [List.length_append, List.length_append, h.fl]; rfl, fun k a x h1 h2 => ?_, ?_, fun a ha => ?_, fun k q x h1 h2 hx a ha => ?_, h.pt, fun k q ds' h1 h2 a ha => ?_⟩
  · rcases hsz _ _ _ _ h1 with ⟨hk, h1'⟩ | ⟨hk, rfl⟩
    · rcases hsz _ _ _ _ h2 with ⟨hk2, h2'⟩ | ⟨hk2, rfl⟩
      · exact h.oo k a x h1' h2'
      · have := h.fl
        omega
    · rcases hsz _ _ _ _ h2 with ⟨hk2, h2'⟩ | ⟨hk2, rfl⟩
      · have := h.fl
        omega
      · exact ⟨rfl, hp⟩
  · rw [List.flatten_append, List.nodup_append]
    refine ⟨h.nd, by simp, fun a ha b hb => ?_⟩
    have e : b = p := by simpa using hb
    rw [e]
    exact fun z => hm (z ▸ ha)
  · rw [List.flatten_append, List.mem_append] at ha
    rcases ha with ha | ha
    · exact h.al a ha
    · have e : a = p := by simpa using ha
      rw [e]
      exact ⟨_, hp⟩
  · rcases hsz _ _ _ _ h1 with ⟨hk, h1'⟩ | ⟨hk, rfl⟩
    · rcases hsz _ _ _ _ h2 with ⟨hk2, h2'⟩ | ⟨hk2, rfl⟩
      · exact h.nf k q x h1' h2' hx a ha
      · have := h.fl
        omega
    · have e : a = p := by simpa using ha
      rw [e]
      exact hf
  · rcases hsz _ _ _ _ h1 with ⟨hk, h1'⟩ | ⟨hk, rfl⟩
    · rcases hsz _ _ _ _ h2 with ⟨hk2, h2'⟩ | ⟨hk2, e2⟩
      · exact h.np k q ds' h1' h2' a ha
      · have := h.fl
        omega
    · rcases hsz _ _ _ _ h2 with ⟨hk2, h2'⟩ | ⟨hk2, e2⟩
      · have := h.fl
        omega
      · cases e2
/-- a new object that is one's own, as it is -/
theorem Okk.newR (ok : Okk K c Hf H σ fp S) {p : Addr} (o : HO) (hp : H p = none) : Okk K c Hf (upd H p o) σ (fp ++ [[p]]) { S with ob := S.ob ++ [.raw p o] } ∧ Gr Hf H fp Hf (upd H p o) (fp ++ [[p]]) := by
  obtain ⟨ok1, g1, nm, nc⟩ := ok.apart o hp
  refine ⟨⟨ok1.hd.ownR upd_same (ok.hd.ex.free hp) nm, ok1.ln, fun i d e => ?_⟩, g1.own hp⟩
  obtain ⟨x, e1, e2⟩ := ok1.sr i d e
  exact ⟨x, e1, e2.mono (Same.refl _) (List.prefix_append _ _)⟩
theorem Okk.raw (ok : Okk K c Hf H σ fp S) {a : Addr} {o : HO} (ho : S.ob[k]? = some (.raw a o)) : fp[k]? = some [a] ∧ H a = some o := by
  have hk : k < fp.length := by
    rw [ok.hd.fl]
    exact (List.getElem?_eq_some_iff.mp ho).1
  obtain ⟨e, h2⟩ := ok.hd.oo k _ _ (List.getElem?_eq_getElem hk) ho
  exact ⟨by rw [List.getElem?_eq_getElem hk, e], h2⟩
theorem Okk.rawV (ok : Okk K c Hf H σ fp S) {a : Addr} {o : HO} (ho : S.ob[k]? = some (.raw a o)) {v : V} (r : SRl K Hf fp (some v) (.own k)) : v = .ref a := by
  obtain ⟨b, q, h1, h2⟩ := r
  rw [(ok.raw ho).1] at h1
  have : a = b := by
    have := Option.some.inj h1
    simp at this
    exact this.1
  rw [h2, this]
theorem Okk.putR (ok : Okk K c Hf H σ fp S) {a : Addr} {o o' : HO} (ho : S.ob[k]? = some (.raw a o)) : Okk K c Hf (upd H a o') σ fp { S with ob := S.ob.set k (.raw a o') } ∧ Gr Hf H fp Hf (upd H a o') fp := by
  obtain ⟨h1, h2⟩ := ok.raw ho
  obtain ⟨hd, g⟩ := ok.hd.put (o' := .raw a o') (H' := upd H a o') h1 ho (by intro z; cases z) (fun b hb => upd_ne (by simpa using hb)) ⟨rfl, upd_same⟩ (fun b hb => by
    rw [List.mem_singleton.mp hb]
    exact ⟨_, upd_same⟩) (fun _ z => by cases z)
  exact ⟨⟨hd, ok.ln, ok.sr⟩, g⟩
theorem Okk.put_sl (ok : Okk K c Hf H σ fp S) {i : Nat} {a : Addr} {o : HO} (ho : S.ob[k]? = some (.raw a o)) : Okk K c Hf H (σ.set i (some (.ref a))) fp { S with sl := S.sl.set i (.own k) } := by
  refine ok.put (x := .own k) ⟨a, [], ?_, rfl⟩
  exact (ok.raw ho).1
end
end DL

set_option maxRecDepth 100000
set_option maxHeartbeats 1000000
/-! DLw: the law's well, a dict of a list and two whole numbers -/
namespace DL
open PySem PySem.Spec PyProof.Rows L2
theorem ne_ds : ¬ (kD = kS) := fun h => absurd (Sum.inr.inj h) (by decide +kernel)
theorem ne_dt : ¬ (kD = kT) := fun h => absurd (Sum.inr.inj h) (by decide +kernel)
theorem ne_st : ¬ (kS = kT) := fun h => absurd (Sum.inr.inj h) (by decide +kernel)
theorem val_deep (l : Addr) (s t : Int) : valV (wellK l s t) kD = some (.ref l) := valV_pos (p := (kD, V.ref l)) rfl
theorem val_stirred (l : Addr) (s t : Int) : valV (wellK l s t) kS = some (.int s) := by
  unfold wellK
  rw [valV_neg (p := (kD, V.ref l)) ne_ds]
  exact valV_pos (p := (kS, V.int s)) rfl
theorem val_turns (l : Addr) (s t : Int) : valV (wellK l s t) kT = some (.int t) := by
  unfold wellK
  rw [valV_neg (p := (kD, V.ref l)) ne_dt, valV_neg (p := (kS, V.int s)) ne_st]
  exact valV_pos (p := (kT, V.int t)) rfl
theorem put_turns (l : Addr) (s t u : Int) : putK (wellK l s t) kT (.int u) = wellK l s u := by
  unfold putK
  have e : ((wellK l s t).any fun kv => decide (kv.1 = kT)) = true := by
    unfold wellK
    rw [List.any_cons, List.any_cons, List.any_cons, decide_eq_true (rfl : kT = kT)]
    simp
  rw [if_pos e]
  unfold wellK
  show [(if kD = kT then ((kD, V.int u) : Key × V) else (kD, V.ref l)), (if kS = kT then ((kS, V.int u) : Key × V) else (kS, V.int s)), (if kT = kT then ((kT, V.int u) : Key × V) else (kT, V.int t))] = _
  rw [if_neg ne_dt, if_neg ne_st, if_pos rfl]
theorem merge_well (l : Addr) (s t : Int) : mergeK [] (wellK l s t) = wellK l s t := by
  show putK (putK (putK [] kD (.ref l)) kS (.int s)) kT (.int t) = _
  have a1 : putK ([] : List (Key × V)) kD (.ref l) = [(kD, V.ref l)] := rfl
  have a2 : putK [(kD, V.ref l)] kS (.int s) = [(kD, V.ref l), (kS, V.int s)] := putK_new _ (by
    rw [valV_neg (p := (kD, V.ref l)) ne_ds]
    rfl)
  rw [a1, a2]
  exact putK_new _ (by
    rw [valV_neg (p := (kD, V.ref l)) ne_dt, valV_neg (p := (kS, V.int s)) ne_st]
    rfl)
section
variable {K : PySem.W.Frag} {S S0 S1 S2 S3 : SS} {td te tv : TE} {x y z : SD} {i : Int} {k : Nat} {ds : List Int} {s t : Int} {E : DE}
variable {c : Addr → Prop} {Hf H : Hp} {σ : L2.St} {fp : List (List Addr)}
theorem Okk.well (ok : Okk K c Hf H σ fp S) (ho : S.ob[k]? = some (.well ds s t)) {v : V} (r : SRl K Hf fp (some v) (.own k)) :
    ∃ a l, v = .ref a ∧ fp[k]? = some [a, l] ∧ H a = some (.dK (wellK l s t)) ∧ H l = some (.lst (ds.map V.int)) := by
  obtain ⟨a, q, h1, h2⟩ := r
  obtain ⟨a', l, e, h3, h4⟩ := ok.hd.oo k _ _ h1 ho
  have e2 : a = a' ∧ q = [l] := by simpa using e
  obtain ⟨rfl, rfl⟩ := e2
  exact ⟨a, l, h2, h1, h3, h4⟩
theorem ee_wS (h : Ee K td S (.own k) S1) (ho : S1.ob[k]? = some (.well ds s t)) : Ee K (tDGet td (tC (.str "stirred"))) S (.dat (.int s)) S1 := fun c Hf H σ fp ok Q q =>
  h c Hf H σ fp ok _ fun v Hf1 H1 fp1 ok1 g1 r1 => by
    obtain ⟨a, l, rfl, _, h2, _⟩ := ok1.well ho r1
    refine ⟨a, .int s, rfl, ?_, q _ _ _ _ ok1 g1 (Rp.int _)⟩
    rw [← val_stirred l s t]
    exact DGet.k (k := kS) h2
theorem ee_wT (h : Ee K td S (.own k) S1) (ho : S1.ob[k]? = some (.well ds s t)) : Ee K (tDGet td (tC (.str "turns"))) S (.dat (.int t)) S1 := fun c Hf H σ fp ok Q q =>
  h c Hf H σ fp ok _ fun v Hf1 H1 fp1 ok1 g1 r1 => by
    obtain ⟨a, l, rfl, _, h2, _⟩ := ok1.well ho r1
    refine ⟨a, .int t, rfl, ?_, q _ _ _ _ ok1 g1 (Rp.int _)⟩
    rw [← val_turns l s t]
    exact DGet.k (k := kT) h2
theorem dp_ints {H : Hp} {l : Addr} (h : H l = some (.lst (ds.map V.int))) : Dp K H (.ref l) (.list (ds.map PyData.int)) := by
  refine .lst (.inl (.inl h)) ?_
  clear h
  induction ds with
  | nil => exact .nil
  | cons n r ih => exact .cons (.int n) ih
theorem shaped_ints : SeqAt.shaped (.list (ds.map PyData.int)) = true := by
  have h1 : PyData.canLayAll0 (ds.map PyData.int) = true := by
    induction ds with
    | nil => rfl
    | cons n r ih => simp [PyData.canLayAll0, PyData.canLay0, ih]
  have h2 : PyData.depthAll (ds.map PyData.int) ≤ 1 := by
    clear h1
    induction ds with
    | nil => simp [PyData.depthAll]
    | cons n r ih => simp [PyData.depthAll, PyData.depth, ih]
  unfold SeqAt.shaped
  rw [Bool.and_eq_true]
  refine ⟨by simpa [PyData.canLay0] using h1, decide_eq_true ?_⟩
  simp only [PyData.depth]
  omega
theorem eqv_nil : PyData.eqv (.list (ds.map PyData.int)) (.list []) = ds.isEmpty := by
  cases ds <;> simp [PyData.eqv, PyData.eqvAll]
/-- well["deep"] != [] -/
theorem ee_wne (h : Ee K td S (.own k) S1) (ho : S1.ob[k]? = some (.well ds s t)) : Ee K (tOp (rNeU K) (tDGet td (tC (.str "deep"))) (tLst tNil)) S (.dat (.bool (!ds.isEmpty))) S1 := fun c Hf H σ fp ok Q q =>
  h c Hf H σ fp ok _ fun v Hf1 H1 fp1 ok1 g1 r1 => by
    obtain ⟨a, l, rfl, _, h2, h3⟩ := ok1.well ho r1
    refine ⟨a, .ref l, rfl, ?_, Nat.zero_le _, fun p hp => ?_⟩
    · rw [← val_deep l s t]
      exact DGet.k (k := kD) h2
    · obtain ⟨ok2, g2⟩ := ok1.laid (.lst []) hp
      refine .inr ⟨.list (ds.map PyData.int), .list [], dp_ints (by rw [upd_ne (ne_of_none h3 hp)]; exact h3), .lst (.inl (.inl upd_same)) .nil, shaped_ints, by decide, ?_⟩
      rw [eqv_nil]
      exact q _ _ _ _ ok2 (g1.trans g2) (Rp.bl _)
/-- the well changes -/
theorem Okk.setW (ok : Okk K c Hf H σ fp S) (ho : S.ob[k]? = some (.well ds s t)) {v : V} (r : SRl K Hf fp (some v) (.own k)) :
    ∃ a l, v = .ref a ∧ H a = some (.dK (wellK l s t)) ∧ H l = some (.lst (ds.map V.int)) ∧ (∀ es : List Int, Okk K c Hf (upd H l (.lst (es.map V.int))) σ fp { S with ob := S.ob.set k (.well es s t) } ∧ Gr Hf H fp Hf (upd H l (.lst (es.map V.int))) fp) ∧
      ∀ u : Int, Okk K c Hf (upd H a (.dK (wellK l s u))) σ fp { S with ob := S.ob.set k (.well ds s u) } ∧ Gr Hf H fp Hf (upd H a (.dK (wellK l s u))) fp := by
  obtain ⟨a, l, rfl, h1, h2, h3⟩ := ok.well ho r
  have hal : a ≠ l := ne_of h2 h3 (by intro z; cases z)
  have nl : ∀ {o' : OO}, (∀ ds', o' ≠ .lst ds') → ∀ ds', o' = .lst ds' → ∃ ds0, OO.well ds s t = .lst ds0 := fun h ds' e => absurd e (h ds')
  refine ⟨a, l, rfl, h2, h3, fun es => ?_, fun u => ?_⟩
  · obtain ⟨hd, g⟩ := ok.hd.put (o' := .well es s t) (H' := upd H l (.lst (es.map V.int))) h1 ho (by intro z; cases z) (fun b hb => upd_ne (by rw [List.mem_cons, not_or] at hb; simpa using hb.2)) ⟨a, l, rfl, by rw [upd_ne hal]; exact h2, upd_same⟩ (fun b hb => by
      rcases List.mem_cons.mp hb with e | e
      · rw [e, upd_ne hal]
        exact ⟨_, h2⟩
      · rw [List.mem_singleton.mp e]
        exact ⟨_, upd_same⟩) (nl fun _ z => by cases z)
    exact ⟨⟨hd, ok.ln, ok.sr⟩, g⟩
  · obtain ⟨hd, g⟩ := ok.hd.put (o' := .well ds s u) (H' := upd H a (.dK (wellK l s u))) h1 ho (by intro z; cases z) (fun b hb => upd_ne (by rw [List.mem_cons, not_or] at hb; exact hb.1)) ⟨a, l, rfl, upd_same, by rw [upd_ne (Ne.symm hal)]; exact h3⟩ (fun b hb => by
      rcases List.mem_cons.mp hb with e | e
      · rw [e]
        exact ⟨_, upd_same⟩
      · rw [List.mem_singleton.mp e, upd_ne (Ne.symm hal)]
        exact ⟨_, h3⟩) (nl fun _ z => by cases z)
    exact ⟨⟨hd, ok.ln, ok.sr⟩, g⟩
/-- well["deep"].pop() -/
theorem ee_wpop (h : Ee K td S (.own k) S1) (ho : S1.ob[k]? = some (.well (ds ++ [i]) s t)) : Ee K (tBM0 K "list" rPop (tDGet td (tC (.str "deep")))) S (.dat (.int i)) { S1 with ob := S1.ob.set k (.well ds s t) } := fun c Hf H σ fp ok Q q =>
  h c Hf H σ fp ok _ fun v Hf1 H1 fp1 ok1 g1 r1 => by
    obtain ⟨a, l, rfl, h2, h3, hw, _⟩ := ok1.setW ho r1
    obtain ⟨ok2, g2⟩ := hw ds
    refine ⟨a, .ref l, rfl, ?_, .inl ⟨rfl, _, .inl (.inl h3)⟩, l, _, .int i, rfl, rfl, h3, ?_, ?_⟩
    · rw [← val_deep l s t]
      exact DGet.k (k := kD) h2
    · rw [List.map_append, List.length_append, List.length_map]
      show (ds.map V.int ++ [V.int i])[ds.length + 1 - 1]? = _
      rw [Nat.add_sub_cancel]
      have := List.getElem?_concat_length (l := ds.map V.int) (a := V.int i)
      rw [List.length_map] at this
      exact this
    · have e : ((ds ++ [i]).map V.int).dropLast = ds.map V.int := by
        rw [List.map_append]
        exact List.dropLast_concat
      rw [e]
      exact q _ _ _ _ ok2 (g1.trans g2) (Rp.int _)
/-- well["deep"].append(e) -/
theorem ee_wapp (h : Ee K td S (.own k) S1) (ho1 : ∃ ds1 s1 t1, S1.ob[k]? = some (.well ds1 s1 t1)) (he : Ee K te S1 (.dat (.int i)) S2) (ho : S2.ob[k]? = some (.well ds s t)) (hsame : S2 = S1) (hz : ds.length < 1000000) :
    Ee K (tBM K "list" rAppend (tDGet td (tC (.str "deep"))) (tCons te tNil)) S (.dat .none) { S2 with ob := S2.ob.set k (.well (ds ++ [i]) s t) } := fun c Hf H σ fp ok Q q =>
  h c Hf H σ fp ok _ fun v Hf1 H1 fp1 ok1 g1 r1 => by
    have ho1 : S1.ob[k]? = some (.well ds s t) := by
      rw [← hsame]
      exact ho
    obtain ⟨a, l, rfl, q1, h2, h3⟩ := ok1.well ho1 r1
    refine ⟨a, .ref l, rfl, ?_, .inl ⟨rfl, _, .inl (.inl h3)⟩, he c Hf1 H1 σ fp1 ok1 _ fun u Hf2 H2 fp2 ok2 g2 r2 => ?_⟩
    · rw [← val_deep l s t]
      exact DGet.k (k := kD) h2
    · cases r2
      obtain ⟨a', l', e', k2, k3, hw, _⟩ := ok2.setW ho (r1.mono g2.sm g2.pr)
      cases e'
      obtain ⟨a2, l2, e2, q2, _, _⟩ := ok2.well ho (r1.mono g2.sm g2.pr)
      cases e2
      have el : l = l' := by
        have f1 := pre_get g2.pr q1
        have f2 := ok2.hd.oo k _ _ f1 ho
        obtain ⟨x1, x2, f3, f4, f5⟩ := f2
        have f6 : x1 = a ∧ x2 = l := by
          have := f3
          simp at this
          exact ⟨this.1.symm, this.2.symm⟩
        obtain ⟨rfl, rfl⟩ := f6
        rw [k2] at f4
        have f7 : wellK l' s t = wellK x2 s t := by
          have := Option.some.inj f4
          injection this
        unfold wellK at f7
        injection f7 with f8 _
        injection f8 with _ f9
        injection f9 with f10
        exact f10.symm
      subst el
      obtain ⟨ok3, g3⟩ := hw (ds ++ [i])
      refine ⟨l, _, .int i, rfl, rfl, k3, ?_, ?_⟩
      · rw [List.length_map]
        exact Nat.lt_of_lt_of_le hz (by decide)
      · rw [List.map_append] at ok3 g3
        exact q _ _ _ _ ok3 ((g1.trans g2).trans g3) Rp.non
/-- well["turns"] = e -/
theorem ts_wturn (hv : Ee K tv S (.dat (.int i)) S1) (h : Ee K td S1 (.own k) S2) (ho : S2.ob[k]? = some (.well ds s t)) (kx : E.nx { S2 with ob := S2.ob.set k (.well ds s i) }) : Ts K (sDPut td (tC (.str "turns")) tv) S E := fun c Hf H σ fp ok D n r bk ct =>
  hv c Hf H σ fp ok _ fun u Hf1 H1 fp1 ok1 g1 r1 => h c Hf1 H1 σ fp1 ok1 _ fun v Hf2 H2 fp2 ok2 g2 r2 => by
    cases r1
    obtain ⟨a, l, rfl, k2, k3, _, hw⟩ := ok2.setW ho r2
    obtain ⟨ok3, g3⟩ := hw i
    refine ⟨a, _, rfl, DPut.k (k := kT) k2 (by show 3 < sizeLine; decide), ?_⟩
    rw [put_turns]
    exact n _ _ _ _ _ ok3 ((g1.trans g2).trans g3) kx
theorem ee_newwell {t1 t2 t3 : TE} (h1 : El K t1 S (ds.map PyData.int) S1) (h2 : Ee K t2 S1 (.dat (.int s)) S2) (h3 : Ee K t3 S2 (.dat (.int t)) S3) :
    Ee K (tDisp [(tC (.str "deep"), t1), (tC (.str "stirred"), t2), (tC (.str "turns"), t3)]) S (.own S3.ob.length) { S3 with ob := S3.ob ++ [.well ds s t] } := fun c Hf H σ fp ok Q q p hp => by
  obtain ⟨ok0, g0, nm0, nc0⟩ := ok.apart (.dK []) hp
  have hf0 : Hf p = none := ok.hd.ex.free hp
  refine h1 _ _ _ σ fp (ok0.guard upd_same hf0 nm0) _ fun l Hf1 H1 fp1 ok1 g1 hl al => ?_
  obtain ⟨⟨xs, l1, l2⟩, l3, l4, l5⟩ := al
  obtain ⟨p1, p2⟩ := g1.out upd_same nm0
  have exs := RpA.ints_inv l2
  subst exs
  refine h2 _ _ _ σ fp1 (ok1.guard l1 l3 l4) _ fun v Hf2 H2 fp2 ok2 g2 r2 => ?_
  cases r2
  refine h3 _ _ _ σ fp2 ok2 _ fun v Hf3 H3 fp3 ok3 g3 r3 => ?_
  cases r3
  have G := g2.trans g3
  obtain ⟨a1, a2⟩ := G.out p1 p2
  obtain ⟨b1, b2⟩ := G.out l1 l4
  have hpl : p ≠ l := ne_of a1 b1 (by intro z; cases z)
  have fp3n := (ok3.hd.pt p (.inl (.inr rfl))).1
  have fl3n := (ok3.hd.pt l (.inr rfl)).1
  refine ⟨a1, wellK l s t, rfl, by show 3 ≤ 15; decide, ?_⟩
  rw [merge_well]
  have ncl : ¬ c l := fun z => l5 (.inl z)
  have keep : ∀ a o, a ≠ p → H3 a = some o → (upd H3 p (.dK (wellK l s t))) a = some o := fun a o n e => by
    rw [upd_ne n]
    exact e
  have nfl : ∀ a ∈ fp3.flatten, a ≠ p := fun a ha e => a2 (e ▸ ha)
  have cut : ∀ {α : Type} (l : List α) (x y : α) (k : Nat), (l ++ [x])[k]? = some y → (k < l.length ∧ l[k]? = some y) ∨ (k = l.length ∧ y = x) := fun l x y k e => by
    by_cases hk : k < l.length
    · rw [List.getElem?_append_left hk] at e
      exact .inl ⟨hk, e⟩
    · have e2 := (List.getElem?_eq_some_iff.mp e).1
      rw [List.length_append, List.length_singleton] at e2
      have e3 : k = l.length := by omega
      subst e3
      rw [List.getElem?_concat_length] at e
      exact .inr ⟨rfl, (Option.some.inj e).symm⟩
  have GG := (g0.trans g1).trans G
  refine q _ Hf3 _ (fp3 ++ [[p, l]]) ⟨⟨fun b o e => keep b o (ne_of_none e fp3n) (ok3.hd.ex b o e), by rw [List.length_append, List.length_append, ok3.hd.fl]; rfl, fun k a o e1 e2 => ?_, ?_, fun a ha => ?_, fun k a o e1 e2 hx b hb => ?_, fun a z => ?_, fun k a ds' e1 e2 b hb => ?_⟩, ok3.ln, fun i d e => ?_⟩ ⟨GG.sm, GG.pr.trans (List.prefix_append _ _), fun a o e n => keep a o (ne_of_none e hp) (GG.fr a o e n), fun a m => ?_, fun a o e => ?_⟩ ⟨p, [l], ?_, rfl⟩
  · rcases cut _ _ _ _ e1 with ⟨hk, e1⟩ | ⟨hk, rfl⟩
    · rcases cut _ _ _ _ e2 with ⟨hk2, e2⟩ | ⟨hk2, rfl⟩
      · exact (ok3.hd.oo k a o e1 e2).mono (Same.refl _) fun b hb => upd_ne (nfl b (mem_fl e1 hb))
      · have := ok3.hd.fl
        omega
    · rcases cut _ _ _ _ e2 with ⟨hk2, e2⟩ | ⟨hk2, rfl⟩
      · have := ok3.hd.fl
        omega
      · exact ⟨p, l, rfl, upd_same, keep l _ (Ne.symm hpl) b1⟩
  · rw [List.flatten_append, List.nodup_append]
    refine ⟨ok3.hd.nd, by simp [hpl], fun a ha b hb => ?_⟩
    have e : b = p ∨ b = l := by simpa using hb
    rcases e with rfl | rfl
    · exact nfl a ha
    · exact fun e => b2 (e ▸ ha)
  · rw [List.flatten_append, List.mem_append] at ha
    rcases ha with ha | ha
    · obtain ⟨x, e⟩ := ok3.hd.al a ha
      exact ⟨x, keep a x (nfl a ha) e⟩
    · have e : a = p ∨ a = l := by simpa using ha
      rcases e with rfl | rfl
      · exact ⟨_, upd_same⟩
      · exact ⟨_, keep a _ (Ne.symm hpl) b1⟩
  · rcases cut _ _ _ _ e1 with ⟨hk, e1⟩ | ⟨hk, rfl⟩
    · rcases cut _ _ _ _ e2 with ⟨hk2, e2⟩ | ⟨hk2, rfl⟩
      · exact ok3.hd.nf k a o e1 e2 hx b hb
      · have := ok3.hd.fl
        omega
    · have e : b = p ∨ b = l := by simpa using hb
      rcases e with rfl | rfl
      · exact fp3n
      · exact fl3n
  · obtain ⟨z1, o, z2⟩ := ok3.hd.pt a (.inl (.inl z))
    refine ⟨z1, o, keep a o (fun e => nc0 (e ▸ z)) z2⟩
  · rcases cut _ _ _ _ e1 with ⟨hk, e1⟩ | ⟨hk, rfl⟩
    · rcases cut _ _ _ _ e2 with ⟨hk2, e2⟩ | ⟨hk2, e2⟩
      · exact fun z => ok3.hd.np k a ds' e1 e2 b hb (.inl (.inl z))
      · have := ok3.hd.fl
        omega
    · rcases cut _ _ _ _ e2 with ⟨hk2, e2⟩ | ⟨hk2, e2⟩
      · have := ok3.hd.fl
        omega
      · cases e2
  · obtain ⟨x, e1, e2⟩ := ok3.sr i d e
    exact ⟨x, e1, e2.mono (Same.refl _) (List.prefix_append _ _)⟩
  · rw [List.flatten_append, List.mem_append] at m
    rcases m with m | m
    · exact GG.nw a m
    · have e : a = p ∨ a = l := by simpa using m
      rcases e with rfl | rfl
      · exact .inr hp
      · exact .inr (none_back g0.th hl)
  · by_cases hb : a = p
    · rw [hb]
      exact ⟨_, upd_same⟩
    · obtain ⟨o', e'⟩ := GG.th a o e
      exact ⟨o', keep a o' hb e'⟩
  · rw [← ok3.hd.fl, List.getElem?_concat_length]
end
end DL

set_option maxRecDepth 100000
set_option maxHeartbeats 1000000
/-! DLx: objects of a def's own that nobody sees any more are forgotten at its end -/
namespace DL
open PySem PySem.Spec PyProof.Rows L2
section
variable {K : PySem.W.Frag} {S S0 S1 S2 S3 : SS} {te : TE} {ob ob' ob1 : List OO} {as : List SD} {R : FR} {r : SD}
variable {c : Addr → Prop} {Hf H Hf' H' : Hp} {σ : L2.St} {fp fp' : List (List Addr)}
theorem take_get {α : Type} {l : List α} {n k : Nat} {x : α} (h : (l.take n)[k]? = some x) : l[k]? = some x := by
  rw [List.getElem?_take] at h
  split at h
  · exact h
  · cases h
theorem take_fl {fp : List (List Addr)} {n : Nat} {a : Addr} (h : a ∈ (fp.take n).flatten) : a ∈ fp.flatten := by
  obtain ⟨p, h1, h2⟩ := List.mem_flatten.mp h
  exact List.mem_flatten.mpr ⟨p, List.mem_of_mem_take h1, h2⟩
theorem Hd.cut (h : Hd K c Hf H fp ob) (p : ob1 <+: ob) : Hd K c Hf H (fp.take ob1.length) ob1 := by
  refine ⟨h.ex, ?_, fun k a o e1 e2 => h.oo k a o (take_get e1) (pre_get p e2), ?_, fun a ha => h.al a (take_fl ha), fun k q o e1 e2 => h.nf k q o (take_get e1) (pre_get p e2), h.pt, fun k q ds e1 e2 => h.np k q ds (take_get e1) (pre_get p e2)⟩
  · have := p.length_le
    have := h.fl
    rw [List.length_take]
    omega
  · have e : fp.flatten = (fp.take ob1.length).flatten ++ (fp.drop ob1.length).flatten := by
      rw [← List.flatten_append, List.take_append_drop]
    have := h.nd
    rw [e, List.nodup_append] at this
    exact this.1
theorem Gr.cut (g : Gr Hf H fp Hf' H' fp') {n : Nat} (hl : fp.length ≤ n) : Gr Hf H fp Hf' H' (fp'.take n) :=
  ⟨g.sm, List.prefix_take_iff.mpr ⟨g.pr, hl⟩, g.fr, fun a m => g.nw a (take_fl m), g.th⟩
theorem SRl.cut {v : V} {n : Nat} (h : SRl K Hf fp (some v) r) (hk : ∀ k, r = .own k → k < n) : SRl K Hf (fp.take n) (some v) (nol r) := by
  cases r with
  | un => trivial
  | dat d => exact h
  | scr ns => exact h
  | rng _ _ => exact h
  | lown _ => trivial
  | tx _ => exact h
  | tq _ _ _ => exact h
  | no => exact h
  | own k =>
    obtain ⟨a, q, h1, h2⟩ := h
    refine ⟨a, q, ?_, h2⟩
    rw [List.getElem?_take, if_pos (hk k rfl)]
    exact h1
/-- a def's body, over data; what it made for itself is forgotten -/
theorem body_ofG {N : List Str} {np : Nat} {ts : TS} {vs : List V} {Q : VK} {E : XK} (h : spD K np R vs H Q E) (hN : np ≤ N.length)
    (hk : ∀ as ob r ob', R as ob r ob' → ob.length ≤ ob'.length ∧ ∀ k, r = .own k → k < ob'.length)
    (hb : ∀ as ob r ob', R as ob r ob' → as.length = np → Ts K ts (entry N.length as ob) { nx := fun S' => r = .dat .none ∧ ob' <+: S'.ob, rt := fun x S' => x = r ∧ ob' <+: S'.ob }) : ts { nx := fun _ H' => Q .non H', rt := Q } (L2.start N vs) H := by
  have h2 : spD K np (fun as ob r obx => R as ob r obx) vs H Q E := h
  obtain ⟨hl, Hf, fp, as, ob, r, ob', hd, hno, sr, hR, k⟩ := h
  obtain ⟨k1, k2⟩ := hk _ _ _ _ hR
  have la : as.length = np := by
    rw [← hl]
    exact (Paired.length sr).symm
  have ok : Okk K (prot Hf H) Hf H (L2.start N vs) fp (entry N.length as ob) := by
    refine ⟨hd, ?_, fun i d e => ?_⟩
    · unfold L2.start entry
      simp only [List.length_append, List.length_map, List.length_replicate]
      omega
    · unfold entry at e
      by_cases hi : i < as.length
      · rw [List.getElem?_append_left hi] at e
        obtain ⟨v, h1, h2⟩ := sr.get e
        refine ⟨some v, ?_, h2⟩
        unfold L2.start
        rw [List.getElem?_append_left (by rw [List.length_map]; omega), List.getElem?_map, h1]
        rfl
      · rw [List.getElem?_append_right (by omega), List.getElem?_replicate] at e
        split at e
        · rename_i hlt
          obtain rfl := Option.some.inj e
          refine ⟨none, ?_, trivial⟩
          unfold L2.start
          rw [List.getElem?_append_right (by rw [List.length_map]; omega), List.getElem?_replicate, if_pos (by rw [List.length_map]; omega)]
        · cases e
  have k1' : fp.length ≤ ob'.length := by
    rw [hd.fl]
    exact k1
  refine hb as ob r ob' hR la _ Hf H _ fp ok _ (fun S' Hf' H' σ' fp' ok' g e => ?_) (fun x S' v Hf' H' σ' fp' ok' g rv e => ?_) (fun _ _ _ _ _ _ _ z => z.elim) fun _ _ _ _ _ _ _ z => z.elim
  · obtain ⟨rfl, p⟩ := e
    exact k .non Hf' H' _ (ok'.hd.cut p) (g.cut k1') Rp.non
  · obtain ⟨rfl, p⟩ := e
    exact k v Hf' H' _ (ok'.hd.cut p) (g.cut k1') (rv.cut k2)
/-- an operator, its fragment told -/
theorem opK {X : Cx} (K : PySem.W.Frag) {R : PySem.W.Frag → R2} {f : Value → Value → Sem Value} (h : OpR X f (R X.K)) (e : X.K = K) : OpR X f (R K) := e ▸ h
/-- the script's part -/
theorem RpA.ofInts {xs : List V} {ns : List Int} (e : xs = ns.map V.int) : RpA K Hf xs (ns.map PyData.int) := e ▸ RpA.ints ns
theorem el_slScr {tl th : TO} {lo hi : Option Int} {ns : List Int} (h : Ee K te S (.scr ns) S1) (hl : Eo K tl S1 lo S2) (hh : Eo K th S2 hi S3) : El K (tSl (rSlU K) te tl th) S (cutD (ns.map PyData.int) lo hi) S3 := fun c Hf H σ fp ok Q q =>
  h c Hf H σ fp ok _ fun v Hf1 H1 fp1 ok1 g1 r1 => hl c Hf1 H1 σ fp1 ok1 _ fun Hf2 H2 fp2 ok2 g2 => hh c Hf2 H2 σ fp2 ok2 _ fun Hf3 H3 fp3 ok3 g3 => by
    obtain ⟨a, rfl, h1⟩ := r1
    refine .inl ⟨a, _, rfl, (g2.sm.trans g3.sm |>.trans ok3.hd.ex).seq h1, fun p hp => ?_⟩
    obtain ⟨ok4, g4, al⟩ := ok3.alone hp (cutD_rp (RpA.ints ns) (lo := lo) (hi := hi))
    have G := (g1.trans g2).trans g3
    exact q p _ _ _ ok4 (G.trans g4) (none_back G.th hp) al
theorem cut_take {n : Nat} (ns : List Int) : cutD (ns.map PyData.int) none (some (n : Int)) = (ns.take n).map PyData.int := by
  unfold cutD
  have e1 : HT.sIx (ns.map PyData.int).length 0 none = 0 := rfl
  have e2 : HT.sIx (ns.map PyData.int).length (ns.map PyData.int).length (some (n : Int)) = min n (ns.map PyData.int).length := by
    unfold HT.sIx
    simp
    omega
  rw [e1, e2, List.drop_zero, Nat.sub_zero, List.map_take]
  by_cases h : n ≤ (ns.map PyData.int).length
  · rw [Nat.min_eq_left h]
  · rw [Nat.min_eq_right (by omega), List.take_of_length_le (Nat.le_refl _), List.take_of_length_le (by omega)]
end
end DL

set_option maxRecDepth 100000
set_option maxHeartbeats 1000000
/-! DLs: sorted, slices of tuples, products, zip, while, own dicts of whole numbers, l.pop(i), list(range(..)), l[::-1], targets out of lists -/
namespace DL
open PySem PySem.Spec PyProof.Rows L2
/-! ### whole numbers in order -/
def sortI (ns : List Int) : List Int := ns.mergeSort fun a b => decide (a ≤ b)
theorem sortI_perm (ns : List Int) : (sortI ns).Perm ns := List.mergeSort_perm _ _
theorem sortI_sorted (ns : List Int) : (sortI ns).Pairwise (· ≤ ·) := by
  have h := List.pairwise_mergeSort (le := fun a b : Int => decide (a ≤ b)) (fun a b c h1 h2 => decide_eq_true (Int.le_trans (of_decide_eq_true h1) (of_decide_eq_true h2))) (fun a b => by
    rw [Bool.or_eq_true, decide_eq_true_eq, decide_eq_true_eq]
    exact Int.le_total a b) ns
  exact h.imp fun {a b} z => of_decide_eq_true z
theorem sorted_uniq : ∀ {xs ys : List Int}, xs.Perm ys → xs.Pairwise (· ≤ ·) → ys.Pairwise (· ≤ ·) → xs = ys
  | [], ys, p, _, _ => by rw [List.nil_perm.mp p]
  | x :: xs, [], p, _, _ => by cases (List.perm_nil.mp p)
  | x :: xs, y :: ys, p, s, t => by
    have s1 := List.pairwise_cons.mp s
    have t1 := List.pairwise_cons.mp t
    have e : x = y := by
      have h1 : y ≤ x := by
        rcases List.mem_cons.mp (p.subset (List.mem_cons_self (a := x))) with h | h
        · exact Int.le_of_eq h.symm
        · exact t1.1 x h
      have h2 : x ≤ y := by
        rcases List.mem_cons.mp (p.symm.subset (List.mem_cons_self (a := y))) with h | h
        · exact Int.le_of_eq h.symm
        · exact s1.1 y h
      exact Int.le_antisymm h2 h1
    subst e
    rw [sorted_uniq p.cons_inv s1.2 t1.2]
theorem sortI_of {ms ns : List Int} (p : ms.Perm ns) (s : ms.Pairwise (· ≤ ·)) : ms = sortI ns := sorted_uniq (p.trans (sortI_perm ns).symm) s (sortI_sorted ns)
section
variable {K : PySem.W.Frag} {S S0 S1 S2 S3 S4 : SS} {ta tb tc td te : TE} {t u : TT} {x y z w : SD} {d e : PyData} {i j l : Int} {ds es : List PyData} {ns : List Int} {k n : Nat} {E : DE} {g : TG} {a b : Bool} {tbd : TS}
variable {c : Addr → Prop} {Hf H : Hp} {σ : L2.St} {fp : List (List Addr)}
theorem rcl_sortL (h : AsD S x (.list (ns.map PyData.int))) : RcL K (rSortU K) [x] S ((sortI ns).map PyData.int) S := fun c Hf H σ fp ok vs r Q q => by
  obtain ⟨v, rfl, rv⟩ := r.one
  obtain ⟨a, xs, rfl, h1, h2⟩ := ok.asL rv h
  obtain rfl := RpA.ints_inv h2
  refine .inl ⟨a, ns, rfl, .inl (.inl h1), fun ms p e1 e2 hp => ?_⟩
  obtain ⟨ok2, g2, al⟩ := ok.alone hp (RpA.ints ms)
  rw [sortI_of e1 e2] at *
  exact q p _ _ _ ok2 g2 hp al
theorem rcl_sortT : RcL K (rSortU K) [.dat (.tuple (ns.map PyData.int))] S ((sortI ns).map PyData.int) S := fun c Hf H σ fp ok vs r Q q => by
  obtain ⟨v, rfl, rv⟩ := r.one
  cases rv with
  | tup h1 h2 =>
    obtain rfl := RpA.ints_inv h2
    refine .inr ⟨_, ns, rfl, sameT ok.hd.ex h1, fun ms p e1 e2 hp => ?_⟩
    obtain ⟨ok2, g2, al⟩ := ok.alone hp (RpA.ints ms)
    rw [sortI_of e1 e2] at *
    exact q p _ _ _ ok2 g2 hp al
/-! ### slices -/
theorem ee_slT {tl th : TO} {lo hi : Option Int} (h : Ee K te S (.dat (.tuple ds)) S1) (hl : Eo K tl S1 lo S2) (hh : Eo K th S2 hi S3) : Ee K (tSl (rSlU K) te tl th) S (.dat (.tuple (cutD ds lo hi))) S3 := fun c Hf H σ fp ok Q q =>
  h c Hf H σ fp ok _ fun v Hf1 H1 fp1 ok1 g1 r1 => hl c Hf1 H1 σ fp1 ok1 _ fun Hf2 H2 fp2 ok2 g2 => hh c Hf2 H2 σ fp2 ok2 _ fun Hf3 H3 fp3 ok3 g3 => by
    have r2 := r1.mono (g2.trans g3).sm (g2.trans g3).pr
    have G := (g1.trans g2).trans g3
    cases r2 with
    | tup h1 h2 =>
      refine .inr ⟨_, _, rfl, sameT ok3.hd.ex h1, fun e => ?_, fun _ p hp => ?_⟩
      · refine q _ _ _ _ ok3 G ?_
        have e1 : cutD ds lo hi = ds := by
          unfold cutD
          rw [← h2.len, e.1, e.2, List.drop_zero, Nat.sub_zero, h2.len, List.take_length]
        rw [e1]
        exact Rp.tup h1 h2
      · obtain ⟨ok4, g4⟩ := ok3.laid (.tup _) hp
        exact q _ _ _ _ ok4 (G.trans g4) (Rp.tup (.inl (.inl upd_same)) ((cutD_rp h2).mono g4.sm))
theorem el_slU {tl th : TO} {lo hi : Option Int} (h : Ee K te S x S1) (hl : Eo K tl S1 lo S2) (hh : Eo K th S2 hi S3) (hx : AsD S3 x (.list ds)) : El K (tSl (rSlU K) te tl th) S (cutD ds lo hi) S3 := fun c Hf H σ fp ok Q q =>
  h c Hf H σ fp ok _ fun v Hf1 H1 fp1 ok1 g1 r1 => hl c Hf1 H1 σ fp1 ok1 _ fun Hf2 H2 fp2 ok2 g2 => hh c Hf2 H2 σ fp2 ok2 _ fun Hf3 H3 fp3 ok3 g3 => by
    obtain ⟨a, xs, rfl, h1, h2⟩ := ok3.asL (r1.mono (g2.trans g3).sm (g2.trans g3).pr) hx
    refine .inl ⟨a, xs, rfl, .inl (.inl h1), fun p hp => ?_⟩
    obtain ⟨ok4, g4, al⟩ := ok3.alone hp (cutD_rp h2 (lo := lo) (hi := hi))
    have G := (g1.trans g2).trans g3
    exact q p _ _ _ ok4 (G.trans g4) (none_back G.th hp) al
theorem el_revL (h : Ee K te S x S1) (hx : AsD S1 x (.list ds)) : El K (tRevL K te) S ds.reverse S1 := fun c Hf H σ fp ok Q q =>
  h c Hf H σ fp ok _ fun v Hf1 H1 fp1 ok1 g1 r1 => by
    obtain ⟨a, xs, rfl, h1, h2⟩ := ok1.asL r1 hx
    refine ⟨a, xs, rfl, .inl (.inl h1), fun p hp => ?_⟩
    obtain ⟨ok2, g2, al⟩ := ok1.alone hp h2.reverse
    exact q p _ _ _ ok2 (g1.trans g2) (none_back g1.th hp) al
/-! ### products -/
def repD (k : Nat) (ds : List PyData) : List PyData := (List.replicate k ds).flatten
theorem repD_succ (k : Nat) (ds : List PyData) : repD (k + 1) ds = ds ++ repD k ds := rfl
theorem repD_len (ds : List PyData) : ∀ k : Nat, (repD k ds).length = k * ds.length
  | 0 => by rw [Nat.zero_mul]; rfl
  | k + 1 => by rw [repD_succ, List.length_append, repD_len ds k, Nat.succ_mul, Nat.add_comm]
theorem RpA.rep {xs : List V} (h : RpA K Hf xs ds) : ∀ k : Nat, RpA K Hf (List.replicate k xs).flatten (repD k ds)
  | 0 => .nil
  | k + 1 => h.append (RpA.rep h k)
theorem rol_rep (h : AsD S x (.list ds)) (h0 : 0 ≤ i) (hz : ds.length * i.toNat ≤ 1000000) (hi : i ≤ 1000000) : RoL K (rMulU K) x (.dat (.int i)) S (repD i.toNat ds) S := fun c Hf H σ fp ok v u rv ru Q q => by
  obtain ⟨a, xs, rfl, h1, h2⟩ := ok.asL rv h
  cases ru
  refine .inr (.inr (.inl ⟨a, i, xs, rfl, rfl, h1, by omega, by omega, ?_, fun p hp => ?_⟩))
  · rw [h2.len]
    exact Nat.le_trans hz (by decide)
  · obtain ⟨ok2, g2, al⟩ := ok.alone hp (RpA.rep h2 i.toNat)
    exact q p _ _ _ ok2 g2 hp al
theorem ro_repT (hne : ds ≠ []) (h2 : 2 ≤ i) (hz : ds.length * i.toNat ≤ 1000000) : Ro K (rMulU K) (.dat (.tuple ds)) (.dat (.int i)) S (.dat (.tuple (repD i.toNat ds))) S := fun c Hf H σ fp ok v u rv ru Q q => by
  cases ru
  cases rv with
  | @tup a xs _ h1 h3 =>
    refine .inr (.inr (.inr ⟨a, i, xs, rfl, rfl, sameT ok.hd.ex h1, fun e => hne ?_, h2, by rw [h3.len]; exact hz, fun p hp => ?_⟩))
    · subst e
      cases h3
      rfl
    · obtain ⟨ok2, g2⟩ := ok.laid (.tup _) hp
      exact q _ _ _ _ ok2 g2 (Rp.tup (.inl (.inl upd_same)) ((RpA.rep h3 i.toNat).mono g2.sm))
/-! ### list(range(..)), tuple(range(..)) -/
theorem rp_rng (lo : Int) (hi : Int) : RpA K Hf (rgV lo hi) (rngD lo (hi - lo).toNat) := by
  unfold rgV rngD
  induction (List.range (hi - lo).toNat) with
  | nil => exact .nil
  | cons a r ih => exact .cons (.int _) ih
theorem el_rng1 (h : Ee K te S (.dat (.int i)) S1) (hi : 0 ≤ i ∧ i ≤ 1000000) : El K (tLstRg (tRg1 te)) S (rngD 0 i.toNat) S1 := fun c Hf H σ fp ok Q q =>
  h c Hf H σ fp ok _ fun v Hf1 H1 fp1 ok1 g1 r1 => by
    cases r1
    refine ⟨i, rfl, RgOk.of_le (Int.le_refl 0) (by omega) (by decide) hi.1, fun p hp => ?_⟩
    obtain ⟨ok2, g2, al⟩ := ok1.alone hp (rp_rng (K := K) 0 i)
    rw [Int.sub_zero] at al
    exact q p _ _ _ ok2 (g1.trans g2) (none_back g1.th hp) al
theorem ee_trng1 (h : Ee K te S (.dat (.int i)) S1) (hi : 0 ≤ i ∧ i ≤ 1000000) : Ee K (tTupRg (tRg1 te)) S (.dat (.tuple (rngD 0 i.toNat))) S1 := fun c Hf H σ fp ok Q q =>
  h c Hf H σ fp ok _ fun v Hf1 H1 fp1 ok1 g1 r1 => by
    cases r1
    refine ⟨i, rfl, RgOk.of_le (Int.le_refl 0) (by omega) (by decide) hi.1, fun p hp => ?_⟩
    obtain ⟨ok2, g2⟩ := ok1.laid (.tup (rgV 0 i)) hp
    have r := rp_rng (K := K) (Hf := upd Hf1 p (.tup (rgV 0 i))) 0 i
    rw [Int.sub_zero] at r
    exact q _ _ _ _ ok2 (g1.trans g2) (Rp.tup (.inl (.inl upd_same)) r)
/-! ### zip -/
def zipD (xs ys : List PyData) : List PyData := (List.range (min xs.length ys.length)).map fun i => .tuple [xs.getD i .none, ys.getD i .none]
theorem zipD_len (xs ys : List PyData) : (zipD xs ys).length = min xs.length ys.length := by
  unfold zipD
  rw [List.length_map, List.length_range]
theorem zipD_get {xs ys : List PyData} {i : Nat} (h : (zipD xs ys)[i]? = some d) : ∃ p q, xs[i]? = some p ∧ ys[i]? = some q ∧ d = .tuple [p, q] := by
  unfold zipD at h
  rw [List.getElem?_map] at h
  by_cases hi : i < min xs.length ys.length
  · rw [List.getElem?_range hi] at h
    have h1 : i < xs.length := by omega
    have h2 : i < ys.length := by omega
    refine ⟨xs[i], ys[i], List.getElem?_eq_getElem h1, List.getElem?_eq_getElem h2, ?_⟩
    rw [← Option.some.inj h]
    show PyData.tuple [xs.getD i .none, ys.getD i .none] = _
    rw [List.getD_eq_getElem?_getD, List.getElem?_eq_getElem h1, List.getD_eq_getElem?_getD, List.getElem?_eq_getElem h2]
    rfl
  · rw [List.getElem?_eq_none (by rw [List.length_range]; omega)] at h
    cases h
theorem zip_pair {xs ys : List PyData} {vs us : List V} (r1 : RpA K Hf vs xs) (r2 : RpA K Hf us ys) {Hf1 H1 : Hp} {v : V} {H2 : Hp} {i : Nat} (e1 : Same Hf Hf1) (e2 : Same Hf1 H1) (hd : (zipD xs ys)[i]? = some d) (y : YPair (fun i => vs[i]?) (fun i => us[i]?) i H1 v H2) :
    ∃ p o, H1 p = none ∧ H2 = upd H1 p o ∧ Rp K (upd Hf1 p o) v d := by
  obtain ⟨T, v1, v2, rfl, hT, rfl, y1, y2⟩ := y
  obtain ⟨p, q, k1, k2, rfl⟩ := zipD_get hd
  obtain ⟨w1, a1, a2⟩ := r1.get k1
  obtain ⟨w2, b1, b2⟩ := r2.get k2
  have y3 : some v1 = some w1 := y1.symm.trans a1
  have y4 : some v2 = some w2 := y2.symm.trans b1
  obtain rfl := Option.some.inj y3
  obtain rfl := Option.some.inj y4
  have up : Same Hf1 (upd Hf1 T (.tup [v1, v2])) := fun b o eb => by
    rw [upd_ne (ne_of_none eb (e2.free hT))]
    exact eb
  exact ⟨T, _, hT, rfl, .tup (.inl (.inl upd_same)) (.cons (a2.mono (e1.trans up)) (.cons (b2.mono (e1.trans up)) .nil))⟩
theorem ei_zipT {tas : TA} {xs ys : List PyData} (h : Ed K tas S [.tuple xs, .tuple ys] S1) : Ei K (RZ.iZipA K tas) S (zipD xs ys) S1 := fun c Hf H σ fp ok R q => h c Hf H σ fp ok _ fun v Hf1 H1 fp1 ok1 g1 r1 => by
  cases r1 with
  | cons r1 rr => cases rr with
    | cons r2 rr =>
      cases rr
      cases r1 with
      | tup h1 h2 => cases r2 with
        | tup h3 h4 =>
          refine ⟨_, _, _, _, rfl, .inr ⟨sameT ok1.hd.ex h1, sameT ok1.hd.ex h3, q _ Hf1 H1 fp1 ok1 g1 (wk_of walk_zipT ((zipD_len xs ys).trans (by rw [h2.len, h4.len])) (fun Hf2 H2 e1 e2 => ⟨sameT e2 (sameT e1 h1), sameT e2 (sameT e1 h3)⟩) fun i d Hf2 H2 x H3 e1 e2 hd y => .inr (zip_pair h2 h4 e1 e2 hd y))⟩⟩
/-! ### while -/
theorem ts_while (Pv : Nat → SS → Prop) (m0 : Nat) (h0 : Pv m0 S) (hs : ∀ m S', Pv m S' → ∃ b S1, Et K t S' b S1 ∧ (b = true → Ts K tbd S1 { nx := fun S2 => ∃ m', m' < m ∧ Pv m' S2, rt := E.rt, bk := E.nx, ct := fun S2 => ∃ m', m' < m ∧ Pv m' S2 }) ∧ (b = false → E.nx S1)) : Ts K (tWhile t tbd) S E := fun c Hf H σ fp ok D n r bk ct => by
  refine ⟨fun m σ' H' => ∃ S' Hf' fp', Okk K c Hf' H' σ' fp' S' ∧ Gr Hf H fp Hf' H' fp' ∧ Pv m S', ⟨m0, S, Hf, fp, ok, Gr.refl, h0⟩, ?_⟩
  rintro m σ' H' ⟨S', Hf', fp', ok', g', p⟩
  obtain ⟨b, S1, ht, hb, hd⟩ := hs m S' p
  refine ht c Hf' H' σ' fp' ok' _ fun Hf1 H1 fp1 ok1 g1 => ?_
  cases b with
  | false => exact iteF (n S1 Hf1 H1 σ' fp1 ok1 (g'.trans g1) (hd rfl))
  | true =>
    refine iteT ⟨fun σ2 H2 => ∃ m', m' < m ∧ ∃ S' Hf' fp', Okk K c Hf' H2 σ2 fp' S' ∧ Gr Hf H fp Hf' H2 fp' ∧ Pv m' S', fun σ2 H2 z => z, ?_⟩
    exact hb rfl c Hf1 H1 σ' fp1 ok1 _ (fun S2 Hf2 H2 σ2 fp2 ok2 g2 ⟨m', lt, p'⟩ => ⟨m', lt, S2, Hf2, fp2, ok2, (g'.trans g1).trans g2, p'⟩) (fun x S2 v Hf2 H2 σ2 fp2 ok2 g2 sr p' => r x S2 v Hf2 H2 σ2 fp2 ok2 ((g'.trans g1).trans g2) sr p')
      (fun S2 Hf2 H2 σ2 fp2 ok2 g2 p' => n S2 Hf2 H2 σ2 fp2 ok2 ((g'.trans g1).trans g2) p') (fun S2 Hf2 H2 σ2 fp2 ok2 g2 ⟨m', lt, p'⟩ => ⟨m', lt, S2, Hf2, fp2, ok2, (g'.trans g1).trans g2, p'⟩)
/-! ### l.pop(i) -/
theorem RpA.erase : ∀ {vs : List V} {ds : List PyData} (i : Nat), RpA K Hf vs ds → RpA K Hf (vs.eraseIdx i) (ds.eraseIdx i)
  | _, _, _, .nil => .nil
  | _, _, 0, .cons _ t => t
  | _, _, i + 1, .cons h t => .cons h (RpA.erase i t)
theorem ee_popAt (hl : Ee K ta S (.own k) S1) (he : Ee K te S1 (.dat (.int i)) S2) (ho1 : ∃ ds1, S1.ob[k]? = some (.lst ds1)) (ho : S2.ob[k]? = some (.lst ds)) (hi : ixN ds.length i = some n) (hd : ds[n]? = some d) (hz : ds.length ≤ 1000000) :
    Ee K (tBM K "list" rPopAt ta (tCons te tNil)) S (.dat d) { S2 with ob := S2.ob.set k (.lst (ds.eraseIdx n)) } := fun c Hf H σ fp ok Q q =>
  hl c Hf H σ fp ok _ fun v Hf1 H1 fp1 ok1 g1 r1 => by
    obtain ⟨ds1, ho1⟩ := ho1
    obtain ⟨a, xs, rfl, h1, h2, h3⟩ := ok1.obL ho1 r1
    refine ⟨.inl ⟨rfl, xs, .inl (.inl h2)⟩, he c Hf1 H1 σ fp1 ok1 _ fun u Hf2 H2 fp2 ok2 g2 r2 => ?_⟩
    cases r2
    obtain ⟨b, zs, e, k1, k2, k3⟩ := ok2.setL ho (r1.mono g2.sm g2.pr)
    cases e
    obtain ⟨w, w1, w2⟩ := k2.get hd
    obtain ⟨ok3, g3⟩ := k3 _ _ (RpA.erase n k2)
    obtain ⟨q1, q2, q3, q4⟩ := ixN_seq hi
    refine ⟨a, zs, i, n, w, rfl, rfl, k1, by omega, by omega, by rw [k2.len]; exact q1, w1, q _ _ _ _ ok3 ((g1.trans g2).trans g3) w2⟩
/-! ### targets out of lists -/
theorem eg_unl {gs : TGs} {n : Nat} (h : Egs K gs ds S S1) (hn : ds.length = n := by rfl) : Eg K (gUnl K n gs) (.list ds) S S1 := fun c Hf H σ fp ok x r Q q => by
  cases r with
  | lst h1 h2 => exact ⟨_, _, rfl, .inl (.inl (ok.hd.ex _ _ h1)), h2.len.trans hn, h c Hf H σ fp ok _ h2 Q q⟩
/-! ### own dicts of whole numbers -/
theorem Hd.ownO (h : Hd K c Hf H fp S.ob) {p : Addr} {o : OO} (hx : ∃ u, H p = some u) (hf : Hf p = none) (hm : p ∉ fp.flatten) (ho : OOk K Hf H [p] o) (hl : ∀ ds, o ≠ .lst ds) : Hd K c Hf H (fp ++ [[p]]) (S.ob ++ [o]) := by
  have hsz : ∀ {α : Type} (l : List α) (x y : α) (k : Nat), (l ++ [x])[k]? = some y → (k < l.length ∧ l[k]? = some y) ∨ (k = l.length ∧ y = x) := fun l x y k e => by
    by_cases hk : k < l.length
    · rw [List.getElem?_append_left hk] at e
      exact .inl ⟨hk, e⟩
    · have e2 := (List.getElem?_eq_some_iff.mp e).1
      rw [List.length_append, List.length_singleton] at e2
      have e3 : k = l.length := by omega
      subst e3
      rw [List.getElem?_concat_length] at e
      exact .inr ⟨rfl, (Option.some.inj e).symm⟩
  have fl := h.fl
  refine ⟨h.ex, by rw [List.length_append, List.length_append, fl]; rfl, fun k a x h1 h2 => ?_, ?_, fun a ha => ?_, fun k q x h1 h2 hx a ha => ?_, h.pt, fun k q ds' h1 h2 a ha => ?_⟩
  · rcases hsz _ _ _ _ h1 with ⟨hk, h1'⟩ | ⟨hk, rfl⟩
    · rcases hsz _ _ _ _ h2 with ⟨hk2, h2'⟩ | ⟨hk2, rfl⟩
      · exact h.oo k a x h1' h2'
      · omega
    · rcases hsz _ _ _ _ h2 with ⟨hk2, h2'⟩ | ⟨hk2, rfl⟩
      · omega
      · exact ho
  · rw [List.flatten_append, List.nodup_append]
    refine ⟨h.nd, by simp, fun a ha b hb => ?_⟩
    have e : b = p := by simpa using hb
    rw [e]
    exact fun z => hm (z ▸ ha)
  · rw [List.flatten_append, List.mem_append] at ha
    rcases ha with ha | ha
    · exact h.al a ha
    · have e : a = p := by simpa using ha
      rw [e]
      exact hx
  · rcases hsz _ _ _ _ h1 with ⟨hk, h1'⟩ | ⟨hk, rfl⟩
    · rcases hsz _ _ _ _ h2 with ⟨hk2, h2'⟩ | ⟨hk2, rfl⟩
      · exact h.nf k q x h1' h2' hx a ha
      · omega
    · have e : a = p := by simpa using ha
      rw [e]
      exact hf
  · rcases hsz _ _ _ _ h1 with ⟨hk, h1'⟩ | ⟨hk, rfl⟩
    · rcases hsz _ _ _ _ h2 with ⟨hk2, h2'⟩ | ⟨hk2, e2⟩
      · exact h.np k q ds' h1' h2' a ha
      · omega
    · rcases hsz _ _ _ _ h2 with ⟨hk2, h2'⟩ | ⟨hk2, e2⟩
      · omega
      · exact absurd e2.symm (hl ds')
theorem eo_newdic : Ee K tDNewK S (.own S.ob.length) { S with ob := S.ob ++ [.dic (fun _ => none) 0] } := fun c Hf H σ fp ok Q q p hp => by
  obtain ⟨ok2, g2, nm, nc⟩ := ok.apart (.dK []) hp
  have hf := ok.hd.ex.free hp
  refine q _ Hf _ (fp ++ [[p]]) ⟨ok2.hd.ownO ⟨_, upd_same⟩ hf nm ⟨p, [], rfl, upd_same, Nat.le_refl _, fun k => rfl⟩ (fun ds z => by cases z), ok2.ln, fun i d e => ?_⟩ (g2.own hp) ⟨p, [], ?_, rfl⟩
  · obtain ⟨x, q1, q2⟩ := ok2.sr i d e
    exact ⟨x, q1, q2.mono (Same.refl _) (List.prefix_append _ _)⟩
  · rw [← ok.hd.fl, List.getElem?_concat_length]
theorem Okk.dic (ok : Okk K c Hf H σ fp S) {f : Int → Option Int} (ho : S.ob[k]? = some (.dic f n)) {v : V} (r : SRl K Hf fp (some v) (.own k)) :
    ∃ a kvs, v = .ref a ∧ fp[k]? = some [a] ∧ H a = some (.dK kvs) ∧ kvs.length ≤ n ∧ ∀ j : Int, valV kvs (Sum.inl j) = (f j).map V.int := by
  obtain ⟨a, q, h1, h2⟩ := r
  obtain ⟨a', kvs, e, h3, h4, h5⟩ := ok.hd.oo k _ _ h1 ho
  have e2 : a = a' ∧ q = [] := by simpa using e
  obtain ⟨rfl, rfl⟩ := e2
  exact ⟨a, kvs, h2, h1, h3, h4, h5⟩
/-- d.get(k, x) -/
theorem ee_dget2 {f : Int → Option Int} (hd : Ee K td S (.own k) S1) (ho : S1.ob[k]? = some (.dic f n)) (hk : Ee K ta S1 (.dat (.int i)) S1) (hx : Ee K tb S1 (.dat (.int j)) S1) : Ee K (tDGet2 td ta tb) S (.dat (.int ((f i).getD j))) S1 := fun c Hf H σ fp ok Q q =>
  hd c Hf H σ fp ok _ fun v Hf1 H1 fp1 ok1 g1 r1 => by
    obtain ⟨a, kvs, rfl, _, h2, h3, h4⟩ := ok1.dic ho r1
    refine ⟨a, rfl, .inl ⟨kvs, .inl h2⟩, hk c Hf1 H1 σ fp1 ok1 _ fun u Hf2 H2 fp2 ok2 g2 r2 => hx c Hf2 H2 σ fp2 ok2 _ fun u2 Hf3 H3 fp3 ok3 g3 r3 => ?_⟩
    cases r2
    cases r3
    obtain ⟨b, kvs3, e, _, h5, h6, h7⟩ := ok3.dic ho (r1.mono (g2.trans g3).sm (g2.trans g3).pr)
    cases e
    refine ⟨valV kvs3 (Sum.inl i), DGet.k (k := Sum.inl i) h5, ?_⟩
    rw [h7 i]
    have e : ((f i).map V.int).getD (V.int j) = V.int ((f i).getD j) := by cases f i <;> rfl
    rw [e]
    exact q _ _ _ _ ok3 ((g1.trans g2).trans g3) (Rp.int _)
theorem put_len (kvs : List (Key × V)) (k : Key) (v : V) : (putK kvs k v).length ≤ kvs.length + 1 := by
  unfold putK
  split
  · rw [List.length_map]
    exact Nat.le_succ _
  · rw [List.length_append, List.length_singleton]
    exact Nat.le_refl _
/-- d[k] = v -/
theorem ts_dput {f : Int → Option Int} {tk tv : TE} (hv : Ee K tv S (.dat (.int j)) S1) (hd : Ee K td S1 (.own k) S2) (hk : Ee K tk S2 (.dat (.int i)) S3) (ho : S3.ob[k]? = some (.dic f n)) (hz : n < 1000000)
    (kx : E.nx { S3 with ob := S3.ob.set k (.dic (fun m => if m = i then some j else f m) (n + 1)) }) : Ts K (sDPut td tk tv) S E := fun c Hf H σ fp ok D nn r bk ct =>
  hv c Hf H σ fp ok _ fun v Hf1 H1 fp1 ok1 g1 r1 => hd c Hf1 H1 σ fp1 ok1 _ fun u Hf2 H2 fp2 ok2 g2 r2 => hk c Hf2 H2 σ fp2 ok2 _ fun w Hf3 H3 fp3 ok3 g3 r3 => by
    cases r1
    cases r3
    obtain ⟨a, kvs, rfl, e0, h2, h3, h4⟩ := ok3.dic ho (r2.mono g3.sm g3.pr)
    obtain ⟨hd3, g4⟩ := ok3.hd.put (o' := .dic (fun m => if m = i then some j else f m) (n + 1)) (H' := upd H3 a (.dK (putK kvs (Sum.inl i) (.int j)))) e0 ho (by intro z; cases z) (fun b hb => upd_ne (by simpa using hb)) ⟨a, _, rfl, upd_same, by have := put_len kvs (Sum.inl i) (.int j); omega, fun m => by
      rw [valV_put, h4 m]
      show _ = (if m = i then some j else f m).map V.int
      by_cases e : m = i
      · rw [if_pos (by rw [e]), if_pos e]
        rfl
      · rw [if_neg (fun z => e (Sum.inl.inj z)), if_neg e]⟩ (fun b hb => by
      rw [show b = a by simpa using hb]
      exact ⟨_, upd_same⟩) (fun ds z => by cases z)
    refine ⟨a, _, rfl, DPut.k (k := Sum.inl i) h2 (Nat.lt_of_le_of_lt h3 (Nat.lt_of_lt_of_le hz (by decide))), ?_⟩
    exact nn { S3 with ob := S3.ob.set k (.dic (fun m => if m = i then some j else f m) (n + 1)) } _ _ _ _ ⟨hd3, ok3.ln, ok3.sr⟩ (((g1.trans g2).trans g3).trans g4) kx
end
end DL

set_option maxRecDepth 100000
set_option maxHeartbeats 1000000
/-! DLt: lists made as data at once -/
namespace DL
open PySem PySem.Spec PyProof.Rows L2
section
variable {K : PySem.W.Frag} {S S0 S1 S2 S3 S4 : SS} {ta tb tc td te : TE} {t u : TT} {x y z w : SD} {d e : PyData} {i j l : Int} {ds es : List PyData} {ns : List Int} {k n : Nat} {E : DE} {g : TG} {a b : Bool} {tbd : TS} {r : R2} {rc : List V → Hp → VK → Prop} {xs : List SD}
theorem ro_of_rol (h : RoL K r x y S ds S1) : Ro K r x y S (.dat (.list ds)) S1 := fun c Hf H σ fp ok v u rv ru Q q => h c Hf H σ fp ok v u rv ru Q fun p Hf1 H1 fp1 ok1 g1 hp al => by
  obtain ⟨Hf2, ok2, g2, rp⟩ := al.dat ok1
  exact q _ _ _ _ ok2 (g1.trans g2) rp
theorem rc_of_rcl (h : RcL K rc xs S ds S1) : Rc K rc xs S (.dat (.list ds)) S1 := fun c Hf H σ fp ok vs r Q q => h c Hf H σ fp ok vs r Q fun p Hf1 H1 fp1 ok1 g1 hp al => by
  obtain ⟨Hf2, ok2, g2, rp⟩ := al.dat ok1
  exact q _ _ _ _ ok2 (g1.trans g2) rp
theorem ro_cat (hl : ds.length + es.length ≤ 1000000) : Ro K (rPlus K) (.dat (.list ds)) (.dat (.list es)) S (.dat (.list (ds ++ es))) S := ro_of_rol (rol_cat (.dat _) (.dat _) hl)
theorem rc_listD : Rc K (rListOf K) [.dat (.list ds)] S (.dat (.list ds)) S := rc_of_rcl (rcl_listL (.dat _))
theorem rc_listT : Rc K (rListOf K) [.dat (.tuple ds)] S (.dat (.list ds)) S := rc_of_rcl rcl_listT
theorem rc_sortL : Rc K (rSortU K) [.dat (.list (ns.map PyData.int))] S (.dat (.list ((sortI ns).map PyData.int))) S := rc_of_rcl (rcl_sortL (.dat _))
theorem rc_sortT : Rc K (rSortU K) [.dat (.tuple (ns.map PyData.int))] S (.dat (.list ((sortI ns).map PyData.int))) S := rc_of_rcl rcl_sortT
theorem ee_slL {tl th : TO} {lo hi : Option Int} (h : Ee K te S x S1) (hl : Eo K tl S1 lo S2) (hh : Eo K th S2 hi S3) (hx : AsD S3 x (.list ds)) : Ee K (tSl (rSlU K) te tl th) S (.dat (.list (cutD ds lo hi))) S3 := ee_of_el (el_slU h hl hh hx)
theorem ee_revL (h : Ee K te S (.dat (.list ds)) S1) : Ee K (tRevL K te) S (.dat (.list ds.reverse)) S1 := ee_of_el (el_revL h (.dat _))
theorem ee_rng1 (h : Ee K te S (.dat (.int i)) S1) (hi : 0 ≤ i ∧ i ≤ 1000000) : Ee K (tLstRg (tRg1 te)) S (.dat (.list (rngD 0 i.toNat))) S1 := ee_of_el (el_rng1 h hi)
theorem ee_lst {tas : TA} (ha : Ed K tas S ds S1) (hz : ds.length ≤ 1000000) : Ee K (tLst tas) S (.dat (.list ds)) S1 := ee_of_el (el_lst ha hz)
theorem ee_tupz {tas : TA} (ha : Ed K tas S ds S1) (hz : ds.length ≤ 1000000) : Ee K (tTup tas) S (.dat (.tuple ds)) S1 := ee_tup ha hz
/-- a comprehension that leaves all as it is: what p lets, by f -/
theorem el_lcf {wi : TI} {vs : List Nat} {p : PyData → Bool} {f : PyData → PyData} (h : Ei K wi S ds S0) (hl : ds.length ≤ 1000000)
    (hs : ∀ (i : Nat) (d : PyData), ds[i]? = some d → ∃ Sg S2, Egc K vs g d { S0 with sl := wipeS S0.sl vs } Sg ∧ Et K t Sg (p d) S2 ∧ S2.ob = S0.ob ∧ (p d = true → ∃ S3, Ee K te S2 (.dat (f d)) S3 ∧ S3.ob = S0.ob)) : El K (tLc wi g t te vs) S ((ds.filter p).map f) S0 := by
  refine el_lc (obo := S0.ob) h (fun i acc ob => acc = ((ds.take i).filter p).map f ∧ ob = S0.ob) ⟨rfl, rfl⟩ ?_ hl ?_
  · rintro i d acc ob hd ⟨rfl, rfl⟩
    obtain ⟨Sg, S2, a1, a2, a3, a4⟩ := hs i d hd
    have e : ds.take (i + 1) = ds.take i ++ [d] := by
      rw [List.take_add_one, hd]
      rfl
    refine ⟨Sg, p d, S2, a1, a2, fun hb => ⟨?_, a3⟩, fun hb => ?_⟩
    · rw [e, List.filter_append, List.filter_cons, hb]
      simp
    · obtain ⟨S3, b1, b2⟩ := a4 hb
      refine ⟨f d, S3, b1, ?_, b2⟩
      rw [e, List.filter_append, List.filter_cons, hb]
      simp
  · rintro acc ob ⟨rfl, rfl⟩
    rw [List.take_of_length_le (Nat.le_refl _)]
    exact ⟨rfl, rfl⟩
theorem el_lcm {wi : TI} {vs : List Nat} {f : PyData → PyData} (h : Ei K wi S ds S0) (hl : ds.length ≤ 1000000)
    (hs : ∀ (i : Nat) (d : PyData), ds[i]? = some d → ∃ Sg, Egc K vs g d { S0 with sl := wipeS S0.sl vs } Sg ∧ ∃ S3, Ee K te Sg (.dat (f d)) S3 ∧ S3.ob = S0.ob ∧ Sg.ob = S0.ob) : El K (tLc wi g tYes te vs) S (ds.map f) S0 := by
  have := el_lcf (p := fun _ => true) (f := f) (g := g) (vs := vs) (t := tYes) (te := te) h hl fun i d hd => by
    obtain ⟨Sg, a1, S3, a2, a3, a4⟩ := hs i d hd
    exact ⟨Sg, Sg, a1, et_yes, a4, fun _ => ⟨S3, a2, a3⟩⟩
  rw [List.filter_eq_self.mpr fun _ _ => rfl] at this
  exact this
end
/-! ### within a comprehension the fragment is told -/
theorem pi_listK {X : Cx} (K : PySem.W.Frag) {tg l : Expr} {tl : TE} (e : X.K = K) (hl : PE X l tl) : PI X tg l (iList K tl) := e ▸ pi_list hl
theorem pi_tupK {X : Cx} (K : PySem.W.Frag) {tg l : Expr} {tl : TE} (e : X.K = K) (hl : PE X l tl) : PI X tg l (iTup K tl) := e ▸ pi_tup hl
theorem ixK {X : Cx} (K : PySem.W.Frag) {R : PySem.W.Frag → R2} (h : IxR X (R X.K)) (e : X.K = K) : IxR X (R K) := e ▸ h
theorem slK {X : Cx} (K : PySem.W.Frag) {R : PySem.W.Frag → V → Option Int → Option Int → Hp → VK → Prop} (h : SlR X (R X.K)) (e : X.K = K) : SlR X (R K) := e ▸ h
theorem callK {X : Cx} (K : PySem.W.Frag) {f : Value} {R : PySem.W.Frag → List V → Hp → VK → Prop} (h : CallR X f (R X.K)) (e : X.K = K) : CallR X f (R K) := e ▸ h
theorem pg_tupK {X : Cx} (K : PySem.W.Frag) {es : List Expr} {k : Nat} {pos : Pos} {t : TGs} {n : Nat} (e : X.K = K) (hc : X.calm = true) (h : PGs X es t)
    (hn : (assignEach es X.env).length = n := by rfl) (hst : (assignEach es X.env).findIdx? (·.1) = none := by rfl) : PG X (.Tuple es k pos) (gTup K n t) := e ▸ pg_tup hc h hn hst
/-! ### flat data: what == may see -/
structure Fl (k : Nat) (d : PyData) : Prop where
  c : d.canLay0 = true
  t : d.depth ≤ k
theorem fl_all {k : Nat} : ∀ {xs : List PyData}, (∀ x ∈ xs, Fl k x) → PyData.canLayAll0 xs = true ∧ PyData.depthAll xs ≤ k
  | [], _ => ⟨rfl, by simp [PyData.depthAll]⟩
  | x :: xs, h => by
    obtain ⟨h1, h2⟩ := fl_all (xs := xs) fun y hy => h y (List.mem_cons_of_mem _ hy)
    have h3 := h x List.mem_cons_self
    refine ⟨by simp [PyData.canLayAll0, h1, h3.c], ?_⟩
    unfold PyData.depthAll
    exact Nat.max_le.mpr ⟨h3.t, h2⟩
theorem Fl.mono {k j : Nat} {d : PyData} (h : Fl k d) (e : k ≤ j) : Fl j d := ⟨h.c, Nat.le_trans h.t e⟩
theorem Fl.int {k : Nat} {i : Int} : Fl k (.int i) := ⟨by simp [PyData.canLay0], Nat.zero_le _⟩
theorem Fl.bl {k : Nat} {b : Bool} : Fl k (.bool b) := ⟨by simp [PyData.canLay0], Nat.zero_le _⟩
theorem Fl.str {k : Nat} {x : Str} (h : PyData.strOk x = true := by decide +kernel) : Fl k (.str x) := ⟨by simpa [PyData.canLay0] using h, Nat.zero_le _⟩
theorem Fl.tup {k : Nat} {xs : List PyData} (h : ∀ x ∈ xs, Fl k x) : Fl (k + 1) (.tuple xs) := ⟨by simpa [PyData.canLay0] using (fl_all h).1, by simp only [PyData.depth]; have := (fl_all h).2; omega⟩
theorem Fl.lst {k : Nat} {xs : List PyData} (h : ∀ x ∈ xs, Fl k x) : Fl (k + 1) (.list xs) := ⟨by simpa [PyData.canLay0] using (fl_all h).1, by simp only [PyData.depth]; have := (fl_all h).2; omega⟩
theorem Fl.sh {k : Nat} {d : PyData} (h : Fl k d) (e : k ≤ 64 := by decide) : SeqAt.shaped d = true := by
  unfold SeqAt.shaped
  rw [h.c, Bool.true_and]
  exact decide_eq_true (Nat.le_trans h.t e)
theorem Fl.rI {k : Nat} {d : PyData} {ns : List Int} (h : d ∈ ns.map PyData.int) : Fl k d := by
  obtain ⟨i, _, rfl⟩ := List.mem_map.mp h
  exact .int
theorem Fl.ints {ns : List Int} : Fl 1 (.list (ns.map PyData.int)) := .lst fun x h => Fl.rI h
theorem Fl.intsT {ns : List Int} : Fl 1 (.tuple (ns.map PyData.int)) := .tup fun x h => Fl.rI h
theorem Fl.self {k : Nat} {d : PyData} (h : Fl k d) : PyData.eqv d d = true := SeqAt.eqv_refl d h.c
theorem eqv_ints : ∀ {ns ms : List Int}, PyData.eqvAll (ns.map PyData.int) (ms.map PyData.int) = decide (ns = ms)
  | [], [] => rfl
  | [], _ :: _ => rfl
  | _ :: _, [] => rfl
  | n :: ns, m :: ms => by
    show (PyData.eqv (.int n) (.int m) && PyData.eqvAll (ns.map PyData.int) (ms.map PyData.int)) = _
    rw [eqv_ints]
    show ((n == m) && decide (ns = ms)) = _
    by_cases e : n = m
    · subst e
      by_cases e2 : ns = ms
      · subst e2
        simp
      · rw [decide_eq_false e2, decide_eq_false (fun z => e2 (List.cons.inj z).2), Bool.and_false]
    · rw [decide_eq_false (fun z => e (List.cons.inj z).1), beq_eq_false_iff_ne.mpr e, Bool.false_and]
theorem eqv_listI {ns ms : List Int} : PyData.eqv (.list (ns.map PyData.int)) (.list (ms.map PyData.int)) = decide (ns = ms) := eqv_ints
theorem eqv_tupI {ns ms : List Int} : PyData.eqv (.tuple (ns.map PyData.int)) (.tuple (ms.map PyData.int)) = decide (ns = ms) := eqv_ints
theorem eqv_nilL {ds : List PyData} : PyData.eqv (.list ds) (.list []) = ds.isEmpty := by cases ds <;> rfl
theorem ro_neNil {K : PySem.W.Frag} {S : SS} {x y : SD} {ds : List PyData} {k : Nat} (hx : AsD S x (.list ds)) (hy : AsD S y (.list [])) (h : ∀ z ∈ ds, Fl k z) (hk : k + 1 ≤ 64 := by decide) : Ro K (rNeU K) x y S (.dat (.bool (!ds.isEmpty))) S := by
  have := ro_neD (K := K) hx hy ((Fl.lst h).sh hk) (by decide)
  rw [eqv_nilL] at this
  exact this
theorem cut_takeD {ds : List PyData} {c : Int} (h : 0 ≤ c) : cutD ds none (some c) = ds.take c.toNat := by
  unfold cutD
  have e1 : HT.sIx ds.length 0 none = 0 := rfl
  have e2 : HT.sIx ds.length ds.length (some c) = min c.toNat ds.length := by
    show (if c < 0 then (c + (ds.length : Int)).toNat else min c.toNat ds.length) = _
    rw [if_neg (by omega)]
  rw [e1, e2, List.drop_zero, Nat.sub_zero]
  by_cases q : c.toNat ≤ ds.length
  · rw [Nat.min_eq_left q]
  · rw [Nat.min_eq_right (by omega), List.take_of_length_le (Nat.le_refl _), List.take_of_length_le (by omega)]
/-- an own list that is not changed any more, seen as data from here on -/
theorem ts_ghost {K : PySem.W.Frag} {S : SS} {ts : TS} {E : DE} {i k : Nat} {ds : List PyData} (hi : S.sl[i]? = some (.own k)) (ho : S.ob[k]? = some (.lst ds)) (h : Ts K ts { S with sl := S.sl.set i (.dat (.list ds)), ob := S.ob.set k .gone } E) : Ts K ts S E := fun c Hf H σ fp ok D n r bk ct => by
  obtain ⟨x, e1, e2⟩ := ok.sr i _ hi
  cases x with
  | none => exact e2.elim
  | some v =>
    obtain ⟨a, xs, rfl, h1, h2, h3⟩ := ok.obL ho e2
    obtain ⟨hd, g2⟩ := ok.hd.freeze h1 ho h2
    have ok2 : Okk K c (upd Hf a (.lst xs)) H σ fp { S with ob := S.ob.set k .gone } := ⟨hd, ok.ln, fun j d e => by
      obtain ⟨x, q1, q2⟩ := ok.sr j d e
      exact ⟨x, q1, q2.mono g2.sm g2.pr⟩⟩
    have ok3 : Okk K c (upd Hf a (.lst xs)) H σ fp { S with sl := S.sl.set i (.dat (.list ds)), ob := S.ob.set k .gone } := by
      refine ⟨ok2.hd, by rw [List.length_set]; exact ok2.ln, fun j d e => ?_⟩
      by_cases hj : i = j
      · subst hj
        have hl : i < S.sl.length := (List.getElem?_eq_some_iff.mp hi).1
        have e' : (S.sl.set i (SD.dat (.list ds)))[i]? = some d := e
        rw [List.getElem?_set_self hl] at e'
        obtain rfl := Option.some.inj e'
        exact ⟨_, e1, Rp.lst upd_same (h3.mono g2.sm)⟩
      · have e' : (S.sl.set i (SD.dat (.list ds)))[j]? = some d := e
        rw [List.getElem?_set_ne hj] at e'
        exact ok2.sr j d e'
    exact h c _ H σ fp ok3 D (fun S' Hf' H' σ' fp' o g e => n S' Hf' H' σ' fp' o (g2.trans g) e) (fun x S' v Hf' H' σ' fp' o g q e => r x S' v Hf' H' σ' fp' o (g2.trans g) q e) (fun S' Hf' H' σ' fp' o g e => bk S' Hf' H' σ' fp' o (g2.trans g) e) fun S' Hf' H' σ' fp' o g e => ct S' Hf' H' σ' fp' o (g2.trans g) e
section
variable {K : PySem.W.Frag} {S : SS} {x y : SD} {d : PyData} {k : Nat}
theorem ro_neS_self {a : Str} : Ro K (rNeU K) (.dat (.str a)) (.dat (.str a)) S (.dat (.bool false)) S := by
  have := ro_neS (K := K) (S := S) (a := a) (b := a)
  rw [decide_eq_true rfl] at this
  exact this
theorem ro_eqS_self {a : Str} : Ro K (rEqU K) (.dat (.str a)) (.dat (.str a)) S (.dat (.bool true)) S := by
  have := ro_eqS (K := K) (S := S) (a := a) (b := a)
  rw [decide_eq_true rfl] at this
  exact this
theorem ro_neD_self (hx : AsD S x d) (hy : AsD S y d) (h : Fl k d) (hk : k ≤ 64 := by decide) : Ro K (rNeU K) x y S (.dat (.bool false)) S := by
  have := ro_neD (K := K) hx hy (h.sh hk) (h.sh hk)
  rw [h.self] at this
  exact this
theorem ro_eqD_self (hx : AsD S x d) (hy : AsD S y d) (h : Fl k d) (hk : k ≤ 64 := by decide) : Ro K (rEqU K) x y S (.dat (.bool true)) S := by
  have := ro_eqD (K := K) hx hy (h.sh hk) (h.sh hk)
  rw [h.self] at this
  exact this
end
end DL

set_option maxRecDepth 100000
set_option maxHeartbeats 1000000
/-! DLu: tuple(range(a, b, -1)), a walk down, whether a tuple is empty, a += b -/
namespace DL
open PySem PySem.Spec PyProof.Rows L2
/-! ### tuple(range(a, b, -1)) -/
def downV (i : Int) (n : Nat) : List V := (List.range n).map fun (k : Nat) => V.int (i + (k : Int) * (-1))
def tTupDn (ta : TA) : TE := fun σ H Q => ta σ H fun vs H1 => ∃ i j : Int, vs = [.int i, .int j, .int (-1)] ∧ (-1000000 ≤ i ∧ i ≤ 1000000 ∧ -1000000 ≤ j ∧ j ≤ 1000000) ∧ ∀ q, H1 q = none → Q (.ref q) (upd H1 q (.tup (downV i (i - j).toNat)))
theorem pe_tupDn {X : Cx} {a b c : Expr} {ta : TA} {p pos p2 pos2 : Pos} (hc : X.calm = true) (hg : Gl X "tuple") (hm : X.mg "tuple" = none) (hgr : Gl X "range") (hmr : X.mg "range" = none) (ha : PA X [a, b, c] ta)
    (n1 : starEach [a, b, c] X.env = (false, eval a X.env) :: starEach [b, c] X.env := by rfl) (n2 : (backTo pos2 (starEach [b, c] X.env)).any (·.1) = false := by rfl)
    (n3 : starEach [.Call (.Name "range" p2) [a, b, c] [] pos2] X.env = (false, eval (.Call (.Name "range" p2) [a, b, c] [] pos2) X.env) :: starEach [] X.env := by rfl) :
    PE X (.Call (.Name "tuple" p) [.Call (.Name "range" p2) [a, b, c] [] pos2] [] pos) (tTupDn ta) := by
  constructor
  intro pins s σ H Q I h
  have inner : wpAny (model X.prog X.w) X.A (eval (.Call (.Name "range" p2) [a, b, c] [] pos2) X.env) (fun x s' => ∃ (r : Addr) (i j : Int) (t u v : Tok) (H' : Hp), x = .ref r ∧ IsRange s'.heap r i j (-1) t u v ∧ Inv X pins σ H' s' ∧ (-1000000 ≤ i ∧ i ≤ 1000000 ∧ -1000000 ≤ j ∧ j ≤ 1000000) ∧ ∀ q, H' q = none → Q (.ref q) (upd H' q (.tup (downV i (i - j).toNat)))) X.xe s := by
    refine Call_ (ld_blt I hgr hmr boot_range (PyProof.Rows.callWith_type1 (thn (ha.run pos2 pins s σ H _ I h) fun us s1 ⟨vs, H1, I1, r1, q1⟩ => ?_) n1 n2))
    obtain ⟨i, j, e, bd, q⟩ := q1
    subst e
    cases r1 with
    | cons r rr => cases rr with
      | cons r' rr => cases rr with
        | cons r'' rr =>
          cases rr
          obtain ⟨t, rfl⟩ := r
          obtain ⟨t', rfl⟩ := r'
          obtain ⟨t'', rfl⟩ := r''
          exact call_range_3 (by decide) ⟨_, i, j, t, t', t'', H1, rfl, IsRange.new _ _ _ _ _ _ _, I1.kept (t' := s1.toks) fun _ _ e => Heap.get?_push_of_some _ e, bd, q⟩ (.inl (PyProof.noPylong_small (by decide)))
  refine Call_ (ld_blt I hg hm boot_tuple (PyProof.Rows.callWith_type1 (args_cons (thn inner fun x s1 ⟨r, i, j, t, u, v, H1, ex, hr, I1, bd, q⟩ => args_nil ?_) n3) n3))
  subst ex
  refine call_tuple_range (n := (i - j).toNat) (I1.ok.hd hc) hr (PySem.W.small_down (by omega) (by omega) (by omega) (by omega)) (PySem.W.rangeSize_downNat i j) (by omega) fun h' tk acc hk hi => ?_
  have I2 : Inv X pins σ H1 { s1 with heap := h', toks := tk } := I1.kept hk
  have len : acc.toList.length = (i - j).toNat := by rw [Array.length_toList]; exact hi.1
  have vals : Vals (downV i (i - j).toNat) acc.toList := by
    unfold downV
    rw [← len]
    refine vals_of_get acc.toList _ fun m w hw => ?_
    obtain ⟨t, rfl⟩ := hi.2 m w (by rw [← hw, Array.getElem?_toList])
    exact ⟨t, rfl⟩
  refine ⟨.ref h'.objs.size, upd H1 h'.objs.size (.tup (downV i (i - j).toNat)), I2.laid (t' := tk) (fun _ _ e => Heap.get?_push_of_some _ e) (Nat.le_refl _) (show ObjOk X.prog X.w _ _ _ (.tup (downV i (i - j).toNat)) from ⟨?_, acc.toList, vals, ?_⟩), rfl, q _ (I2.hok.fresh (Nat.le_refl _))⟩
  · unfold downV
    rw [List.length_map, List.length_range, sizeLine_eq]
    omega
  · rw [Array.toArray_toList]
    exact IsTup.new _ _
def downD (i : Int) (n : Nat) : List PyData := (List.range n).map fun (k : Nat) => PyData.int (i + (k : Int) * (-1))
theorem downD_len (i : Int) (n : Nat) : (downD i n).length = n := by
  unfold downD
  rw [List.length_map, List.length_range]
theorem downD_get {i : Int} {n k : Nat} {d : PyData} (h : (downD i n)[k]? = some d) : k < n ∧ d = .int (i + (k : Int) * (-1)) := by
  unfold downD at h
  rw [List.getElem?_map] at h
  by_cases hk : k < n
  · rw [List.getElem?_range hk] at h
    exact ⟨hk, (Option.some.inj h).symm⟩
  · rw [List.getElem?_eq_none (by rw [List.length_range]; omega)] at h
    cases h
section
variable {K : PySem.W.Frag} {S S0 S1 S2 S3 S4 : SS} {ta tb tc td te : TE} {t u : TT} {x y z w : SD} {d e : PyData} {i j l : Int} {ds es : List PyData} {ns : List Int} {k n : Nat} {E : DE} {g : TG} {a b : Bool} {tbd : TS}
theorem rp_down {Hf : Hp} (i : Int) (n : Nat) : RpA K Hf (downV i n) (downD i n) := by
  unfold downV downD
  induction (List.range n) with
  | nil => exact .nil
  | cons a r ih => exact .cons (.int _) ih
theorem ee_tupDn {tas : TA} (h : Ed K tas S [.int i, .int j, .int (-1)] S1) (hb : -1000000 ≤ i ∧ i ≤ 1000000 ∧ -1000000 ≤ j ∧ j ≤ 1000000) : Ee K (tTupDn tas) S (.dat (.tuple (downD i (i - j).toNat))) S1 := fun c Hf H σ fp ok Q q =>
  h c Hf H σ fp ok _ fun v Hf1 H1 fp1 ok1 g1 r1 => by
    cases r1 with
    | cons r1 rr => cases rr with
      | cons r2 rr => cases rr with
        | cons r3 rr =>
          cases rr
          cases r1
          cases r2
          cases r3
          refine ⟨i, j, rfl, hb, fun p hp => ?_⟩
          obtain ⟨ok2, g2⟩ := ok1.laid (.tup _) hp
          exact q _ _ _ _ ok2 (g1.trans g2) (Rp.tup (.inl (.inl upd_same)) (rp_down _ _))
theorem ei_down {tas : TA} (h : Ed K tas S [.int i, .int j, .int (-1)] S1) (hb : -1000000 ≤ i ∧ i ≤ 1000000 ∧ -1000000 ≤ j ∧ j ≤ 1000000) : Ei K (iRng3 tas) S (downD i (i - j).toNat) S1 := fun c Hf H σ fp ok R q => h c Hf H σ fp ok _ fun v Hf1 H1 fp1 ok1 g1 r1 => by
  cases r1 with
  | cons r1 rr => cases rr with
    | cons r2 rr => cases rr with
      | cons r3 rr =>
        cases rr
        cases r1
        cases r2
        cases r3
        refine ⟨i, j, -1, (i - j).toNat, rfl, RgC.neg (by omega) (by omega) (by omega) (by omega), q _ Hf1 H1 fp1 ok1 g1 (wk_of walk_rangeC (downD_len _ _) (fun _ _ _ _ => trivial) fun m d Hf2 H2 x H3 e1 e2 hd y => .inl ?_)⟩
        obtain ⟨rfl, rfl⟩ := y
        obtain ⟨_, rfl⟩ := downD_get hd
        exact ⟨rfl, .int _⟩
/-! ### whether a tuple is empty -/
def tTru (K : PySem.W.Frag) (ta : TE) : TT := fun σ H Q => ta σ H fun x H' => ∃ k, TruV K x H' k ∧ Q k H'
theorem pt_tru {X : Cx} {a : Expr} {ta : TE} (ha : PE X a ta) (he : ∀ whole, isTrue a X.env whole = (do let v ← whole; standAt a.pos; holding [v] (truthy v)) := by intro _; rfl) : PT X a (tTru X.K ta) := pt_truth ha he
theorem et_truT (h : Ee K te S (.dat (.tuple ds)) S1) : Et K (tTru K te) S (!ds.isEmpty) S1 := fun c Hf H σ fp ok Q q => h c Hf H σ fp ok _ fun v Hf1 H1 fp1 ok1 g1 r1 => by
  cases r1 with
  | @tup a xs _ h1 h2 =>
    refine ⟨_, .inr (.inl ⟨xs, sameT ok1.hd.ex h1, ?_⟩), q _ _ _ ok1 g1⟩
    cases h2 <;> rfl
theorem rc_min2 : Rc K (fun xs H Q => ∃ i j, xs = [.int i, .int j] ∧ Q (.int (if j < i then j else i)) H) [.dat (.int i), .dat (.int j)] S (.dat (.int (if j < i then j else i))) S := fun c Hf H σ fp ok vs r Q q => by
  obtain ⟨v, u, rfl, r1, r2⟩ := r.two
  cases r1
  cases r2
  exact ⟨i, j, rfl, q _ _ _ _ ok Gr.refl (Rp.int _)⟩
theorem rc_max2 : Rc K (fun xs H Q => ∃ i j, xs = [.int i, .int j] ∧ Q (.int (if j > i then j else i)) H) [.dat (.int i), .dat (.int j)] S (.dat (.int (if j > i then j else i))) S := fun c Hf H σ fp ok vs r Q q => by
  obtain ⟨v, u, rfl, r1, r2⟩ := r.two
  cases r1
  cases r2
  exact ⟨i, j, rfl, q _ _ _ _ ok Gr.refl (Rp.int _)⟩
theorem et_orF (h1 : Et K t S false S1) (h2 : Et K u S1 b S2) : Et K (tOr t u) S b S2 := fun c Hf H σ fp ok Q q => h1 c Hf H σ fp ok _ fun Hf1 H1 fp1 ok1 g1 => h2 c Hf1 H1 σ fp1 ok1 Q fun Hf2 H2 fp2 ok2 g2 => q Hf2 H2 fp2 ok2 (g1.trans g2)
theorem et_andT (h1 : Et K t S true S1) (h2 : Et K u S1 b S2) : Et K (tAnd t u) S b S2 := fun c Hf H σ fp ok Q q => h1 c Hf H σ fp ok _ fun Hf1 H1 fp1 ok1 g1 => h2 c Hf1 H1 σ fp1 ok1 Q fun Hf2 H2 fp2 ok2 g2 => q Hf2 H2 fp2 ok2 (g1.trans g2)
theorem ee_andT (h1 : Ee K ta S (.dat (.bool true)) S1) (h2 : Ee K tb S1 x S2) : Ee K (tAndV ta tb) S x S2 := fun c Hf H σ fp ok Q q => h1 c Hf H σ fp ok _ fun v Hf1 H1 fp1 ok1 g1 r1 => by
  cases r1
  exact ⟨true, rfl, h2 c Hf1 H1 σ fp1 ok1 Q fun v Hf2 H2 fp2 ok2 g2 r2 => q v Hf2 H2 fp2 ok2 (g1.trans g2) r2⟩
theorem ee_orF (h1 : Ee K ta S (.dat (.bool false)) S1) (h2 : Ee K tb S1 x S2) : Ee K (tOrV ta tb) S x S2 := fun c Hf H σ fp ok Q q => h1 c Hf H σ fp ok _ fun v Hf1 H1 fp1 ok1 g1 r1 => by
  cases r1
  exact ⟨false, rfl, h2 c Hf1 H1 σ fp1 ok1 Q fun v Hf2 H2 fp2 ok2 g2 r2 => q v Hf2 H2 fp2 ok2 (g1.trans g2) r2⟩
end
end DL

set_option maxRecDepth 100000
set_option maxHeartbeats 4000000
/-! DLset: set(..) of whole numbers, out of a list with any of them twice; sorted(set(..)) -/
namespace DL
open PySem PySem.Spec PyProof.Rows L2
abbrev mtSet (w : World) : Obj := { cls := .type "set", dict := none, data := .set #[] 0 (.fresh 0 0 (!w.params.followText "set-order")) }
section
variable {P : Program} {w : World} {A : Around} {E : Value → Shared → Prop} {s : Shared}
set_option maxHeartbeats 6400000 in
theorem set_of_lst {l : Addr} {items : Array Value} (ns : List Int) {Q : Value → Shared → Prop} (none_ : A.handled = none) (isl : s.heap.IsList l items) (nums : IntsAre items.toList ns) (few : ns.length + 1 < scanBound)
    (then_ : ∀ (h2 : Heap) (t2 c : Nat), SetR w h2 s.heap.objs.size (fun j => decide (j ∈ ns)) c → c ≤ ns.length → (∀ b o, s.heap.get? b = some o → h2.get? b = some o) → Q (.ref s.heap.objs.size) { s with heap := h2, toks := t2 }) : wpAny (model P w) A (call (.type "set") [.ref l]) Q E s := by
  have size : items.size = ns.length := (Array.length_toList (xs := items)).symm.trans (IntsAre.length nums)
  obtain ⟨_, _, hmro⟩ := F.called_set.mro
  have m1 := F.called_set.made; have m2 := F.called_set.sub
  refine wpAny_call (codeAny_of_tree (show wpAny _ _ (callAny (.type "set") _) _ _ _ from wpAny_pure ⟨Code.quiet_builtin _ (by decide +kernel), codeAny_builtin F.entry_type_call ?_⟩))
  rw [Around.under_plain (weight_type_call_type "set" [.ref l] []) rfl]
  have m3 := F.called_set.notType; have m4 := F.called_set.canCreate; have m5 := F.typeCall_set_1 (.ref l)
  repeat (any_goals (first | assumption | wp_step))
  refine codeAny_mono (code_set_led1 (.ref l) (E := E) (Q₁ := fun ob s1 => ob = .ref s.heap.objs.size ∧ s1 = { s with heap := s.heap.push (mtSet w) }) ⟨rfl, rfl⟩) fun r s1 hr => ?_
  rcases r with e | (_ | _ | _ | ob)
  · exact hr
  · exact hr.elim
  · exact hr.elim
  · exact hr.elim
  obtain ⟨rfl, rfl⟩ := hr
  have there : (s.heap.push (mtSet w)).get? s.heap.objs.size = some (mtSet w) := Heap.get?_push_size _ rfl
  have kind : Shared.TypeIs { s with heap := s.heap.push (mtSet w) } (.ref s.heap.objs.size) "set" := ⟨_, there, rfl⟩
  have n1 := F.called_set.init.lookup; have n2 := F.called_set.init.bind (.ref s.heap.objs.size)
  repeat (any_goals (first | assumption | wp_step))
  refine codeAny_mono (codeAny_call_builtin (R := wants (fun r s2 => r = .none ∧ ∃ h2 t2 c, s2 = { s with heap := h2, toks := t2 } ∧ SetR w h2 s.heap.objs.size (fun j => decide (j ∈ ns)) c ∧ c ≤ ns.length ∧ (∀ b o, s.heap.get? b = some o → h2.get? b = some o)) E) F.called_set.init.plain F.entry_set_init (check_set_init_1 kind ?_)) fun r2 s2 hr2 => ?_
  · obtain ⟨⟨oc, od, odt, osl⟩, at_, rfl, n, rfl⟩ := isl
    have at2 : (s.heap.push (mtSet w)).get? l = some { cls := .type "list", dict := od, data := .seq items n, slots := osl } := Heap.get?_push_of_some _ at_
    have isl2 : (s.heap.push (mtSet w)).IsList l items := ⟨_, at2, rfl, n, rfl⟩
    have k1 := F.sub_list_set; have k2 := F.sub_list_frozenset
    have k3 : (Value.type "list" == Value.type "dict") = false := by decide
    unfold Builtin.«set.__init__» noKeywords Builtin.Frozenset.updateFrom
    generalize hi : pyIter = IT
    wp_walk
    subst hi
    refine wpAny_pyIter_list isl2 (wpAny_bind (wpAny_runValue ?_))
    have low : l < s.heap.objs.size := Heap.lt_size at_
    have none3 : A.in1.in1.in1.handled = none := by simp [none_]
    have sz1 : (s.heap.push (mtSet w)).objs.size = s.heap.objs.size + 1 := Heap.size_push ..
    have apart : l ≠ (s.heap.push (mtSet w)).objs.size := by
      rw [sz1]
      exact Nat.ne_of_lt (Nat.lt_succ_of_lt low)
    have out : s.heap.objs.size ∉ [(s.heap.push (mtSet w)).objs.size, l] := by
      rw [sz1, List.mem_cons, List.mem_singleton, not_or]
      exact ⟨Nat.ne_of_lt (Nat.lt_succ_self _), Nat.ne_of_gt low⟩
    have each : ∀ (i : Nat) (v : Value), items[i]? = some v → ∃ k t, ns[i]? = some k ∧ v = .int k t := fun i v hv => by
      have lt : i < ns.length := size ▸ (Array.getElem?_eq_some_iff.mp hv).1
      obtain ⟨t, e⟩ := PyProof.Rows.IntsAre.int_at nums i v (by rw [Array.getElem?_toList]; exact hv)
      exact ⟨ns[i], t, List.getElem?_eq_getElem lt, by rw [e, List.getD_eq_getElem?_getD, List.getElem?_eq_getElem lt]; rfl⟩
    refine set_update_ints ((Walks.list none3 _ l apart items).toS) s.heap.objs.size out ns size few each (items.size - 0) 0 _ (by omega) (Nat.zero_le _) ⟨⟨_, Heap.get?_push_size _ rfl, rfl, rfl⟩, isl2.push _⟩ ⟨0, Nat.le_refl 0, setR_new_at (Heap.get?_push_of_some _ there)⟩ fun s3 c3 mv le st => ?_
    obtain ⟨h3, g3, d3, t3, o3⟩ := s3
    obtain rfl : g3 = s.gens := mv.gens
    obtain rfl : d3 = s.drawn := mv.drawn
    obtain rfl : o3 = s.os := mv.os
    rw [size] at le
    refine wpAny_pure (show wpAny _ _ (ret Value.none) _ _ _ from wpAny_pure ⟨rfl, h3, t3, c3, rfl, st, le, fun b o e => ?_⟩)
    have lb : b < s.heap.objs.size := Heap.lt_size e
    refine mv.heap b o ?_ (Heap.get?_push_of_some _ (Heap.get?_push_of_some _ e))
    rw [List.mem_cons, List.mem_singleton, not_or]
    exact ⟨Nat.ne_of_lt lb, by rw [sz1]; exact Nat.ne_of_lt (Nat.lt_succ_of_lt lb)⟩
  · rcases r2 with e | (_ | _ | _ | v)
    · exact hr2
    · exact hr2.elim
    · exact hr2.elim
    · exact hr2.elim
    obtain ⟨rfl, h2, t2, c, rfl, z1, z2, z3⟩ := hr2
    repeat (any_goals (first | assumption | wp_step))
    exact then_ _ _ _ z1 z2 z3
end
end DL

set_option maxRecDepth 100000
set_option maxHeartbeats 4000000
namespace DL
open PySem PySem.Spec PyProof.Rows L2
/-! ### as rules -/
def rSetI (K : PySem.W.Frag) (w : World) : List V → Hp → VK → Prop := fun xs H Q => ∃ (a : Addr) (ns : List Int), xs = [.ref a] ∧ (SqL K H a (ns.map V.int) ∨ SqT K H a (ns.map V.int)) ∧ ns.length ≤ 4000 ∧
  ∀ (p : Addr) (S : Int → Bool) (n : Nat), H p = none → (∀ k : Int, S k = true ↔ k ∈ ns) → (∀ us : List Int, (∀ k ∈ ns, k ∈ us) → n ≤ us.length) → Q (.ref p) (upd H p (SetO w p S n))
theorem nodup_le : ∀ {xs ys : List Int}, xs.Nodup → (∀ x ∈ xs, x ∈ ys) → xs.length ≤ ys.length
  | [], _, _, _ => Nat.zero_le _
  | x :: xs, ys, nd, h => by
    have hx := h x List.mem_cons_self
    have n2 := List.nodup_cons.mp nd
    have ih := nodup_le (xs := xs) (ys := ys.erase x) n2.2 fun y hy => (List.mem_erase_of_ne (fun e => by subst e; exact n2.1 hy)).mpr (h y (List.mem_cons_of_mem _ hy))
    have e := List.length_erase_of_mem hx
    have : 0 < ys.length := List.length_pos_of_mem hx
    rw [List.length_cons]
    omega
theorem setR_few {w : World} {h : Heap} {a : Addr} {ns : List Int} {c : Nat} (R : SetR w h a (fun j => decide (j ∈ ns)) c) (us : List Int) (hu : ∀ k ∈ ns, k ∈ us) : c ≤ us.length := by
  obtain ⟨o, es, ep, t, _, _, _, _, nd, mem, _, _, hn, _⟩ := R
  have := nodup_le nd (ys := us) fun x hx => hu x (of_decide_eq_true ((mem x).mpr hx))
  rw [List.length_map, Array.length_toList, hn] at this
  exact this
theorem cr_setI {X : Cx} (hc : X.calm = true) : CallR X (.type "set") (rSetI X.K X.w) := fun pins s σ H xs us Q I r h => by
  obtain ⟨a, ns, rfl, ha, few, q⟩ := h
  rw [Vals.ref1 r]
  have big : ns.length + 1 < scanBound := by
    unfold scanBound
    omega
  have fin : ∀ (h2 : Heap) (t2 c : Nat), SetR X.w h2 s.heap.objs.size (fun j => decide (j ∈ ns)) c → c ≤ ns.length → (∀ b o, s.heap.get? b = some o → h2.get? b = some o) → EP X pins σ Q (.ref s.heap.objs.size) { s with heap := h2, toks := t2 } := fun h2 t2 c R _ keep =>
    ⟨.ref _, upd H s.heap.objs.size (SetO X.w s.heap.objs.size (fun j => decide (j ∈ ns)) c), I.laid (t' := t2) keep (Nat.le_refl _) (setO_new R), rfl, q _ _ _ (I.hok.fresh (Nat.le_refl _)) (fun k => decide_eq_true_iff) (setR_few R)⟩
  rcases ha with ha | ha
  · obtain ⟨its, rv, p, _⟩ := I.list ha
    exact set_of_lst ns (I.ok.hd hc) p.isList (by simpa using rv.ints) big fin
  · obtain ⟨its, rv, p, _⟩ := I.tuple ha
    exact call_set_tupI ns (I.ok.hd hc) (show s.heap.IsTuple a its.toArray from p) (by simpa using rv.ints) big fin
/-! ### as data: sorted(set(..)) -/
def insI (x : Int) : List Int → List Int
  | [] => [x]
  | y :: ys => if x < y then x :: y :: ys else if x = y then y :: ys else y :: insI x ys
def setI (ns : List Int) : List Int := ns.foldr insI []
theorem insI_mem (x : Int) : ∀ {l : List Int} {k : Int}, k ∈ insI x l ↔ k = x ∨ k ∈ l
  | [], k => by simp [insI]
  | y :: ys, k => by
    unfold insI
    split
    · simp
    split
    · rename_i e
      subst e
      simp
    · rw [List.mem_cons, insI_mem x, List.mem_cons]
      constructor
      · rintro (h | h | h)
        · exact .inr (.inl h)
        · exact .inl h
        · exact .inr (.inr h)
      · rintro (h | h | h)
        · exact .inr (.inl h)
        · exact .inl h
        · exact .inr (.inr h)
theorem insI_sorted (x : Int) : ∀ {l : List Int}, l.Pairwise (· < ·) → (insI x l).Pairwise (· < ·)
  | [], _ => List.pairwise_singleton _ _
  | y :: ys, h => by
    have h2 := List.pairwise_cons.mp h
    unfold insI
    split
    · rename_i lt
      refine List.pairwise_cons.mpr ⟨fun z hz => ?_, h⟩
      rcases List.mem_cons.mp hz with e | hz
      · rw [e]
        exact lt
      · have := h2.1 z hz
        omega
    split
    · exact h
    · refine List.pairwise_cons.mpr ⟨fun z hz => ?_, insI_sorted x h2.2⟩
      rcases (insI_mem x).mp hz with e | hz
      · omega
      · exact h2.1 z hz
theorem setI_mem : ∀ {ns : List Int} {k : Int}, k ∈ setI ns ↔ k ∈ ns
  | [], k => Iff.rfl
  | n :: ns, k => by
    show k ∈ insI n (setI ns) ↔ _
    rw [insI_mem, setI_mem, List.mem_cons]
theorem setI_sorted : ∀ ns : List Int, (setI ns).Pairwise (· < ·)
  | [] => .nil
  | n :: ns => insI_sorted n (setI_sorted ns)
theorem lt_uniq : ∀ {xs ys : List Int}, xs.Pairwise (· < ·) → ys.Pairwise (· < ·) → (∀ k, k ∈ xs ↔ k ∈ ys) → xs = ys
  | [], [], _, _, _ => rfl
  | [], y :: ys, _, _, h => absurd ((h y).mpr List.mem_cons_self) (by simp)
  | x :: xs, [], _, _, h => absurd ((h x).mp List.mem_cons_self) (by simp)
  | x :: xs, y :: ys, h1, h2, h => by
    have a := List.pairwise_cons.mp h1
    have b := List.pairwise_cons.mp h2
    have e : x = y := by
      rcases List.mem_cons.mp ((h x).mp List.mem_cons_self) with e | m
      · exact e
      · rcases List.mem_cons.mp ((h y).mpr List.mem_cons_self) with e | m2
        · exact e.symm
        · have := b.1 x m
          have := a.1 y m2
          omega
    subst e
    rw [lt_uniq a.2 b.2 fun k => ?_]
    constructor
    · intro hk
      rcases List.mem_cons.mp ((h k).mp (List.mem_cons_of_mem _ hk)) with e | m
      · have := a.1 k hk
        omega
      · exact m
    · intro hk
      rcases List.mem_cons.mp ((h k).mpr (List.mem_cons_of_mem _ hk)) with e | m
      · have := b.1 k hk
        omega
      · exact m
section
variable {K : PySem.W.Frag} {w : World} {S S1 : SS} {te : TE} {x : SD} {ns us : List Int} {rc : List V → Hp → VK → Prop}
/-- sorted(set(x)), x a list or a tuple of whole numbers, few unlike ones -/
theorem el_sset {tas : TA} (h : Ea K tas S [x] S1) (hx : AsD S1 x (.list (ns.map PyData.int)) ∨ x = .dat (.tuple (ns.map PyData.int))) (hz : ns.length ≤ 4000) (hu : ∀ k ∈ ns, k ∈ us) (h64 : us.length < 64) :
    El K (tCB (rSortedSet w) (tCons (tCB (rSetI K w) tas) tNil)) S ((setI ns).map PyData.int) S1 := fun c Hf H σ fp ok Q q =>
  h c Hf H σ fp ok _ fun vs Hf1 H1 fp1 ok1 g1 r1 => by
    obtain ⟨v, rfl, rv⟩ := r1.one
    have key : ∃ a, v = .ref a ∧ (SqL K H1 a (ns.map V.int) ∨ SqT K H1 a (ns.map V.int)) := by
      rcases hx with hx | rfl
      · obtain ⟨a, xs, rfl, h1, h2⟩ := ok1.asL rv hx
        obtain rfl := RpA.ints_inv h2
        exact ⟨a, rfl, .inl (.inl (.inl h1))⟩
      · cases rv with
        | tup h1 h2 =>
          obtain rfl := RpA.ints_inv h2
          exact ⟨_, rfl, .inr (sameT ok1.hd.ex h1)⟩
    obtain ⟨a, rfl, ha⟩ := key
    refine ⟨a, ns, rfl, ha, hz, fun p M n hp hM hn => ?_⟩
    obtain ⟨ok2, g2⟩ := ok1.laid (SetO w p M n) hp
    have few := hn us hu
    refine ⟨p, M, n, rfl, upd_same, by omega, fun ms l e1 e2 e3 hl => ?_⟩
    have e : ms = setI ns := lt_uniq e1 (setI_sorted ns) fun k => (e2 k).trans ((hM k).trans setI_mem.symm)
    subst e
    obtain ⟨ok3, g3, al⟩ := ok2.alone hl (RpA.ints (setI ns))
    have G := g1.trans g2
    exact q l _ _ _ ok3 (G.trans g3) (none_back G.th hl) al
end
end DL

set_option maxRecDepth 100000
set_option maxHeartbeats 1000000
/-! DLv: in and not in, is True, the least of a tuple, l.extend(t) -/
namespace DL
open PySem PySem.Spec PyProof.Rows L2
/-! ### min(t), max(t) -/
def rMinT (K : PySem.W.Frag) : List V → Hp → VK → Prop := fun vs H Q => ∃ (a : Addr) (n : Int) (ns : List Int), vs = [V.ref a] ∧ (SqT K H a ((n :: ns).map V.int) ∨ SqL K H a ((n :: ns).map V.int)) ∧ Q (.int (ns.foldl min n)) H
def rMaxT (K : PySem.W.Frag) : List V → Hp → VK → Prop := fun vs H Q => ∃ (a : Addr) (n : Int) (ns : List Int), vs = [V.ref a] ∧ (SqT K H a ((n :: ns).map V.int) ∨ SqL K H a ((n :: ns).map V.int)) ∧ Q (.int (ns.foldl max n)) H
theorem reads_ints {h : Heap} : ∀ {us : List Value} {ns : List Int}, IntsAre us ns → ReadsAll h us (ns.map PyData.int) []
  | _, _, .nil => .nil
  | _, _, .cons n t r => .cons (as := []) (bs := []) (.int n t) (reads_ints r)
theorem alike_ints (ns : List Int) : PySem.W.AlikeAll (ns.map PyData.int) := ⟨fun x hx y hy => by
  obtain ⟨i, _, rfl⟩ := List.mem_map.mp hx
  obtain ⟨j, _, rfl⟩ := List.mem_map.mp hy
  rfl, fun x hx => by
  obtain ⟨i, _, rfl⟩ := List.mem_map.mp hx
  intro z
  cases z⟩
theorem depth_ints : ∀ ns : List Int, PyData.depthAll (ns.map PyData.int) = 0
  | [] => rfl
  | n :: ns => by
    show max (PyData.depth (.int n)) (PyData.depthAll (ns.map PyData.int)) = 0
    rw [depth_ints ns]
    rfl
theorem cr_minT {X : Cx} (hc : X.calm = true) (hu : X.A.units + 100 < cLine) : CallR X (.builtin "min") (rMinT X.K) := fun pins s σ H vs us Q I r h => by
  obtain ⟨a, n, ns, rfl, ha, q⟩ := h
  rw [Vals.ref1 r]
  have room : X.A.units + 1 + PyData.depthAll (PyData.int n :: ns.map PyData.int) < cLine := by
    rw [show PyData.depthAll (PyData.int n :: ns.map PyData.int) = 0 from depth_ints (n :: ns)]
    omega
  have fin : ∀ (v : Value) (h2 : Heap) (tk : Nat) (bs : List Addr), Reads h2 v (PySem.W.minD (.int n) (ns.map PyData.int)) bs → (∀ b o, s.heap.get? b = some o → h2.get? b = some o) → EP X pins σ Q v { s with heap := h2, toks := tk } := fun v h2 tk bs rd keep => by
    rw [PySem.W.minD_ints] at rd
    cases rd with
    | int i t => exact ⟨.int _, H, I.kept keep, ⟨t, rfl⟩, q⟩
  rcases ha with ha | ha
  · obtain ⟨its, rv, p, _⟩ := I.tuple ha
    exact PySem.W.min_tuple_data (I.ok.hd hc) (show s.heap.IsTuple a its.toArray from p) (by simpa using reads_ints rv.ints) (alike_ints (n :: ns)) room fun _ v h2 tk bs _ rd keep => fin v h2 tk bs rd keep
  · obtain ⟨its, rv, p, _⟩ := I.list ha
    exact PySem.W.min_list_data (I.ok.hd hc) p.isList (by simpa using reads_ints rv.ints) (alike_ints (n :: ns)) room fun _ v h2 tk bs _ rd keep => fin v h2 tk bs rd keep
theorem cr_maxT {X : Cx} (hc : X.calm = true) (hu : X.A.units + 100 < cLine) : CallR X (.builtin "max") (rMaxT X.K) := fun pins s σ H vs us Q I r h => by
  obtain ⟨a, n, ns, rfl, ha, q⟩ := h
  rw [Vals.ref1 r]
  have room : X.A.units + 1 + PyData.depthAll (PyData.int n :: ns.map PyData.int) < cLine := by
    rw [show PyData.depthAll (PyData.int n :: ns.map PyData.int) = 0 from depth_ints (n :: ns)]
    omega
  have fin : ∀ (v : Value) (h2 : Heap) (tk : Nat) (bs : List Addr), Reads h2 v (PySem.W.maxD (.int n) (ns.map PyData.int)) bs → (∀ b o, s.heap.get? b = some o → h2.get? b = some o) → EP X pins σ Q v { s with heap := h2, toks := tk } := fun v h2 tk bs rd keep => by
    rw [PySem.W.maxD_ints] at rd
    cases rd with
    | int i t => exact ⟨.int _, H, I.kept keep, ⟨t, rfl⟩, q⟩
  rcases ha with ha | ha
  · obtain ⟨its, rv, p, _⟩ := I.tuple ha
    exact PySem.W.max_tuple_data (I.ok.hd hc) (show s.heap.IsTuple a its.toArray from p) (by simpa using reads_ints rv.ints) (alike_ints (n :: ns)) room fun _ v h2 tk bs _ rd keep => fin v h2 tk bs rd keep
  · obtain ⟨its, rv, p, _⟩ := I.list ha
    exact PySem.W.max_list_data (I.ok.hd hc) p.isList (by simpa using reads_ints rv.ints) (alike_ints (n :: ns)) room fun _ v h2 tk bs _ rd keep => fin v h2 tk bs rd keep
/-! ### l.extend(t) -/
theorem ext_meets (l b : Addr) (xs ys : Array Value) (n m : Nat) (dd : Option Addr) (sl : Array (Option Value)) (short : ¬(!xs.isEmpty && Builtin.List.listTooLong (xs.size + ys.size)) = true) (z1 : xs.size ≤ sizeLine) (z2 : xs.size + ys.size ≤ sizeLine + 1) :
    Meets (Builtin.«list.extend» ⟨[.ref l, .ref b], []⟩) (fun _ R s => s.heap.get? l = some { cls := .type "list", dict := none, data := .seq xs n, slots := #[] } ∧ s.heap.get? b = some { cls := .type "tuple", dict := dd, data := .seq ys m, slots := sl } ∧ R (.ok (.ret Value.none)) { s with heap := s.heap.update l (Obj.mapSeq fun x => x ++ ys), toks := s.toks }) :=
  .of_wp fun prog w A R s h => by
    obtain ⟨hp, g, d, tk, os⟩ := s
    obtain ⟨a1, a2, go⟩ := h
    have f1 := AutoSeq1.idx_int; have f2 := AutoSeq1.sub_tuple_tuple; have f3 := AutoSeq1.sub_list_list; have f4 := AutoSeq1.sub_tuple_list; have f5 := AutoSeq1.sub_list_tuple
    have z3 : (xs ++ ys).size ≤ sizeLine + 1 := Array.size_append ▸ z2
    wp_walk using (wpAny_updateSeq a1 rfl (hz := z1) (_hz' := z3)), wpAny_loadPart' a1, wpAny_loadPart' a2
    exact ⟨_, rfl, go⟩
def rExtendT (K : PySem.W.Frag) : V → List V → Hp → VK → Prop := fun x vs H Q => ∃ l b xs zs, x = .ref l ∧ vs = [.ref b] ∧ H l = some (.lst xs) ∧ SqT K H b zs ∧ xs.length + zs.length ≤ sizeLine ∧ Q .non (upd H l (.lst (xs ++ zs)))
theorem mt_extendT {X : Cx} : MtR X "list.extend" (rExtendT X.K) := fun pins s σ H x vs v us Q I rx rv h => by
  obtain ⟨l, b, xs, zs, rfl, rfl, hl, hb, sz, q⟩ := h
  cases rx
  obtain ⟨u, rfl, ru⟩ := rv.one
  cases ru
  obtain ⟨z, its, n, r, fits, at_⟩ := I.lstM hl
  obtain ⟨its2, r2, ⟨⟨c2, d2, dt2, sl2⟩, at2, ec, n2, ed⟩, _⟩ := I.tuple hb
  obtain rfl : c2 = _ := ec
  obtain rfl : dt2 = _ := ed
  have both : its.toArray.size + its2.toArray.size ≤ sizeLine := by rw [List.size_toArray, List.size_toArray, ← r.length, ← r2.length]; exact sz
  have short : ¬ (!its.toArray.isEmpty && Builtin.List.listTooLong (its.toArray.size + its2.toArray.size)) = true := by rw [notLongL both, Bool.and_false]; simp
  refine call_meets F.slot_list_extend ⟨_, at_, rfl⟩ F.entry_list_extend (F.args_list_extend_2 _ _) (ext_meets l b its.toArray its2.toArray n n2 d2 sl2 short (by omega) (by omega)) ⟨at_, at2, ?_⟩
  exact ⟨.non, _, I.lset (its' := its ++ its2) hl at_ (by simp) (r.append r2) (by rw [List.length_append]; exact sz), rfl, q⟩
/-! ### the same over data -/
section
variable {K : PySem.W.Frag} {S S0 S1 S2 S3 : SS} {ta tb tc td te : TE} {x y z : SD} {d e : PyData} {i j : Int} {ds es : List PyData} {ns : List Int} {k n : Nat} {a b : Bool}
theorem rc_minT {n : Int} : Rc K (rMinT K) [.dat (.tuple ((n :: ns).map PyData.int))] S (.dat (.int (ns.foldl min n))) S := fun c Hf H σ fp ok vs r Q q => by
  obtain ⟨v, rfl, rv⟩ := r.one
  cases rv with
  | tup h1 h2 =>
    obtain rfl := RpA.ints_inv (ns := n :: ns) h2
    exact ⟨_, n, ns, rfl, .inl (sameT ok.hd.ex h1), q _ _ _ _ ok Gr.refl (Rp.int _)⟩
theorem rc_maxL {n : Int} (h : AsD S x (.list ((n :: ns).map PyData.int))) : Rc K (rMaxT K) [x] S (.dat (.int (ns.foldl max n))) S := fun c Hf H σ fp ok vs r Q q => by
  obtain ⟨v, rfl, rv⟩ := r.one
  obtain ⟨a, xs, rfl, h1, h2⟩ := ok.asL rv h
  obtain rfl := RpA.ints_inv (ns := n :: ns) h2
  exact ⟨_, n, ns, rfl, .inr (.inl (.inl h1)), q _ _ _ _ ok Gr.refl (Rp.int _)⟩
theorem foldmin_le : ∀ (ns : List Int) (n : Int), ns.foldl min n ≤ n ∧ ∀ x ∈ ns, ns.foldl min n ≤ x
  | [], n => ⟨Int.le_refl _, fun _ z => by cases z⟩
  | m :: ns, n => by
    obtain ⟨h1, h2⟩ := foldmin_le ns (min n m)
    refine ⟨?_, fun x hx => ?_⟩
    · show ns.foldl min (min n m) ≤ n
      omega
    · rcases List.mem_cons.mp hx with e | hx
      · rw [e]
        show ns.foldl min (min n m) ≤ m
        omega
      · exact h2 x hx
/-- i in a list or a tuple of whole numbers -/
theorem inV_ints (i : Int) : ∀ ns : List Int, inV (V.int i) (ns.map V.int) = decide (i ∈ ns)
  | [] => rfl
  | n :: ns => by
    show ((n == i) || inV (V.int i) (ns.map V.int)) = _
    rw [inV_ints i ns]
    by_cases h : n = i
    · subst h
      simp
    · have h2 : ¬ i = n := fun z => h z.symm
      simp [h, h2]
theorem flat_ints (ns : List Int) : (ns.map V.int).all flatV = true := by
  rw [List.all_eq_true]
  intro x hx
  obtain ⟨i, _, rfl⟩ := List.mem_map.mp hx
  rfl
theorem ro_inT : Ro K (rIn K false) (.dat (.int i)) (.dat (.tuple (ns.map PyData.int))) S (.dat (.bool (decide (i ∈ ns)))) S := fun c Hf H σ fp ok v u rv ru Q q => by
  cases rv
  cases ru with
  | tup h1 h2 =>
    obtain rfl := RpA.ints_inv h2
    refine ⟨_, _, rfl, .inr (sameT ok.hd.ex h1), rfl, flat_ints ns, ?_⟩
    rw [if_neg (by decide), inV_ints]
    exact q _ _ _ _ ok Gr.refl (Rp.bl _)
theorem ro_notInT : Ro K (rIn K true) (.dat (.int i)) (.dat (.tuple (ns.map PyData.int))) S (.dat (.bool (!decide (i ∈ ns)))) S := fun c Hf H σ fp ok v u rv ru Q q => by
  cases rv
  cases ru with
  | tup h1 h2 =>
    obtain rfl := RpA.ints_inv h2
    refine ⟨_, _, rfl, .inr (sameT ok.hd.ex h1), rfl, flat_ints ns, ?_⟩
    rw [if_pos rfl, inV_ints]
    exact q _ _ _ _ ok Gr.refl (Rp.bl _)
theorem ro_inL (hy : AsD S y (.list (ns.map PyData.int))) : Ro K (rIn K false) (.dat (.int i)) y S (.dat (.bool (decide (i ∈ ns)))) S := fun c Hf H σ fp ok v u rv ru Q q => by
  cases rv
  obtain ⟨a, xs, rfl, h1, h2⟩ := ok.asL ru hy
  obtain rfl := RpA.ints_inv h2
  refine ⟨_, _, rfl, .inl (.inl (.inl h1)), rfl, flat_ints ns, ?_⟩
  rw [if_neg (by decide), inV_ints]
  exact q _ _ _ _ ok Gr.refl (Rp.bl _)
theorem ro_isB : Ro K rIsB (.dat (.bool a)) (.dat (.bool b)) S (.dat (.bool (decide (a = b)))) S := fun c Hf H σ fp ok v u rv ru Q q => by
  cases rv
  cases ru
  exact ⟨a, b, rfl, rfl, q _ _ _ _ ok Gr.refl (Rp.bl _)⟩
theorem ro_notB : Ro K rNotB (.dat (.bool a)) (.dat (.bool b)) S (.dat (.bool (!decide (a = b)))) S := fun c Hf H σ fp ok v u rv ru Q q => by
  cases rv
  cases ru
  exact ⟨a, b, rfl, rfl, q _ _ _ _ ok Gr.refl (Rp.bl _)⟩
theorem ee_extendT (hl : Ee K ta S (.own k) S1) (he : Ee K te S1 (.dat (.tuple es)) S2) (ho1 : ∃ ds1, S1.ob[k]? = some (.lst ds1)) (ho : S2.ob[k]? = some (.lst ds)) (hz : ds.length + es.length ≤ 1000000) :
    Ee K (tBM K "list" (rExtendT K) ta (tCons te tNil)) S (.dat .none) { S2 with ob := S2.ob.set k (.lst (ds ++ es)) } := fun c Hf H σ fp ok Q q =>
  hl c Hf H σ fp ok _ fun v Hf1 H1 fp1 ok1 g1 r1 => by
    obtain ⟨ds1, ho1⟩ := ho1
    obtain ⟨a, xs, rfl, h1, h2, h3⟩ := ok1.obL ho1 r1
    refine ⟨.inl ⟨rfl, xs, .inl (.inl h2)⟩, he c Hf1 H1 σ fp1 ok1 _ fun u Hf2 H2 fp2 ok2 g2 r2 => ?_⟩
    obtain ⟨b, zs, e, k1, k2, k3⟩ := ok2.setL ho (r1.mono g2.sm g2.pr)
    cases e
    cases r2 with
    | @tup p ws _ w1 w2 =>
      obtain ⟨ok3, g3⟩ := k3 (zs ++ ws) (ds ++ es) (k2.append w2)
      refine ⟨_, p, zs, ws, rfl, rfl, k1, sameT ok2.hd.ex w1, ?_, q _ _ _ _ ok3 ((g1.trans g2).trans g3) Rp.non⟩
      rw [k2.len, w2.len]
      exact Nat.le_trans hz (by decide)
end
section
variable {K : PySem.W.Frag} {S S1 : SS} {E : DE} {tu tw : TS}
/-- two ways, one state behind them -/
theorem ts_seqTo (h : Ts K tu S { E with nx := fun S' => S' = S1 }) (k : Ts K tw S1 E) : Ts K (tSeq tu tw) S E := ts_seq (ts_mono h (fun S' e => by rw [show S' = S1 from e]; exact k) (fun _ _ z => z) (fun _ z => z) (fun _ z => z))
end
end DL

set_option maxRecDepth 100000
set_option maxHeartbeats 1000000
/-! DLz: bits of whole numbers, over data; reversed; the truth of a number. -/
namespace DL
open PySem PySem.Spec PyProof.Rows L2
/-! ### bits -/
theorem not_lo (b : Nat) : ¬ (0 ≤ Builtin.bitNot (b : Int)) := by
  unfold Builtin.bitNot
  omega
theorem not_not (x : Int) : Builtin.bitNot (Builtin.bitNot x) = x := by
  unfold Builtin.bitNot
  omega
theorem bor_nat (a b : Nat) : Builtin.bitOr (a : Int) (b : Int) = ((a ||| b : Nat) : Int) := by
  unfold Builtin.bitOr Builtin.bitAnd
  rw [decide_eq_false (not_lo a), decide_eq_false (not_lo b)]
  show Builtin.bitNot (Builtin.bitNot (((Builtin.bitNot (Builtin.bitNot (a : Int))).toNat ||| (Builtin.bitNot (Builtin.bitNot (b : Int))).toNat : Nat) : Int)) = _
  rw [not_not, not_not, not_not, Int.toNat_natCast, Int.toNat_natCast]
def dropN (a b : Nat) : Nat := Nat.bitwise (fun x y => x && !y) a b
theorem drop_bit (a b i : Nat) : (dropN a b).testBit i = (a.testBit i && !b.testBit i) := by
  unfold dropN
  rw [Nat.testBit_bitwise rfl]
theorem add_apart {x y : Nat} (h : x &&& y = 0) : x + y = x ||| y := by
  have hs : x + y < 2 ^ (x + y) := Nat.lt_two_pow_self
  have hx : x < 2 ^ (x + y) := by omega
  have hy : y < 2 ^ (x + y) := by omega
  have z : (BitVec.ofNat (x + y) x) &&& (BitVec.ofNat (x + y) y) = 0#(x + y) := by
    apply BitVec.eq_of_toNat_eq
    rw [BitVec.toNat_and, BitVec.toNat_ofNat, BitVec.toNat_ofNat, Nat.mod_eq_of_lt hx, Nat.mod_eq_of_lt hy, h]
    rfl
  have e := congrArg BitVec.toNat (BitVec.add_eq_or_of_and_eq_zero _ _ z)
  rw [BitVec.toNat_add, BitVec.toNat_or, BitVec.toNat_ofNat, BitVec.toNat_ofNat, Nat.mod_eq_of_lt hx, Nat.mod_eq_of_lt hy, Nat.mod_eq_of_lt hs] at e
  exact e
theorem drop_add (a b : Nat) : dropN a b + (a &&& b) = a := by
  have h0 : dropN a b &&& (a &&& b) = 0 := by
    apply Nat.eq_of_testBit_eq
    intro i
    rw [Nat.testBit_and, Nat.testBit_and, drop_bit, Nat.zero_testBit]
    cases a.testBit i <;> cases b.testBit i <;> rfl
  have h1 : dropN a b ||| (a &&& b) = a := by
    apply Nat.eq_of_testBit_eq
    intro i
    rw [Nat.testBit_or, Nat.testBit_and, drop_bit]
    cases a.testBit i <;> cases b.testBit i <;> rfl
  have h2 := add_apart h0
  omega
theorem drop_nat (a b : Nat) : Builtin.bitAnd (a : Int) (Builtin.bitNot (b : Int)) = ((dropN a b : Nat) : Int) := by
  unfold Builtin.bitAnd
  rw [decide_eq_true (Int.natCast_nonneg a), decide_eq_false (not_lo b)]
  show (a : Int) - (((a : Int).toNat &&& (Builtin.bitNot (Builtin.bitNot (b : Int))).toNat : Nat) : Int) = _
  rw [not_not, Int.toNat_natCast, Int.toNat_natCast]
  have := drop_add a b
  omega
section
variable {K : PySem.W.Frag} {S S1 : SS} {i j : Int} {a b : Nat}
theorem ro_bor : Ro K (rI0 fun i j => .int (Builtin.bitOr i j)) (.dat (.int (a : Int))) (.dat (.int (b : Int))) S (.dat (.int ((a ||| b : Nat) : Int))) S := ro_I0 fun _ => by
  rw [bor_nat]
  exact .int _
theorem ro_band : Ro K (rI0 fun i j => .int (Builtin.bitAnd i j)) (.dat (.int (a : Int))) (.dat (.int (b : Int))) S (.dat (.int ((a &&& b : Nat) : Int))) S := ro_I0 fun _ => by
  rw [PySem.W.os_band]
  exact .int _
theorem ro_bdrop : Ro K (rI0 fun i j => .int (Builtin.bitAnd i j)) (.dat (.int (a : Int))) (.dat (.int (Builtin.bitNot (b : Int)))) S (.dat (.int ((dropN a b : Nat) : Int))) S := ro_I0 fun _ => by
  rw [drop_nat]
  exact .int _
theorem ru_inv : Ru K (rU fun i => .int (Builtin.bitNot i)) (.dat (.int i)) S (.dat (.int (Builtin.bitNot i))) S := fun c Hf H σ fp ok v rv Q q => by
  cases rv
  exact ⟨i, rfl, q _ _ _ _ ok Gr.refl (Rp.int _)⟩
/-- 1 << b -/
theorem ro_shl1 (h : CPow 1 (b : Int)) : Ro K (rI CPow fun i j => .int (i * 2 ^ j.toNat)) (.dat (.int 1)) (.dat (.int (b : Int))) S (.dat (.int ((2 ^ b : Nat) : Int))) S := by
  have e : (1 : Int) * 2 ^ (b : Int).toNat = ((2 ^ b : Nat) : Int) := by
    rw [Int.toNat_natCast, Int.one_mul, Int.natCast_pow]
    rfl
  rw [← e]
  exact ro_I (fun _ => .int _) h
/-- a >> b -/
theorem ro_shr : Ro K (rI (fun _ j => 0 ≤ j) fun i j => .int (i / 2 ^ j.toNat)) (.dat (.int (a : Int))) (.dat (.int (b : Int))) S (.dat (.int ((a >>> b : Nat) : Int))) S := by
  have e : (a : Int) / 2 ^ (b : Int).toNat = ((a >>> b : Nat) : Int) := by
    rw [Int.toNat_natCast, Nat.shiftRight_eq_div_pow, Int.natCast_ediv, Int.natCast_pow]
    rfl
  rw [← e]
  exact ro_I (fun _ => .int _) (Int.natCast_nonneg b)
theorem bit_of (a b : Nat) : ((((a >>> b &&& 1 : Nat)) : Int) != 0) = a.testBit b := by
  unfold Nat.testBit
  have : (a >>> b &&& 1) = 1 &&& a >>> b := Nat.and_comm _ _
  rw [this]
  by_cases h : (1 &&& a >>> b) = 0
  · rw [h]
    rfl
  · rw [bne_iff_ne.mpr h, bne_iff_ne.mpr (show (((1 &&& a >>> b : Nat)) : Int) ≠ 0 by omega)]
theorem one_bit (q i : Nat) : (2 ^ q).testBit i = decide (q = i) := Nat.testBit_two_pow
/-! ### reversed(tuple), the truth of a number -/
theorem walk_back {K : PySem.W.Frag} {a : Addr} {xs : List V} : Walk (RT.ItvT K a xs.length) xs.length (fun H => SqT K H a xs) (fun i H x H' => H' = H ∧ xs[xs.length - 1 - i]? = some x) := by
  refine ⟨fun i H hi q => ?_, fun H q => Nat.le_refl _, fun i H x H' hi q y => ⟨y.1, y.2 xs q⟩⟩
  have lt : xs.length - 1 - i < xs.length := by omega
  exact ⟨hi, xs, xs[xs.length - 1 - i]'lt, q, List.getElem?_eq_getElem lt⟩
theorem ei_back {te : TE} {ds : List PyData} (h : Ee K te S (.dat (.tuple ds)) S1) : Ei K (RT.iRevA K te) S ds.reverse S1 := fun c Hf H σ fp ok R q => h c Hf H σ fp ok _ fun v Hf1 H1 fp1 ok1 g1 r1 => by
  cases r1 with
  | @tup a xs _ h1 h2 =>
    refine ⟨a, xs, rfl, .inr ⟨sameT ok1.hd.ex h1, q _ Hf1 H1 fp1 ok1 g1 (wk_of (walk_back (K := K)) (by rw [List.length_reverse]; exact h2.len.symm) (fun Hf2 H2 e1 e2 => sameT e2 (sameT e1 h1)) fun i d Hf2 H2 x H3 e1 e2 hd y => .inl ?_)⟩⟩
    obtain ⟨rfl, y⟩ := y
    have hi : i < ds.length := by
      have := (List.getElem?_eq_some_iff.mp hd).1
      rwa [List.length_reverse] at this
    rw [List.getElem?_reverse hi, ← h2.len] at hd
    obtain ⟨w, k1, k2⟩ := h2.get hd
    rw [y] at k1
    obtain rfl := Option.some.inj k1
    exact ⟨rfl, k2.mono e1⟩
theorem et_truI {te : TE} (h : Ee K te S (.dat (.int i)) S1) : Et K (tTru K te) S (i != 0) S1 := fun c Hf H σ fp ok Q q => h c Hf H σ fp ok _ fun v Hf1 H1 fp1 ok1 g1 r1 => by
  cases r1
  exact ⟨_, rfl, q _ _ _ ok1 g1⟩
end
end DL

set_option maxRecDepth 100000
set_option maxHeartbeats 2000000
/-! DLz2: comprehensions of two clauses, over data. -/
namespace DL
open PySem PySem.Spec PyProof.Rows L2
section
variable {K : PySem.W.Frag} {c : Addr → Prop} {Hf H Hf' H' : Hp} {σ : L2.St} {fp fp' : List (List Addr)} {S : SS} {Dl : Addr} {o : HO}
theorem Okk.grow (ok : Okk K (fun a => c a ∨ a = Dl) Hf H σ fp S) (nm : Dl ∉ fp.flatten) : Okk K (fun a => c a ∨ a = Dl) Hf (upd H Dl o) σ fp S := by
  have hfD : Hf Dl = none := (ok.hd.pt Dl (.inr rfl)).1
  refine ⟨⟨fun b x e => ?_, ok.hd.fl, fun k q x e1 e2 => (ok.hd.oo k q x e1 e2).mono (Same.refl _) fun b hb => upd_ne fun z => nm (mem_fl e1 (by rw [← z]; exact hb)), ok.hd.nd, fun a ha => ?_, ok.hd.nf, fun a z => ?_, ok.hd.np⟩, ok.ln, ok.sr⟩
  · rw [upd_ne (ne_of_none e hfD)]
    exact ok.hd.ex b x e
  · obtain ⟨x, e⟩ := ok.hd.al a ha
    exact ⟨x, by rw [upd_ne (show a ≠ Dl from fun z => nm (by rw [← z]; exact ha))]; exact e⟩
  · obtain ⟨z1, x, z2⟩ := ok.hd.pt a z
    refine ⟨z1, ?_⟩
    by_cases hb : a = Dl
    · rw [hb]
      exact ⟨_, upd_same⟩
    · exact ⟨x, by rw [upd_ne hb]; exact z2⟩
theorem Gr.grow (g : Gr Hf H fp Hf' H' fp') (hD : H Dl = none) : Gr Hf H fp Hf' (upd H' Dl o) fp' := by
  refine ⟨g.sm, g.pr, fun a x e n => ?_, g.nw, fun a x e => ?_⟩
  · rw [upd_ne (ne_of_none e hD)]
    exact g.fr a x e n
  · rw [upd_ne (ne_of_none e hD)]
    exact g.th a x e
/-- a list that is being made at Dl -/
structure Mk (K : PySem.W.Frag) (c : Addr → Prop) (Dl : Addr) (Hf H Hf1 : Hp) (fp : List (List Addr)) (Hf' H' : Hp) (fp' : List (List Addr)) (acc : List PyData) : Prop where
  gr : Gr Hf H fp Hf' H' fp'
  sm : Same Hf1 Hf'
  at_ : ∃ xs, H' Dl = some (.lst xs) ∧ RpA K Hf' xs acc
  nm : Dl ∉ fp'.flatten
theorem Mk.step {Hf1 Hf2 H2 : Hp} {fp2 : List (List Addr)} {acc : List PyData} (m : Mk K c Dl Hf H Hf1 fp Hf' H' fp' acc) (g : Gr Hf' H' fp' Hf2 H2 fp2) : Mk K c Dl Hf H Hf1 fp Hf2 H2 fp2 acc := by
  obtain ⟨xs, h1, h2⟩ := m.at_
  exact ⟨m.gr.trans g, m.sm.trans g.sm, ⟨xs, g.fr _ _ h1 m.nm, h2.mono g.sm⟩, fun z => (g.nw Dl z).elim m.nm fun y => by rw [h1] at y; cases y⟩
theorem Mk.add {Hf1 : Hp} {acc : List PyData} {xs : List V} {v : V} {d : PyData} (m : Mk K c Dl Hf H Hf1 fp Hf' H' fp' acc) (hD : H Dl = none) (hx : H' Dl = some (.lst xs)) (r : RpA K Hf' xs acc) (rv : Rp K Hf' v d) : Mk K c Dl Hf H Hf1 fp Hf' (upd H' Dl (.lst (xs ++ [v]))) fp' (acc ++ [d]) :=
  ⟨m.gr.grow hD, m.sm, ⟨_, upd_same, r.append (.cons rv .nil)⟩, m.nm⟩
def outL (es : PyData → List PyData) (p : PyData → PyData → Bool) (f : PyData → PyData → PyData) (ds : List PyData) : List PyData := ds.flatMap fun d => ((es d).filter (p d)).map (f d)
theorem outL_take {es : PyData → List PyData} {p : PyData → PyData → Bool} {f : PyData → PyData → PyData} {ds : List PyData} {i : Nat} {d : PyData} (h : ds[i]? = some d) : outL es p f (ds.take (i + 1)) = outL es p f (ds.take i) ++ ((es d).filter (p d)).map (f d) := by
  unfold outL
  rw [List.take_add_one, h, List.flatMap_append]
  simp
theorem outL_part {es : PyData → List PyData} {p : PyData → PyData → Bool} {f : PyData → PyData → PyData} {ds : List PyData} {i j : Nat} {d : PyData} (h : ds[i]? = some d) (h2 : j ≤ (es d).length) : (outL es p f (ds.take i) ++ (((es d).take j).filter (p d)).map (f d)).length ≤ (outL es p f ds).length := by
  have e : outL es p f ds = outL es p f (ds.take (i + 1)) ++ outL es p f (ds.drop (i + 1)) := by
    unfold outL
    rw [← List.flatMap_append, List.take_append_drop]
  rw [e, outL_take h, List.length_append, List.length_append, List.length_append, List.length_map, List.length_map]
  have := ((List.take_sublist j (es d)).filter (p d)).length_le
  omega
theorem part_succ {es : List PyData} {p : PyData → Bool} {f : PyData → PyData} {j : Nat} {e : PyData} (h : es[j]? = some e) : ((es.take (j + 1)).filter p).map f = if p e = true then ((es.take j).filter p).map f ++ [f e] else ((es.take j).filter p).map f := by
  rw [List.take_add_one, h, List.filter_append, List.map_append]
  show _ ++ ([e].filter p).map f = _
  by_cases hp : p e = true
  · rw [if_pos hp, List.filter_cons_of_pos hp]
    rfl
  · rw [if_neg hp, List.filter_cons_of_neg hp]
    exact List.append_nil _
theorem el_lc2 {wi wi1 : TI} {g g1 : TG} {t1 : TT} {te : TE} {vs vs1 : List Nat} {S0 : SS} {ds : List PyData} (es : PyData → List PyData) (p : PyData → PyData → Bool) (f : PyData → PyData → PyData)
    (h : Ei K wi S ds S0) (hl : (outL es p f ds).length ≤ 1000000)
    (hs : ∀ (i : Nat) (d : PyData), ds[i]? = some d → ∃ Sg, Egc K vs g d { S0 with sl := wipeS S0.sl vs } Sg ∧ Sg.ob = S0.ob ∧ Ei K wi1 Sg (es d) Sg ∧
      ∀ (j : Nat) (e : PyData), (es d)[j]? = some e → ∃ Sh S2, Egc K vs1 g1 e { Sg with sl := wipeS Sg.sl vs1 } Sh ∧ Et K t1 Sh (p d e) S2 ∧ S2.ob = S0.ob ∧ (p d e = true → ∃ S3, Ee K te S2 (.dat (f d e)) S3 ∧ S3.ob = S0.ob)) :
    El K (tLc2 wi g tYes wi1 g1 t1 te vs vs1) S (outL es p f ds) S0 := fun c Hf H σ fp ok Q q =>
  h c Hf H σ fp ok _ fun J Hf1 H1 fp1 ok1 g0 w Dl hD => by
    have hHD : H Dl = none := none_back g0.th hD
    have cD : Addr → Prop := fun a => c a ∨ a = Dl
    refine ⟨fun i m H' => m = ds.length - i ∧ i ≤ ds.length ∧ ∃ Hf' fp', Okk K (fun a => c a ∨ a = Dl) Hf' H' σ fp' S0 ∧ Mk K c Dl Hf H Hf1 fp Hf' H' fp' (outL es p f (ds.take i)), ⟨ds.length, by simp, Nat.zero_le _, Hf1, fp1, ?_⟩, ?_⟩
    · obtain ⟨ok2, g2, al⟩ := ok1.alone (xs := []) (ds := []) hD .nil
      refine ⟨⟨⟨ok2.hd.ex, ok2.hd.fl, ok2.hd.oo, ok2.hd.nd, ok2.hd.al, ok2.hd.nf, fun a z => ?_, fun k p ds' e1 e2 a ha z => ?_⟩, ok2.ln, ok2.sr⟩, g0.trans g2, Same.refl _, ⟨[], upd_same, .nil⟩, al.nm⟩
      · rcases z with z | rfl
        · exact ok2.hd.pt a z
        · exact ⟨al.hf, _, upd_same⟩
      · rcases z with z | rfl
        · exact ok2.hd.np k p ds' e1 e2 a ha z
        · exact al.nm (mem_fl e1 ha)
    · rintro i m H' ⟨rfl, hi, Hf', fp', ok', mk⟩
      by_cases hlt : i < ds.length
      · have hd := List.getElem?_eq_getElem hlt
        generalize ds[i] = d at hd
        refine .inr ⟨w.go i Hf' H' mk.sm ok'.hd.ex hlt, fun H2 => i + 1 ≤ ds.length ∧ ∃ Hf' fp', Okk K (fun a => c a ∨ a = Dl) Hf' H2 σ fp' S0 ∧ Mk K c Dl Hf H Hf1 fp Hf' H2 fp' (outL es p f (ds.take (i + 1))), fun H2 ⟨a1, a2⟩ => ⟨ds.length - (i + 1), by omega, rfl, a1, a2⟩, fun x H2 y => ?_⟩
        obtain ⟨Sg, hg, hob, hin, hs1⟩ := hs i d hd
        have fin : ∀ Hf2, Okk K (fun a => c a ∨ a = Dl) Hf2 H2 σ fp' S0 → Gr Hf' H' fp' Hf2 H2 fp' → Rp K Hf2 x d → g x (wipe σ vs) H2 fun σ2 H2 => wipe σ2 vs = wipe σ vs ∧ tYes σ2 H2 fun b H3 =>
            if b = true then wi1 σ2 H3 fun J1 H4 => ∃ W1 : Nat → Nat → Hp → Prop, (∃ m, W1 0 m H4) ∧ ∀ j k H5, W1 j k H5 →
              (J1.stop j H5 ∧ (i + 1 ≤ ds.length ∧ ∃ Hf' fp', Okk K (fun a => c a ∨ a = Dl) Hf' H5 σ fp' S0 ∧ Mk K c Dl Hf H Hf1 fp Hf' H5 fp' (outL es p f (ds.take (i + 1))))) ∨ (J1.go j H5 ∧ ∃ Nx1 : Hp → Prop, (∀ H', Nx1 H' → ∃ k', k' < k ∧ W1 (j + 1) k' H') ∧ ∀ x H', J1.yld j H5 x H' → g1 x (wipe σ2 vs1) H' fun σ3 H5 => wipe σ3 vs1 = wipe σ2 vs1 ∧ t1 σ3 H5 fun b H6 =>
                if b = true then te σ3 H6 fun y H7 => ∃ acc, H7 Dl = some (.lst acc) ∧ acc.length < sizeLine ∧ Nx1 (upd H7 Dl (.lst (acc ++ [y]))) else Nx1 H6)
            else (i + 1 ≤ ds.length ∧ ∃ Hf' fp', Okk K (fun a => c a ∨ a = Dl) Hf' H3 σ fp' S0 ∧ Mk K c Dl Hf H Hf1 fp Hf' H3 fp' (outL es p f (ds.take (i + 1)))) := fun Hf2 ok2 g2 rp => by
          have mk2 := mk.step g2
          refine hg _ Hf2 H2 _ fp' (ok2.wiped vs) x rp _ fun σ3 w3 ok3 => ⟨?_, ?_⟩
          · rw [w3, wipe_wipe σ vs vs fun _ h => h]
          unfold tYes
          dsimp only
          rw [if_pos rfl]
          refine hin _ Hf2 H2 σ3 fp' ok3 _ fun J1 Hf4 H4 fp4 ok4 g4 w4 => ?_
          have back : ∀ {Hf5 H5 : Hp} {fp5 : List (List Addr)} {σ5 : L2.St} {S5 : SS}, S5.ob = S0.ob → Okk K (fun a => c a ∨ a = Dl) Hf5 H5 σ5 fp5 S5 → Gr Hf2 H2 fp' Hf5 H5 fp5 → Okk K (fun a => c a ∨ a = Dl) Hf5 H5 σ fp5 S0 := fun e o5 g5 => by
            have z := ok2.heap o5 g5
            rw [e] at z
            exact z
          refine ⟨fun j k H5 => k = (es d).length - j ∧ j ≤ (es d).length ∧ ∃ Hf5 fp5, Okk K (fun a => c a ∨ a = Dl) Hf5 H5 σ3 fp5 Sg ∧ Okk K (fun a => c a ∨ a = Dl) Hf5 H5 σ fp5 S0 ∧ Same Hf4 Hf5 ∧ Mk K c Dl Hf H Hf1 fp Hf5 H5 fp5 (outL es p f (ds.take i) ++ (((es d).take j).filter (p d)).map (f d)), ⟨(es d).length, by simp, Nat.zero_le _, Hf4, fp4, ok4, back hob ok4 g4, Same.refl _, ?_⟩, ?_⟩
          · have z := mk2.step g4
            rw [List.take_zero]
            show Mk K c Dl Hf H Hf1 fp Hf4 H4 fp4 (_ ++ [])
            rw [List.append_nil]
            exact z
          · rintro j k H5 ⟨rfl, hj, Hf5, fp5, ok5, okS, s5, mk5⟩
            by_cases hjl : j < (es d).length
            · have he := List.getElem?_eq_getElem hjl
              generalize (es d)[j] = e at he
              have bound := outL_part (p := p) (f := f) hd (show j ≤ (es d).length by omega)
              refine .inr ⟨w4.go j Hf5 H5 s5 ok5.hd.ex hjl, fun H6 => j + 1 ≤ (es d).length ∧ ∃ Hf5 fp5, Okk K (fun a => c a ∨ a = Dl) Hf5 H6 σ3 fp5 Sg ∧ Okk K (fun a => c a ∨ a = Dl) Hf5 H6 σ fp5 S0 ∧ Same Hf4 Hf5 ∧ Mk K c Dl Hf H Hf1 fp Hf5 H6 fp5 (outL es p f (ds.take i) ++ (((es d).take (j + 1)).filter (p d)).map (f d)), fun H6 ⟨a1, a2⟩ => ⟨(es d).length - (j + 1), by omega, rfl, a1, a2⟩, fun x1 H6 y1 => ?_⟩
              obtain ⟨Sh, S2, hg1, ht1, e2, hy⟩ := hs1 j e he
              rw [part_succ he]
              have fin1 : ∀ Hf6, Okk K (fun a => c a ∨ a = Dl) Hf6 H6 σ3 fp5 Sg → Okk K (fun a => c a ∨ a = Dl) Hf6 H6 σ fp5 S0 → Gr Hf5 H5 fp5 Hf6 H6 fp5 → Rp K Hf6 x1 e → g1 x1 (wipe σ3 vs1) H6 fun σ4 H5 => wipe σ4 vs1 = wipe σ3 vs1 ∧ t1 σ4 H5 fun b H6 =>
                  if b = true then te σ4 H6 fun y H7 => ∃ acc, H7 Dl = some (.lst acc) ∧ acc.length < sizeLine ∧ (j + 1 ≤ (es d).length ∧ ∃ Hf5 fp5, Okk K (fun a => c a ∨ a = Dl) Hf5 (upd H7 Dl (.lst (acc ++ [y]))) σ3 fp5 Sg ∧ Okk K (fun a => c a ∨ a = Dl) Hf5 (upd H7 Dl (.lst (acc ++ [y]))) σ fp5 S0 ∧ Same Hf4 Hf5 ∧ Mk K c Dl Hf H Hf1 fp Hf5 (upd H7 Dl (.lst (acc ++ [y]))) fp5 (outL es p f (ds.take i) ++ (if p d e = true then (((es d).take j).filter (p d)).map (f d) ++ [f d e] else (((es d).take j).filter (p d)).map (f d))))
                  else (j + 1 ≤ (es d).length ∧ ∃ Hf5 fp5, Okk K (fun a => c a ∨ a = Dl) Hf5 H6 σ3 fp5 Sg ∧ Okk K (fun a => c a ∨ a = Dl) Hf5 H6 σ fp5 S0 ∧ Same Hf4 Hf5 ∧ Mk K c Dl Hf H Hf1 fp Hf5 H6 fp5 (outL es p f (ds.take i) ++ (if p d e = true then (((es d).take j).filter (p d)).map (f d) ++ [f d e] else (((es d).take j).filter (p d)).map (f d)))) := fun Hf6 ok6 okS6 g6 rp1 => by
                refine hg1 _ Hf6 H6 _ fp5 (ok6.wiped vs1) x1 rp1 _ fun σ5 w5 ok7 => ⟨?_, ?_⟩
                · rw [w5, wipe_wipe σ3 vs1 vs1 fun _ h => h]
                refine ht1 _ Hf6 H6 σ5 fp5 ok7 _ fun Hf8 H8 fp8 ok8 g8 => ?_
                have mk8 := (mk5.step g6).step g8
                have up : ∀ {Hf9 H9 : Hp} {fp9 : List (List Addr)} {σ9 : L2.St} {S9 : SS}, S9.ob = S0.ob → Okk K (fun a => c a ∨ a = Dl) Hf9 H9 σ9 fp9 S9 → Gr Hf6 H6 fp5 Hf9 H9 fp9 → Okk K (fun a => c a ∨ a = Dl) Hf9 H9 σ3 fp9 Sg ∧ Okk K (fun a => c a ∨ a = Dl) Hf9 H9 σ fp9 S0 := fun e9 o9 g9 => by
                  have z1 := ok6.heap o9 g9
                  have z2 := okS6.heap o9 g9
                  rw [e9] at z1 z2
                  rw [← hob] at z1
                  exact ⟨z1, z2⟩
                by_cases hp : p d e = true
                · rw [hp]
                  refine iteT ?_
                  obtain ⟨S3, hee, e3⟩ := hy hp
                  refine hee _ Hf8 H8 σ5 fp8 ok8 _ fun v Hf9 H9 fp9 ok9 g9 r9 => ?_
                  have mk9 := mk8.step g9
                  obtain ⟨xs, hx, hr⟩ := mk9.at_
                  obtain ⟨u1, u2⟩ := up e3 ok9 (g8.trans g9)
                  refine ⟨xs, hx, Nat.lt_of_le_of_lt (show xs.length ≤ 1000000 by rw [hr.len]; omega) (by decide), hjl, Hf9, fp9, u1.grow mk9.nm, u2.grow mk9.nm, ((s5.trans g6.sm).trans g8.sm).trans g9.sm, ?_⟩
                  rw [if_pos rfl, ← List.append_assoc]
                  exact mk9.add hHD hx hr r9
                · have hpf : p d e = false := by simpa using hp
                  rw [hpf]
                  refine iteF ?_
                  obtain ⟨u1, u2⟩ := up e2 ok8 g8
                  rw [if_neg (by decide)]
                  exact ⟨hjl, Hf8, fp8, u1, u2, (s5.trans g6.sm).trans g8.sm, mk8⟩
              rcases w4.yl j e Hf5 H5 x1 H6 s5 ok5.hd.ex he y1 with ⟨rfl, rp1⟩ | ⟨pp, o1, hp1, rfl, rp1⟩
              · exact fin1 Hf5 ok5 okS Gr.refl rp1
              · obtain ⟨k1, k2⟩ := ok5.laid o1 hp1
                exact fin1 _ k1 (okS.laid o1 hp1).1 k2 rp1
            · have ej : j = (es d).length := by omega
              subst ej
              refine .inl ⟨w4.st Hf5 H5 s5 ok5.hd.ex, hlt, Hf5, fp5, okS, ?_⟩
              rw [outL_take hd]
              rw [List.take_length] at mk5
              exact mk5
        rcases w.yl i d Hf' H' x H2 mk.sm ok'.hd.ex hd y with ⟨rfl, rp⟩ | ⟨pp, o2, hp, rfl, rp⟩
        · exact fin Hf' ok' Gr.refl rp
        · obtain ⟨ok2, g2⟩ := ok'.laid o2 hp
          exact fin _ ok2 g2 rp
      · have e : i = ds.length := by omega
        subst e
        rw [List.take_length] at mk
        refine .inl ⟨w.st Hf' H' mk.sm ok'.hd.ex, ?_⟩
        have hfD := (ok'.hd.pt Dl (.inr rfl)).1
        refine q Dl Hf' H' fp' (ok'.weak fun a z => .inl z) mk.gr hHD ⟨mk.at_, hfD, mk.nm, fun z => ?_⟩
        obtain ⟨_, o, z2⟩ := ok.hd.pt Dl z
        rw [hHD] at z2
        cases z2
end
end DL

set_option maxRecDepth 100000
set_option maxHeartbeats 2000000
/-! DLr: ranges that are kept, |=, items changed in place, lists of own lists. -/
namespace DL
open PySem PySem.Spec PyProof.Rows L2
theorem tuple_mulS (l : Addr) (items : Array Value) (n : Nat) (dd : Option Addr) (sl : Array (Option Value)) (x : Int) (u : Tok) (c0 : (decide (x < -(2 ^ 63)) || decide (x ≥ 2 ^ 63)) = false) (c1 : (items.isEmpty || x == 1) = true) :
    Meets (Builtin.«tuple.__mul__» ⟨[.ref l, .int x u], []⟩) (fun _ R s => s.heap.get? l = some { cls := .type "tuple", dict := dd, data := .seq items n, slots := sl } ∧ R (.ok (.ret (Value.ref l))) s) :=
  .of_wp fun prog w A R s h => by
    obtain ⟨hp, g, d, tk, os⟩ := s
    obtain ⟨hl, h⟩ := h
    have f1 := AutoSeq1.idx_int
    wp_walk using wpAny_loadPart' hl
    repeat (first
      | (refine wpAny_ite_false (decide_eq_false (by rw [c0]; exact Bool.false_ne_true)) ?_; wp_walk using wpAny_loadPart' hl)
      | (refine wpAny_ite_true (decide_eq_true c1) ?_; wp_walk using wpAny_loadPart' hl))
    exact ⟨_, rfl, h⟩
/-- a tuple times 1, an empty tuple times a number: the tuple itself -/
def rRepS (K : PySem.W.Frag) : R2 := fun x y H Q => ∃ l k xs, x = .ref l ∧ y = .int k ∧ SqT K H l xs ∧ (xs = [] ∨ k = 1) ∧ 0 ≤ k ∧ k ≤ 1000000 ∧ Q (.ref l) H
theorem op_repS {X : Cx} : OpR X (binaryOp .Mult) (rRepS X.K) := by
  intro pins s σ H x y v u Q I rx ry h
  obtain ⟨l, k, xs, rfl, rfl, hT, hk, h1, h2, q⟩ := h
  cases rx
  obtain ⟨t, rfl⟩ := ry
  obtain ⟨its, r, ⟨⟨cls, dd, data, sl⟩, ho, hc, n, hd⟩, hs⟩ := I.tuple hT
  simp only at hc hd
  subst hc hd
  have hle : its.length = xs.length := r.length.symm
  have c0 : (decide (k < -(2 ^ 63)) || decide (k ≥ 2 ^ 63)) = false := by
    rw [decide_eq_false (by omega), decide_eq_false (by omega)] <;> rfl
  have c1 : (its.toArray.isEmpty || k == 1) = true := by
    rcases hk with hk | hk
    · subst hk
      rw [List.eq_nil_of_length_eq_zero hle]
      rfl
    · subst hk
      exact Bool.or_true _
  refine wpAny_binaryOp_repeat_ref (T := "tuple") (U := "int") (by decide) ⟨_, ho, rfl⟩ (fun s' => typeIs_int s' k t) noFill_tuple_mul F.fills_int_mul F.slot_int_rmul repeat_tuple F.slot_int_index.lookup
    (call_meets F.slot_int_rmul (typeIs_int s k t) F.entry_int_rmul (F.args_int_rmul_2 _ _) (int_rmul_tuple k t l its.toArray n dd sl)
      ⟨ho, rfl, ⟨_, ho, rfl⟩, call_meets F.slot_tuple_mul ⟨_, ho, rfl⟩ F.entry_tuple_mul (F.args_tuple_mul_2 _ _) (tuple_mulS l its.toArray n dd sl k t c0 c1) ⟨ho, ?_⟩⟩)
  exact ⟨.ref l, H, I, rfl, q⟩
def rMulS (K : PySem.W.Frag) : R2 := fun x y H Q => rMulU K x y H Q ∨ rRepS K x y H Q
theorem op_mulS {X : Cx} : OpR X (binaryOp .Mult) (rMulS X.K) := opr_or op_mulU op_repS
section
variable {X : Cx} {pos : Pos} {tg : Expr}
theorem ip_or : PIp X .BitOr (ipI fun i j => Builtin.bitOr i j) := iop_or
theorem ip_and : PIp X .BitAnd (ipI fun i j => Builtin.bitAnd i j) := iop_and
theorem ip_xor : PIp X .BitXor (ipI fun i j => Builtin.bitXor i j) := iop_xor
theorem get_list : PGet X (rIxL X.K) := by
  intro pins s σ H x y v u Q I rx ry h
  obtain ⟨p, xs, i, z, rfl, rfl, hq, he, q⟩ := h
  cases rx
  obtain ⟨t, rfl⟩ := ry
  obtain ⟨its, r, pl, hz⟩ := I.list hq
  obtain ⟨j, h1, h2, h3, h4, h5⟩ := atI_get he
  obtain ⟨w, ew, rw'⟩ := r.get h2
  have hl := r.length
  have hn := line63
  have fin : EP X pins σ Q w s := ⟨z, H, I, rw', q⟩
  by_cases h0 : 0 ≤ i
  · have hj : i.toNat = j := by
      rw [seqIndex_of h0 h5] at h1
      exact Option.some.inj h1
    exact wpAny_getItem_list pl.isList h0 (by omega) (by rw [hj]; simpa using ew) fin
  · have hj : (i + (its.toArray.size : Int)).toNat = j := by
      rw [seqIndex_neg (by omega) h4] at h1
      rw [List.size_toArray, ← hl]
      exact Option.some.inj h1
    exact wpAny_getItem_list_neg pl.isList (by omega) (by rw [List.size_toArray] <;> omega) (by omega) (by rw [hj]; simpa using ew) fin
/-- range(n) as a value -/
def rRng1 : List V → Hp → VK → Prop := fun vs H Q => ∃ j, vs = [V.int j] ∧ ∀ p, H p = none → Q (.ref p) (upd H p (.rng 0 j))
theorem cr_range1 : CallR X (.type "range") rRng1 := by
  intro pins s σ H vs us Q I r h
  obtain ⟨j, rfl, q⟩ := h
  obtain ⟨u1, rfl, rj⟩ := vals1 r
  obtain ⟨t, rfl⟩ := rj
  refine call_range_1 ⟨.ref s.heap.objs.size, upd H s.heap.objs.size (.rng 0 j), I.laid (fun b o e => Heap.get?_push_of_some _ e) (Nat.le_refl _) ?_, rfl, q _ (I.hok.fresh (Nat.le_refl _))⟩
  exact ⟨_, _, _, Heap.get?_push_size _ rfl⟩
def rRng2 : List V → Hp → VK → Prop := fun vs H Q => ∃ i j, vs = [V.int i, V.int j] ∧ ∀ p, H p = none → Q (.ref p) (upd H p (.rng i j))
theorem cr_range2' : CallR X (.type "range") rRng2 := cr_range2
/-- a range that is kept, walked -/
def iRngV (te : TE) : TI := fun σ H R => te σ H fun x H1 => ∃ (a : Addr) (lo hi : Int), x = .ref a ∧ H1 a = some (.rng lo hi) ∧ (-(2 ^ 62) ≤ lo ∧ lo < 2 ^ 62 ∧ -(2 ^ 62) ≤ hi ∧ hi < 2 ^ 62) ∧ R (Itr lo (hi - lo).toNat) H1
theorem pi_rngV {l : Expr} {tl : TE} (hl : PE X l tl) : PI X tg l (iRngV tl) := by
  refine ⟨fun pins s σ H R I h => ?_⟩
  refine thn (hl.run pins s σ H _ I h) fun v s1 ⟨x, H1, I1, r1, q1⟩ => ?_
  obtain ⟨a, lo, hi, e, hq, ⟨h1, h2, h3, h4⟩, q⟩ := q1
  subst e
  cases r1
  obtain ⟨t, u, v, ho⟩ := I1.hok a _ hq
  refine wpAny_pyIter_range (show IsRange s1.heap a lo hi 1 t u v from ho) (small_one h1 h2 h3 h4) ?_
  refine ⟨s1.heap.objs.size, [s1.heap.objs.size], _, _, H1, rfl, I1.kept (t' := s1.toks) fun b o e => Heap.get?_push_of_some _ e, turn_range _ lo (hi - lo).toNat, ?_, fun b hb => ?_, q⟩
  · have e1 : lo + ((0 : Nat) : Int) * 1 = lo := by simp
    have e2 : (((hi - lo).toNat : Nat) : Int) - ((0 : Nat) : Int) = Builtin.Range.rangeSize lo hi 1 := by rw [rangeSize_one]; split <;> omega
    show IsRangeIter _ _ (lo + ((0 : Nat) : Int) * 1) ((((hi - lo).toNat : Nat) : Int) - ((0 : Nat) : Int)) 1
    rw [e1, e2]
    exact Heap.get?_push_size _ rfl
  · have e : b = s1.heap.objs.size := by simpa using hb
    subst e
    exact I1.fpOk (Nat.le_refl _) (I1.hok.fresh (Nat.le_refl _))
theorem pt_truK (K : PySem.W.Frag) {a : Expr} {ta : TE} (e : X.K = K) (ha : PE X a ta) (he : ∀ whole, isTrue a X.env whole = (do let v ← whole; standAt a.pos; holding [v] (truthy v)) := by intro _; rfl) : PT X a (tTru K ta) := e ▸ pt_tru ha he
end
def tLstDn (ta : TA) : TE := fun σ H Q => ta σ H fun vs H1 => ∃ i j : Int, vs = [.int i, .int j, .int (-1)] ∧ (-1000000 ≤ i ∧ i ≤ 1000000 ∧ -1000000 ≤ j ∧ j ≤ 1000000) ∧ ∀ q, H1 q = none → Q (.ref q) (upd H1 q (.lst (downV i (i - j).toNat)))
theorem pe_lstDn {X : Cx} {a b c : Expr} {ta : TA} {p pos p2 pos2 : Pos} (hc : X.calm = true) (hg : Gl X "list") (hm : X.mg "list" = none) (hgr : Gl X "range") (hmr : X.mg "range" = none) (ha : PA X [a, b, c] ta)
    (n1 : starEach [a, b, c] X.env = (false, eval a X.env) :: starEach [b, c] X.env := by rfl) (n2 : (backTo pos2 (starEach [b, c] X.env)).any (·.1) = false := by rfl)
    (n3 : starEach [.Call (.Name "range" p2) [a, b, c] [] pos2] X.env = (false, eval (.Call (.Name "range" p2) [a, b, c] [] pos2) X.env) :: starEach [] X.env := by rfl) :
    PE X (.Call (.Name "list" p) [.Call (.Name "range" p2) [a, b, c] [] pos2] [] pos) (tLstDn ta) := by
  constructor
  intro pins s σ H Q I h
  have inner : wpAny (model X.prog X.w) X.A (eval (.Call (.Name "range" p2) [a, b, c] [] pos2) X.env) (fun x s' => ∃ (r : Addr) (i j : Int) (t u v : Tok) (H' : Hp), x = .ref r ∧ IsRange s'.heap r i j (-1) t u v ∧ Inv X pins σ H' s' ∧ (-1000000 ≤ i ∧ i ≤ 1000000 ∧ -1000000 ≤ j ∧ j ≤ 1000000) ∧ ∀ q, H' q = none → Q (.ref q) (upd H' q (.lst (downV i (i - j).toNat)))) X.xe s := by
    refine Call_ (ld_blt I hgr hmr boot_range (PyProof.Rows.callWith_type1 (thn (ha.run pos2 pins s σ H _ I h) fun us s1 ⟨vs, H1, I1, r1, q1⟩ => ?_) n1 n2))
    obtain ⟨i, j, e, bd, q⟩ := q1
    subst e
    cases r1 with
    | cons r rr => cases rr with
      | cons r' rr => cases rr with
        | cons r'' rr =>
          cases rr
          obtain ⟨t, rfl⟩ := r
          obtain ⟨t', rfl⟩ := r'
          obtain ⟨t'', rfl⟩ := r''
          exact call_range_3 (by decide) ⟨_, i, j, t, t', t'', H1, rfl, IsRange.new _ _ _ _ _ _ _, I1.kept (t' := s1.toks) fun _ _ e => Heap.get?_push_of_some _ e, bd, q⟩ (.inl (PyProof.noPylong_small (by decide)))
  refine Call_ (ld_blt I hg hm boot_list (PyProof.Rows.callWith_type1 (args_cons (thn inner fun x s1 ⟨r, i, j, t, u, v, H1, ex, hr, I1, bd, q⟩ => args_nil ?_) n3) n3))
  subst ex
  refine call_list_range (n := (i - j).toNat) (I1.ok.hd hc) hr (PySem.W.small_down (by omega) (by omega) (by omega) (by omega)) (PySem.W.rangeSize_downNat i j) (by omega) fun h' tk acc c' hk e' hi => ?_
  have len : acc.toList.length = (i - j).toNat := by rw [Array.length_toList]; exact hi.1
  have vals : Vals (downV i (i - j).toNat) acc.toList := by
    unfold downV
    rw [← len]
    refine vals_of_get acc.toList _ fun m w hw => ?_
    obtain ⟨t, rfl⟩ := hi.2 m w (by rw [← hw, Array.getElem?_toList])
    exact ⟨t, rfl⟩
  refine ⟨.ref s1.heap.objs.size, upd H1 s1.heap.objs.size (.lst (downV i (i - j).toNat)), I1.laid hk (Nat.le_refl _) (show ObjOk X.prog X.w _ _ _ (.lst (downV i (i - j).toNat)) from ⟨?_, acc.toList, c', vals, ?_⟩), rfl, q _ (I1.hok.fresh (Nat.le_refl _))⟩
  · unfold downV
    rw [List.length_map, List.length_range, sizeLine_eq]
    omega
  · rw [Array.toArray_toList]
    exact e'
section
variable {K : PySem.W.Frag} {S S0 S1 S2 S3 S4 : SS} {ta tb te tc to ti : TE} {t u : TT} {x y z : SD} {d e : PyData} {a b : Bool} {r : R2} {i j l : Int} {k n : Nat} {wi : TI} {g : TG} {tbd ts : TS} {E : DE} {ds : List PyData} {vs : List Nat}
variable {c c' : Addr → Prop} {Hf H : Hp} {σ : L2.St} {fp : List (List Addr)}
theorem rc_rng1 : Rc K rRng1 [.dat (.int j)] S (.rng 0 j) S := fun c Hf H σ fp ok vs r Q q => by
  obtain ⟨v, rfl, rv⟩ := r.one
  cases rv
  refine ⟨j, rfl, fun p hp => ?_⟩
  obtain ⟨ok2, g2⟩ := ok.laid (.rng 0 j) hp
  exact q _ _ _ _ ok2 g2 ⟨p, rfl, upd_same⟩
theorem rc_rng2 : Rc K rRng2 [.dat (.int i), .dat (.int j)] S (.rng i j) S := fun c Hf H σ fp ok vs r Q q => by
  obtain ⟨v, u, rfl, rv, ru⟩ := r.two
  cases rv
  cases ru
  refine ⟨i, j, rfl, fun p hp => ?_⟩
  obtain ⟨ok2, g2⟩ := ok.laid (.rng i j) hp
  exact q _ _ _ _ ok2 g2 ⟨p, rfl, upd_same⟩
theorem ei_rngV {lo hi : Int} (h : Ee K te S (.rng lo hi) S1) (hn : -1000000 ≤ lo ∧ lo ≤ 1000000 ∧ -1000000 ≤ hi ∧ hi ≤ 1000000) : Ei K (iRngV te) S (rngD lo (hi - lo).toNat) S1 := fun c Hf H σ fp ok R q => h c Hf H σ fp ok _ fun v Hf1 H1 fp1 ok1 g1 r1 => by
  obtain ⟨a, rfl, ha⟩ := r1
  exact ⟨a, lo, hi, rfl, ok1.hd.ex _ _ ha, ⟨by omega, by omega, by omega, by omega⟩, q _ Hf1 H1 fp1 ok1 g1 wk_range⟩
/-- xs[i] op= e, whole numbers -/
theorem ts_augSI {f : Int → Int → Int} (hl : Ee K to S (.own k) S) (hi : Ee K ti S (.dat (.int i)) S) (he : Ee K te S (.dat (.int l)) S) (ho : S.ob[k]? = some (.lst ds)) (hx : ixN ds.length i = some n) (hd : ds[n]? = some (.int j))
    (kx : E.nx { S with ob := S.ob.set k (.lst (ds.set n (.int (f j l)))) }) : Ts K (tAugS to ti te (rIxL K) (ipI f) rSetL) S E := fun c Hf H σ fp ok D nn r bk ct =>
  hl c Hf H σ fp ok _ fun o Hf1 H1 fp1 ok1 g1 r1 => hi c Hf1 H1 σ fp1 ok1 _ fun u Hf2 H2 fp2 ok2 g2 r2 => by
    cases r2
    obtain ⟨b, zs, rfl, e0, k1, k2⟩ := ok2.obL ho (r1.mono g2.sm g2.pr)
    obtain ⟨w, w1, w2⟩ := k2.get hd
    cases w2
    refine ⟨b, zs, i, .int j, rfl, rfl, .inl (.inl k1), ?_, ?_⟩
    · show (ixN zs.length i).bind _ = _
      rw [k2.len, hx]
      exact w1
    refine he c Hf2 H2 σ fp2 ok2 _ fun y Hf3 H3 fp3 ok3 g3 r3 => ?_
    cases r3
    refine ⟨j, l, rfl, rfl, ?_⟩
    obtain ⟨b', zs', e, k1', k2', k3⟩ := ok3.setL ho (r1.mono (g2.trans g3).sm (g2.trans g3).pr)
    cases e
    obtain ⟨ok4, g4⟩ := k3 _ _ (k2'.set (Rp.int (f j l)) n)
    exact ⟨b, zs', i, n, rfl, rfl, k1', by rw [k2'.len]; exact hx, nn _ _ _ _ _ ok4 (((g1.trans g2).trans g3).trans g4) kx⟩
theorem el_lstDn {tas : TA} (h : Ed K tas S [.int i, .int j, .int (-1)] S1) (hb : -1000000 ≤ i ∧ i ≤ 1000000 ∧ -1000000 ≤ j ∧ j ≤ 1000000) : El K (tLstDn tas) S (downD i (i - j).toNat) S1 := fun c Hf H σ fp ok Q q =>
  h c Hf H σ fp ok _ fun v Hf1 H1 fp1 ok1 g1 r1 => by
    cases r1 with
    | cons r1 rr => cases rr with
      | cons r2 rr => cases rr with
        | cons r3 rr =>
          cases rr
          cases r1
          cases r2
          cases r3
          refine ⟨i, j, rfl, hb, fun p hp => ?_⟩
          obtain ⟨ok2, g2, al⟩ := ok1.alone hp (rp_down (K := K) (Hf := Hf1) i (i - j).toNat)
          exact q p _ _ _ ok2 (g1.trans g2) (none_back g1.th hp) al
/-! ### lists of own lists -/
theorem ro_ixOwn {ks : List Nat} (e : atI ks i = some k) : Ro K (rIx K) (.lown ks) (.dat (.int i)) S (.own k) S := fun c Hf H σ fp ok v u rv ru Q q => by
  obtain ⟨a, xs, rfl, h1, h2, h3⟩ := rv
  cases ru
  unfold atI at e
  cases hx : ixN ks.length i with
  | none =>
    rw [hx] at e
    cases e
  | some m =>
    rw [hx] at e
    have e' : ks[m]? = some k := e
    have hm : m < xs.length := by
      have := (List.getElem?_eq_some_iff.mp e').1
      omega
    refine .inl ⟨a, xs, i, xs[m], rfl, rfl, .inl (.inl (ok.hd.ex _ _ h1)), ?_, ?_⟩
    · unfold atI
      rw [h2, hx]
      exact List.getElem?_eq_getElem hm
    · obtain ⟨b, r, q1, q2⟩ := h3 m k xs[m] e' (List.getElem?_eq_getElem hm)
      rw [q2]
      exact q _ _ _ _ ok Gr.refl ⟨b, r, q1, rfl⟩
theorem SRA.app {vs us : List V} {ds es : List SD} (h : SRA K Hf fp vs ds) (h2 : SRA K Hf fp us es) : SRA K Hf fp (vs ++ us) (ds ++ es) := by
  induction h with
  | nil => exact h2
  | cons r t ih => exact .cons r ih
theorem ee_lcOwn {out : List Nat} {obo : List OO} (h : Ei K wi S ds S0) (Pv : Nat → List Nat → List OO → Prop) (h0 : Pv 0 [] S0.ob)
    (hs : ∀ i d acc ob, ds[i]? = some d → Pv i acc ob → ∃ Sg b S2, Egc K vs g d { S0 with ob := ob, sl := wipeS S0.sl vs } Sg ∧ Et K t Sg b S2 ∧ (b = false → Pv (i + 1) acc S2.ob) ∧ (b = true → ∃ y S3, Ee K te S2 (.own y) S3 ∧ Pv (i + 1) (acc ++ [y]) S3.ob))
    (hl : ds.length ≤ 1000000) (hd : ∀ acc ob, Pv ds.length acc ob → acc = out ∧ ob = obo) : Ee K (tLc wi g t te vs) S (.lown out) { S0 with ob := obo } := fun c Hf H σ fp ok Q q =>
  h c Hf H σ fp ok _ fun J Hf1 H1 fp1 ok1 g1 w Dl hD => by
    -- the new list at Dl stands apart
    refine ⟨fun i m H' => m = ds.length - i ∧ i ≤ ds.length ∧ ∃ acc ob Hf' fp' xs, Okk K (fun a => c a ∨ a = Dl) Hf' H' σ fp' { S0 with ob := ob } ∧ Gr Hf H fp Hf' H' fp' ∧ Same Hf1 Hf' ∧ H' Dl = some (.lst xs) ∧ SRA K Hf' fp' xs (acc.map SD.own) ∧ Dl ∉ fp'.flatten ∧ acc.length ≤ i ∧ Pv i acc ob, ⟨ds.length, by simp, Nat.zero_le _, [], S0.ob, Hf1, fp1, [], ?_⟩, ?_⟩
    · obtain ⟨ok2, g2, al⟩ := ok1.alone (xs := []) (ds := []) hD .nil
      refine ⟨⟨⟨ok2.hd.ex, ok2.hd.fl, ok2.hd.oo, ok2.hd.nd, ok2.hd.al, ok2.hd.nf, fun a z => ?_, fun k p ds' e1 e2 a ha z => ?_⟩, ok2.ln, ok2.sr⟩, g1.trans g2, Same.refl _, upd_same, .nil, al.nm, Nat.le_refl _, h0⟩
      · rcases z with z | rfl
        · exact ok2.hd.pt a z
        · exact ⟨al.hf, _, upd_same⟩
      · rcases z with z | rfl
        · exact ok2.hd.np k p ds' e1 e2 a ha z
        · exact al.nm (mem_fl e1 ha)
    · rintro i m H' ⟨rfl, hi, acc, ob, Hf', fp', xs, ok', g', s', hx, hr, nm, hacc, p⟩
      by_cases hlt : i < ds.length
      · refine .inr ⟨w.go i Hf' H' s' ok'.hd.ex hlt, fun H2 => i + 1 ≤ ds.length ∧ ∃ acc ob Hf' fp' xs, Okk K (fun a => c a ∨ a = Dl) Hf' H2 σ fp' { S0 with ob := ob } ∧ Gr Hf H fp Hf' H2 fp' ∧ Same Hf1 Hf' ∧ H2 Dl = some (.lst xs) ∧ SRA K Hf' fp' xs (acc.map SD.own) ∧ Dl ∉ fp'.flatten ∧ acc.length ≤ i + 1 ∧ Pv (i + 1) acc ob, fun H2 ⟨a1, a2⟩ => ⟨ds.length - (i + 1), by omega, rfl, a1, a2⟩, fun x H2 y => ?_⟩
        obtain ⟨Sg, b, S2, hg, ht, hf, hy⟩ := hs i ds[i] acc ob (List.getElem?_eq_getElem hlt) p
        have fin : ∀ Hf2, Okk K (fun a => c a ∨ a = Dl) Hf2 H2 σ fp' { S0 with ob := ob } → Gr Hf' H' fp' Hf2 H2 fp' → Rp K Hf2 x ds[i] → g x (wipe σ vs) H2 fun σ2 H2 => wipe σ2 vs = wipe σ vs ∧ t σ2 H2 fun b H3 =>
            if b = true then te σ2 H3 fun y H4 => ∃ acc, H4 Dl = some (.lst acc) ∧ acc.length < sizeLine ∧ (i + 1 ≤ ds.length ∧ ∃ acc' ob Hf' fp' xs, Okk K (fun a => c a ∨ a = Dl) Hf' (upd H4 Dl (.lst (acc ++ [y]))) σ fp' { S0 with ob := ob } ∧ Gr Hf H fp Hf' (upd H4 Dl (.lst (acc ++ [y]))) fp' ∧ Same Hf1 Hf' ∧ (upd H4 Dl (.lst (acc ++ [y]))) Dl = some (.lst xs) ∧ SRA K Hf' fp' xs (acc'.map SD.own) ∧ Dl ∉ fp'.flatten ∧ acc'.length ≤ i + 1 ∧ Pv (i + 1) acc' ob)
            else (i + 1 ≤ ds.length ∧ ∃ acc ob Hf' fp' xs, Okk K (fun a => c a ∨ a = Dl) Hf' H3 σ fp' { S0 with ob := ob } ∧ Gr Hf H fp Hf' H3 fp' ∧ Same Hf1 Hf' ∧ H3 Dl = some (.lst xs) ∧ SRA K Hf' fp' xs (acc.map SD.own) ∧ Dl ∉ fp'.flatten ∧ acc.length ≤ i + 1 ∧ Pv (i + 1) acc ob) := fun Hf2 ok2 g2 rp => by
          refine hg _ Hf2 H2 _ fp' (ok2.wiped vs) x rp _ fun σ3 w3 ok3 => ⟨?_, ?_⟩
          · rw [w3, wipe_wipe σ vs vs fun _ h => h]
          refine ht _ Hf2 H2 σ3 fp' ok3 _ fun Hf4 H4 fp4 ok4 g4 => ?_
          have hx2 : H2 Dl = some (.lst xs) := g2.fr _ _ hx nm
          have hx4 : H4 Dl = some (.lst xs) := g4.fr _ _ hx2 nm
          have nm4 : Dl ∉ fp4.flatten := fun m => (g4.nw Dl m).elim nm fun z => by
            rw [hx2] at z
            cases z
          cases b with
          | false =>
            refine iteF ⟨hlt, acc, S2.ob, Hf4, fp4, xs, ok2.heap ok4 g4, (g'.trans g2).trans g4, (s'.trans g2.sm).trans g4.sm, hx4, SRA.mono hr (g2.sm.trans g4.sm) g4.pr, nm4, by omega, hf rfl⟩
          | true =>
            refine iteT ?_
            obtain ⟨yd, S3, he, p3⟩ := hy rfl
            refine he _ Hf4 H4 σ3 fp4 ok4 _ fun v Hf5 H5 fp5 ok5 g5 r5 => ?_
            have hx5 : H5 Dl = some (.lst xs) := g5.fr _ _ hx4 nm4
            have nm5 : Dl ∉ fp5.flatten := fun m => (g5.nw Dl m).elim nm4 fun z => by
              rw [hx4] at z
              cases z
            have hxl : xs.length = acc.length := by rw [Paired.length hr, List.length_map]
            refine ⟨xs, hx5, Nat.lt_of_le_of_lt (show xs.length ≤ 1000000 by omega) (by decide), hlt, acc ++ [yd], S3.ob, Hf5, fp5, xs ++ [v], ?_, ?_, ((s'.trans g2.sm).trans g4.sm).trans g5.sm, upd_same, by rw [List.map_append]; exact SRA.app (SRA.mono hr ((g2.sm.trans g4.sm).trans g5.sm) (g4.pr.trans g5.pr)) (.cons r5 .nil), nm5, by rw [List.length_append, List.length_singleton]; omega, p3⟩
            · have okA := ok2.heap ok5 (g4.trans g5)
              have hfD : Hf5 Dl = none := (ok5.hd.pt Dl (.inr rfl)).1
              refine ⟨⟨fun b o e => ?_, okA.hd.fl, fun k q o e1 e2 => (okA.hd.oo k q o e1 e2).mono (Same.refl _) fun b hb => upd_ne fun z => nm5 (mem_fl e1 (by rw [← z]; exact hb)), okA.hd.nd, fun a ha => ?_, okA.hd.nf, fun a z => ?_, okA.hd.np⟩, okA.ln, okA.sr⟩
              · rw [upd_ne (ne_of_none e hfD)]
                exact okA.hd.ex b o e
              · obtain ⟨o, e⟩ := okA.hd.al a ha
                exact ⟨o, by rw [upd_ne (show a ≠ Dl from fun z => nm5 (by rw [← z]; exact ha))]; exact e⟩
              · obtain ⟨z1, o, z2⟩ := okA.hd.pt a z
                refine ⟨z1, ?_⟩
                by_cases hb : a = Dl
                · rw [hb]
                  exact ⟨_, upd_same⟩
                · exact ⟨o, by rw [upd_ne hb]; exact z2⟩
            · have G := ((g'.trans g2).trans g4).trans g5
              have hHD : H Dl = none := none_back g1.th hD
              refine ⟨G.sm, G.pr, fun a o e n => ?_, G.nw, fun a o e => ?_⟩
              · rw [upd_ne (ne_of_none e hHD)]
                exact G.fr a o e n
              · rw [upd_ne (ne_of_none e hHD)]
                exact G.th a o e
        rcases w.yl i ds[i] Hf' H' x H2 s' ok'.hd.ex (List.getElem?_eq_getElem hlt) y with ⟨rfl, rp⟩ | ⟨pp, o, hp, rfl, rp⟩
        · exact fin Hf' ok' Gr.refl rp
        · obtain ⟨ok2, g2⟩ := ok'.laid o hp
          exact fin _ ok2 g2 rp
      · have e : i = ds.length := by omega
        subst e
        obtain ⟨rfl, rfl⟩ := hd acc ob p
        refine .inl ⟨w.st Hf' H' s' ok'.hd.ex, ?_⟩
        have hfD := (ok'.hd.pt Dl (.inr rfl)).1
        have nc : ¬ c Dl := fun z => by
          obtain ⟨_, o, z2⟩ := ok.hd.pt Dl z
          rw [none_back g1.th hD] at z2
          cases z2
        have okW := ok'.weak (c' := c) fun a z => .inl z
        obtain ⟨hd2, g2⟩ := okW.hd.stop nm nc hfD hx
        refine q _ _ H' fp' ⟨hd2, okW.ln, fun i d e => ?_⟩ (g'.trans g2) ⟨Dl, xs, rfl, upd_same, by rw [Paired.length hr, List.length_map], fun i k x e1 e2 => ?_⟩
        · obtain ⟨x, q1, q2⟩ := okW.sr i d e
          exact ⟨x, q1, q2.mono g2.sm g2.pr⟩
        · obtain ⟨v, q1, q2⟩ := SRA.get hr (i := i) (d := .own k) (by rw [List.getElem?_map, e1]; rfl)
          rw [e2] at q1
          obtain rfl := Option.some.inj q1
          obtain ⟨a, r, q3, q4⟩ := q2
          exact ⟨a, r, q3, q4⟩

def gones (ob : List OO) (ks : List Nat) : List OO := ks.foldl (fun ob k => ob.set k .gone) ob
theorem gones_get : ∀ {ks : List Nat} {ob : List OO} {k : Nat}, k ∉ ks → (gones ob ks)[k]? = ob[k]?
  | [], _, _, _ => rfl
  | m :: ks, ob, k, h => by
    rw [List.mem_cons, not_or] at h
    show (gones (ob.set m .gone) ks)[k]? = _
    rw [gones_get h.2, List.getElem?_set_ne (Ne.symm h.1)]
theorem gones_len : ∀ (ks : List Nat) (ob : List OO), (gones ob ks).length = ob.length
  | [], _ => rfl
  | m :: ks, ob => by
    show (gones (ob.set m .gone) ks).length = _
    rw [gones_len ks, List.length_set]
/-- own lists are not changed any more -/
theorem frz_all : ∀ {ks : List Nat} {Hf : Hp} {ob : List OO} {sl : List SD}, Okk K c Hf H σ fp ⟨sl, ob⟩ → ks.Nodup → (∀ k ∈ ks, ∃ ds, ob[k]? = some (.lst ds)) →
    ∃ Hf', Okk K c Hf' H σ fp ⟨sl, gones ob ks⟩ ∧ Gr Hf H fp Hf' H fp ∧ ∀ k ∈ ks, ∀ ds, ob[k]? = some (.lst ds) → ∃ a, fp[k]? = some [a] ∧ Rp K Hf' (.ref a) (.list ds)
  | [], Hf, ob, sl, ok, _, _ => ⟨Hf, ok, Gr.refl, fun k h => by cases h⟩
  | m :: ks, Hf, ob, sl, ok, nd, hk => by
    obtain ⟨ds, ho⟩ := hk m List.mem_cons_self
    obtain ⟨hm, nd'⟩ := List.nodup_cons.mp nd
    obtain ⟨a, xs, h1, h2, h3⟩ := ok.hd.oo m _ (.lst ds) (List.getElem?_eq_getElem (by rw [ok.hd.fl]; exact (List.getElem?_eq_some_iff.mp ho).1)) ho
    have h1' : fp[m]? = some [a] := by
      rw [List.getElem?_eq_getElem (by rw [ok.hd.fl]; exact (List.getElem?_eq_some_iff.mp ho).1), h1]
    obtain ⟨hd, g2⟩ := ok.hd.freeze h1' ho h2
    have ok2 : Okk K c (upd Hf a (.lst xs)) H σ fp ⟨sl, ob.set m .gone⟩ := ⟨hd, ok.ln, fun i d e => by
      obtain ⟨x, q1, q2⟩ := ok.sr i d e
      exact ⟨x, q1, q2.mono g2.sm g2.pr⟩⟩
    obtain ⟨Hf', ok3, g3, h4⟩ := frz_all ok2 nd' fun k hk' => by
      obtain ⟨ds', e⟩ := hk k (List.mem_cons_of_mem _ hk')
      exact ⟨ds', by rw [List.getElem?_set_ne (fun z => hm (by rw [z]; exact hk'))]; exact e⟩
    refine ⟨Hf', ok3, g2.trans g3, fun k hk' ds' e => ?_⟩
    by_cases z : k = m
    · subst z
      rw [ho] at e
      cases e
      exact ⟨a, h1', Rp.lst (g3.sm _ _ upd_same) (h3.mono (g2.trans g3).sm)⟩
    · rcases List.mem_cons.mp hk' with q | q
      · exact absurd q z
      · exact h4 k q ds' (by rw [List.getElem?_set_ne (Ne.symm z)]; exact e)
theorem ts_frzL {m : Nat} {ks : List Nat} {dss : List (List PyData)} (hs : S.sl[m]? = some (.lown ks)) (nd : ks.Nodup) (hl : ks.length = dss.length) (ho : ∀ (i k : Nat) (ds : List PyData), ks[i]? = some k → dss[i]? = some ds → S.ob[k]? = some (.lst ds))
    (h : Ts K ts ⟨S.sl.set m (.dat (.list (dss.map .list))), gones S.ob ks⟩ E) : Ts K ts S E := fun c Hf H σ fp ok D n r bk ct => by
  have hk : ∀ k ∈ ks, ∃ ds, S.ob[k]? = some (.lst ds) := fun k hk => by
    obtain ⟨i, hi, e⟩ := List.mem_iff_getElem.mp hk
    exact ⟨dss[i], ho i k _ (by rw [List.getElem?_eq_getElem hi, e]) (List.getElem?_eq_getElem (by omega))⟩
  obtain ⟨Hf', ok2, g, h2⟩ := frz_all (sl := S.sl) (ob := S.ob) ok nd hk
  obtain ⟨y, q1, q2⟩ := ok2.sr m _ hs
  cases y with
  | none => exact q2.elim
  | some v =>
    obtain ⟨a, xs, rfl, e1, e2, e3⟩ := q2
    have rp : Rp K Hf' (.ref a) (.list (dss.map .list)) := by
      refine Rp.lst e1 ?_
      have key : ∀ (us : List V) (es : List (List PyData)), us.length = es.length → (∀ (i : Nat) u ds, us[i]? = some u → es[i]? = some ds → Rp K Hf' u (.list ds)) → RpA K Hf' us (es.map .list) := fun us => by
        induction us with
        | nil =>
          intro es h _
          cases es with
          | nil => exact .nil
          | cons _ _ => cases h
        | cons u us ih =>
          intro es h hh
          cases es with
          | nil => cases h
          | cons e es => exact .cons (hh 0 u e rfl rfl) (ih es (by simpa using h) fun i u ds a b => hh (i + 1) u ds (by simpa using a) (by simpa using b))
      refine key xs dss (e2.trans hl) fun i u ds a1 a2 => ?_
      have hi : i < ks.length := by
        have := (List.getElem?_eq_some_iff.mp a1).1
        omega
      obtain ⟨b, rr, q3, q4⟩ := e3 i ks[i] u (List.getElem?_eq_getElem hi) a1
      have o1 := ho i ks[i] ds (List.getElem?_eq_getElem hi) a2
      obtain ⟨a', q5, q6⟩ := h2 _ (List.getElem_mem hi) ds o1
      rw [q3] at q5
      cases q5
      rw [q4]
      exact q6
    refine h c Hf' H σ fp ⟨ok2.hd, by rw [List.length_set]; exact ok2.ln, fun j d e => ?_⟩ D (fun S' Hf2 H2 σ2 fp2 o g2 => n S' Hf2 H2 σ2 fp2 o (g.trans g2)) (fun x S' v Hf2 H2 σ2 fp2 o g2 => r x S' v Hf2 H2 σ2 fp2 o (g.trans g2)) (fun S' Hf2 H2 σ2 fp2 o g2 => bk S' Hf2 H2 σ2 fp2 o (g.trans g2)) fun S' Hf2 H2 σ2 fp2 o g2 => ct S' Hf2 H2 σ2 fp2 o (g.trans g2)
    by_cases hj : m = j
    · subst hj
      have hlt := (List.getElem?_eq_some_iff.mp hs).1
      rw [show (S.sl.set m (.dat (.list (dss.map .list))))[m]? = some (.dat (.list (dss.map .list))) from List.getElem?_set_self hlt] at e
      obtain rfl := Option.some.inj e
      exact ⟨_, q1, rp⟩
    · rw [show (S.sl.set m (.dat (.list (dss.map .list))))[j]? = S.sl[j]? from List.getElem?_set_ne hj] at e
      exact ok2.sr j d e
/-! ### comprehensions over what is listed otherwise -/
theorem el_lcfA {α : Type} {g : TG} {vs : List Nat} {t : TT} {dA f : α → PyData} {lst : List α} {p : α → Bool} (h : Ei K wi S (lst.map dA) S0) (hl : lst.length ≤ 1000000)
    (hs : ∀ x ∈ lst, ∃ Sg S2, Egc K vs g (dA x) { S0 with sl := wipeS S0.sl vs } Sg ∧ Et K t Sg (p x) S2 ∧ S2.ob = S0.ob ∧ (p x = true → ∃ S3, Ee K te S2 (.dat (f x)) S3 ∧ S3.ob = S0.ob)) : El K (tLc wi g t te vs) S ((lst.filter p).map f) S0 := by
  refine el_lc (obo := S0.ob) h (fun i acc ob => acc = ((lst.take i).filter p).map f ∧ ob = S0.ob) ⟨rfl, rfl⟩ ?_ (by rw [List.length_map]; exact hl) ?_
  · rintro i d acc ob hd ⟨rfl, rfl⟩
    rw [List.getElem?_map] at hd
    cases e : lst[i]? with
    | none =>
      rw [e] at hd
      cases hd
    | some x =>
      rw [e] at hd
      obtain rfl := Option.some.inj hd
      obtain ⟨Sg, S2, a1, a2, a3, a4⟩ := hs x (List.mem_of_getElem? e)
      have et : lst.take (i + 1) = lst.take i ++ [x] := by
        rw [List.take_add_one, e]
        rfl
      refine ⟨Sg, p x, S2, a1, a2, fun hb => ⟨?_, a3⟩, fun hb => ?_⟩
      · rw [et, List.filter_append, List.filter_cons_of_neg (by rw [hb]; exact Bool.false_ne_true)]
        show _ = ((lst.take i).filter p ++ []).map f
        rw [List.append_nil]
      · obtain ⟨S3, a5, a6⟩ := a4 hb
        refine ⟨f x, S3, a5, ?_, a6⟩
        rw [et, List.filter_append, List.filter_cons_of_pos hb, List.map_append]
        rfl
  · rintro acc ob ⟨rfl, rfl⟩
    rw [List.length_map, List.take_length]
    exact ⟨rfl, rfl⟩
theorem el_lcmA {α : Type} {g : TG} {vs : List Nat} {dA f : α → PyData} {lst : List α} (h : Ei K wi S (lst.map dA) S0) (hl : lst.length ≤ 1000000)
    (hs : ∀ x ∈ lst, ∃ Sg, Egc K vs g (dA x) { S0 with sl := wipeS S0.sl vs } Sg ∧ Sg.ob = S0.ob ∧ ∃ S3, Ee K te Sg (.dat (f x)) S3 ∧ S3.ob = S0.ob) : El K (tLc wi g tYes te vs) S (lst.map f) S0 := by
  have := el_lcfA (t := tYes) (p := fun _ => true) h hl fun x hx => by
    obtain ⟨Sg, a1, a2, S3, a3, a4⟩ := hs x hx
    exact ⟨Sg, Sg, a1, et_yes, a2, fun _ => ⟨S3, a3, a4⟩⟩
  rw [List.filter_eq_self.mpr fun _ _ => rfl] at this
  exact this
/-! ### an own list handed in, to be read -/
theorem Okk.toP (ok : Okk K c Hf H σ fp S) (ho : S.ob[k]? = some (.lst ds)) : Okk K c Hf H σ fp { S with ob := S.ob.set k (.lstP ds) } := by
  have hk := (List.getElem?_eq_some_iff.mp ho).1
  refine ⟨⟨ok.hd.ex, by rw [List.length_set]; exact ok.hd.fl, fun j p o h1 h2 => ?_, ok.hd.nd, ok.hd.al, fun j p o h1 h2 hx => ?_, ok.hd.pt, fun j p es h1 h2 => ?_⟩, ok.ln, ok.sr⟩
  · by_cases e : k = j
    · subst e
      rw [List.getElem?_set_self hk] at h2
      obtain rfl := Option.some.inj h2
      obtain ⟨a, xs, q⟩ := ok.hd.oo k p _ h1 ho
      exact ⟨a, xs, q⟩
    · rw [List.getElem?_set_ne e] at h2
      exact ok.hd.oo j p o h1 h2
  · by_cases e : k = j
    · subst e
      exact ok.hd.nf k p _ h1 ho (by intro z; cases z)
    · rw [List.getElem?_set_ne e] at h2
      exact ok.hd.nf j p o h1 h2 hx
  · by_cases e : k = j
    · subst e
      rw [List.getElem?_set_self hk] at h2
      cases h2
    · rw [List.getElem?_set_ne e] at h2
      exact ok.hd.np j p es h1 h2
theorem Okk.ofP (ok : Okk K c Hf H σ fp S) (ho : S.ob[k]? = some (.lstP ds)) (hc : ∀ p, fp[k]? = some p → ∀ a ∈ p, ¬ c a) : Okk K c Hf H σ fp { S with ob := S.ob.set k (.lst ds) } := by
  have hk := (List.getElem?_eq_some_iff.mp ho).1
  refine ⟨⟨ok.hd.ex, by rw [List.length_set]; exact ok.hd.fl, fun j p o h1 h2 => ?_, ok.hd.nd, ok.hd.al, fun j p o h1 h2 hx => ?_, ok.hd.pt, fun j p es h1 h2 => ?_⟩, ok.ln, ok.sr⟩
  · by_cases e : k = j
    · subst e
      rw [List.getElem?_set_self hk] at h2
      obtain rfl := Option.some.inj h2
      obtain ⟨a, xs, q⟩ := ok.hd.oo k p _ h1 ho
      exact ⟨a, xs, q⟩
    · rw [List.getElem?_set_ne e] at h2
      exact ok.hd.oo j p o h1 h2
  · by_cases e : k = j
    · subst e
      exact ok.hd.nf k p _ h1 ho (by intro z; cases z)
    · rw [List.getElem?_set_ne e] at h2
      exact ok.hd.nf j p o h1 h2 hx
  · by_cases e : k = j
    · subst e
      exact hc p h1
    · rw [List.getElem?_set_ne e] at h2
      exact ok.hd.np j p es h1 h2
theorem ee_callR {np : Nat} {E0 : XK} {tas : TA} {R : FR} {as asC : List SD} (ha : Ea K tas S asC S1) (he : asC = as.map (atK k)) (h0 : ∀ a ∈ as, ∀ j, a = .own j → j = 0) (hl : as.length = np) (ho : S1.ob[k]? = some (.lst ds)) (hR : R as [.lstP ds] (.dat d) [.lstP ds]) :
    Ee K (tCall (spD K np R) [] E0 tas) S (.dat d) S1 := fun c Hf H σ fp ok Q q =>
  ha c Hf H σ fp ok _ fun vs Hf1 H1 fp1 ok1 g1 sr => by
    have hk := (List.getElem?_eq_some_iff.mp ho).1
    subst he
    rw [List.append_nil]
    refine sp_call1 (k := k) (o := .lstP ds) (o' := .lstP ds) (ok1.toP ho) sr h0 hl (List.getElem?_set_self hk) (by intro z; cases z) (fun _ z => by cases z) hR fun v Hf' H' fp' ok' g' rv => ?_
    have eo : ((S1.ob.set k (.lstP ds)).set k (.lstP ds)).set k (.lst ds) = S1.ob := by
      rw [List.set_set, List.set_set]
      refine List.ext_getElem? fun i => ?_
      by_cases e : k = i
      · subst e
        rw [List.getElem?_set_self hk, ho]
      · rw [List.getElem?_set_ne e]
    have ok2 := ok'.ofP (k := k) (ds := ds) (by
      show ((S1.ob.set k (.lstP ds)).set k (.lstP ds))[k]? = _
      rw [List.set_set, List.getElem?_set_self hk]) fun p hp a hm => by
        have hkf : k < fp1.length := by rw [ok1.hd.fl]; exact hk
        have h1 : fp1[k]? = some fp1[k] := List.getElem?_eq_getElem hkf
        have h2 := pre_get g'.pr h1
        rw [hp] at h2
        obtain rfl := Option.some.inj h2
        exact ok1.hd.np k _ ds h1 ho a hm
    have ok3 : Okk K c Hf' H' σ fp' S1 := by
      have : ({ S1 with ob := ((S1.ob.set k (.lstP ds)).set k (.lstP ds)).set k (.lst ds) } : SS) = S1 := by rw [eo]
      rw [← this]
      exact ok2
    exact q v Hf' H' fp' ok3 (g1.trans g') rv
theorem rc_maxTu {n : Int} {ns : List Int} : Rc K (rMaxT K) [.dat (.tuple ((n :: ns).map PyData.int))] S (.dat (.int (ns.foldl max n))) S := fun c Hf H σ fp ok vs r Q q => by
  obtain ⟨v, rfl, rv⟩ := r.one
  cases rv with
  | tup h1 h2 =>
    obtain rfl := RpA.ints_inv (ns := n :: ns) h2
    exact ⟨_, n, ns, rfl, .inl (sameT ok.hd.ex h1), q _ _ _ _ ok Gr.refl (Rp.int _)⟩
theorem rc_minL {n : Int} {ns : List Int} (h : AsD S x (.list ((n :: ns).map PyData.int))) : Rc K (rMinT K) [x] S (.dat (.int (ns.foldl min n))) S := fun c Hf H σ fp ok vs r Q q => by
  obtain ⟨v, rfl, rv⟩ := r.one
  obtain ⟨a, xs, rfl, h1, h2⟩ := ok.asL rv h
  obtain rfl := RpA.ints_inv (ns := n :: ns) h2
  exact ⟨_, n, ns, rfl, .inr (.inl (.inl h1)), q _ _ _ _ ok Gr.refl (Rp.int _)⟩
theorem ro_mulS (h1 : 1 ≤ i) (h2 : i ≤ 1000) (hz : ds.length ≤ 1000) : Ro K (rMulS K) (.dat (.tuple ds)) (.dat (.int i)) S (.dat (.tuple (repD i.toNat ds))) S := by
  by_cases hs : ds = [] ∨ i = 1
  · intro c Hf H σ fp ok v u rv ru Q q
    cases ru
    cases rv with
    | @tup a xs _ e1 e2 =>
      have er : repD i.toNat ds = ds := by
        rcases hs with hs | hs
        · subst hs
          have : ∀ k, repD k [] = [] := fun k => by
            induction k with
            | zero => rfl
            | succ k ih => rw [repD_succ, ih]; rfl
          exact this _
        · subst hs
          exact List.append_nil _
      rw [er] at q
      refine .inr ⟨a, i, xs, rfl, rfl, sameT ok.hd.ex e1, ?_, by omega, by omega, q _ _ _ _ ok Gr.refl (Rp.tup e1 e2)⟩
      rcases hs with hs | hs
      · subst hs
        cases e2
        exact .inl rfl
      · exact .inr hs
  · rw [not_or] at hs
    have hz2 : ds.length * i.toNat ≤ 1000000 := by
      have := Nat.mul_le_mul hz (show i.toNat ≤ 1000 by omega)
      omega
    exact fun c Hf H σ fp ok v u rv ru Q q => .inl (ro_repT (K := K) (S := S) hs.1 (by omega) hz2 c Hf H σ fp ok v u rv ru Q q)
end
section
variable {X : Cx}
/-- a op b op2 c op3 d, asked -/
theorem pt_chain3 {op op2 op3 : CmpOp} {r r2 r3 : R2} {ta tb tc td : TE} {a b c d : Expr} {pos : Pos} (ho : OpR X (compareOp op) r) (ho2 : OpR X (compareOp op2) r2) (ho3 : OpR X (compareOp op3) r3) (ha : PE X a ta) (hb : PE X b tb) (hc : PE X c tc) (hd : PE X d td)
    (hm : lastMarks [op, op2, op3] [b, c, d] = false := by with_unfolding_all rfl) : PT X (.Compare a [op, op2, op3] [b, c, d] pos) (tTest (tChain3 r r2 r3 ta tb tc td)) := by
  constructor
  intro pins s σ H Q I h
  refine isTrue_chain (thn (ha.run pins s σ H _ I h) fun v s1 ⟨x, H1, I1, r1, q1⟩ => test_link (thn (hb.run pins s1 σ H1 _ I1 q1) fun u s2 ⟨y, H2, I2, k2, q2⟩ => thn (ho pins s2 σ H2 x y v u _ I2 r1 k2 q2) fun e s3 ⟨z, H3, I3, k3, k, ez, q3⟩ => ?_)) hm
  subst ez
  cases k3
  refine wpAny_truthy_bool ?_
  cases k with
  | false =>
    obtain ⟨kk, e, q⟩ := q3
    cases e
    exact ite_ff ⟨H3, I3, q⟩
  | true =>
    refine ite_tt (test_link (thn (hc.run pins s3 σ H3 _ I3 q3) fun u' s4 ⟨w, H4, I4, k4, q4⟩ => thn (ho2 pins s4 σ H4 y w u u' _ I4 k2 k4 q4) fun e' s5 ⟨z', H5, I5, k5, k', ez', q5⟩ => ?_))
    subst ez'
    cases k5
    refine wpAny_truthy_bool ?_
    cases k' with
    | false =>
      obtain ⟨kk, e, q⟩ := q5
      cases e
      exact ite_ff ⟨H5, I5, q⟩
    | true =>
      refine ite_tt (test_last (thn (hd.run pins s5 σ H5 _ I5 q5) fun v' s6 ⟨w', H6, I6, k6, q6⟩ => thn (ho3 pins s6 σ H6 w w' u' v' _ I6 k4 k6 q6) fun e3 s7 ⟨z7, H7, I7, k7, kk, ez7, q7⟩ => ?_))
      subst ez7
      cases k7
      exact wpAny_truthy_bool ⟨H7, I7, q7⟩
end
section
variable {K : PySem.W.Frag} {S : SS}
theorem rcl_listScr {ns : List Int} : RcL K (rListOf K) [.scr ns] S (ns.map PyData.int) S := fun c Hf H σ fp ok vs r Q q => by
  obtain ⟨v, rfl, rv⟩ := r.one
  obtain ⟨a, rfl, h⟩ := rv
  refine ⟨a, _, rfl, .inl (ok.hd.ex.seq h), fun p hp => ?_⟩
  obtain ⟨ok2, g2, al⟩ := ok.alone hp (RpA.ints ns)
  exact q p _ _ _ ok2 g2 hp al
end
end DL

set_option maxRecDepth 100000
set_option maxHeartbeats 1000000
/-! DLm: max with a default, the index of a number in a tuple and in a list, any -/
namespace DL
open PySem PySem.Spec PyProof.Rows L2
theorem maxD_ints : ∀ (ys : List Int) (x : Int), PySem.W.maxD (.int x) (ys.map PyData.int) = .int (ys.foldl max x)
  | [], x => rfl
  | y :: ys, x => by
    have ih := maxD_ints ys (max x y)
    show List.foldl _ (if PySem.W.dataLt (.int x) (.int y) = true then PyData.int y else PyData.int x) (ys.map PyData.int) = PyData.int (ys.foldl max (max x y))
    rw [← ih, PySem.W.dataLt_int]
    show List.foldl _ _ _ = List.foldl _ (PyData.int (max x y)) _
    congr 1
    by_cases h : x < y
    · rw [if_pos (decide_eq_true h), show max x y = y by omega]
    · rw [if_neg (by rw [decide_eq_false h]; exact Bool.false_ne_true), show max x y = x by omega]
def rMaxD (K : PySem.W.Frag) (vs zs : List V) (H : Hp) (Q : VK) : Prop := ∃ (a : Addr) (ns : List Int) (d : Int), vs = [V.ref a] ∧ zs = [V.int d] ∧ SqL K H a (ns.map V.int) ∧ Q (.int (ns.foldl max (match ns with | [] => d | n :: _ => n))) H
theorem call_maxD {X : Cx} (hc : X.calm = true) (hu : X.A.units + 100 < cLine) : CallRK X (.builtin "max") ["default"] (rMaxD X.K) := fun pins s σ H xs zs us ws Q I hv hz ⟨a, ns, d, e1, e2, hs, q⟩ => by
  subst e1
  subst e2
  obtain rfl := hv.ref1
  obtain ⟨its, r, pl, sz⟩ := I.list hs
  cases hz with
  | cons hd ht =>
    obtain ⟨t, rfl⟩ := hd
    cases ht
    have ia := Vals.ints r
    refine PySem.W.max_list_default (xs := ns.map PyData.int) (as := []) (I.ok.hd hc) pl.isList (reads_ints ia) ?_ ?_ (fun e h' tk k => ?_) fun y ys i v h' tk bs e _ rd k => ?_
    · refine ⟨fun x hx y hy => ?_, fun x hx => ?_⟩
      · obtain ⟨p, _, rfl⟩ := List.mem_map.mp hx
        obtain ⟨q, _, rfl⟩ := List.mem_map.mp hy
        rfl
      · obtain ⟨p, _, rfl⟩ := List.mem_map.mp hx
        intro z
        cases z
    · rw [depth_ints]
      omega
    · have : ns = [] := List.map_eq_nil_iff.mp e
      subst this
      exact ⟨.int d, H, I.kept k, ⟨t, rfl⟩, q⟩
    · obtain ⟨n, ms, rfl⟩ : ∃ n ms, ns = n :: ms := by
        cases ns with
        | nil => cases e
        | cons n ms => exact ⟨n, ms, rfl⟩
      cases e
      rw [maxD_ints] at rd
      cases rd
      refine ⟨.int (ms.foldl max n), H, I.kept k, ⟨_, rfl⟩, ?_⟩
      have : List.foldl max n (n :: ms) = List.foldl max n ms := by
        rw [List.foldl_cons, show max n n = n by omega]
      rw [← this]
      exact q
def rIndexTI (K : PySem.W.Frag) : V → List V → Hp → VK → Prop := fun x xs H Q => ∃ (p : Addr) (ns : List Int) (z : Int) (j : Nat), x = .ref p ∧ xs = [.int z] ∧ SqT K H p (ns.map V.int) ∧ ns[j]? = some z ∧ (∀ m, m < j → ns[m]? ≠ some z) ∧ Q (.int (j : Nat)) H
theorem mt_tup_indexI {X : Cx} : MtR X "tuple.index" (rIndexTI X.K) := fun pins s σ H x xs v us Q I hx hxs ⟨p, ns, z, j, e1, e2, hs, hj, hm, q⟩ => by
  subst e1
  subst e2
  obtain rfl : v = .ref p := hx
  obtain ⟨u, rfl, hu⟩ := vals1 hxs
  obtain ⟨its, r, ⟨o, h1, h2, n, h3⟩, sz⟩ := I.tuple hs
  have hl : its.length = ns.length := by
    have := r.length
    rw [List.length_map] at this
    exact this.symm
  have geti : ∀ (i : Nat) (w : Int), ns[i]? = some w → ∃ t, its[i]? = some (Value.int w t) := fun i w e => by
    obtain ⟨u', h1, h2⟩ := r.get (i := i) (x := V.int w) (by rw [List.getElem?_map, e]; rfl)
    obtain ⟨t, rfl⟩ := h2
    exact ⟨t, h1⟩
  have hjl : j < its.toArray.size := by
    have := (List.getElem?_eq_some_iff.mp hj).1
    rw [List.size_toArray]
    omega
  have at' : ∀ (i : Nat) (hi : i < its.toArray.size) (w : Int), ns[i]? = some w → eqU (V.int z) its.toArray[i] = (w == z) := fun i hi w e => by
    obtain ⟨t, ht⟩ := geti i w e
    have : its.toArray[i] = Value.int w t := by
      rw [List.size_toArray] at hi
      rw [List.getElem?_eq_getElem hi] at ht
      rw [List.getElem_toArray]
      exact Option.some.inj ht
    rw [this]
    rfl
  obtain ⟨cls, dict, data, slots⟩ := o
  cases h2
  cases h3
  refine call_meets PySem.F.slot_tuple_index ⟨_, h1, rfl⟩ PySem.F.entry_tuple_index (PySem.F.args_tuple_index_2 _ _) (TI.tuple_indexAt p its.toArray n dict slots u (eqU (V.int z)) j hjl ?_ ?_) ⟨h1, fun y hy => mem_eqAt hu rfl r (flat_ints ns) y (by simpa using hy), ?_⟩
  · rw [at' j hjl z hj]
    exact beq_self_eq_true z
  · intro m hm1 hm2
    have hml : m < ns.length := by
      rw [List.size_toArray] at hm1
      omega
    rw [at' m hm1 _ (List.getElem?_eq_getElem hml)]
    have := hm m hm2
    rw [List.getElem?_eq_getElem hml] at this
    exact beq_eq_false_iff_ne.mpr fun z => this (by rw [z])
  · exact ⟨.int (j : Nat), H, I.tok _, ⟨_, rfl⟩, q⟩

def rTupX (K : PySem.W.Frag) : List V → Hp → VK → Prop := fun xs H Q => ∃ p ys, xs = [V.ref p] ∧ SqL K H p ys ∧ ∀ (l : Addr) (o : Obj), H l = none → o.cls = .type "tuple" → o.dict = none → Q (.ref l) (upd H l (.frz o (.tup ys)))
theorem cb_tupleX {X : Cx} : CallR X (.type "tuple") (rTupX X.K) := fun pins s σ H xs us Q I hxs ⟨p, ys, e, hs, q⟩ => by
  subst e
  obtain rfl := hxs.ref1
  obtain ⟨its, r, pl, sz⟩ := I.list hs
  have sz2 : its.length ≤ sizeLine := by rw [← r.length]; exact sz
  refine call_tuple_list pl.isList (fun h' k => ?_) (by rw [List.size_toArray]; exact sz2)
  have I2 := I.kept (t' := s.toks) k
  have hn := HOk.fresh I2.hok (Nat.le_refl _)
  refine ⟨.ref h'.objs.size, _, I2.laid (a := h'.objs.size) (o := .frz { cls := .type "tuple", data := .seq its.toArray } (.tup ys)) (t' := s.toks) (fun b u e => Heap.get?_push_of_some _ e) (Nat.le_refl _) ?_, rfl, q _ _ hn rfl rfl⟩
  simp only [L2.ObjOk]
  exact ⟨Heap.get?_push_size _ rfl, sz, its, r, IsTup.new h' its.toArray⟩
theorem tyOk_tx0 {X : Cx} : TyOk X "tuple" (fun x H => ∃ (a : Addr) (o : Obj) (xs : List V), x = .ref a ∧ H a = some (.frz o (.tup xs)) ∧ o.cls = .type "tuple" ∧ o.dict = none) := fun pins σ H s x v I hx ⟨a, o, xs, e, h1, h2, h3⟩ => by
  subst e
  obtain rfl : v = .ref a := hx
  have q := I.hok a _ h1
  simp only [L2.ObjOk] at q
  refine ⟨⟨o, q.1, h2⟩, fun b e => ?_⟩
  cases e
  exact ⟨o, q.1, h3⟩
theorem mtK {X : Cx} (K : PySem.W.Frag) {id : String} {R : PySem.W.Frag → V → List V → Hp → VK → Prop} (h : MtR X id (R X.K)) (e : X.K = K) : MtR X id (R K) := e ▸ h
section
variable {K : PySem.W.Frag} {S S1 S2 : SS} {te td to_ : TE} {ns : List Int} {z : Int} {j : Nat}
theorem rp_boolsM {Hf : Hp} : ∀ {bs : List Bool} {xs : List V}, RpA K Hf xs (bs.map PyData.bool) → xs = bs.map V.bl
  | [], _, .nil => rfl
  | b :: bs, _, .cons h t => by
    cases h
    rw [rp_boolsM t]
    rfl
theorem rc_any {bs : List Bool} : Rc K (rAny K) [.dat (.list (bs.map PyData.bool))] S (.dat (.bool (bs.any id))) S := fun c Hf H σ fp ok vs r Q q => by
  obtain ⟨v, rfl, rv⟩ := r.one
  cases rv with
  | lst h1 h2 => exact ⟨_, bs, rfl, .inl (.inl (by rw [← rp_boolsM h2]; exact ok.hd.ex _ _ h1)), q _ _ _ _ ok Gr.refl (Rp.bl _)⟩
def maxDN (d : Int) (ns : List Int) : Int := ns.foldl max (match ns with | [] => d | n :: _ => n)
theorem ee_maxD {d : Int} (h : Ee K te S (.dat (.list (ns.map PyData.int))) S1) (hd : Ee K td S1 (.dat (.int d)) S2) : Ee K (tCKw (rMaxD K) (tCons te tNil) (tCons td tNil)) S (.dat (.int (maxDN d ns))) S2 := fun c Hf H σ fp ok Q q =>
  h c Hf H σ fp ok _ fun v Hf1 H1 fp1 ok1 g1 r1 => hd c Hf1 H1 σ fp1 ok1 _ fun u Hf2 H2 fp2 ok2 g2 r2 => by
    have r3 := r1.mono g2.sm g2.pr
    cases r2
    cases r3 with
    | lst h1 h2 => exact ⟨_, ns, d, rfl, rfl, .inl (.inl (by rw [← RpA.ints_inv h2]; exact ok2.hd.ex _ _ h1)), q _ _ _ _ ok2 (g1.trans g2) (Rp.int _)⟩
theorem rc_tupX {x : SD} (h : AsD S x (.list (ns.map PyData.int))) : Rc K (rTupX K) [x] S (.tx ns) S := fun c Hf H σ fp ok vs r Q q => by
  obtain ⟨v, rfl, rv⟩ := r.one
  obtain ⟨a, xs, rfl, h1, h2⟩ := ok.asL rv h
  have e := RpA.ints_inv h2
  subst e
  refine ⟨a, _, rfl, .inl (.inl h1), fun p o hp ho hd => ?_⟩
  obtain ⟨ok2, g2⟩ := ok.laid (.frz o (.tup (ns.map V.int))) hp
  exact q _ _ _ _ ok2 g2 ⟨p, o, rfl, upd_same, ho, hd⟩
/-- such a tuple is data -/
theorem ee_txD (h : Ee K te S (.tx ns) S1) : Ee K te S (.dat (.tuple (ns.map PyData.int))) S1 := fun c Hf H σ fp ok Q q =>
  h c Hf H σ fp ok _ fun v Hf1 H1 fp1 ok1 g1 r1 => by
    obtain ⟨a, o, rfl, h1, _⟩ := r1
    exact q _ _ _ _ ok1 g1 (Rp.tup (.inl (.inr ⟨o, h1⟩)) (RpA.ints ns))
def tyTX : V → Hp → Prop := fun x H => ∃ (a : Addr) (o : Obj) (xs : List V), x = .ref a ∧ H a = some (.frz o (.tup xs)) ∧ o.cls = .type "tuple" ∧ o.dict = none
theorem tyOk_tx {X : Cx} : TyOk X "tuple" tyTX := tyOk_tx0
theorem ee_indexT (h : Ee K to_ S (.tx ns) S1) (he : Ee K te S1 (.dat (.int z)) S2) (hj : ns[j]? = some z) (hm : ∀ m, m < j → ns[m]? ≠ some z) : Ee K (tMG tyTX (rIndexTI K) to_ (tCons te tNil)) S (.dat (.int (j : Int))) S2 := fun c Hf H σ fp ok Q q =>
  h c Hf H σ fp ok _ fun v Hf1 H1 fp1 ok1 g1 r1 => by
    obtain ⟨a, o, rfl, h1, h2, h3⟩ := r1
    refine ⟨⟨a, o, _, rfl, ok1.hd.ex _ _ h1, h2, h3⟩, he c Hf1 H1 σ fp1 ok1 _ fun u Hf2 H2 fp2 ok2 g2 r2 => ?_⟩
    cases r2
    exact ⟨_, ns, z, j, rfl, rfl, .inl (.inr ⟨o, ok2.hd.ex _ _ (g2.sm _ _ h1)⟩), hj, hm, q _ _ _ _ ok2 (g1.trans g2) (Rp.int _)⟩
theorem ee_indexL (h : Ee K to_ S (.dat (.list (ns.map PyData.int))) S1) (he : Ee K te S1 (.dat (.int z)) S2) (hj : ns[j]? = some z) (hm : ∀ m, m < j → ns[m]? ≠ some z) : Ee K (tBM K "list" (rIndex K) to_ (tCons te tNil)) S (.dat (.int (j : Int))) S2 := fun c Hf H σ fp ok Q q =>
  h c Hf H σ fp ok _ fun v Hf1 H1 fp1 ok1 g1 r1 => by
    cases r1 with
    | lst h1 h2 =>
      have e := RpA.ints_inv h2
      subst e
      refine ⟨.inl ⟨rfl, _, .inl (.inl (ok1.hd.ex _ _ h1))⟩, he c Hf1 H1 σ fp1 ok1 _ fun u Hf2 H2 fp2 ok2 g2 r2 => ?_⟩
      cases r2
      refine ⟨_, ns.map V.int, .int z, j, .int z, rfl, rfl, .inl (.inl (ok2.hd.ex _ _ (g2.sm _ _ h1))), rfl, flat_ints ns, by rw [List.getElem?_map, hj]; rfl, beq_self_eq_true z, fun m z' hm1 hz' => ?_, q _ _ _ _ ok2 (g1.trans g2) (Rp.int _)⟩
      rw [List.getElem?_map] at hz'
      cases e : ns[m]? with
      | none =>
        rw [e] at hz'
        cases hz'
      | some w =>
        rw [e] at hz'
        obtain rfl := Option.some.inj hz'
        exact beq_eq_false_iff_ne.mpr fun y => hm m hm1 (by rw [e, y])
end
/-- a tuple written out, kept as it is -/
def tTupX (t : TA) : TE := fun σ H Q => t σ H fun xs H1 => xs.length ≤ sizeLine ∧ ∀ (p : Addr) (o : Obj), H1 p = none → o.cls = .type "tuple" → o.dict = none → Q (.ref p) (upd H1 p (.frz o (.tup xs)))
theorem pe_tupX {X : Cx} {es : List Expr} {t : TA} {pos : Pos} {x1 : Nat} (h : PA X es t) : PE X (.Tuple es x1 pos) (tTupX t) := ⟨fun pins s σ H Q I hq => wpAny_Tuple_spliced (thn (h.run pos pins s σ H _ I hq) fun us s1 ⟨xs, H1, I1, r, sz, q⟩ => by
  refine ⟨by rw [← r.length]; exact sz, .ref s1.heap.objs.size, _, I1.laid (a := s1.heap.objs.size) (o := .frz { cls := .type "tuple", data := .seq us.toArray } (.tup xs)) (t' := s1.toks) (fun b u e => Heap.get?_push_of_some _ e) (Nat.le_refl _) ?_, rfl, q _ _ (HOk.fresh I1.hok (Nat.le_refl _)) rfl rfl⟩
  simp only [L2.ObjOk]
  exact ⟨Heap.get?_push_size _ rfl, sz, us, r, IsTup.new s1.heap us.toArray⟩)⟩
section
variable {K : PySem.W.Frag} {S S1 : SS} {ta : TA} {ns : List Int}
theorem ee_tupX (h : Ed K ta S (ns.map PyData.int) S1) (hz : ns.length ≤ 1000000 := by first | decide | (simp; done)) : Ee K (tTupX ta) S (.tx ns) S1 := fun c Hf H σ fp ok Q q =>
  h c Hf H σ fp ok _ fun vs Hf1 H1 fp1 ok1 g1 r1 => by
    have r2 := SRA.rp r1
    have e := RpA.ints_inv r2
    subst e
    refine ⟨by rw [List.length_map]; exact Nat.le_trans hz (by decide), fun p o hp ho hd => ?_⟩
    obtain ⟨ok2, g2⟩ := ok1.laid (.frz o (.tup (ns.map V.int))) hp
    exact q _ _ _ _ ok2 (g1.trans g2) ⟨p, o, rfl, upd_same, ho, hd⟩
/-- a call of data alone, that gives such a tuple -/
theorem ee_callT {S : SS} {R : FR} {np : Nat} {E : XK} {ds : List PyData} (ha : Ed K ta S ds S1) (hl : ds.length = np) (hR : R (ds.map SD.dat) [] (.tx ns) []) : Ee K (tCall (spD K np R) [] E ta) S (.tx ns) S1 := by
  have h := ee_call0 (np := np) (E := E) (R := R) (r := .tx ns) (ob' := []) ha (fun a h => by
    obtain ⟨x, _, rfl⟩ := List.mem_map.mp h
    trivial) (by rw [List.length_map]; exact hl) hR
  rw [List.append_nil] at h
  exact h
/-- a tuple of three, the one in the middle such a tuple -/
theorem ee_tupQ {d1 d3 : PyData} (ha : Ea K ta S [.dat d1, .tx ns, .dat d3] S1) : Ee K (tTup ta) S (.tq d1 ns d3) S1 := fun c Hf H σ fp ok Q q =>
  ha c Hf H σ fp ok _ fun vs Hf1 H1 fp1 ok1 g1 r1 => by
    cases r1 with
    | @cons v1 _ _ _ q1 r1 => cases r1 with
      | @cons v2 _ _ _ q2 r1 => cases r1 with
        | @cons v3 _ _ _ q3 r1 =>
          cases r1
          obtain ⟨b, o, rfl, h2, h3, h4⟩ := q2
          refine ⟨by show 3 ≤ sizeLine; rw [sizeLine_eq]; omega, fun p hp => ?_⟩
          obtain ⟨ok2, g2⟩ := ok1.laid (.tup [v1, .ref b, v3]) hp
          exact q _ _ _ _ ok2 (g1.trans g2) ⟨p, v1, b, o, v3, rfl, upd_same, Rp.mono g2.sm q1, g2.sm _ _ h2, h3, h4, Rp.mono g2.sm q3⟩
theorem ro_ixQ {d1 d3 : PyData} : Ro K (rIx K) (.tq d1 ns d3) (.dat (.int 1)) S (.tx ns) S := fun c Hf H σ fp ok v u rv ru Q q => by
  obtain ⟨a, v1, b, o, v3, rfl, h1, h2, h3, h4, h5, h6⟩ := rv
  cases ru
  exact .inr (.inl ⟨_, _, 1, .ref b, rfl, rfl, sameT ok.hd.ex (.inl (.inl h1)), rfl, q _ _ _ _ ok Gr.refl ⟨b, o, rfl, h3, h4, h5⟩⟩)
theorem ee_tqD {te : TE} {d1 d3 : PyData} (h : Ee K te S (.tq d1 ns d3) S1) : Ee K te S (.dat (.tuple [d1, .tuple (ns.map PyData.int), d3])) S1 := fun c Hf H σ fp ok Q q =>
  h c Hf H σ fp ok _ fun v Hf1 H1 fp1 ok1 g1 r1 => by
    obtain ⟨a, v1, b, o, v3, rfl, h1, h2, h3, h4, h5, h6⟩ := r1
    exact q _ _ _ _ ok1 g1 (Rp.tup (.inl (.inl h1)) (.cons h2 (.cons (Rp.tup (.inl (.inr ⟨o, h3⟩)) (RpA.ints ns)) (.cons h6 .nil))))
theorem ee_callQ {S : SS} {R : FR} {np : Nat} {E : XK} {ds : List PyData} {d1 d3 : PyData} (ha : Ed K ta S ds S1) (hl : ds.length = np) (hR : R (ds.map SD.dat) [] (.tq d1 ns d3) []) : Ee K (tCall (spD K np R) [] E ta) S (.tq d1 ns d3) S1 := by
  have h := ee_call0 (np := np) (E := E) (R := R) (r := .tq d1 ns d3) (ob' := []) ha (fun a h => by
    obtain ⟨x, _, rfl⟩ := List.mem_map.mp h
    trivial) (by rw [List.length_map]; exact hl) hR
  rw [List.append_nil] at h
  exact h
end
theorem et_truL {K : PySem.W.Frag} {S S1 : SS} {te : TE} {ds : List PyData} (h : Ee K te S (.dat (.list ds)) S1) : Et K (tTru K te) S (!ds.isEmpty) S1 := fun c Hf H σ fp ok Q q => h c Hf H σ fp ok _ fun v Hf1 H1 fp1 ok1 g1 r1 => by
  cases r1 with
  | @lst a xs _ h1 h2 =>
    refine ⟨_, .inl ⟨xs, .inl (.inl (ok1.hd.ex _ _ h1)), ?_⟩, q _ _ _ ok1 g1⟩
    cases h2 <;> rfl
/-- data in a list of data -/
theorem ro_inD {K : PySem.W.Frag} {S : SS} {x y : SD} {d : PyData} {ds : List PyData} (hx : AsD S x d) (hy : AsD S y (.list ds)) (h1 : SeqAt.shaped d = true) (h2 : SeqAt.shaped (.list ds) = true) : Ro K (rInD K) x y S (.dat (.bool (ds.any fun z => PyData.eqv z d))) S := fun c Hf H σ fp ok v u rv ru Q q =>
  ⟨d, ds, ok.asDp rv hx (shaped_noDict h1), ok.asDp ru hy (shaped_noDict h2), h1, h2, q _ _ _ _ ok Gr.refl (Rp.bl _)⟩
theorem rc_allM {K : PySem.W.Frag} {S : SS} {bs : List Bool} : Rc K (rAll K) [.dat (.list (bs.map PyData.bool))] S (.dat (.bool (bs.all id))) S := fun c Hf H σ fp ok vs r Q q => by
  obtain ⟨v, rfl, rv⟩ := r.one
  cases rv with
  | lst h1 h2 => exact ⟨_, bs, rfl, .inl (.inl (by rw [← rp_boolsM h2]; exact ok.hd.ex _ _ h1)), q _ _ _ _ ok Gr.refl (Rp.bl _)⟩
/-- three names at once -/
theorem ts_par3 {K : PySem.W.Frag} {S S1 : SS} {x y z : SD} {i j l : Nat} {tas : TA} {E : DE} (h : Ea K tas S [x, y, z] S1) (k : E.nx { S1 with sl := ((S1.sl.set i x).set j y).set l z }) : Ts K (tPar3 i j l tas) S E := fun c Hf H σ fp ok D n r bk ct =>
  h c Hf H σ fp ok _ fun vs Hf1 H1 fp1 ok1 g1 r1 => by
    cases r1 with
    | cons r1 rr => cases rr with
      | cons r2 rr => cases rr with
        | cons r3 rr => cases rr with
          | nil => exact ⟨_, _, _, rfl, n _ Hf1 H1 _ fp1 (((ok1.put r1).put r2).put r3) g1 k⟩
/-- two ways that come to one place -/
theorem ts_join {K : PySem.W.Frag} {S : SS} {E : DE} {tu tw : TS} (Pv : SS → Prop) (h : Ts K tu S { E with nx := Pv }) (k : ∀ S', Pv S' → Ts K tw S' E) : Ts K (tSeq tu tw) S E :=
  ts_seq (ts_mono h (fun S hS => k S hS) (fun _ _ z => z) (fun _ z => z) fun _ z => z)
/-- a comprehension of two clauses over lists that are told by their sources -/
theorem outL_map {α β : Type} {dA : α → PyData} {uA : PyData → α} {dB : β → PyData} {uB : PyData → β} (ha : ∀ a, uA (dA a) = a) (hb : ∀ b, uB (dB b) = b) (es : α → List β) (p : α → β → Bool) (f : α → β → PyData) (lst : List α) :
    outL (fun d => (es (uA d)).map dB) (fun d e => p (uA d) (uB e)) (fun d e => f (uA d) (uB e)) (lst.map dA) = lst.flatMap fun a => ((es a).filter (p a)).map (f a) := by
  unfold outL
  rw [List.flatMap_map]
  congr 1
  funext a
  show (((es (uA (dA a))).map dB).filter fun e => p (uA (dA a)) (uB e)).map (fun e => f (uA (dA a)) (uB e)) = _
  rw [ha, List.filter_map, List.map_map]
  have e1 : ((fun e => p a (uB e)) ∘ dB) = p a := by
    funext b
    show p a (uB (dB b)) = _
    rw [hb]
  have e2 : ((fun e => f a (uB e)) ∘ dB) = f a := by
    funext b
    show f a (uB (dB b)) = _
    rw [hb]
  rw [e1, e2]
theorem el_lc2A {K : PySem.W.Frag} {S : SS} {α β : Type} {wi wi1 : TI} {g g1 : TG} {t1 : TT} {te : TE} {vs vs1 : List Nat} {S0 : SS} {dA : α → PyData} (uA : PyData → α) {dB : β → PyData} (uB : PyData → β) {lst : List α} (es : α → List β) (p : α → β → Bool) (f : α → β → PyData)
    (ha : ∀ a, uA (dA a) = a) (hb : ∀ b, uB (dB b) = b) (h : Ei K wi S (lst.map dA) S0) (hl : (lst.flatMap fun a => ((es a).filter (p a)).map (f a)).length ≤ 1000000)
    (hs : ∀ a ∈ lst, ∃ Sg, Egc K vs g (dA a) { S0 with sl := wipeS S0.sl vs } Sg ∧ Sg.ob = S0.ob ∧ Ei K wi1 Sg ((es a).map dB) Sg ∧
      ∀ b ∈ es a, ∃ Sh S2, Egc K vs1 g1 (dB b) { Sg with sl := wipeS Sg.sl vs1 } Sh ∧ Et K t1 Sh (p a b) S2 ∧ S2.ob = S0.ob ∧ (p a b = true → ∃ S3, Ee K te S2 (.dat (f a b)) S3 ∧ S3.ob = S0.ob)) :
    El K (tLc2 wi g tYes wi1 g1 t1 te vs vs1) S (lst.flatMap fun a => ((es a).filter (p a)).map (f a)) S0 := by
  rw [← outL_map ha hb es p f lst] at hl ⊢
  refine el_lc2 _ _ _ h hl fun i d hd => ?_
  rw [List.getElem?_map] at hd
  obtain ⟨a, ea, rfl⟩ := Option.map_eq_some_iff.mp hd
  obtain ⟨Sg, h1, h2, h3, h4⟩ := hs a (List.mem_of_getElem? ea)
  refine ⟨Sg, h1, h2, by show Ei K wi1 Sg ((es (uA (dA a))).map dB) Sg; rw [ha]; exact h3, fun j e he => ?_⟩
  rw [ha] at he
  rw [List.getElem?_map] at he
  obtain ⟨b, eb, rfl⟩ := Option.map_eq_some_iff.mp he
  obtain ⟨Sh, S2, k1, k2, k3, k4⟩ := h4 b (List.mem_of_getElem? eb)
  refine ⟨Sh, S2, k1, by rw [ha, hb]; exact k2, k3, fun z => ?_⟩
  rw [ha, hb] at z ⊢
  exact k4 z
/-! ### own dicts as sets of numbers -/
def setKV (ks : List Int) : List (Key × V) := ks.map fun z => (Sum.inl z, V.bl true)
def addS (ks : List Int) (z : Int) : List Int := if z ∈ ks then ks else ks ++ [z]
theorem setKV_key (ks : List Int) : (setKV ks).map (·.1) = ks.map Sum.inl := by
  unfold setKV
  rw [List.map_map]
  rfl
theorem put_setKV (ks : List Int) (z : Int) : putK (setKV ks) (Sum.inl z) (V.bl true) = setKV (addS ks z) := by
  unfold putK addS
  have e : ((setKV ks).any fun kv => decide (kv.1 = Sum.inl z)) = decide (z ∈ ks) := by
    unfold setKV
    rw [List.any_map]
    induction ks with
    | nil => rfl
    | cons a ks ih =>
      rw [List.any_cons, ih]
      by_cases h : a = z
      · subst h
        simp
      · have h2 : ¬ (z = a) := fun e => h e.symm
        simp [h, h2]
  rw [e]
  by_cases h : z ∈ ks
  · rw [if_pos (decide_eq_true h), if_pos h]
    unfold setKV
    rw [List.map_map]
    refine List.map_congr_left fun a _ => ?_
    show (if (Sum.inl a : Key) = Sum.inl z then ((Sum.inl a : Key), V.bl true) else (Sum.inl a, V.bl true)) = _
    split <;> rfl
  · rw [if_neg (by rw [decide_eq_false h]; decide), if_neg h]
    unfold setKV
    rw [List.map_append]
    rfl
def rSortDI : List V → Hp → VK → Prop := fun xs H Q => ∃ (a : Addr) (kvs : List (Key × V)) (ks : List Int), xs = [.ref a] ∧ Rd H a (.dK kvs) ∧ kvs.map (·.1) = ks.map Sum.inl ∧ ks.length < 64 ∧ ∀ (ys : List Int) (p : Addr), ys.Perm ks → ys.Pairwise (· ≤ ·) → H p = none → Q (.ref p) (upd H p (.lst (ys.map V.int)))
theorem cr_sortDI {X : Cx} (hcalm : X.calm = true) : CallR X (.builtin "sorted") rSortDI := call_sortedDI hcalm
section
variable {K : PySem.W.Frag} {S S1 : SS} {E : DE} {c : Addr → Prop} {Hf H : Hp} {σ : L2.St} {fp : List (List Addr)}
/-- found = {} -/
theorem ts_newset {n : Nat} (kx : ∀ a, E.nx { S with sl := S.sl.set n (.own S.ob.length), ob := S.ob ++ [.raw a (.dK (setKV []))] }) : Ts K (tAsg tDNewK (gName n)) S E := fun c Hf H σ fp ok D nx r bk ct p hp => by
  obtain ⟨ok1, g1⟩ := ok.newR (.dK []) hp
  have ok5 := ok1.put_sl (k := S.ob.length) (i := n) (a := p) (o := .dK []) List.getElem?_concat_length
  exact nx _ _ _ _ _ ok5 g1 (kx p)
/-- found[e] = True -/
theorem ts_putset {i k : Nat} {a : Addr} {ks : List Int} {z : Int} {tk : TE} (hs : S.sl[i]? = some (.own k)) (hk : Ee K tk S (.dat (.int z)) S) (ho : S.ob[k]? = some (.raw a (.dK (setKV ks)))) (hz : ks.length ≤ 100000) (kx : E.nx { S with ob := S.ob.set k (.raw a (.dK (setKV (addS ks z)))) }) :
    Ts K (sDPut (tVar i) tk (tC (.bl true))) S E := fun c Hf H σ fp ok D n r bk ct =>
  ee_bl (K := K) (S := S) (b := true) c Hf H σ fp ok _ fun x Hf1 H1 fp1 ok1 g1 r1 => ee_var hs (fun z => by cases z) c Hf1 H1 σ fp1 ok1 _ fun v Hf2 H2 fp2 ok2 g2 r2 => hk c Hf2 H2 σ fp2 ok2 _ fun y Hf3 H3 fp3 ok3 g3 r3 => by
    cases r1
    cases r3
    obtain rfl := ok2.rawV ho r2
    refine ⟨a, _, rfl, DPut.k (k := Sum.inl z) (ok3.raw ho).2 (by unfold setKV; rw [List.length_map]; exact Nat.lt_of_le_of_lt hz (by decide)), ?_⟩
    rw [put_setKV]
    obtain ⟨ok4, g4⟩ := ok3.putR (o' := .dK (setKV (addS ks z))) ho
    exact n _ _ _ _ _ ok4 (((g1.trans g2).trans g3).trans g4) kx
theorem pair_eq : ∀ {xs ys : List Int}, xs.Perm ys → xs.Pairwise (· ≤ ·) → ys.Pairwise (· ≤ ·) → xs = ys := fun h h1 h2 => h.eq_of_pairwise (fun a b _ _ p q => Int.le_antisymm p q) h1 h2
/-- sorted(found) -/
theorem rcl_sortset {k : Nat} {a : Addr} {ks ys : List Int} (ho : S.ob[k]? = some (.raw a (.dK (setKV ks)))) (hl : ks.length < 64) (hp : ys.Perm ks) (hy : ys.Pairwise (· ≤ ·)) : RcL K rSortDI [.own k] S (ys.map PyData.int) S := fun c Hf H σ fp ok vs r Q q => by
  obtain ⟨v, rfl, rv⟩ := r.one
  obtain rfl := ok.rawV ho rv
  refine ⟨a, setKV ks, ks, rfl, .inl (ok.raw ho).2, setKV_key ks, hl, fun zs p hz hs hn => ?_⟩
  obtain rfl := pair_eq (hz.trans hp.symm) hs hy
  obtain ⟨ok2, g2, al⟩ := ok.alone hn (RpA.ints zs)
  exact q p _ _ _ ok2 g2 hn al
end
/-- a test that may do something in its second part -/
theorem et_andS2 {K : PySem.W.Frag} {S S1 S2 : SS} {t u : TT} {a b : Bool} (h1 : Et K t S a S1) (h2 : a = true → Et K u S1 b S2) (h3 : a = false → S2 = S1) : Et K (tAnd t u) S (a && b) S2 := by
  cases a with
  | true => exact et_andT h1 (h2 rfl)
  | false =>
    rw [h3 rfl]
    exact et_and (b := b) h1 (fun z => by cases z)
theorem et_orS {K : PySem.W.Frag} {S S1 S2 : SS} {t u : TT} {a b : Bool} (h1 : Et K t S a S1) (h2 : a = false → Et K u S1 b S2) (h3 : a = true → S2 = S1) : Et K (tOr t u) S (a || b) S2 := by
  cases a with
  | false => exact et_orF h1 (h2 rfl)
  | true =>
    rw [h3 rfl]
    exact et_or (b := b) h1 (fun z => by cases z)
/-! ### xs.insert(i, y); range(a, b, 2) -/
def rInsert : V → List V → Hp → VK → Prop := fun x vs H Q => ∃ (l : Addr) (xs : List V) (i : Int) (y : V), x = .ref l ∧ vs = [.int i, y] ∧ H l = some (.lst xs) ∧ xs.length < sizeLine ∧ 0 ≤ i ∧ i < 2 ^ 63 ∧
    Q .non (upd H l (.lst (xs.take i.toNat ++ [y] ++ xs.drop i.toNat)))
theorem mt_insertN {X : Cx} : MtR X "list.insert" rInsert := mt_insert
section
variable {K : PySem.W.Frag} {S S1 S2 S3 : SS} {ta te ti : TE} {c : Addr → Prop} {Hf H : Hp} {σ : L2.St} {fp : List (List Addr)}
theorem ee_insert {k : Nat} {ds : List PyData} {i : Int} {d : PyData} (hl : Ee K ta S (.own k) S1) (hi : Ee K ti S1 (.dat (.int i)) S2) (he : Ee K te S2 (.dat d) S3) (ho1 : ∃ ds1, S1.ob[k]? = some (.lst ds1)) (ho : S3.ob[k]? = some (.lst ds)) (h0 : 0 ≤ i) (h1 : i ≤ 1000000) (hz : ds.length < 1000000) :
    Ee K (tBM K "list" rInsert ta (tCons ti (tCons te tNil))) S (.dat .none) { S3 with ob := S3.ob.set k (.lst (ds.take i.toNat ++ [d] ++ ds.drop i.toNat)) } := fun c Hf H σ fp ok Q q =>
  hl c Hf H σ fp ok _ fun v Hf1 H1 fp1 ok1 g1 r1 => by
    obtain ⟨ds1, ho1⟩ := ho1
    obtain ⟨a, xs, rfl, q1, q2, q3⟩ := ok1.obL ho1 r1
    refine ⟨.inl ⟨rfl, xs, .inl (.inl q2)⟩, hi c Hf1 H1 σ fp1 ok1 _ fun w Hf2 H2 fp2 ok2 g2 r2 => he c Hf2 H2 σ fp2 ok2 _ fun u Hf3 H3 fp3 ok3 g3 r3 => ?_⟩
    cases r2
    obtain ⟨b, zs, e, k1, k2, k3⟩ := ok3.setL ho (r1.mono (g2.trans g3).sm (g2.trans g3).pr)
    cases e
    obtain ⟨ok4, g4⟩ := k3 (zs.take i.toNat ++ [u] ++ zs.drop i.toNat) (ds.take i.toNat ++ [d] ++ ds.drop i.toNat) (((k2.take _).append (.cons r3 .nil)).append (k2.drop _))
    refine ⟨_, zs, i, u, rfl, rfl, k1, ?_, h0, by omega, q _ _ _ _ ok4 (((g1.trans g2).trans g3).trans g4) Rp.non⟩
    rw [k2.len]
    exact Nat.lt_of_lt_of_le hz (by decide)
end
/-- every second number -/
def twoN (lo hi : Int) : Nat := ((hi - lo + 1) / 2).toNat
def twoD (lo hi : Int) : List PyData := (List.range (twoN lo hi)).map fun (k : Nat) => .int (lo + (k : Int) * 2)
theorem twoN_in {lo hi : Int} {k : Nat} (h : k < twoN lo hi) : lo + (k : Int) * 2 < hi := by
  unfold twoN at h
  omega
theorem rsz2 (lo hi : Int) : Builtin.Range.rangeSize lo hi 2 = (twoN lo hi : Int) := by
  unfold Builtin.Range.rangeSize twoN
  rw [if_pos (by decide)]
  split <;> omega
theorem rg2 {lo hi : Int} (h1 : -1000000 ≤ lo ∧ lo ≤ 1000000 ∧ -1000000 ≤ hi ∧ hi ≤ 1000000) : RgC lo hi 2 (twoN lo hi) := by
  refine ⟨by decide, by decide, ?_, rsz2 lo hi⟩
  unfold Builtin.Range.small
  rw [rsz2]
  unfold twoN
  simp only [Builtin.Range.rangeFitsLong, Bool.and_eq_true, Bool.or_eq_true, decide_eq_true_eq, beq_iff_eq, show (2 : Int) > 0 by decide, if_true]
  omega
theorem ei_rng3 {K : PySem.W.Frag} {S S1 : SS} {tas : TA} {lo hi : Int} (h : Ed K tas S [.int lo, .int hi, .int 2] S1) (hn : -1000000 ≤ lo ∧ lo ≤ 1000000 ∧ -1000000 ≤ hi ∧ hi ≤ 1000000) : Ei K (iRng3 tas) S (twoD lo hi) S1 := fun c Hf H σ fp ok R q => h c Hf H σ fp ok _ fun v Hf1 H1 fp1 ok1 g1 r1 => by
  cases r1 with
  | cons r1 rr => cases rr with
    | cons r2 rr => cases rr with
      | cons r3 rr =>
        cases rr
        cases r1
        cases r2
        cases r3
        refine ⟨lo, hi, 2, twoN lo hi, rfl, rg2 hn, q _ Hf1 H1 fp1 ok1 g1 (wk_of walk_rangeC (by unfold twoD; rw [List.length_map, List.length_range]) (fun _ _ _ _ => trivial) fun i d Hf1 H1 x H2 e1 e2 hd y => .inl ?_)⟩
        obtain ⟨rfl, rfl⟩ := y
        unfold twoD at hd
        rw [List.getElem?_map] at hd
        obtain ⟨k, hk, rfl⟩ := Option.map_eq_some_iff.mp hd
        obtain ⟨_, e⟩ := List.getElem?_eq_some_iff.mp hk
        rw [List.getElem_range] at e
        subst e
        exact ⟨rfl, .int _⟩
/-! ### sorted(set(xs)), xs a list of tuples of numbers -/
theorem setOfT_calm {X : Cx} (hc : X.calm = true) (hu : X.A.units + 100 < cLine) : CallR X (.type "set") (rSetOfT X.K X.prog X.w) := cr_setOfT hc (by omega)
def intsD (ns : List Int) : PyData := .tuple (ns.map PyData.int)
section
variable {K : PySem.W.Frag} {P : Program} {w : World} {S S1 : SS} {x : SD} {te : TE} {c : Addr → Prop} {Hf H : Hp} {σ : L2.St} {fp : List (List Addr)}
theorem tups_of {Hf : Hp} : ∀ {xs : List (List Int)} {zs : List V}, RpA K Hf zs (xs.map intsD) → ∃ ks : List (Addr × List Int), zs = ks.map (fun p => V.ref p.1) ∧ ks.map (·.2) = xs ∧ ∀ p ∈ ks, SqT K Hf p.1 (p.2.map V.int)
  | [], _, .nil => ⟨[], rfl, rfl, fun _ z => by cases z⟩
  | ns :: xs, _, .cons h t => by
    obtain ⟨ks, e1, e2, e3⟩ := tups_of t
    cases h with
    | tup h1 h2 =>
      rename_i a us
      have := RpA.ints_inv h2
      subst this
      refine ⟨(a, ns) :: ks, by rw [e1]; rfl, by rw [List.map_cons, e2], fun p hp => ?_⟩
      rcases List.mem_cons.mp hp with rfl | hp
      · exact h1
      · exact e3 p hp
theorem rp_tups {Hf : Hp} : ∀ {ks : List (Addr × List Int)}, (∀ p ∈ ks, SqT K Hf p.1 (p.2.map V.int)) → RpA K Hf (ks.map fun p => V.ref p.1) ((ks.map (·.2)).map intsD)
  | [], _ => .nil
  | p :: ks, h => .cons (.tup (h p List.mem_cons_self) (RpA.ints p.2)) (rp_tups fun q hq => h q (List.mem_cons_of_mem _ hq))
theorem el_sortsetT {xs ys : List (List Int)} {d : Nat} {Bo : Int} (h : Ee K te S x S1) (hx : AsD S1 x (.list (xs.map intsD))) (hl : xs.length < 64) (hd : 1 ≤ d) (hb : ∀ ns ∈ xs, ns.length = d ∧ TS.Bd Bo ns)
    (hy : ∀ zs : List (List Int), zs.Nodup → (∀ z, z ∈ zs ↔ z ∈ xs) → zs.Pairwise (fun q r => TS.code Bo q ≤ TS.code Bo r) → zs = ys) :
    El K (tCB (rSortedT K P w) (tCons (tCB (rSetOfT K P w) (tCons te tNil)) tNil)) S (ys.map intsD) S1 := fun c Hf H σ fp ok Q q =>
  h c Hf H σ fp ok _ fun v Hf1 H1 fp1 ok1 g1 r1 => by
    obtain ⟨a, zs, rfl, h1, h2⟩ := ok1.asL r1 hx
    obtain ⟨ks, rfl, e2, e3⟩ := tups_of h2
    refine ⟨a, ks, rfl, .inl (.inl h1), fun p hp => sameT ok1.hd.ex (e3 p hp), by rw [← List.length_map (f := (·.2)), e2]; exact hl, fun s L hs hL hL2 => ?_⟩
    obtain ⟨ok2, g2⟩ := ok1.laid (SetTO P w s L) hs
    have memL : ∀ z, z ∈ L.map (·.2) ↔ z ∈ xs := fun z => by
      constructor
      · intro hz
        obtain ⟨p, hp, rfl⟩ := List.mem_map.mp hz
        rw [← e2]
        exact List.mem_map.mpr ⟨p, hL p hp, rfl⟩
      · intro hz
        rw [← e2] at hz
        obtain ⟨p, hp, rfl⟩ := List.mem_map.mp hz
        exact hL2 p hp
    have at2 : ∀ p ∈ L, SqT K (upd Hf1 s (SetTO P w s L)) p.1 (p.2.map V.int) := fun p hp => sameT g2.sm (e3 p (hL p hp))
    refine ⟨s, L, d, Bo, rfl, upd_same, fun p hp => sameT ok2.hd.ex (at2 p hp), hd, fun p hp => hb _ ((memL _).mp (List.mem_map.mpr ⟨p, hp, rfl⟩)), fun L' p hperm hnd hlt hpw hp => ?_⟩
    have ez : L'.map (·.2) = ys := by
      refine hy _ hnd (fun z => ?_) ?_
      · rw [← memL z]
        exact (hperm.map _).mem_iff
      · rw [List.pairwise_map]
        exact hpw
    obtain ⟨ok3, g3, al⟩ := ok2.alone (xs := L'.map fun q => V.ref q.1) (ds := ys.map intsD) hp (by
      rw [← ez]
      exact rp_tups fun p hp => at2 p (hperm.mem_iff.mp hp))
    exact q p _ _ _ ok3 ((g1.trans g2).trans g3) (none_back (g1.trans g2).th hp) al
end
theorem ei_rng1n {K : PySem.W.Frag} {S S1 : SS} {tas : TA} {n : Nat} (h : Ed K tas S [.int (n : Int)] S1) (hn : n ≤ 1000000) : Ei K (iRng1 tas) S (rngD 0 n) S1 := by
  have := ei_rng1 h (by omega)
  rw [Int.toNat_natCast] at this
  exact this
theorem el_rng2L {K : PySem.W.Frag} {S S1 S2 : SS} {ta tb : TE} {lo hi : Int} (h : Ee K ta S (.dat (.int lo)) S1) (h2 : Ee K tb S1 (.dat (.int hi)) S2) (hb : 0 ≤ lo ∧ lo ≤ 1000000 ∧ 0 ≤ hi ∧ hi ≤ 1000000) : El K (tLstRg (tRg2 ta tb)) S (rngD lo (hi - lo).toNat) S2 := fun c Hf H σ fp ok Q q =>
  h c Hf H σ fp ok _ fun v Hf1 H1 fp1 ok1 g1 r1 => h2 c Hf1 H1 σ fp1 ok1 _ fun u Hf2 H2 fp2 ok2 g2 r2 => by
    cases r1
    cases r2
    refine ⟨lo, hi, rfl, rfl, RgOk.of_le hb.1 (by omega) (by omega) hb.2.2.1, fun p hp => ?_⟩
    obtain ⟨ok3, g3, al⟩ := ok2.alone hp (rp_rng (K := K) lo hi)
    exact q p _ _ _ ok3 ((g1.trans g2).trans g3) (none_back (g1.trans g2).th hp) al
theorem ro_notBl {K : PySem.W.Frag} {S : SS} {a b : Bool} : Ro K rNotB (.dat (.bool a)) (.dat (.bool b)) S (.dat (.bool (!decide (a = b)))) S := fun c Hf H σ fp ok v u rv ru Q q => by
  cases rv
  cases ru
  exact ⟨a, b, rfl, rfl, q _ _ _ _ ok Gr.refl (Rp.bl _)⟩
theorem ro_isBl {K : PySem.W.Frag} {S : SS} {a b : Bool} : Ro K rIsB (.dat (.bool a)) (.dat (.bool b)) S (.dat (.bool (decide (a = b)))) S := fun c Hf H σ fp ok v u rv ru Q q => by
  cases rv
  cases ru
  exact ⟨a, b, rfl, rfl, q _ _ _ _ ok Gr.refl (Rp.bl _)⟩
theorem cut_dropD {ds : List PyData} {c : Int} (h : 0 ≤ c) : cutD ds (some c) none = ds.drop c.toNat := by
  unfold cutD
  have e1 : HT.sIx ds.length 0 (some c) = min c.toNat ds.length := by
    show (if c < 0 then (c + (ds.length : Int)).toNat else min c.toNat ds.length) = _
    rw [if_neg (by omega)]
  have e2 : HT.sIx ds.length ds.length none = ds.length := rfl
  rw [e1, e2]
  by_cases q : c.toNat ≤ ds.length
  · rw [Nat.min_eq_left q, List.take_of_length_le (by rw [List.length_drop]; exact Nat.le_refl _)]
  · rw [Nat.min_eq_right (by omega), Nat.sub_self, List.take_zero, List.drop_eq_nil_of_le (by omega)]
/-! ### the lowest bit -/
theorem ee_bits {K : PySem.W.Frag} {S S1 : SS} {te : TE} {i : Int} (h : Ee K te S (.dat (.int i)) S1) : Ee K (tBits te) S (.dat (.int (Builtin.Int.intBits i : Nat))) S1 := fun c Hf H σ fp ok Q q => h c Hf H σ fp ok _ fun v Hf1 H1 fp1 ok1 g1 r1 => by
  cases r1
  exact ⟨i, rfl, q _ _ _ _ ok1 g1 (Rp.int _)⟩
theorem bits_pow (k : Nat) : Builtin.Int.intBits ((2 ^ k : Nat) : Int) = k + 1 := by
  unfold Builtin.Int.intBits
  have h : ((2 ^ k : Nat) : Int) ≠ 0 := by
    have := Nat.two_pow_pos k
    omega
  rw [if_neg (by simpa using h)]
  congr 1
  rw [Int.natAbs_natCast]
  exact Nat.log2_two_pow
theorem low_form {a k : Nat} (h1 : a.testBit k = true) (h0 : ∀ i, i < k → a.testBit i = false) : a = 2 ^ (k + 1) * (a / 2 ^ (k + 1)) + 2 ^ k := by
  have e : a % 2 ^ (k + 1) = 2 ^ k := by
    refine Nat.eq_of_testBit_eq fun i => ?_
    rw [Nat.testBit_mod_two_pow, Nat.testBit_two_pow]
    by_cases q : i = k
    · subst q
      rw [h1]
      simp
    · by_cases q2 : i < k
      · rw [h0 i q2, decide_eq_false (show ¬ k = i from fun z => q z.symm), Bool.and_false]
      · rw [decide_eq_false (show ¬ i < k + 1 by omega), decide_eq_false (show ¬ k = i from fun z => q z.symm), Bool.false_and]
  have := Nat.div_add_mod a (2 ^ (k + 1))
  rw [e] at this
  exact this.symm
theorem band_neg {a k : Nat} (h1 : a.testBit k = true) (h0 : ∀ i, i < k → a.testBit i = false) : Builtin.bitAnd (a : Int) (-(a : Int)) = ((2 ^ k : Nat) : Int) := by
  have f := low_form h1 h0
  generalize a / 2 ^ (k + 1) = m at f
  have p := Nat.two_pow_pos k
  have ha : 0 < a := by omega
  have e : -(a : Int) = Builtin.bitNot ((a - 1 : Nat) : Int) := by
    show -(a : Int) = -((a - 1 : Nat) : Int) - 1
    omega
  rw [e, drop_nat]
  congr 1
  refine Nat.eq_of_testBit_eq fun i => ?_
  have e2 : a - 1 = 2 ^ (k + 1) * m + (2 ^ k - 1) := by omega
  have lt1 : 2 ^ k < 2 ^ (k + 1) := Nat.pow_lt_pow_right (by decide) (Nat.lt_succ_self k)
  rw [drop_bit, e2, f, Nat.testBit_two_pow_mul_add _ lt1, Nat.testBit_two_pow_mul_add _ (show 2 ^ k - 1 < 2 ^ (k + 1) by omega), Nat.testBit_two_pow]
  by_cases q : i < k + 1
  · rw [if_pos q, if_pos q, Nat.testBit_two_pow_sub_one]
    by_cases q2 : k = i
    · subst q2
      simp
    · rw [decide_eq_false q2, Bool.false_and]
  · rw [if_neg q, if_neg q, decide_eq_false (show ¬ k = i by omega)]
    cases m.testBit (i - (k + 1)) <;> rfl
/-! ### numbers in lists -/
theorem ro_notInL {K : PySem.W.Frag} {S : SS} {y : SD} {i : Int} {ns : List Int} (hy : AsD S y (.list (ns.map PyData.int))) : Ro K (rIn K true) (.dat (.int i)) y S (.dat (.bool (!decide (i ∈ ns)))) S := fun c Hf H σ fp ok v u rv ru Q q => by
  cases rv
  obtain ⟨a, xs, rfl, h1, h2⟩ := ok.asL ru hy
  obtain rfl := RpA.ints_inv h2
  refine ⟨_, _, rfl, .inl (.inl (.inl h1)), rfl, flat_ints ns, ?_⟩
  rw [if_pos rfl, inV_ints]
  exact q _ _ _ _ ok Gr.refl (Rp.bl _)
/-! ### a tuple times a number that may be nought -/
theorem tuple_mul0 (l : Addr) (items : Array Value) (n : Nat) (dd : Option Addr) (sl : Array (Option Value)) (x : Int) (u : Tok) (c0 : (decide (x < -(2 ^ 63)) || decide (x ≥ 2 ^ 63)) = false) (c1 : (items.isEmpty || x == 1) = false) (c2 : (decide (x ≤ 0) || items.isEmpty) = true) :
    Meets (Builtin.«tuple.__mul__» ⟨[.ref l, .int x u], []⟩) (fun _ R s => s.heap.get? l = some { cls := .type "tuple", dict := dd, data := .seq items n, slots := sl } ∧
      R (.ok (.ret (Value.ref s.heap.objs.size))) { s with heap := s.heap.push { cls := Value.type "tuple", data := Data.seq #[] }, toks := s.toks }) :=
  .of_wp fun prog w A R s h => by
    obtain ⟨hp, g, d, tk, os⟩ := s
    obtain ⟨hl, h⟩ := h
    have f1 := AutoSeq1.idx_int
    wp_walk using wpAny_loadPart' hl
    repeat (first
      | (refine wpAny_ite_false (decide_eq_false (by rw [c0]; exact Bool.false_ne_true)) ?_; wp_walk using wpAny_loadPart' hl)
      | (refine wpAny_ite_false (decide_eq_false (by rw [c1]; exact Bool.false_ne_true)) ?_; wp_walk using wpAny_loadPart' hl)
      | (refine wpAny_ite_true (decide_eq_true c2) ?_; wp_walk using wpAny_loadPart' hl))
    exact ⟨_, rfl, h⟩
def rRep0 (K : PySem.W.Frag) : R2 := fun x y H Q => ∃ l xs, x = .ref l ∧ y = .int 0 ∧ SqT K H l xs ∧ xs ≠ [] ∧ ∀ p, H p = none → Q (.ref p) (upd H p (.tup []))
theorem op_rep0 {X : Cx} : OpR X (binaryOp .Mult) (rRep0 X.K) := by
  intro pins s σ H x y v u Q I rx ry h
  obtain ⟨l, xs, rfl, rfl, hT, hne, q⟩ := h
  cases rx
  obtain ⟨t, rfl⟩ := ry
  obtain ⟨its, r, ⟨⟨cls, dd, data, sl⟩, ho, hc, n, hd⟩, hs⟩ := I.tuple hT
  simp only at hc hd
  subst hc hd
  have hle : its.length = xs.length := r.length.symm
  have hi : its.toArray.isEmpty = false := by
    cases its with
    | nil => exact absurd (List.eq_nil_of_length_eq_zero hle.symm) hne
    | cons a b => rfl
  have c1 : (its.toArray.isEmpty || (0 : Int) == 1) = false := by
    rw [hi]
    rfl
  refine wpAny_binaryOp_repeat_ref (T := "tuple") (U := "int") (by decide) ⟨_, ho, rfl⟩ (fun s' => typeIs_int s' 0 t) noFill_tuple_mul F.fills_int_mul F.slot_int_rmul repeat_tuple F.slot_int_index.lookup
    (call_meets F.slot_int_rmul (typeIs_int s 0 t) F.entry_int_rmul (F.args_int_rmul_2 _ _) (int_rmul_tuple 0 t l its.toArray n dd sl)
      ⟨ho, rfl, ⟨_, ho, rfl⟩, call_meets F.slot_tuple_mul ⟨_, ho, rfl⟩ F.entry_tuple_mul (F.args_tuple_mul_2 _ _) (tuple_mul0 l its.toArray n dd sl 0 t rfl c1 rfl) ⟨ho, ?_⟩⟩)
  refine ⟨.ref s.heap.objs.size, _, I.laid (t' := s.toks) (o := .tup []) (fun b ob q => Heap.get?_push_of_some _ q) (Nat.le_refl _) ?_, rfl, q _ (I.hok.fresh (Nat.le_refl _))⟩
  exact ⟨Nat.zero_le _, [], .nil, IsTup.new _ _⟩
def rMul0 (K : PySem.W.Frag) : R2 := fun x y H Q => rMulS K x y H Q ∨ rRep0 K x y H Q
theorem op_mul0 {X : Cx} : OpR X (binaryOp .Mult) (rMul0 X.K) := opr_or op_mulS op_rep0
theorem ro_mul0 {K : PySem.W.Frag} {S : SS} {ds : List PyData} {i : Int} (hne : ds ≠ []) (h1 : 0 ≤ i) (h2 : i ≤ 1000) (hz : ds.length ≤ 1000) : Ro K (rMul0 K) (.dat (.tuple ds)) (.dat (.int i)) S (.dat (.tuple (repD i.toNat ds))) S := by
  by_cases h0 : i = 0
  · subst h0
    intro c Hf H σ fp ok v u rv ru Q q
    cases ru
    cases rv with
    | @tup a xs _ e1 e2 =>
      refine .inr ⟨a, xs, rfl, rfl, sameT ok.hd.ex e1, fun e => hne (by subst e; cases e2; rfl), fun p hp => ?_⟩
      obtain ⟨ok2, g2⟩ := ok.laid (.tup _) hp
      exact q _ _ _ _ ok2 g2 (Rp.tup (.inl (.inl upd_same)) .nil)
  · intro c Hf H σ fp ok v u rv ru Q q
    exact .inl (ro_mulS (by omega) h2 hz c Hf H σ fp ok v u rv ru Q q)
/-! ### data in a tuple of data -/
def rNotInT (K : PySem.W.Frag) : R2 := fun x y H Q => ∃ d ds, Dp K H x d ∧ Dp K H y (.tuple ds) ∧ SeqAt.shaped d = true ∧ SeqAt.shaped (.tuple ds) = true ∧ Q (.bl (!ds.any fun z => PyData.eqv z d)) H
theorem op_notInT {X : Cx} (hu : X.A.units + 65 < cLine) : OpR X (compareOp .NotIn) (rNotInT X.K) := by
  intro pins s σ H x y v u Q I rx ry h
  obtain ⟨d, ds, hd, he, sd, se, q⟩ := h
  obtain ⟨as, r1⟩ := Dp.reads I d x v hd rx
  obtain ⟨bs, r2⟩ := Dp.reads I (.tuple ds) y u he ry
  exact SeqAt.notIn_tuple_reads r2 r1 (SeqAt.canLay_of_shaped se) (SeqAt.canLay_of_shaped sd) (room_in_shaped sd hu) ⟨.bl _, H, I, rfl, q⟩
theorem ro_notInTD {K : PySem.W.Frag} {S : SS} {x y : SD} {d : PyData} {ds : List PyData} (hx : AsD S x d) (hy : AsD S y (.tuple ds)) (h1 : SeqAt.shaped d = true) (h2 : SeqAt.shaped (.tuple ds) = true) : Ro K (rNotInT K) x y S (.dat (.bool (!ds.any fun z => PyData.eqv z d))) S := fun c Hf H σ fp ok v u rv ru Q q =>
  ⟨d, ds, ok.asDp rv hx (shaped_noDict h1), ok.asDp ru hy (shaped_noDict h2), h1, h2, q _ _ _ _ ok Gr.refl (Rp.bl _)⟩
/-! ### a walk down -/
def dnD (lo hi : Int) : List PyData := (List.range (lo - hi).toNat).map fun (k : Nat) => .int (lo + (k : Int) * (-1))
theorem rszD (lo hi : Int) : Builtin.Range.rangeSize lo hi (-1) = ((lo - hi).toNat : Int) := by
  unfold Builtin.Range.rangeSize
  rw [if_neg (by decide)]
  split <;> (try rw [show (-(-1) : Int) = 1 from rfl, Int.ediv_one]) <;> omega
theorem rgD {lo hi : Int} (h1 : -1000000 ≤ lo ∧ lo ≤ 1000000 ∧ -1000000 ≤ hi ∧ hi ≤ 1000000) : RgC lo hi (-1) (lo - hi).toNat := by
  refine ⟨by decide, by decide, ?_, rszD lo hi⟩
  unfold Builtin.Range.small
  rw [rszD]
  simp only [Builtin.Range.rangeFitsLong, Bool.and_eq_true, Bool.or_eq_true, decide_eq_true_eq, beq_iff_eq, show ¬ (-1 : Int) > 0 by decide, if_false]
  omega
theorem ei_rngDn {K : PySem.W.Frag} {S S1 : SS} {tas : TA} {lo hi : Int} (h : Ed K tas S [.int lo, .int hi, .int (-1)] S1) (hn : -1000000 ≤ lo ∧ lo ≤ 1000000 ∧ -1000000 ≤ hi ∧ hi ≤ 1000000) : Ei K (iRng3 tas) S (dnD lo hi) S1 := fun c Hf H σ fp ok R q => h c Hf H σ fp ok _ fun v Hf1 H1 fp1 ok1 g1 r1 => by
  cases r1 with
  | cons r1 rr => cases rr with
    | cons r2 rr => cases rr with
      | cons r3 rr =>
        cases rr
        cases r1
        cases r2
        cases r3
        refine ⟨lo, hi, -1, (lo - hi).toNat, rfl, rgD hn, q _ Hf1 H1 fp1 ok1 g1 (wk_of walk_rangeC (by unfold dnD; rw [List.length_map, List.length_range]) (fun _ _ _ _ => trivial) fun i d Hf1 H1 x H2 e1 e2 hd y => .inl ?_)⟩
        obtain ⟨rfl, rfl⟩ := y
        unfold dnD at hd
        rw [List.getElem?_map] at hd
        obtain ⟨k, hk, rfl⟩ := Option.map_eq_some_iff.mp hd
        obtain ⟨_, e⟩ := List.getElem?_eq_some_iff.mp hk
        rw [List.getElem_range] at e
        subst e
        exact ⟨rfl, .int _⟩
/-! ### lists or tuples walked -/
def iAny (K : PySem.W.Frag) (te : TE) : TI := fun σ H R => iTup K te σ H R ∨ iList K te σ H R
theorem pi_any {X : Cx} {tg l : Expr} {tl : TE} (h : PE X l tl) : PI X tg l (iAny X.K tl) := ⟨fun pins s σ H R I q => q.elim ((pi_tup h).run pins s σ H R I) ((pi_list h).run pins s σ H R I)⟩
theorem ei_anyT {K : PySem.W.Frag} {S S1 : SS} {te : TE} {ds : List PyData} (h : Ei K (iTup K te) S ds S1) : Ei K (iAny K te) S ds S1 := fun c Hf H σ fp ok R q => .inl (h c Hf H σ fp ok R q)
theorem ei_anyL {K : PySem.W.Frag} {S S1 : SS} {te : TE} {ds : List PyData} (h : Ei K (iList K te) S ds S1) : Ei K (iAny K te) S ds S1 := fun c Hf H σ fp ok R q => .inr (h c Hf H σ fp ok R q)
def iEnumA (K : PySem.W.Frag) (ta : TA) : TI := fun σ H R => iEnumT K ta σ H R ∨ iEnum K ta σ H R
theorem pi_enumA {X : Cx} {e : Expr} {ta : TA} {p pos tpos : Pos} {elts : List Expr} {kk : Nat} (hg : Gl X "enumerate") (hm : X.mg "enumerate" = none) (h : PA X [e] ta) (hs : starEach [e] X.env = [(false, eval e X.env)] := by rfl) : PI X (.Tuple elts kk tpos) (.Call (.Name "enumerate" p) [e] [] pos) (iEnumA X.K ta) :=
  ⟨fun pins s σ H R I q => q.elim ((pi_enumT hg hm h hs).run pins s σ H R I) ((pi_enum hg hm h hs).run pins s σ H R I)⟩
theorem ei_enumAT {K : PySem.W.Frag} {S S1 : SS} {ds : List PyData} {tas : TA} (h : Ed K tas S [.tuple ds] S1) : Ei K (iEnumA K tas) S (enumD ds) S1 := fun c Hf H σ fp ok R q => .inl (ei_enumT h c Hf H σ fp ok R q)
theorem ei_enumAL {K : PySem.W.Frag} {S S1 : SS} {ds : List PyData} {tas : TA} (h : Ed K tas S [.list ds] S1) : Ei K (iEnumA K tas) S (enumD ds) S1 := fun c Hf H σ fp ok R q => .inr (ei_enum h c Hf H σ fp ok R q)
/-! ### how many unlike numbers: len(set(x)) -/
def rLenSet (w : World) : List V → Hp → VK → Prop := fun xs H Q => ∃ (a : Addr) (S : Int → Bool) (n : Nat), xs = [.ref a] ∧ H a = some (SetO w a S n) ∧ Q (.int n) H
theorem cb_lenSet {X : Cx} : CallR X (.builtin "len") (rLenSet X.w) := fun pins s σ H xs us Q I r h => by
  obtain ⟨a, S, n, rfl, ha, q⟩ := h
  rw [Vals.ref1 r]
  obtain ⟨o, es, ep, t, h1, h2, h3, _, _, _, hs, hf, hn, _⟩ := setO_get I ha
  refine call_len_set h1 h2 h3 hf ?_ ?_
  · unfold scanBound at hs
    omega
  · rw [hn]
    exact ⟨.int n, H, I.tok _, ⟨_, rfl⟩, q⟩
def rSetX (K : PySem.W.Frag) (w : World) : List V → Hp → VK → Prop := fun xs H Q => ∃ (a : Addr) (ns : List Int), xs = [.ref a] ∧ (SqL K H a (ns.map V.int) ∨ SqT K H a (ns.map V.int)) ∧ ns.length ≤ 4000 ∧
  ∀ (p : Addr) (S : Int → Bool), H p = none → Q (.ref p) (upd H p (SetO w p S (setI ns).length))
theorem setR_all {w : World} {h : Heap} {a : Addr} {ns : List Int} {c : Nat} (R : SetR w h a (fun j => decide (j ∈ ns)) c) : c = (setI ns).length := by
  refine Nat.le_antisymm (setR_few R _ fun k hk => setI_mem.mpr hk) ?_
  obtain ⟨o, es, ep, t, _, _, _, _, nd, mem, _, _, hn, _⟩ := R
  have l : (es.toList.map keyOf).length = c := by rw [List.length_map, Array.length_toList, hn]
  rw [← l]
  exact nodup_le ((setI_sorted ns).imp fun h => Int.ne_of_lt h) fun x hx => (mem x).mp (decide_eq_true (setI_mem.mp hx))
theorem cr_setX {X : Cx} (hc : X.calm = true) : CallR X (.type "set") (rSetX X.K X.w) := fun pins s σ H xs us Q I r h => by
  obtain ⟨a, ns, rfl, ha, few, q⟩ := h
  rw [Vals.ref1 r]
  have big : ns.length + 1 < scanBound := by
    unfold scanBound
    omega
  have fin : ∀ (h2 : Heap) (t2 c : Nat), SetR X.w h2 s.heap.objs.size (fun j => decide (j ∈ ns)) c → c ≤ ns.length → (∀ b o, s.heap.get? b = some o → h2.get? b = some o) → EP X pins σ Q (.ref s.heap.objs.size) { s with heap := h2, toks := t2 } := fun h2 t2 c R _ keep => by
    have e := setR_all R
    subst e
    exact ⟨.ref _, upd H s.heap.objs.size (SetO X.w s.heap.objs.size (fun j => decide (j ∈ ns)) (setI ns).length), I.laid (t' := t2) keep (Nat.le_refl _) (setO_new R), rfl, q _ _ (I.hok.fresh (Nat.le_refl _))⟩
  rcases ha with ha | ha
  · obtain ⟨its, rv, p, _⟩ := I.list ha
    exact set_of_lst ns (I.ok.hd hc) p.isList (by simpa using rv.ints) big fin
  · obtain ⟨its, rv, p, _⟩ := I.tuple ha
    exact call_set_tupI ns (I.ok.hd hc) (show s.heap.IsTuple a its.toArray from p) (by simpa using rv.ints) big fin
theorem ee_lenSet {K : PySem.W.Frag} {w : World} {S S1 : SS} {te : TE} {ns : List Int} (h : Ee K te S (.dat (.tuple (ns.map PyData.int))) S1) (hz : ns.length ≤ 4000) : Ee K (tCB (rLenSet w) (tCons (tCB (rSetX K w) (tCons te tNil)) tNil)) S (.dat (.int ((setI ns).length : Int))) S1 := fun c Hf H σ fp ok Q q =>
  h c Hf H σ fp ok _ fun v Hf1 H1 fp1 ok1 g1 r1 => by
    cases r1 with
    | tup h1 h2 =>
      obtain rfl := RpA.ints_inv h2
      refine ⟨_, ns, rfl, .inr (sameT ok1.hd.ex h1), hz, fun p M hp => ?_⟩
      obtain ⟨ok2, g2⟩ := ok1.laid (SetO w p M (setI ns).length) hp
      exact ⟨p, M, _, rfl, upd_same, q _ _ _ _ ok2 (g1.trans g2) (Rp.int _)⟩
/-! ### a pair of values, one of them one's own -/
theorem ts_asgP {K : PySem.W.Frag} {S S1 : SS} {E : DE} {tas : TA} {x y : SD} {i j : Nat} (h : Ea K tas S [x, y] S1) (kx : E.nx { S1 with sl := (S1.sl.set i x).set j y }) : Ts K (tAsg (tTup tas) (gTup K 2 (gCons (gName i) (gCons (gName j) gNil)))) S E := fun c Hf H σ fp ok D n r bk ct =>
  h c Hf H σ fp ok _ fun vs Hf1 H1 fp1 ok1 g1 r1 => by
    cases r1 with
    | @cons v1 _ _ _ q1 r1 => cases r1 with
      | @cons v2 _ _ _ q2 r1 =>
        cases r1
        refine ⟨by show 2 ≤ sizeLine; rw [sizeLine_eq]; omega, fun p hp => ?_⟩
        obtain ⟨ok2, g2⟩ := ok1.laid (.tup [v1, v2]) hp
        refine ⟨p, [v1, v2], rfl, sameT ok2.hd.ex (.inl (.inl upd_same)), rfl, ?_⟩
        exact ⟨_, _, rfl, ⟨_, _, rfl, ⟨rfl, n _ _ _ _ _ ((ok2.put (x := x) (q1.mono g2.sm g2.pr)).put (x := y) (q2.mono g2.sm g2.pr)) (g1.trans g2) kx⟩⟩⟩
end DL

set_option maxRecDepth 100000
set_option maxHeartbeats 1000000
/-! DLsortP: sorted(xs), xs a list of pairs of whole numbers -/
namespace DL
open PySem PySem.Spec PyProof.Rows L2
def toIV : Value → Int
  | .int i _ => i
  | _ => 0
def adrV : Value → Addr
  | .ref a => a
  | _ => 0
/-- the pair at a reference -/
def kH (h : Heap) (v : Value) : Int × Int :=
  match h.get? (adrV v) with
  | some o => (match o.data with
    | .seq its _ => (toIV (its[0]?.getD .none), toIV (its[1]?.getD .none))
    | _ => (0, 0))
  | none => (0, 0)
def rSortedPS (K : PySem.W.Frag) : List V → Hp → VK → Prop := fun vs H Q => ∃ (a : Addr) (ks : List (Addr × Int × Int)), vs = [V.ref a] ∧ SqL K H a (ks.map fun p => V.ref p.1) ∧ (∀ p ∈ ks, SqT K H p.1 [.int p.2.1, .int p.2.2]) ∧
  ∀ (kt : List (Addr × Int × Int)) (p : Addr), (kt.map (·.2)).Perm (ks.map (·.2)) → (∀ x ∈ kt, x ∈ ks) → (kt.map (·.2)).Pairwise (fun x y => SrtO.lexB y x = false) → H p = none → Q (.ref p) (upd H p (.lst (kt.map fun q => V.ref q.1)))
theorem cr_sortedPS {X : Cx} : CallR X (.builtin "sorted") (rSortedPS X.K) := fun pins s σ H vs us Q I r h => by
  obtain ⟨a, ks, rfl, hs, hx, q⟩ := h
  obtain ⟨its, rv, hl, hz⟩ := I.list hs
  obtain ⟨u, rfl, ru⟩ := vals1 r
  obtain rfl : u = Value.ref a := ru
  have key : ∀ p ∈ ks, ∃ o t1 t2 n, s.heap.get? p.1 = some o ∧ o.cls = .type "tuple" ∧ o.data = .seq #[.int p.2.1 t1, .int p.2.2 t2] n := fun p hp => by
    obtain ⟨us, k1, ⟨o, ho, hc, n, hd⟩, _⟩ := I.tuple (hx p hp)
    obtain ⟨u1, u2, rfl, ri, rj⟩ := vals2 k1
    obtain ⟨t1, rfl⟩ := ri
    obtain ⟨t2, rfl⟩ := rj
    exact ⟨o, t1, t2, n, ho, hc, hd⟩
  have kk : ∀ p ∈ ks, kH s.heap (.ref p.1) = p.2 := fun p hp => by
    obtain ⟨o, t1, t2, n, ho, _, hd⟩ := key p hp
    unfold kH
    show (match s.heap.get? p.1 with
      | some o => _
      | none => _) = _
    rw [ho]
    show (match o.data with
      | .seq its _ => _
      | _ => _) = _
    rw [hd]
    rfl
  obtain ⟨e1, e2⟩ := refs_back rv fun x m => by
    obtain ⟨p, _, e⟩ := List.mem_map.mp m
    exact ⟨p.1, e.symm⟩
  have from_ : ∀ v ∈ its, ∃ p ∈ ks, v = .ref p.1 := fun v hv => by
    obtain ⟨t, rfl⟩ := e2 v hv
    have hm : V.ref t ∈ ks.map fun p => V.ref p.1 := by
      rw [e1]
      exact List.mem_map.mpr ⟨_, hv, rfl⟩
    obtain ⟨p, hp, e⟩ := List.mem_map.mp hm
    cases e
    exact ⟨p, hp, rfl⟩
  have kits : its.map (kH s.heap) = ks.map (·.2) := by
    have ez : its = ks.map fun p => Value.ref p.1 := by
      have z1 : its.map backV = ks.map fun p => V.ref p.1 := e1.symm
      have z2 : ∀ (l : List Value) (m : List (Addr × Int × Int)), (∀ v ∈ l, ∃ t, v = Value.ref t) → l.map backV = m.map (fun p => V.ref p.1) → l = m.map fun p => Value.ref p.1 := by
        intro l
        induction l with
        | nil =>
          intro m _ e
          cases m with
          | nil => rfl
          | cons _ _ => cases e
        | cons v l ih =>
          intro m hv e
          cases m with
          | nil => cases e
          | cons p m =>
            obtain ⟨t, rfl⟩ := hv v List.mem_cons_self
            rw [List.map_cons, List.map_cons] at e
            have e3 := (List.cons.inj e).1
            have e4 := (List.cons.inj e).2
            have e5 : V.ref t = V.ref p.1 := e3
            cases e5
            rw [List.map_cons, ih m (fun v hv' => hv v (List.mem_cons_of_mem _ hv')) e4]
      exact z2 _ _ e2 z1
    rw [ez, List.map_map]
    exact List.map_congr_left fun p hp => kk p hp
  refine SrtO.sorted_pairsO (k := kH s.heap) hl.isList (by rw [← rv.length]; exact hz) (fun v hv => ?_) fun h' d out h1 h2 kp hd hn => ?_
  · obtain ⟨p, hp, rfl⟩ := from_ v hv
    rw [kk p hp]
    obtain ⟨o, t1, t2, n, ho, hc, hd⟩ := key p hp
    exact ⟨p.1, o, t1, t2, n, rfl, ho, hc, hd⟩
  · have h3 : ∀ u ∈ out, ∃ p ∈ ks, u = Value.ref p.1 := fun u hu => from_ u (h2.perm.mem_iff.mp hu)
    obtain ⟨n, hn⟩ := hn
    have em : (out.map fun v => (adrV v, kH s.heap v)).map (fun q => V.ref q.1) = out.map backV := by
      rw [List.map_map]
      refine List.map_congr_left fun v hv => ?_
      obtain ⟨p, _, rfl⟩ := h3 v hv
      rfl
    have e2' : (out.map fun v => (adrV v, kH s.heap v)).map (·.2) = out.map (kH s.heap) := by
      rw [List.map_map]
      rfl
    have vb : ∀ u ∈ out, ∃ a, u = Value.ref a := fun u hu => by
      obtain ⟨p, _, e⟩ := h3 u hu
      exact ⟨p.1, e⟩
    have hlen : out.length ≤ sizeLine := by
      rw [h2.perm.length_eq, ← rv.length]
      exact hz
    refine ⟨.ref d, upd H d (.lst ((out.map fun v => (adrV v, kH s.heap v)).map fun q => V.ref q.1)), I.laid (t' := s.toks) kp hd ⟨?_, out, n, ?_, hn⟩, rfl, q _ d ?_ ?_ ?_ (I.hok.fresh hd)⟩
    · rw [List.length_map, List.length_map]
      exact hlen
    · rw [em]
      exact vals_back vb
    · rw [e2', ← kits]
      exact h2.perm.map _
    · intro x hx
      obtain ⟨v, hv, rfl⟩ := List.mem_map.mp hx
      obtain ⟨p, hp, rfl⟩ := h3 v hv
      rw [kk p hp]
      exact hp
    · rw [e2', List.pairwise_map]
      exact h1
section
variable {K : PySem.W.Frag} {S S1 : SS} {x : SD} {te : TE}
def prD (x : Int × Int) : PyData := .tuple [.int x.1, .int x.2]
theorem prs_of {Hf : Hp} : ∀ {xs : List (Int × Int)} {zs : List V}, RpA K Hf zs (xs.map prD) → ∃ ks : List (Addr × Int × Int), zs = ks.map (fun p => V.ref p.1) ∧ ks.map (·.2) = xs ∧ ∀ p ∈ ks, SqT K Hf p.1 [.int p.2.1, .int p.2.2]
  | [], _, .nil => ⟨[], rfl, rfl, fun _ z => by cases z⟩
  | x :: xs, _, .cons h t => by
    obtain ⟨ks, e1, e2, e3⟩ := prs_of t
    cases h with
    | tup h1 h2 =>
      rename_i a us
      have := RpA.ints_inv (ns := [x.1, x.2]) h2
      subst this
      refine ⟨(a, x) :: ks, by rw [e1]; rfl, by rw [List.map_cons, e2], fun p hp => ?_⟩
      rcases List.mem_cons.mp hp with rfl | hp
      · exact h1
      · exact e3 p hp
theorem rp_prs {Hf : Hp} : ∀ {ks : List (Addr × Int × Int)}, (∀ p ∈ ks, SqT K Hf p.1 [.int p.2.1, .int p.2.2]) → RpA K Hf (ks.map fun p => V.ref p.1) ((ks.map (·.2)).map prD)
  | [], _ => .nil
  | p :: ks, h => .cons (.tup (h p List.mem_cons_self) (RpA.ints [p.2.1, p.2.2])) (rp_prs fun q hq => h q (List.mem_cons_of_mem _ hq))
/-- sorted(xs): ys is what any such list must be -/
theorem rcl_sortP {xs ys : List (Int × Int)} (hx : AsD S x (.list (xs.map prD))) (hy : ∀ zs : List (Int × Int), zs.Perm xs → zs.Pairwise (fun x y => SrtO.lexB y x = false) → zs = ys) : RcL K (rSortedPS K) [x] S (ys.map prD) S := fun c Hf H σ fp ok vs r Q q => by
  obtain ⟨v, rfl, rv⟩ := r.one
  obtain ⟨a, zs, rfl, h1, h2⟩ := ok.asL rv hx
  obtain ⟨ks, rfl, e2, e3⟩ := prs_of h2
  refine ⟨a, ks, rfl, .inl (.inl h1), fun p hp => sameT ok.hd.ex (e3 p hp), fun kt p hperm hsub hpw hp => ?_⟩
  have ez : kt.map (·.2) = ys := hy _ (by rw [← e2]; exact hperm) hpw
  obtain ⟨ok2, g2, al⟩ := ok.alone (xs := kt.map fun q => V.ref q.1) (ds := ys.map prD) hp (by
    rw [← ez]
    exact rp_prs fun x hx => e3 x (hsub x hx))
  exact q p _ _ _ ok2 g2 hp al
end
end DL

set_option maxRecDepth 100000
set_option maxHeartbeats 1000000
/-! DLlam: a lambda as sorted's key, the table of code objects as an own object -/
namespace DL
open PySem PySem.Spec PyProof.Rows L2
/-- a lambda that takes nothing from outside, as it stands -/
def LamO (f : Addr) (q : Str) (params : Arguments) (body : Expr) (scope : Scope) (c' : Addr) : HO :=
  .ext fun h => ∃ pm ctv, h.get? f = some (PySem.W.kla_obj "<lambda>" q params body scope [] pm c' ctv)
/-- the table at P -/
structure TabAt (H : Hp) (P : Addr) (q : Str) (ps : Array Value) : Prop where
  at_ : H P = some (.tbl ps)
  ok : TriplesOk ps.toList
  all : ∀ (pos : Pos) (cv : Value), codeAmong pos ps.toList = some cv → ∃ c, cv = .ref c ∧ H c = some (LamX.CodeO c q)
def tMk (P : Addr) (q : Str) (params : Arguments) (body : Expr) (scope : Scope) : TE := fun σ H Q => ∃ ps, TabAt H P q ps ∧
  (∀ f c', H f = none → H c' = some (LamX.CodeO c' q) → Q (.ref f) (upd H f (LamO f q params body scope c'))) ∧
  (∀ f c' more, H f = none → H c' = none → f ≠ c' → TriplesOk (ps ++ more).toList → (∀ (pos : Pos) (cv : Value), codeAmong pos (ps ++ more).toList = some cv → codeAmong pos ps.toList = some cv ∨ cv = .ref c') →
    Q (.ref f) (upd (upd (upd H P (.tbl (ps ++ more))) c' (LamX.CodeO c' q)) f (LamO f q params body scope c')))
section
variable {X : Cx}
theorem lamO_ok {P : Program} {w : World} {H : Hp} {h : Heap} {f c' : Addr} {q : Str} {params : Arguments} {body : Expr} {scope : Scope} {pm ctv : Value} (e : h.get? f = some (PySem.W.kla_obj "<lambda>" q params body scope [] pm c' ctv)) : ObjOk P w H h f (LamO f q params body scope c') :=
  ⟨⟨pm, ctv, e⟩, ⟨_, e⟩, fun h1 h2 ⟨pm, ctv, a⟩ st => ⟨pm, ctv, st _ a⟩⟩
/-- the lambda is made -/
theorem pe_lam {c P : Addr} {params : Arguments} {body : Expr} {scope : Scope} {pos : Pos} (TB : LamX.TabB X.base X.mg c P) (hcode : X.env.code = .ref c) (hdef : defaultsOf params X.env = ([], []))
    (hfree : ∀ y ∈ scope.names, y.2 ≠ .free) (hcl : cloFrom X.env.cells scope.names [] = []) : PE X (.Lambda params body scope pos) (tMk P (X.env.qual ++ "<lambda>") params body scope) := by
  refine ⟨fun pins s σ H Q I h => ?_⟩
  obtain ⟨ps, T, qA, qB⟩ := h
  have hf : ∀ y ∈ scope.names, y.2 = .free → ∃ c, X.env.cells.lookup y.1 = some c := fun y hy e => (hfree y hy e).elim
  refine PySem.W.kla_eval hdef ?_
  have bP : s.heap.BuiltinsAt X.mg P := TB.bm.keeps I.bk
  have hP : s.heap.get? P = some { cls := .none, data := .fields ps } := I.hok P _ T.at_
  have hclo := closure_ok hf
  rw [hcl] at hclo
  cases hc : codeAmong pos ps.toList with
  | none =>
    refine PySem.W.kla_makeFunction (mg := X.mg) (c := c) (P := P) (ps := ps) hclo I.ok.glob (I.mod.glob.keeps I.bk) hcode (TB.code.keeps I.bk) hP T.ok hc TB.gP bP fun c' ctv h' tk hx hge hlt hrec htb => ?_
    obtain ⟨c2, oc, vs, t, e2, hoc, hd, hv⟩ := hrec
    cases e2
    have hsz : s.heap.objs.size ≤ h'.objs.size := Nat.le_trans hge (Nat.le_of_lt hlt)
    have nC : H c' = none := I.hok.fresh hge
    have nF : H h'.objs.size = none := I.hok.fresh hsz
    have ne1 : h'.objs.size ≠ c' := Nat.ne_of_gt hlt
    have ne2 : h'.objs.size ≠ P := Nat.ne_of_gt (Nat.lt_of_lt_of_le (Heap.lt_size hP) hsz)
    have I1 := LamX.inv_table (t' := tk) (more := #[rawInt pos.line, rawInt pos.col, .ref c']) (h' := h') (q := X.env.qual ++ "<lambda>") I T.at_ (fun b o hb e => hx b o hb e) htb hge ⟨oc, vs, t, hoc, hd, hv⟩
    have eL : (ps ++ #[rawInt pos.line, rawInt pos.col, .ref c']).toList = ps.toList ++ [rawInt pos.line, rawInt pos.col, .ref c'] := by simp
    have hn : (upd (upd H P (.tbl (ps ++ #[rawInt pos.line, rawInt pos.col, .ref c']))) c' (LamX.CodeO c' (X.env.qual ++ "<lambda>"))) h'.objs.size = none := by
      rw [upd_ne ne1, upd_ne ne2]
      exact nF
    refine ⟨.ref h'.objs.size, _, I1.laidN (t' := tk) (h' := h'.push (PySem.W.kla_obj "<lambda>" (X.env.qual ++ "<lambda>") params body scope [] ((X.mg "__name__").getD .none) c' ctv)) (fun b u e => Heap.get?_push_of_some _ e) (Heap.get?_none_of_le (Nat.le_refl _)) hn
      (lamO_ok (Heap.get?_push_size _ rfl)), rfl, qB h'.objs.size c' _ nF nC ne1 (by rw [eL]; exact PySem.TriplesOk_snoc _ _ _ _ T.ok) fun pos' cv z => ?_⟩
    rw [eL] at z
    exact LamX.among_app _ T.ok z
  | some cv =>
    obtain ⟨c', e, hco⟩ := T.all pos cv hc
    subst e
    refine PySem.W.kla_makeFunctionHit (mg := X.mg) (c := c) (P := P) (ps := ps) hclo I.ok.glob (I.mod.glob.keeps I.bk) hcode (TB.code.keeps I.bk) hP T.ok hc bP fun ctv h' tk hx hsz => ?_
    have nF : H h'.objs.size = none := I.hok.fresh hsz
    exact ⟨.ref h'.objs.size, _, I.laidN (t' := tk) (h' := h'.push (PySem.W.kla_obj "<lambda>" (X.env.qual ++ "<lambda>") params body scope [] ((X.mg "__name__").getD .none) c' ctv)) (fun b u e => Heap.get?_push_of_some _ (hx b u e)) (Heap.get?_none_of_le hsz) nF
      (lamO_ok (Heap.get?_push_size _ rfl)), rfl, qA h'.objs.size c' nF hco⟩
end

/-! ### sorted(t, key = f), t a tuple -/
section
variable {prog : Program} {w : World} {A : Around} {E : Value → Shared → Prop} {s : Shared}
theorem collect_tup {l : Addr} {vs : List Value} {Q : List Value → Shared → Prop} (hl : IsTup s.heap l vs.toArray)
    (h : Q vs { s with heap := (s.heap.push (seqObj "list" #[] 0)).update s.heap.objs.size (Obj.mapSeq (· ++ vs.toArray)) }) (hsz : vs.length ≤ sizeLine) :
    wpAny (model prog w) A (collect (.ref l)) Q E s := by
  obtain ⟨o, ho, hc, n, hd⟩ := id hl
  unfold collect
  refine wpAny_bind (wpAny_runValue (codeAny_builtin entry_proto_collect' ?_))
  show wpAny _ _ (do again (.builtin "list.__iadd__" ⟨[← newList [], .ref l], []⟩)) _ _ s
  refine wpAny_bind (wpAny_newList (wpAny_pure ⟨Code.quiet_builtin _ (by decide +kernel), codeAny_builtin entry_list_iadd' ?_⟩) (Nat.zero_le _))
  show wpAny _ _ (Builtin.List.listExtendWith (.ref s.heap.objs.size) (.ref l) (.ref s.heap.objs.size)) _ _ { s with heap := s.heap.push (seqObj "list" #[] 0) }
  unfold Builtin.List.listExtendWith
  have ho' : (s.heap.push (seqObj "list" #[] 0)).get? l = some o := Heap.get?_push_of_some _ ho
  refine wpAny_bind (wpAny_typeOf (T := "tuple") ⟨o, ho', hc⟩ ?_)
  have ht : (Value.type "tuple" == Value.type "tuple") = true := by rfl
  rw [if_pos (by rw [ht]; simp)]
  refine wpAny_bind (listItems_at ho' hd ?_)
  refine wpAny_bind (listItems_at (xs := #[]) (n := 0) (Heap.get?_push_size _ rfl) rfl ?_)
  rw [if_neg (by simp)]
  refine wpAny_bind (listUpdate_at (xs := #[]) (n := 0) (Heap.get?_push_size _ rfl) rfl ?_ (Nat.zero_le _) (by show (#[] ++ vs.toArray).size ≤ sizeLine + 1; simp only [Array.size_append, List.size_toArray, List.length_nil]; omega))
  refine wpAny_pure ?_
  show wpAny (model prog w) A (do
      let o ← load s.heap.objs.size
      match o.data with
      | .seq xs _ => pure xs.toList
      | _ => unsupported "internal:collect") Q E { s with heap := (s.heap.push (seqObj "list" #[] 0)).update s.heap.objs.size (Obj.mapSeq (· ++ vs.toArray)) }
  refine wpAny_bind (wpAny_load (get?_update_seq (Heap.get?_push_size _ rfl) _) ?_)
  show wpAny _ _ (pure ((#[] : Array Value) ++ vs.toArray).toList) Q E _
  rw [show ((#[] : Array Value) ++ vs.toArray).toList = vs by simp]
  exact wpAny_pure h
theorem sorted_tupK {l : Addr} {vs : List Value} {kw : List (Str × Value)} {Q : Value → Shared → Prop} (hl : IsTup s.heap l vs.toArray) (hL : vs.length ≤ sizeLine) (ha1 : argsOk "sorted" ⟨[.ref l], kw⟩) (ha2 : ∀ x, argsOk "list.sort" ⟨[.ref x], kw⟩)
    (body : ∀ E' : Value → Shared → Prop, wpAny (model prog w) A.in1.in1 (Builtin.«list.sort» ⟨[.ref (s.heap.objs.size + 1)], kw⟩) (fun f s' => f = .done (.ret .none) ∧ Q (.ref (s.heap.objs.size + 1)) s') E' { s with heap := PySem.W.copyHeap s.heap vs }) :
    wpAny (model prog w) A (call (.builtin "sorted") [.ref l] kw) Q E s := by
  refine PyProof.Rows.call_function_entry_kw kind_sorted plain_sorted entry_sorted ha1 ?_
  unfold Builtin.«sorted»
  refine wpAny_bind (m := checkCount "sorted" 1 1 _) (wpAny_pure ?_)
  refine wpAny_bind (collect_tup hl ?_ hL)
  refine wpAny_bind (wpAny_newList ?_ hL)
  have hsz : ((s.heap.push (seqObj "list" #[] 0)).update s.heap.objs.size (Obj.mapSeq (· ++ vs.toArray))).objs.size = s.heap.objs.size + 1 := by
    rw [Heap.size_update, size_push']
  show wpAny _ _ _ _ _ { s with heap := PySem.W.copyHeap s.heap vs }
  rw [hsz]
  refine wpAny_bind (wpAny_holding (PyProof.Rows.wpAny_call_entry_kw slot_list_sort ⟨_, PySem.W.copyHeap_at s.heap vs, rfl⟩ entry_list_sort ?body (ha2 _)))
  case body =>
    show wpAny (model prog w) A.in1.in1 (Builtin.«list.sort» ⟨[.ref (s.heap.objs.size + 1)], kw⟩) _ _ _
    refine wpAny_mono (body _) (fun f s' hf => ?_) fun _ _ e => e
    obtain ⟨rfl, hq⟩ := hf
    exact ⟨_, rfl, wpAny_pure ⟨_, rfl, hq⟩⟩
theorem sorted_tup_key {β : Type} {R : Value → β → Prop} {vs : List Value} {bs : List β} {l : Addr} {f : Value} {kw : List (Str × Value)} {b : Bool} {Q : Value → Shared → Prop} (k : β → PyData) (hl : IsTup s.heap l vs.toArray) (e : PySem.W.EachIs R vs bs) (hal : PySem.W.AllAlike (bs.map k)) (hk : PySem.W.Sortable (bs.map k)) (hL : bs.length ≤ sizeLine)
    (hu : ∀ x, x ∈ bs → A.units + 2 + (k x).depth < cLine) (ha1 : argsOk "sorted" ⟨[.ref l], kw⟩) (ha2 : ∀ x, argsOk "list.sort" ⟨[.ref x], kw⟩) (ht : ∀ x, Builtin.«list.sort» ⟨[.ref x], kw⟩ = ksk_tree x f b)
    (turn : ∀ (v : Value) (x : β), R v x → x ∈ bs → ∀ (h : Heap) (tk : Nat), (∀ b o, s.heap.get? b = some o → h.get? b = some o) →
      wpAny (model prog w) A.in1.in1 (call f [v]) (PySem.W.KeyPure (k x) { s with heap := h, toks := tk }) (fun _ _ => False) { s with heap := h, toks := tk })
    (h : ∀ out c h' tk, (∀ b o, s.heap.get? b = some o → h'.get? b = some o) → s.heap.get? (s.heap.objs.size + 1) = none → h'.get? (s.heap.objs.size + 1) = some (seqObj "list" (List.toArray out) c) → out.length = bs.length → PySem.W.EachIs R out (bs.mergeSort (PySem.W.dataLe b k)) →
      Q (.ref (s.heap.objs.size + 1)) { s with heap := h', toks := tk }) :
    wpAny (model prog w) A (call (.builtin "sorted") [.ref l] kw) Q E s := by
  have fresh : s.heap.get? (s.heap.objs.size + 1) = none := Heap.get?_none_of_le (Nat.le_succ _)
  have up : ∀ {g : Heap}, PySem.W.KeepsBut (s.heap.objs.size + 1) (PySem.W.copyHeap s.heap vs) g → ∀ b o, s.heap.get? b = some o → g.get? b = some o := fun {g} kp b o q =>
    kp b o (Nat.ne_of_lt (Nat.lt_succ_of_lt (Heap.lt_size q))) (PySem.W.copyHeap_old q)
  refine sorted_tupK hl (by rw [e.length]; exact hL) ha1 ha2 fun E' => ?_
  rw [ht]
  refine PySem.W.keyH_tree (kz := bs.map k) (s := { s with heap := PySem.W.copyHeap s.heap vs }) (PySem.W.copyHeap_at s.heap vs) (by rw [List.length_map]; exact e.length.symm) (by rw [e.length]; exact hL) hal hk (PySem.W.bound_map (A := A.in1.in1) hu)
    (PySem.W.keyH_turns (s := { s with heap := PySem.W.copyHeap s.heap vs }) e fun v x hR hx h tk kp => turn v x hR hx h tk (up kp)) fun h' tk out c kp hD ko => ⟨rfl, ?_⟩
  exact h out c h' tk (up kp) fresh hD ((ko.length (by rw [List.length_map]; exact e.length.symm)).trans e.length) (PySem.W.keyedOut_each k ko e)
end

/-! ### the key: lambda x: x[1] -/
/-- `lambda x: x[1]` -/
def IsSnd (params : Arguments) (body : Expr) (scope : Scope) (x : Str) : Prop :=
  (∃ p1 p2 p3 j, body = .Subscript (.Name x p1) (.Constant (.int 1) j p2) p3) ∧ scope.names = [(x, .local)] ∧ scope.isCoroutine = false ∧ scope.isGenerator = false ∧ scope.kind = .function ∧
  (∀ (q : Str) (pm cv ctv : Value) (v : Value), bindArgs (PySem.W.kla_fn "<lambda>" q params body scope [] pm cv ctv) ⟨[v], []⟩ = pure [(x, v)])
section
variable {prog : Program} {w : World} {A : Around} {s : Shared}
theorem snd_call {f c' : Addr} {q x : Str} {params : Arguments} {body : Expr} {scope : Scope} {pm ctv : Value} {a : Addr} {i j : Int} (hroom : A.depth < recursionLimit) (nl : s.heap.NoLimit) (L : IsSnd params body scope x) (hx : (x == ("__debug__" : Str)) = false)
    (hf : s.heap.get? f = some (PySem.W.kla_obj "<lambda>" q params body scope [] pm c' ctv)) (hc : ∃ (oc : Obj) (vs : Array Value) (t : Tok), s.heap.get? c' = some oc ∧ oc.data = .fields vs ∧ vs[1]? = some (.str q t))
    (ha : ∃ t1 t2, IsTup s.heap a #[.int i t1, .int j t2]) :
    wpAny (model prog w) A (call (.ref f) [.ref a]) (PySem.W.KeyPure (.int j) s) (fun _ _ => False) s := by
  obtain ⟨⟨p1, p2, p3, jj, rfl⟩, hn, hco, hge, hk, hb⟩ := L
  obtain ⟨oc, vs, t, h1, h2, h3⟩ := hc
  refine wpAny_call (PySem.W.kla_callFunE hroom hf rfl hco hge rfl ⟨c', oc, vs, t, rfl, h1, h2, h3⟩ ?_)
  rw [hb]
  refine wpAny_pure (wpAny_newFunctionEnv (fun y hy => ?_) (fun y hy => ?_) (fun h₁ hns hsb => ⟨nl.fresh _ hsb, ?_⟩) hk)
  · have hy : y ∈ scope.names := hy
    rw [hn] at hy
    obtain rfl := List.mem_singleton.mp hy
    exact fun z => by cases z
  · obtain rfl := List.mem_singleton.mp hy
    show scope.names.lookup x = _
    rw [hn]
    show (match x == x with | true => some NameKind.local | false => _) = _
    rw [beq_self_eq_true]
  have kp : ∀ b o, s.heap.get? b = some o → h₁.get? b = some o := fun b o e => hsb.extBut b o (Nat.ne_of_lt (Heap.lt_size e)) (Heap.get?_push_of_some _ e)
  refine PySem.W.kla_codeExpr (Subscript_ (wpAny_Name (wpAny_loadName_local hk ?_ hns (v := .ref a) ?_ ?_) hx))
  · show scope.names.lookup x = _
    rw [hn]
    show (match x == x with | true => some NameKind.local | false => _) = _
    rw [beq_self_eq_true]
  · show (match x == x with | true => some (Value.ref a) | false => _) = _
    rw [beq_self_eq_true]
  refine wpAny_Constant_int ?_
  obtain ⟨t1, t2, pl⟩ := ha
  have pl1 : IsTup h₁ a #[.int i t1, .int j t2] := by
    obtain ⟨o, ho, r⟩ := pl
    exact ⟨o, kp _ _ ho, r⟩
  refine subscriptTail_builtinR (x := .int j t2) (IsTup.typeIs (s := _) pl1) slot_tuple_getitem.lookup (getItem_tuple (j := 1) pl1 (by decide) (by decide) (by show seqIndex? 1 2 = some 1; decide) rfl ⟨rfl, ?_⟩) rfl
  exact ⟨_, _, rfl, kp, .int _ _⟩
end

/-- pairs by their second number -/
abbrev leS : Addr × Int × Int → Addr × Int × Int → Bool := fun p q => decide (p.2.2 ≤ q.2.2)
def rSortK (K : PySem.W.Frag) (q : Str) (params : Arguments) (body : Expr) (scope : Scope) : List V → List V → Hp → VK → Prop := fun vs zs H Q => ∃ (a f c' : Addr) (ks : List (Addr × Int × Int)), vs = [V.ref a] ∧ zs = [V.ref f] ∧ SqT K H a (ks.map fun p => V.ref p.1) ∧ (∀ p ∈ ks, SqT K H p.1 [.int p.2.1, .int p.2.2]) ∧
  H f = some (LamO f q params body scope c') ∧ H c' = some (LamX.CodeO c' q) ∧ ∀ (p : Addr), H p = none → Q (.ref p) (upd H p (.lst ((ks.mergeSort leS).map fun q => V.ref q.1)))
theorem each_of {β : Type} {R : Value → β → Prop} {f : β → Value} (h : ∀ b, R (f b) b) : ∀ bs : List β, PySem.W.EachIs R (bs.map f) bs
  | [] => .nil
  | b :: bs => .cons (h b) (each_of h bs)
theorem each_eq {β : Type} {f : β → Value} : ∀ {vs : List Value} {bs : List β}, PySem.W.EachIs (fun v b => v = f b) vs bs → vs = bs.map f
  | _, _, .nil => rfl
  | _, _, .cons h t => by rw [h, each_eq t]; rfl
theorem vals_refs : ∀ ks : List (Addr × Int × Int), Vals (ks.map fun p => V.ref p.1) (ks.map fun p => Value.ref p.1)
  | [] => .nil
  | _ :: ks => .cons rfl (vals_refs ks)
theorem refs_of : ∀ {ks : List (Addr × Int × Int)} {its : List Value}, Vals (ks.map fun p => V.ref p.1) its → its = ks.map fun p => Value.ref p.1
  | [], _, .nil => rfl
  | _ :: _, _, .cons h t => by
    rw [refs_of t, rel_ref' h]
    rfl
where rel_ref' {a : Addr} {v : Value} (h : RelV (.ref a) v) : v = .ref a := h
/-- sorted(t, key=lambda x: x[1]), t a tuple of pairs of numbers -/
theorem cr_sortK {X : Cx} {q x : Str} {params : Arguments} {body : Expr} {scope : Scope} (L : IsSnd params body scope x) (hx : (x == ("__debug__" : Str)) = false) (hu : X.A.units + 100 < cLine) (hd : X.A.depth + 5 < recursionLimit) :
    CallRK X (.builtin "sorted") [Str.ofString "key"] (rSortK X.K q params body scope) := by
  intro pins s σ H vs zs us ws Q I r rz h
  obtain ⟨a, f, c', ks, rfl, rfl, hs, hp, hf, hc, hq⟩ := h
  obtain rfl := Vals.ref1 r
  obtain ⟨w1, rfl, e1⟩ := vals1 rz
  obtain rfl : w1 = Value.ref f := e1
  obtain ⟨its, rv, pl, hz⟩ := I.tuple hs
  obtain rfl := refs_of rv
  rw [List.length_map] at hz
  obtain ⟨⟨pm, ctv, hfo⟩, _, _⟩ := I.hok f _ hf
  obtain ⟨⟨oc, cvs, t, h1, h2, h3⟩, _, _⟩ := I.hok c' _ hc
  have pr : ∀ p ∈ ks, ∃ t1 t2, IsTup s.heap p.1 #[.int p.2.1 t1, .int p.2.2 t2] := fun p hm => by
    obtain ⟨us, k1, k2, _⟩ := I.tuple (hp p hm)
    obtain ⟨u1, u2, rfl, ri, rj⟩ := vals2 k1
    obtain ⟨t1, rfl⟩ := ri
    obtain ⟨t2, rfl⟩ := rj
    exact ⟨t1, t2, k2⟩
  refine sorted_tup_key (β := Addr × Int × Int) (R := fun v (p : Addr × Int × Int) => v = Value.ref p.1) (bs := ks) (b := false) (kw := [(Str.ofString "key", .ref f)]) (fun p => .int p.2.2) pl (each_of (f := fun p : Addr × Int × Int => Value.ref p.1) (fun _ => rfl) ks) (PySem.W.AllAlike.of (enc := fun p : Addr × Int × Int => PyData.int p.2.2) fun _ _ => by simp [PySem.W.alike]) (PySem.W.Sortable.others (enc := fun p : Addr × Int × Int => PyData.int p.2.2) fun _ => ⟨(fun z => by cases z), fun _ z => by cases z⟩)
    hz (fun p _ => by rw [PyData.depth]; omega) (PyProof.Rows.ksk_s1 _ _) (fun _ => PyProof.Rows.ksk_l1 _ _) (fun _ => ksk_t1 _ _) (fun v p e hm h tk kp => ?_) fun out c h' tk kp fr hD _ eo => ?_
  · subst e
    obtain ⟨t1, t2, o, ho, rr⟩ := pr p hm
    exact snd_call (s := { s with heap := h, toks := tk }) (by show X.A.depth < _; omega) (I.nolimit.keeps kp) L hx (kp _ _ hfo) ⟨oc, cvs, t, kp _ _ h1, h2, h3⟩ ⟨t1, t2, o, kp _ _ ho, rr⟩
  · rw [PySem.W.dataLe_int (β := Addr × Int × Int) (fun p => p.2.2)] at eo
    have eo2 := each_eq eo
    have fr2 : H (s.heap.objs.size + 1) = none := I.hok.fresh (Nat.le_succ _)
    refine ⟨.ref _, upd H (s.heap.objs.size + 1) (.lst ((ks.mergeSort leS).map fun q => V.ref q.1)), I.laid (t' := tk) kp (Nat.le_succ _) ⟨?_, _, c, vals_refs _, ?_⟩, rfl, hq _ fr2⟩
    · rw [List.length_map, List.length_mergeSort]
      exact hz
    · rw [eo2] at hD
      exact hD

section
variable {K : PySem.W.Frag} {S S1 : SS} {ta : TA} {te : TE}
def sndSort (zs : List (Int × Int)) : List (Int × Int) := zs.mergeSort fun p q => decide (p.2 ≤ q.2)
theorem sndSort_perm (zs : List (Int × Int)) : (sndSort zs).Perm zs := List.mergeSort_perm _ _
theorem upd_comm {H : Hp} {a b : Addr} {x y : HO} (h : a ≠ b) : upd (upd H a x) b y = upd (upd H b y) a x := by
  funext c
  by_cases h1 : c = b
  · subst h1
    rw [upd_same, upd_ne (Ne.symm h), upd_same]
  · rw [upd_ne h1]
    by_cases h2 : c = a
    · subst h2
      rw [upd_same, upd_same]
    · rw [upd_ne h2, upd_ne h2, upd_ne h1]
theorem Okk.putO {c : Addr → Prop} {Hf H : Hp} {σ : L2.St} {fp : List (List Addr)} (ok : Okk K c Hf H σ fp S) {k : Nat} {p : List Addr} {o o' : OO} {H' : Hp} (hk : fp[k]? = some p) (ho : S.ob[k]? = some o) (hg : o ≠ .gone) (ht : ∀ a, a ∉ p → H' a = H a) (hn : OOk K Hf H' p o') (hal : ∀ a ∈ p, ∃ x, H' a = some x) (hl : ∀ ds, o' = .lst ds → ∃ ds0, o = .lst ds0) :
    Okk K c Hf H' σ fp { S with ob := S.ob.set k o' } ∧ Gr Hf H fp Hf H' fp := by
  obtain ⟨hd, g⟩ := ok.hd.put hk ho hg ht hn hal hl
  exact ⟨⟨hd, ok.ln, ok.sr⟩, g⟩
theorem set_self {α : Type} {l : List α} {k : Nat} {x : α} (h : l[k]? = some x) : l.set k x = l := by
  apply List.ext_getElem?
  intro i
  by_cases e : i = k
  · subst e
    rw [List.getElem?_set_self (List.getElem?_eq_some_iff.mp h).1, h]
  · rw [List.getElem?_set_ne (Ne.symm e)]
/-- sorted(t, key=lambda x: x[1]) -/
theorem el_sortK {P : Addr} {q : Str} {params : Arguments} {body : Expr} {scope : Scope} {zs : List (Int × Int)} {k : Nat} (ha : Ee K te S (.dat (.tuple (zs.map prD))) S1) (ho : S1.ob[k]? = some (.tab P q)) :
    El K (tCKw (rSortK K q params body scope) (tCons te tNil) (tCons (tMk P q params body scope) tNil)) S ((sndSort zs).map prD) S1 := fun c Hf H σ fp ok Q qq =>
  ha c Hf H σ fp ok _ fun v Hf1 H1 fp1 ok1 g1 r1 => by
    cases r1 with
    | @tup a xs ds h1 h2 =>
      obtain ⟨ks, rfl, rfl, h3⟩ := prs_of h2
      have hlt : k < fp1.length := by
        rw [ok1.hd.fl]
        exact (List.getElem?_eq_some_iff.mp ho).1
      obtain ⟨ps, efp, t1, t2, t3⟩ := ok1.hd.oo k _ _ (List.getElem?_eq_getElem hlt) ho
      have hk : fp1[k]? = some [P] := (List.getElem?_eq_getElem hlt).trans (congrArg some efp)
      have hPf : Hf1 P = none := ok1.hd.nf k [P] _ hk ho (by intro z; cases z) P (by simp)
      have es : (ks.mergeSort leS).map (·.2) = sndSort (ks.map (·.2)) := List.map_mergeSort fun a _ b _ => rfl
      -- the end, from a state in which the lambda stands
      have fin : ∀ (Hf2 H2 : Hp) (f c' : Addr), Okk K c Hf2 H2 σ fp1 S1 → Gr Hf1 H1 fp1 Hf2 H2 fp1 → H2 f = some (LamO f q params body scope c') → H2 c' = some (LamX.CodeO c' q) → rSortK K q params body scope [.ref a] [.ref f] H2 Q := by
        intro Hf2 H2 f c' ok2 g2 e1 e2
        refine ⟨a, f, c', ks, rfl, rfl, sameT ok2.hd.ex (sameT g2.sm h1), fun p hp => sameT ok2.hd.ex (sameT g2.sm (h3 p hp)), e1, e2, fun p hp => ?_⟩
        have r3 : RpA K Hf2 ((ks.mergeSort leS).map fun p => V.ref p.1) ((sndSort (ks.map (·.2))).map prD) := by
          rw [← es]
          exact rp_prs fun p hp => sameT g2.sm (h3 p ((List.mergeSort_perm ks leS).mem_iff.mp hp))
        obtain ⟨ok3, g3, al⟩ := ok2.alone hp r3
        exact qq p _ _ _ ok3 ((g1.trans g2).trans g3) (none_back (g1.trans g2).th hp) al
      refine ⟨ps, ⟨t1, t2, fun pos cv z => ?_⟩, fun f c' hf hc => ?_, fun f c' more hf hc hfc ht hall => ?_⟩
      · obtain ⟨cc, e1, e2⟩ := t3 pos cv z
        exact ⟨cc, e1, ok1.hd.ex _ _ e2⟩
      · obtain ⟨ok2, g2⟩ := ok1.laid (LamO f q params body scope c') hf
        exact fin _ _ f c' ok2 g2 upd_same (by rw [upd_ne (ne_of_none hc hf)]; exact hc)
      · obtain ⟨ok2, g2⟩ := ok1.laid (LamX.CodeO c' q) hc
        have hf2 : (upd H1 c' (LamX.CodeO c' q)) f = none := by
          rw [upd_ne hfc]
          exact hf
        obtain ⟨ok3, g3⟩ := ok2.laid (LamO f q params body scope c') hf2
        have nPc : P ≠ c' := ne_of_none t1 hc
        have nPf : P ≠ f := ne_of_none t1 hf
        have eH : upd (upd (upd H1 P (.tbl (ps ++ more))) c' (LamX.CodeO c' q)) f (LamO f q params body scope c') = upd (upd (upd H1 c' (LamX.CodeO c' q)) f (LamO f q params body scope c')) P (.tbl (ps ++ more)) := by
          rw [upd_comm nPc, upd_comm nPf]
        have cK : ∀ b o, Hf1 b = some o → (upd (upd Hf1 c' (LamX.CodeO c' q)) f (LamO f q params body scope c')) b = some o := (g2.trans g3).sm
        obtain ⟨ok4, g4⟩ := ok3.putO (o' := .tab P q) (H' := upd (upd (upd H1 c' (LamX.CodeO c' q)) f (LamO f q params body scope c')) P (.tbl (ps ++ more))) hk ho (by intro z; cases z) (fun b hb => upd_ne (by simpa using hb))
          ⟨ps ++ more, rfl, upd_same, ht, fun pos cv z => by
            rcases hall pos cv z with z | z
            · obtain ⟨cc, e1, e2⟩ := t3 pos cv z
              exact ⟨cc, e1, cK _ _ e2⟩
            · exact ⟨c', z, by rw [upd_ne (Ne.symm hfc), upd_same]⟩⟩ (fun b hb => by
            have e : b = P := by simpa using hb
            rw [e]
            exact ⟨_, upd_same⟩) fun ds z => by cases z
        rw [set_self ho] at ok4
        rw [eH]
        refine fin _ _ f c' ok4 ((g2.trans g3).trans g4) ?_ ?_
        · rw [upd_ne (Ne.symm nPf), upd_same]
        · rw [upd_ne (Ne.symm nPc), upd_ne (Ne.symm hfc), upd_same]
end

/-! ### a call to which two own objects are handed in: one as an argument, one that the callee knows of -/
section
variable {K : PySem.W.Frag} {S S1 : SS} {as : List SD} {R : FR} {r : SD} {c : Addr → Prop} {Hf H : Hp} {σ : L2.St} {fp : List (List Addr)}
theorem sra_pre {p p2 : List Addr} : ∀ {as : List SD} {vs : List V}, SRA K Hf [p] vs as → SRA K Hf [p, p2] vs as := fun h => h.mono (Same.refl _) ⟨[p2], rfl⟩
theorem two_get {α : Type} {x y z : α} {j : Nat} (e : [x, y][j]? = some z) : (j = 0 ∧ z = x) ∨ (j = 1 ∧ z = y) := by
  match j, e with
  | 0, e => exact .inl ⟨rfl, (Option.some.inj e).symm⟩
  | 1, e => exact .inr ⟨rfl, (Option.some.inj e).symm⟩
  | j + 2, e => simp at e
theorem sp_call2 {np k k2 : Nat} {E : XK} {vs : List V} {o o' o2 : OO} (ok : Okk K c Hf H σ fp S) (sr : SRA K Hf fp vs (as.map (atK k))) (h0 : ∀ a ∈ as, ∀ j, a = .own j → j = 0) (hl : as.length = np) (ho : S.ob[k]? = some o) (hg : o ≠ .gone) (hn : ∀ ds, o ≠ .lst ds)
    (ho2 : S.ob[k2]? = some o2) (hg2 : o2 ≠ .gone) (hn2 : ∀ ds, o2 ≠ .lst ds) (hkk : k ≠ k2) (hR : R as [o, o2] r [o', o2]) (hr : ∀ j, r = .own j → j = 0) {Q : VK}
    (kq : ∀ v Hf' H' fp', Okk K c Hf' H' σ fp' { S with ob := S.ob.set k o' } → Gr Hf H fp Hf' H' fp' → SRl K Hf' fp' (some v) (atR k r) → Q v H') : spD K np R vs H Q E := by
  obtain ⟨p, hk⟩ : ∃ p, fp[k]? = some p := ⟨_, List.getElem?_eq_getElem (by rw [ok.hd.fl]; exact (List.getElem?_eq_some_iff.mp ho).1)⟩
  obtain ⟨p2, hk2⟩ : ∃ p, fp[k2]? = some p := ⟨_, List.getElem?_eq_getElem (by rw [ok.hd.fl]; exact (List.getElem?_eq_some_iff.mp ho2).1)⟩
  have mp : ∀ a ∈ p, a ∈ fp.flatten := fun a ha => mem_fl hk ha
  have mp2 : ∀ a ∈ p2, a ∈ fp.flatten := fun a ha => mem_fl hk2 ha
  have ndp : p.Nodup := (List.pairwise_flatten.mp ok.hd.nd).1 p (List.mem_of_getElem? hk)
  have ndp2 : p2.Nodup := (List.pairwise_flatten.mp ok.hd.nd).1 p2 (List.mem_of_getElem? hk2)
  have prp : ∀ a ∈ p, prot Hf H a := fun a ha => ⟨ok.hd.nf k p o hk ho hg a ha, ok.hd.al a (mp a ha)⟩
  have prp2 : ∀ a ∈ p2, prot Hf H a := fun a ha => ⟨ok.hd.nf k2 p2 o2 hk2 ho2 hg2 a ha, ok.hd.al a (mp2 a ha)⟩
  have fl2 : ∀ a, a ∈ [p, p2].flatten ↔ a ∈ p ∨ a ∈ p2 := fun a => by simp
  refine ⟨by rw [Paired.length sr, List.length_map]; exact hl, Hf, [p, p2], as, [o, o2], r, [o', o2], ⟨ok.hd.ex, rfl, fun j a u e1 e2 => ?_, ?_, fun a h => ?_, fun j q u e1 e2 hx a ha => ?_, fun a z => z, fun j q ds e1 e2 => ?_⟩, fun u hu ds => ?_, sra_pre (sra_one hk h0 sr), hR, fun v Hf2 H2 fp2 hd2 g2 rv => ?_⟩
  · rcases two_get e1 with ⟨rfl, rfl⟩ | ⟨rfl, rfl⟩
    · obtain rfl := (Option.some.inj e2).symm
      exact ok.hd.oo k _ _ hk ho
    · obtain rfl := (Option.some.inj e2).symm
      exact ok.hd.oo k2 _ _ hk2 ho2
  · have e : [p, p2].flatten = p ++ p2 := by simp
    rw [e, List.nodup_append]
    exact ⟨ndp, ndp2, fun a ha b hb e => hkk (nodup_fl ok.hd.nd hk hk2 ha (e ▸ hb))⟩
  · exact ok.hd.al a (((fl2 a).mp h).elim (mp a) (mp2 a))
  · rcases two_get e1 with ⟨rfl, rfl⟩ | ⟨rfl, rfl⟩
    · exact (prp a ha).1
    · exact (prp2 a ha).1
  · rcases two_get e2 with ⟨_, e⟩ | ⟨_, e⟩
    · exact absurd e.symm (hn ds)
    · exact absurd e.symm (hn2 ds)
  · rcases List.mem_cons.mp hu with e | hu
    · rw [e]
      exact hn ds
    · rw [List.mem_singleton.mp hu]
      exact hn2 ds
  · have f2 : fp2 = [p, p2] := by
      obtain ⟨t, rfl⟩ := g2.pr
      have := hd2.fl
      simp at this
      rw [this]
      rfl
    subst f2
    have off : ∀ {j : Nat} {q : List Addr}, fp[j]? = some q → j ≠ k → j ≠ k2 → ∀ b ∈ q, H2 b = H b := fun {j q} e hj hj2 b hb => by
      obtain ⟨u, e'⟩ := ok.hd.al b (mem_fl e hb)
      rw [e']
      refine g2.fr b u e' fun m => ?_
      rcases (fl2 b).mp m with m | m
      · exact hj (nodup_fl ok.hd.nd e hk hb m)
      · exact hj2 (nodup_fl ok.hd.nd e hk2 hb m)
    have hlt : k < S.ob.length := (List.getElem?_eq_some_iff.mp ho).1
    have hd : Hd K c Hf2 H2 fp (S.ob.set k o') := by
      refine ⟨hd2.ex, by rw [List.length_set]; exact ok.hd.fl, fun j q u e1 e2 => ?_, ok.hd.nd, fun a ha => ?_, fun j q u e1 e2 hx a ha => ?_, fun a z => hd2.pt a (ok.hd.pt a z), fun j q ds e1 e2 a ha z => ?_⟩
      · by_cases hj : j = k
        · subst hj
          rw [hk] at e1
          obtain rfl := Option.some.inj e1
          rw [List.getElem?_set_self hlt] at e2
          obtain rfl := Option.some.inj e2
          exact hd2.oo 0 _ _ rfl rfl
        · rw [List.getElem?_set_ne (Ne.symm hj)] at e2
          by_cases hj2 : j = k2
          · subst hj2
            rw [hk2] at e1
            obtain rfl := Option.some.inj e1
            rw [ho2] at e2
            obtain rfl := Option.some.inj e2
            exact hd2.oo 1 _ _ rfl rfl
          · exact (ok.hd.oo j q u e1 e2).mono g2.sm (off e1 hj hj2)
      · obtain ⟨u, e⟩ := ok.hd.al a ha
        exact g2.th a u e
      · by_cases hj : j = k
        · subst hj
          rw [hk] at e1
          obtain rfl := Option.some.inj e1
          exact (hd2.pt a (prp a ha)).1
        · rw [List.getElem?_set_ne (Ne.symm hj)] at e2
          exact (hd2.pt a ⟨ok.hd.nf j q u e1 e2 hx a ha, ok.hd.al a (mem_fl e1 ha)⟩).1
      · by_cases hj : j = k
        · subst hj
          rw [hk] at e1
          obtain rfl := Option.some.inj e1
          rw [List.getElem?_set_self hlt] at e2
          obtain rfl := Option.some.inj e2
          exact hd2.np 0 p ds rfl rfl a ha (prp a ha)
        · rw [List.getElem?_set_ne (Ne.symm hj)] at e2
          exact ok.hd.np j q ds e1 e2 a ha z
    have g : Gr Hf H fp Hf2 H2 fp := ⟨g2.sm, List.prefix_rfl, fun a u e n => g2.fr a u e fun m => n (((fl2 a).mp m).elim (mp a) (mp2 a)), fun a m => .inl m, g2.th⟩
    refine kq v Hf2 H2 fp ⟨hd, ok.ln, fun i d e => ?_⟩ g ?_
    · obtain ⟨x, h1, h2⟩ := ok.sr i d e
      exact ⟨x, h1, h2.mono g.sm g.pr⟩
    · cases r with
      | un => trivial
      | dat d => exact rv
      | scr ns => exact rv
      | rng _ _ => exact rv
      | lown _ => trivial
      | tx _ => exact rv
      | tq _ _ _ => exact rv
      | no => exact rv
      | own i =>
        obtain ⟨a, q, h1, h2⟩ := rv
        have e := hr i rfl
        subst e
        obtain rfl := Option.some.inj h1
        exact ⟨a, q, hk, h2⟩
theorem ee_call2 {np k k2 : Nat} {E : XK} {ta : TA} {o o' o2 : OO} {asC : List SD} (ha : Ea K ta S asC S1) (he : asC = as.map (atK k)) (h0 : ∀ a ∈ as, ∀ j, a = .own j → j = 0) (hl : as.length = np) (ho : S1.ob[k]? = some o) (hg : o ≠ .gone) (hn : ∀ ds, o ≠ .lst ds)
    (ho2 : S1.ob[k2]? = some o2) (hg2 : o2 ≠ .gone) (hn2 : ∀ ds, o2 ≠ .lst ds) (hkk : k ≠ k2) (hR : R as [o, o2] r [o', o2]) (hr : ∀ j, r = .own j → j = 0) :
    Ee K (tCall (spD K np R) [] E ta) S (atR k r) { S1 with ob := S1.ob.set k o' } := fun c Hf H σ fp ok Q q =>
  ha c Hf H σ fp ok _ fun vs Hf1 H1 fp1 ok1 g1 sr => by
    rw [List.append_nil]
    subst he
    exact sp_call2 ok1 sr h0 hl ho hg hn ho2 hg2 hn2 hkk hR hr fun v Hf' H' fp' ok' g' rv => q v Hf' H' fp' ok' (g1.trans g') rv
end
/-! ### a def that makes lambdas; the end of a law with a table -/
section
variable {P : Program} {w : World} {K : PySem.W.Frag} {mg : Str → Option Value} {base : Heap}
theorem okGT {x qual : Str} {st : Stmt} {f : Addr} {fd : FuncData} {N ps : List Str} {k : Nat} {sp : Sp} {PT : Addr} (F : Fun K x qual st f fd) (S : FnScope N ps (defScope st)) (hT : ∃ c, fd.code = .ref c ∧ LamX.TabB base mg c PT) (len : ∀ vs H Q E, sp vs H Q E → vs.length = ps.length)
    (hbody : ∀ (cdv : Value) (c : Addr) (A : Around) (outer : List Env) (s : Shared) (H : Hp) (vs : List V) (Q : VK) (E : XK), cdv = .ref c → LamX.TabB base mg c PT → Room k (A.deeper (envOfC qual (defScope st) s.heap.objs.size f cdv)) → (A.deeper (envOfC qual (defScope st) s.heap.objs.size f cdv)).guards = some [] → sp vs H Q E →
      ∃ t, PSs (cxOf CX0 P w K mg base N qual (defScope st) f cdv A outer s H E).nox (defBody st) t ∧ t { nx := fun _ H' => Q .non H', rt := Q } (start N vs) H) : FnG P w K mg base CX0 (k + 1) f fd ps sp := by
  obtain ⟨oc, od, kV, doc, pm, an, cdv, ct, osl, rfl, lk, hcd⟩ := F.ex
  obtain ⟨c, e, TB⟩ := hT
  exact fng_of lk hcd S len fun A outer s H vs Q E hr hg hsp => (hbody cdv c A outer s H vs Q E e TB hr hg hsp).elim fun t z => ⟨t, z.1.nox, z.2⟩
end

section
variable {X : Cx}
/-- sorted(e, key=lambda x: x[1]) in the code -/
theorem pe_sortK (x : Str) {c P : Addr} {e : Expr} {t : TA} {params : Arguments} {body : Expr} {scope : Scope} {lpos kpos p pos : Pos} (TB : LamX.TabB X.base X.mg c P) (hcode : X.env.code = .ref c) (hg : Gl X "sorted") (hm : X.mg "sorted" = none) (hu : X.A.units + 100 < cLine) (hd : X.A.depth + 5 < recursionLimit) (he : PA X [e] t)
    (L : IsSnd params body scope x := by exact ⟨⟨_, _, _, _, rfl⟩, rfl, rfl, rfl, rfl, fun _ _ _ _ _ => rfl⟩) (hx : (x == ("__debug__" : Str)) = false := by decide) (hdef : defaultsOf params X.env = ([], []) := by rfl) (hfree : ∀ y ∈ scope.names, y.2 ≠ .free := by decide) (hcl : cloFrom X.env.cells scope.names [] = [] := by rfl)
    (h1 : backTo pos (starEach [e] X.env) = (false, eval e X.env) :: backTo pos (starEach [] X.env) := by rfl) (h2 : (backTo pos (starEach [e] X.env)).any (·.1) = false := by rfl) (hall : (backToKw pos (keywordEach [⟨some "key", .Lambda params body scope lpos, kpos⟩] X.env)).all (·.1.isSome) = true := by rfl) (hnone : (backToKw pos (keywordEach [⟨some "key", .Lambda params body scope lpos, kpos⟩] X.env)).any (·.1.isNone) = false := by rfl) (hks : (backToKw pos (keywordEach [⟨some "key", .Lambda params body scope lpos, kpos⟩] X.env)).filterMap (·.1) = [Str.ofString "key"] := by rfl) :
    PE X (.Call (.Name "sorted" p) [e] [⟨some "key", .Lambda params body scope lpos, kpos⟩] pos) (tCKw (rSortK X.K (X.env.qual ++ "<lambda>") params body scope) t (tCons (tMk P (X.env.qual ++ "<lambda>") params body scope) tNil)) :=
  pe_callBK (cr_sortK L hx hu hd) hg hm (by decide +kernel) he (pk_cons (pe_lam TB hcode hdef hfree hcl) pk_nil) (he := h1) (hpl := h2) (hall := hall) (hnone := hnone) (hks := hks)
end
end DL

set_option maxRecDepth 100000
set_option maxHeartbeats 1000000
/-! DLlamG: the end of a law with a table of code objects -/
namespace DL
open PySem PySem.Spec PyProof.Rows L2
/-- what is kept of K where the table at P is left out -/
def lessT (K : PySem.W.Frag) (P : Addr) : PySem.W.Frag := K.filter fun q => decide (q.1 ≠ P)
theorem lessT_look {K : PySem.W.Frag} {P a : Addr} (h : a ≠ P) : (lessT K P).lookup a = K.lookup a := by
  unfold lessT
  induction K with
  | nil => rfl
  | cons q r ih =>
    obtain ⟨b, o⟩ := q
    by_cases e : b = P
    · rw [List.filter_cons_of_neg (by simp [e]), ih, List.lookup_cons]
      have : (a == b) = false := by
        rw [e]
        exact beq_false_of_ne h
      rw [this]
    · rw [List.filter_cons_of_pos (by simp [e]), List.lookup_cons, List.lookup_cons, ih]
theorem lessT_none {K : PySem.W.Frag} {P : Addr} : (lessT K P).lookup P = none := by
  unfold lessT
  induction K with
  | nil => rfl
  | cons q r ih =>
    obtain ⟨b, o⟩ := q
    by_cases e : b = P
    · rw [List.filter_cons_of_neg (by simp [e]), ih]
    · rw [List.filter_cons_of_pos (by simp [e]), List.lookup_cons, ih]
      have : (P == b) = false := beq_false_of_ne (Ne.symm e)
      rw [this]
theorem lessT_in {K : PySem.W.Frag} {P : Addr} {h : Heap} (X : K.In h) : (lessT K P).In h := fun a o e => by
  by_cases q : a = P
  · rw [q, lessT_none] at e
    cases e
  · rw [lessT_look q] at e
    exact X a o e
section
variable {K : PySem.W.Frag} {P : Addr} (hP : K.lookup P = none)
include hP
theorem lessT_fn {f : Addr} {oc : Value} {od : Option Addr} {fd : FuncData} {sl : Array (Option Value)} (h : K.lookup f = some ⟨oc, od, .func fd, sl⟩) : (lessT K P).lookup f = some ⟨oc, od, .func fd, sl⟩ := by
  rw [lessT_look fun e => ?_]
  · exact h
  · rw [e, hP] at h
    cases h
theorem lessT_code {cd : Value} {q : Str} (h : PySem.W.codeIn K cd q = true) : PySem.W.codeIn (lessT K P) cd q = true := by
  obtain ⟨c, rfl⟩ : ∃ c, cd = .ref c := by
    cases cd with
    | ref c => exact ⟨c, rfl⟩
    | _ => cases h
  have ne : c ≠ P := fun e => by
    rw [e] at h
    unfold PySem.W.codeIn at h
    dsimp only at h
    rw [hP] at h
    cases h
  unfold PySem.W.codeIn at h ⊢
  dsimp only at h ⊢
  rw [lessT_look ne]
  exact h
theorem lessT_keep {f : Addr} {oc : Value} {od : Option Addr} {fd : FuncData} {sl : Array (Option Value)} (h : K.lookup f = some ⟨oc, od, .func fd, sl⟩) : PySem.W.keepIn (lessT K P) (.ref f) = true := by
  unfold PySem.W.keepIn
  show (match (lessT K P).lookup f with
    | some ⟨_, _, .func _, _⟩ => true
    | some ⟨_, _, .cls _, _⟩ => _
    | _ => false) = true
  rw [lessT_fn hP h]
theorem lessT_hd {c : Addr} (h : PySem.W.codeHdIn K c P = true) : PySem.W.codeHdIn (lessT K P) c P = true := by
  have ne : c ≠ P := fun e => by
    rw [e] at h
    unfold PySem.W.codeHdIn at h
    rw [hP] at h
    cases h
  unfold PySem.W.codeHdIn at h ⊢
  rw [lessT_look ne]
  exact h
end
/-! ### the end of a law -/
theorem law_callGT {P : Program} {w : World} {K : PySem.W.Frag} {mg mb : Str → Option Value} {CX : CXT} {k : Nat} {fa a c PT : Addr} {fd : FuncData} {x : Str} {sp : Sp} {s₁ : Shared} {vs : List Value} {ns : List Int}
    (KX : K.In s₁.heap) (hns : s₁.heap.Ns mainGlobals mg) (hb : s₁.heap.Ns builtinsNs mb) (hbb : ∀ x : Str, x ≠ "__name__" → mb x = bootBuiltins x) (hlim : s₁.heap.NoLimit) (hg : s₁.gens = #[])
    (hT : s₁.heap.get? PT = some { cls := .none, data := .fields #[] }) (nT : K.lookup PT = none) (hc : PySem.W.codeHdIn K c PT = true)
    (hbm : ∃ (bm : Addr) (ob : Obj), mg "__builtins__" = some (.ref bm) ∧ bm ≠ builtinsNs ∧ s₁.heap.get? bm = some ob ∧ ob.cls = .type "module" ∧ ob.dict = some builtinsNs ∧ ob.data = .plain)
    (ha : s₁.heap.get? a = some { cls := .type "list", data := .seq vs.toArray }) (hi : IntsAre vs ns) (hl : ns.length ≤ sizeLine) (hr : Room k callerA)
    (F : ∀ base : Heap, K.In base → base.Ns mainGlobals mg → LamX.TabB base mg c PT → FnG P w K mg base CX k fa fd [x] sp) (hbind : ∀ (s : Shared) (u : Value), BindsTo s fd ⟨[u], []⟩ [(x, u)])
    (hsp : ∀ H : Hp, H PT = some (.tbl #[]) → a ≠ PT → SqL K H a (ns.map V.int) → sp [.ref a] H (fun v _ => v = .bl true) fun _ _ _ => False)
    (hCX : ∀ H e s', CX [] H s₁ (fun _ _ _ => False) e s' → False) :
    codeAny (model P w) callerA (.call (.ref fa) ⟨[.ref a], []⟩) (fun r s' => r = .ok (.ret (.bool true)) ∧ OldK s₁.heap s'.heap ∧ s'.os = s₁.os ∧ AllBare s'.gens) s₁ := by
  have aT : a ≠ PT := fun e => by
    rw [e, hT] at ha
    cases congrArg Obj.cls (Option.some.inj ha)
  have CH := PySem.W.codeHd_of_K KX hc
  have main : ∀ H : Hp, H PT = some (.tbl #[]) → (∀ b, b ≠ PT → H b = none ∨ ∃ o xs, H b = some (.frz o (.lst xs))) → SqL K H a (ns.map V.int) → HOk P w H s₁.heap → (∀ b, H b ≠ none → b = a ∨ b = PT) → (H a ≠ none → K.lookup a = none) →
      codeAny (model P w) callerA (.call (.ref fa) ⟨[.ref a], []⟩) (fun r s' => r = .ok (.ret (.bool true)) ∧ OldK s₁.heap s'.heap ∧ s'.os = s₁.os ∧ AllBare s'.gens) s₁ := by
    intro H hHT hO hS hok hA hK
    have isA : ∀ {b : Addr} {u : HO}, H b = some u → b = a ∨ b = PT := fun {b u} q => hA b (by rw [q]; exact fun z => nomatch z)
    have low : ∀ {b : Addr} {o : Obj}, s₁.heap.get? b = some o → H b = none → (hidT s₁.heap H).get? b = some o := fun e n => hidT_get e n
    -- what is neither the script nor the table is not tracked
    have other : ∀ {b : Addr} {o : Obj}, s₁.heap.get? b = some o → (∀ its n, o.data ≠ .seq its n) → o.data ≠ .fields #[] → H b = none := fun {b o} e n1 n2 => by
      cases q : H b with
      | none => rfl
      | some u =>
        rcases isA q with z | z
        · rw [z, ha] at e
          obtain rfl := Option.some.inj e
          exact (n1 _ _ rfl).elim
        · rw [z, hT] at e
          obtain rfl := Option.some.inj e
          exact (n2 rfl).elim
    have nsB : ∀ {b : Addr} {m : Str → Option Value}, s₁.heap.Ns b m → (hidT s₁.heap H).Ns b m := fun {b m} ⟨o, es, ep, e, d, r⟩ =>
      ⟨o, es, ep, low e (other e (fun its n z => by rw [d] at z; cases z) fun z => by rw [d] at z; cases z), d, r⟩
    have kB : K.In (hidT s₁.heap H) := fun b o e => low (KX b o e) (by
      cases q : H b with
      | none => rfl
      | some u =>
        rcases isA q with z | z
        · subst z
          rw [hK (by rw [q]; exact fun z => nomatch z)] at e
          cases e
        · rw [z, nT] at e
          cases e)
    have M : Mod K mg (hidT s₁.heap H) := ⟨kB, nsB hns, ⟨mb, nsB hb, hbb⟩, let ⟨mc, h1, h2⟩ := hlim; ⟨mc, nsB h1, h2⟩⟩
    have TB : LamX.TabB (hidT s₁.heap H) mg c PT := by
      obtain ⟨bm, ob, b1, b2, b3, b4, b5, b6⟩ := hbm
      have nG : bm ≠ mainGlobals := fun q => by
        obtain ⟨o, es, ep, e, hd, _⟩ := hns
        rw [q, e] at b3
        cases b3
        rw [hd] at b6
        cases b6
      have nP : bm ≠ PT := fun q => by
        rw [q, hT] at b3
        cases b3
        cases b6
      refine NdefX.tabB_of_K kB hc ⟨bm, ob, b1, b2, nG, nP, low b3 (other b3 (fun its n z => ?_) fun z => ?_), b4, b5, b6⟩ fun z => ?_
      · rw [b6] at z
        cases z
      · rw [b6] at z
        cases z
      · obtain ⟨o, es, ep, e, hd, _⟩ := hns
        rw [z, hT] at e
        cases e
        cases hd
    have e0 : Env0 P w K mg (hidT s₁.heap H) callerA [] s₁ H := ⟨rfl, M, fun b o e => of_hidT e, Nat.le_of_eq (hidT_size _ _), trivial, fun b hb => absurd (show b ∈ ([] : List Addr) from hb) List.not_mem_nil, hok, .of_eq hg⟩
    refine codeAny_mono ((F _ kB (nsB hns) TB).run callerA [] s₁ H ⟨[.ref a], []⟩ [.ref a] [.ref a] _ _ hr rfl e0 (hbind s₁ (.ref a)) (.cons rfl .nil) (hsp H hHT aT hS)) fun r s' h => ?_
    rcases r with e | fl
    · exact (hCX H e s' h).elim
    rcases fl with _ | _ | _ | u
    · exact h.elim
    · exact h.elim
    · exact h.elim
    obtain ⟨v, H', os, bare, un, hok', r', q⟩ := h
    obtain rfl : v = .bl true := q
    obtain rfl : u = Value.bool true := r'
    have stays : ∀ b o, b ≠ PT → s₁.heap.get? b = some o → s'.heap.get? b = some o := fun b o nb e => by
      cases q : H b with
      | none => exact un.keep b o e q (fun z => nomatch z) (by simp)
      | some u =>
        rcases hO b nb with z | ⟨ob, xs, z⟩
        · rw [q] at z
          cases z
        · have f1 := (hok b _ z).1
          have f2 := (hok' b _ (un.frzs b ob _ z)).1
          rw [e] at f1
          obtain rfl := Option.some.inj f1
          exact f2
    obtain ⟨more, hm⟩ : ∃ more : Array Value, s'.heap.get? PT = some { cls := .none, data := .fields more } := by
      obtain ⟨more, z⟩ := un.tbls PT #[] hHT
      exact ⟨_, hok' PT _ z⟩
    refine ⟨rfl, ⟨fun b o e => ?_, fun b o e => ?_⟩, os, bare⟩
    · by_cases hb : b = PT
      · rw [hb] at e ⊢
        rw [hT] at e
        obtain rfl := Option.some.inj e
        exact .inr (.inl ⟨(CH.tab hT).isCodeTable, rfl, #[], more, rfl, by rw [Array.empty_append]; exact hm⟩)
      · exact .inl (stays b o hb e)
    · by_cases hb : b = PT
      · rw [hb]
        exact ⟨_, hm⟩
      · exact ⟨o, stays b o hb e⟩
  have rv := vals_ints hi
  cases hk : K.lookup a with
  | some o =>
    have e := KX a o hk
    rw [ha] at e
    obtain rfl := Option.some.inj e
    refine main (fun b => if b = PT then some (.tbl #[]) else none) (if_pos rfl) (fun b nb => .inl (if_neg nb)) (.inr ⟨_, vs.toArray, _, hk, rfl, rfl, rfl, by rw [List.size_toArray, hi.length]; exact hl, by simpa using rv⟩) (fun b u z => ?_) (fun b z => ?_) fun z => absurd (if_neg aT) z
    · by_cases eb : b = PT
      · subst eb
        cases (if_pos rfl).symm.trans z
        exact hT
      · cases (if_neg eb).symm.trans z
    · exact .inr (Decidable.byContradiction fun eb => z (if_neg eb))
  | none =>
    refine main (fun b => if b = PT then some (.tbl #[]) else if b = a then some (.frz { cls := .type "list", data := .seq vs.toArray } (.lst (ns.map V.int))) else none) (if_pos rfl) (fun b nb => ?_) (.inl (.inr ⟨{ cls := .type "list", data := .seq vs.toArray }, (if_neg aT).trans (if_pos rfl)⟩)) (fun b u z => ?_) (fun b z => ?_) fun _ => hk
    · by_cases eb : b = a
      · exact .inr ⟨_, _, (if_neg nb).trans (if_pos eb)⟩
      · exact .inl ((if_neg nb).trans (if_neg eb))
    · by_cases eT : b = PT
      · subst eT
        cases (if_pos rfl).symm.trans z
        exact hT
      · have z := (if_neg eT).symm.trans z
        by_cases eb : b = a
        · subst eb
          cases (if_pos rfl).symm.trans z
          exact ⟨ha, by rw [List.length_map]; exact hl, vs, _, rv, ha⟩
        · cases (if_neg eb).symm.trans z
    · by_cases eT : b = PT
      · exact .inr eT
      · exact .inl (Decidable.byContradiction fun eb => z ((if_neg eT).trans (if_neg eb)))
theorem walk_ofGT {l : PySem.W.OpenLaw} {n k : Nat} {q : Program} {loose : List Str} {XP : (Str → Option Value) → Heap → Prop} {YP : World → Heap → Prop} {d : DefRec} {K : Params → PySem.W.Frag} {CX : World → CXT} {sp : World → Sp} {x : Str} {PT : Addr}
    (hn : l.most = some n) (hn2 : n ≤ sizeLine) (hdf : d.params.defaults = []) (hr : Room k callerA)
    (hY : ∀ (w : World) (h : Heap), YP w h → (K w.params).In h) (hT : ∀ (w : World) (h : Heap), YP w h → h.get? PT = some { cls := .none, data := .fields #[] })
    (F : ∀ (w : World) (mg : Str → Option Value) (fa : Addr) (h : Heap), (K w.params).In h → h.Ns mainGlobals mg → mg d.name = some (.ref fa) →
      ∃ (fd : FuncData) (c : Addr), PySem.W.codeHdIn (lessT (K w.params) PT) c PT = true ∧ (∀ (s : Shared) (u : Value), BindsTo s fd ⟨[u], []⟩ [(x, u)]) ∧
        ∀ base : Heap, (lessT (K w.params) PT).In base → base.Ns mainGlobals mg → LamX.TabB base mg c PT → FnG l.prog w (lessT (K w.params) PT) mg base (CX w) k fa fd [x] (sp w))
    (hsp : ∀ (w : World) (H : Hp) (a : Addr) (ns : List Int), ns.length ≤ n → H PT = some (.tbl #[]) → a ≠ PT → SqL (lessT (K w.params) PT) H a (ns.map V.int) → sp w [.ref a] H (fun v _ => v = .bl true) fun _ _ _ => False)
    (hCX : ∀ (w : World) (H : Hp) (s : Shared) (e : Value) (s' : Shared), CX w [] H s (fun _ _ _ => False) e s' → False) :
    PySem.W.WalkO q loose XP YP l.row.toRowW d [] (fun f vs => PySem.call f vs) := by
  refine Att.attach_callB hn hdf fun w s₀ s₁ mg mb fa o pm cd doc a vs ns G Y ho hd hcd hmg hobj hints hlen hbits hg => ?_
  obtain ⟨fd, c, hc, hb, hF⟩ := F w mg fa _ (hY w _ Y) G.T.g hmg
  exact law_callGT (lessT_in (hY w _ Y)) G.T.g G.T.b G.T.builtins G.T.nolimit hg (hT w _ Y) lessT_none hc G.T.bmain hobj hints (Nat.le_trans hlen hn2) hr hF hb (fun H hH na hS => hsp w H a ns hlen hH na hS) fun H e s' => hCX w H s₁ e s'

/-- the law's start: the script is data, the table is an own object -/
theorem tab_start {K : PySem.W.Frag} {H : Hp} {a PT : Addr} {q : Str} {ns : List Int} {R : FR} (hT : H PT = some (.tbl #[])) (na : a ≠ PT) (hS : SqL K H a (ns.map V.int)) (hR : R [.scr ns] [.tab PT q] (.dat (.bool true)) [.tab PT q]) : spD K 1 R [.ref a] H (fun v _ => v = .bl true) fun _ _ _ => False := by
  have one : ∀ {α : Type} {x y : α} {j : Nat}, [x][j]? = some y → j = 0 ∧ y = x := fun {α x y j} e => by
    cases j with
    | zero => exact ⟨rfl, (Option.some.inj e).symm⟩
    | succ j => simp at e
  have e1 : (fun b => if b = PT then none else H b) a = H a := if_neg na
  refine ⟨rfl, fun b => if b = PT then none else H b, [[PT]], [.scr ns], [.tab PT q], .dat (.bool true), [.tab PT q], ⟨fun b o e => ?_, rfl, fun k p o h1 h2 => ?_, by simp, fun b hb => ?_, fun k p o h1 h2 hx b hb => ?_, fun b z => z, fun k p ds h1 h2 => ?_⟩, fun o ho ds z => ?_, .cons ⟨a, rfl, ?_⟩ .nil, hR, fun v Hf' H' fp' _ _ rv => ?_⟩
  · by_cases hb : b = PT
    · exact absurd ((if_pos hb).symm.trans e) (by simp)
    · exact (if_neg hb).symm.trans e
  · obtain ⟨rfl, rfl⟩ := one h1
    obtain ⟨_, rfl⟩ := one h2
    exact ⟨#[], rfl, hT, True.intro, fun pos cv hc => by
      have z : codeAmong pos [] = some cv := hc
      simp [codeAmong] at z⟩
  · have eb : b = PT := by simpa using hb
    rw [eb]
    exact ⟨_, hT⟩
  · obtain ⟨rfl, rfl⟩ := one h1
    have eb : b = PT := by simpa using hb
    exact if_pos eb
  · obtain ⟨_, e⟩ := one h2
    cases e
  · rw [List.mem_singleton.mp ho] at z
    cases z
  · rcases hS with (h | ⟨o, h⟩) | h
    · exact .inl (.inl (e1.trans h))
    · exact .inl (.inr ⟨o, e1.trans h⟩)
    · exact .inr h
  · cases rv
    rfl
end DL

set_option maxRecDepth 100000
set_option maxHeartbeats 4000000
namespace DL
open PySem PySem.Spec PyProof.Rows L2
/-! ### data in a tuple of data -/
def rInTT (K : PySem.W.Frag) : R2 := fun x y H Q => ∃ d ds, Dp K H x d ∧ Dp K H y (.tuple ds) ∧ SeqAt.shaped d = true ∧ SeqAt.shaped (.tuple ds) = true ∧ Q (.bl (ds.any fun z => PyData.eqv z d)) H
theorem op_inTT {X : Cx} (hu : X.A.units + 65 < cLine) : OpR X (compareOp .In) (rInTT X.K) := by
  intro pins s σ H x y v u Q I rx ry h
  obtain ⟨d, ds, hd, he, sd, se, q⟩ := h
  obtain ⟨as, r1⟩ := Dp.reads I d x v hd rx
  obtain ⟨bs, r2⟩ := Dp.reads I (.tuple ds) y u he ry
  exact SeqAt.in_tuple_reads r2 r1 (SeqAt.canLay_of_shaped se) (SeqAt.canLay_of_shaped sd) (room_in_shaped sd hu) ⟨.bl _, H, I, rfl, q⟩
theorem ro_inTT {K : PySem.W.Frag} {S : SS} {x y : SD} {d : PyData} {ds : List PyData} (hx : AsD S x d) (hy : AsD S y (.tuple ds)) (h1 : SeqAt.shaped d = true) (h2 : SeqAt.shaped (.tuple ds) = true) : Ro K (rInTT K) x y S (.dat (.bool (ds.any fun z => PyData.eqv z d))) S := fun c Hf H σ fp ok v u rv ru Q q =>
  ⟨d, ds, ok.asDp rv hx (shaped_noDict h1), ok.asDp ru hy (shaped_noDict h2), h1, h2, q _ _ _ _ ok Gr.refl (Rp.bl _)⟩
end DL

set_option maxRecDepth 100000
set_option maxHeartbeats 4000000
namespace DL
open PySem PySem.Spec PyProof.Rows L2
def rNInL (K : PySem.W.Frag) : R2 := fun x y H Q => ∃ d ds, Dp K H x d ∧ Dp K H y (.list ds) ∧ SeqAt.shaped d = true ∧ SeqAt.shaped (.list ds) = true ∧ Q (.bl (!ds.any fun z => PyData.eqv z d)) H
theorem op_nInL {X : Cx} (hu : X.A.units + 65 < cLine) : OpR X (compareOp .NotIn) (rNInL X.K) := by
  intro pins s σ H x y v u Q I rx ry h
  obtain ⟨d, ds, hd, he, sd, se, q⟩ := h
  obtain ⟨as, r1⟩ := Dp.reads I d x v hd rx
  obtain ⟨bs, r2⟩ := Dp.reads I (.list ds) y u he ry
  exact SeqAt.notIn_list_reads r2 r1 (SeqAt.canLay_of_shaped se) (SeqAt.canLay_of_shaped sd) (room_in_shaped sd hu) ⟨.bl _, H, I, rfl, q⟩
theorem ro_nInL {K : PySem.W.Frag} {S : SS} {x y : SD} {d : PyData} {ds : List PyData} (hx : AsD S x d) (hy : AsD S y (.list ds)) (h1 : SeqAt.shaped d = true) (h2 : SeqAt.shaped (.list ds) = true) : Ro K (rNInL K) x y S (.dat (.bool (!ds.any fun z => PyData.eqv z d))) S := fun c Hf H σ fp ok v u rv ru Q q =>
  ⟨d, ds, ok.asDp rv hx (shaped_noDict h1), ok.asDp ru hy (shaped_noDict h2), h1, h2, q _ _ _ _ ok Gr.refl (Rp.bl _)⟩
/-- str of a number -/
def rStrI : List V → Hp → VK → Prop := fun xs H Q => ∃ i, xs = [.int i] ∧ i.natAbs.log2 < 1920 ∧ Q (.str (toString i)) H
theorem cb_strI {X : Cx} : CallR X (.type "str") rStrI := call_str_int
theorem rc_strI {K : PySem.W.Frag} {S : SS} {i : Int} (h : i.natAbs.log2 < 1920) : Rc K rStrI [.dat (.int i)] S (.dat (.str (toString i))) S := fun c Hf H σ fp ok vs r Q q => by
  obtain ⟨v, rfl, rv⟩ := r.one
  cases rv
  exact ⟨i, rfl, h, q _ _ _ _ ok Gr.refl (Rp.str _)⟩
end DL

set_option maxRecDepth 100000
set_option maxHeartbeats 4000000
namespace K04
open PySem PySem.Spec PyProof.Rows L2 DL
def topS (i : Nat) : Stmt := PySem.Challenge.pw_tieskept_k04_whole_rows_that_are_let.main.body.getD i (.Pass ⟨0, 0, 0, 0⟩)
abbrev slets : Stmt := topS 1
abbrev scut : Stmt := topS 2
abbrev sclosed : Stmt := topS 4
abbrev sleast_order : Stmt := topS 5
abbrev s_places_above : Stmt := topS 6
abbrev s_pairs : Stmt := topS 7
abbrev s_law_well : Stmt := topS 9
abbrev s_law_draw : Stmt := topS 10
abbrev s_law_pick : Stmt := topS 11
abbrev s_law_mixed : Stmt := topS 12
abbrev s_law_pairs : Stmt := topS 13
abbrev s_law_order : Stmt := topS 14
abbrev s_law_row : Stmt := topS 15
abbrev s_law_is_let : Stmt := topS 16
abbrev s_law_along : Stmt := topS 17
abbrev s_law_keys : Stmt := topS 18
abbrev s_law_are_cuts : Stmt := topS 19
abbrev s_law_is_right : Stmt := topS 20
abbrev slaw : Stmt := topS 21
/-- a def of the top, as it stands -/
structure Df (K : PySem.W.Frag) (mg : Str → Option Value) (x : Str) (st : Stmt) (ps : List Str) where
  f : Addr
  fd : FuncData
  F : Fun K x x st f fd
  b : Binds K fd ps []
  m : mg x = some (.ref f)
/-- the built-ins are what they are -/
structure Bi (mg : Str → Option Value) : Prop where
  z_abs : mg "abs" = none
  z_all : mg "all" = none
  z_enumerate : mg "enumerate" = none
  z_int : mg "int" = none
  z_len : mg "len" = none
  z_list : mg "list" = none
  z_max : mg "max" = none
  z_range : mg "range" = none
  z_repr : mg "repr" = none
  z_set : mg "set" = none
  z_sorted : mg "sorted" = none
  z_tuple : mg "tuple" = none
  z_zip : mg "zip" = none
section
variable {K : PySem.W.Frag}
def isIB : PyData → Bool
  | .int _ => true
  | .bool _ => true
  | _ => false
def isB : PyData → Bool
  | .bool _ => true
  | _ => false
def isI : PyData → Bool
  | .int _ => true
  | _ => false
def isT : PyData → Bool
  | .tuple _ => true
  | _ => false
def isL : PyData → Bool
  | .list _ => true
  | _ => false
def isS : PyData → Bool
  | .str _ => true
  | _ => false
theorem kit_int (d : PyData) : PySem.W.kitOne K (.type (tyD d)) (.type "int") = some (isIB d) := by
  cases d with
  | none => exact kit_ty (a := "NoneType") (b := "int") (r := false) (by decide +kernel)
  | bool x => exact kit_ty (a := "bool") (b := "int") (r := true) (by decide +kernel)
  | int x => exact kit_ty (a := "int") (b := "int") (r := true) (by decide +kernel)
  | str x => exact kit_ty (a := "str") (b := "int") (r := false) (by decide +kernel)
  | list x => exact kit_ty (a := "list") (b := "int") (r := false) (by decide +kernel)
  | tuple x => exact kit_ty (a := "tuple") (b := "int") (r := false) (by decide +kernel)
  | dict x => exact kit_ty (a := "dict") (b := "int") (r := false) (by decide +kernel)
theorem kit_bool (d : PyData) : PySem.W.kitOne K (.type (tyD d)) (.type "bool") = some (isB d) := by
  cases d with
  | none => exact kit_ty (a := "NoneType") (b := "bool") (r := false) (by decide +kernel)
  | bool x => exact kit_ty (a := "bool") (b := "bool") (r := true) (by decide +kernel)
  | int x => exact kit_ty (a := "int") (b := "bool") (r := false) (by decide +kernel)
  | str x => exact kit_ty (a := "str") (b := "bool") (r := false) (by decide +kernel)
  | list x => exact kit_ty (a := "list") (b := "bool") (r := false) (by decide +kernel)
  | tuple x => exact kit_ty (a := "tuple") (b := "bool") (r := false) (by decide +kernel)
  | dict x => exact kit_ty (a := "dict") (b := "bool") (r := false) (by decide +kernel)
theorem kit_tuple (d : PyData) : PySem.W.kitOne K (.type (tyD d)) (.type "tuple") = some (isT d) := by
  cases d with
  | none => exact kit_ty (a := "NoneType") (b := "tuple") (r := false) (by decide +kernel)
  | bool x => exact kit_ty (a := "bool") (b := "tuple") (r := false) (by decide +kernel)
  | int x => exact kit_ty (a := "int") (b := "tuple") (r := false) (by decide +kernel)
  | str x => exact kit_ty (a := "str") (b := "tuple") (r := false) (by decide +kernel)
  | list x => exact kit_ty (a := "list") (b := "tuple") (r := false) (by decide +kernel)
  | tuple x => exact kit_ty (a := "tuple") (b := "tuple") (r := true) (by decide +kernel)
  | dict x => exact kit_ty (a := "dict") (b := "tuple") (r := false) (by decide +kernel)
theorem kit_list (d : PyData) : PySem.W.kitOne K (.type (tyD d)) (.type "list") = some (isL d) := by
  cases d with
  | none => exact kit_ty (a := "NoneType") (b := "list") (r := false) (by decide +kernel)
  | bool x => exact kit_ty (a := "bool") (b := "list") (r := false) (by decide +kernel)
  | int x => exact kit_ty (a := "int") (b := "list") (r := false) (by decide +kernel)
  | str x => exact kit_ty (a := "str") (b := "list") (r := false) (by decide +kernel)
  | list x => exact kit_ty (a := "list") (b := "list") (r := true) (by decide +kernel)
  | tuple x => exact kit_ty (a := "tuple") (b := "list") (r := false) (by decide +kernel)
  | dict x => exact kit_ty (a := "dict") (b := "list") (r := false) (by decide +kernel)
theorem kit_str (d : PyData) : PySem.W.kitOne K (.type (tyD d)) (.type "str") = some (isS d) := by
  cases d with
  | none => exact kit_ty (a := "NoneType") (b := "str") (r := false) (by decide +kernel)
  | bool x => exact kit_ty (a := "bool") (b := "str") (r := false) (by decide +kernel)
  | int x => exact kit_ty (a := "int") (b := "str") (r := false) (by decide +kernel)
  | str x => exact kit_ty (a := "str") (b := "str") (r := true) (by decide +kernel)
  | list x => exact kit_ty (a := "list") (b := "str") (r := false) (by decide +kernel)
  | tuple x => exact kit_ty (a := "tuple") (b := "str") (r := false) (by decide +kernel)
  | dict x => exact kit_ty (a := "dict") (b := "str") (r := false) (by decide +kernel)
theorem isI_eq (d : PyData) : (isIB d && !isB d) = isI d := by cases d <;> rfl
end
theorem huX {k : Nat} {A : Around} (hr : Room k A) : A.units + 100 < cLine := by
  have := hr.un
  omega
theorem hdX {k : Nat} {A : Around} (hr : Room k A) : A.depth + 5 < recursionLimit := by
  have := hr.dp
  omega
end K04

set_option maxRecDepth 100000
set_option maxHeartbeats 4000000
namespace K04
open PySem PySem.Spec PyProof.Rows L2 DL
theorem ix_at {xs : List PyData} {i : Nat} {z : Int} {d : PyData} (h : xs[i]? = some d) (e : z = (i : Int)) : atI xs z = some d := by
  rw [e]
  exact atI_nat h
theorem getD_at {xs : List PyData} {i : Nat} {d : PyData} (h : xs[i]? = some d) : xs.getD i .none = d := by
  rw [List.getD_eq_getElem?_getD, h]
  rfl
def toI : PyData → Int
  | .int i => i
  | _ => 0
/-! ### the well and its draws -/
structure Well where
  deep : List Int
  s : Int
  t : Int
def Well.oo (W : Well) : OO := .well W.deep W.s W.t
def mixed (s t : Int) : Int :=
  let a := (s + 2654435761 * t) % 4294967279
  let b := (a * a + 40503 * t + 17) % 4294967231
  (b * b + s) % 4294967197
def draw (m : Int) (W : Well) : Int × Well :=
  if m < 2 then (0, W)
  else match W.deep.getLast? with
    | some x => (x % m, { W with deep := if m ≤ x then W.deep.dropLast ++ [x / m] else W.deep.dropLast })
    | none => (mixed W.s (W.t + 1) / 128 % m, { W with t := W.t + 1 })
theorem draw_lo (m : Int) (W : Well) : 0 ≤ (draw m W).1 := by
  unfold draw
  by_cases h : m < 2
  · rw [if_pos h]
    exact Int.le_refl 0
  · rw [if_neg h]
    cases W.deep.getLast? with
    | some x => exact Int.emod_nonneg _ (by omega)
    | none => exact Int.emod_nonneg _ (by omega)
theorem draw_hi {m : Int} (W : Well) (hm : 1 ≤ m) : (draw m W).1 < m := by
  unfold draw
  by_cases h : m < 2
  · rw [if_pos h]
    show (0 : Int) < m
    omega
  · rw [if_neg h]
    cases W.deep.getLast? with
    | some x => exact Int.emod_lt_of_pos _ (by omega)
    | none => exact Int.emod_lt_of_pos _ (by omega)
theorem draw_at (m : Int) (W : Well) : ∃ v W', draw m W = (v, W') ∧ 0 ≤ v ∧ (1 ≤ m → v < m) := ⟨(draw m W).1, (draw m W).2, rfl, draw_lo m W, draw_hi W⟩
section
variable {P : Program} {w : World} {K : PySem.W.Frag} {mg : Str → Option Value} {base : Heap}
def R_draw : FR := fun as ob r ob' => ∃ m W v W', as = [.own 0, .dat (.int m)] ∧ m ≤ 2000000000000 ∧ W.deep.length ≤ 100 ∧ ob = [W.oo] ∧ draw m W = (v, W') ∧ r = .dat (.int v) ∧ ob' = [W'.oo]
theorem div_ok {i m : Int} (h : 2 ≤ m) (h2 : m ≤ 2000000000000) : CDivW i m := by
  refine wide_div (b := 41) (by omega) ?_ (by decide) (by decide)
  rw [show (2 : Nat) ^ 41 = 2199023255552 from by decide]
  omega
theorem h1of {A : Around} (h : A.units + 100 < cLine) : A.units + 1 < cLine := by omega
theorem sc_law_draw : FnScope ["well", "many", "cell", "mixed"] ["well", "many"] (defScope s_law_draw) := ⟨rfl, rfl, rfl, by decide +kernel, rfl, by decide +kernel, by decide +kernel⟩
theorem ok_law_draw (D : Df K mg "_law_draw" s_law_draw ["well", "many"]) (B : Bi mg) : FnG P w K mg base CX0 1 D.f D.fd ["well", "many"] (spD K 2 R_draw) := by
  refine okG D.F sc_law_draw (fun vs H Q E h => h.1) (fun cdv A outer s H vs Q E hr gd h => ?_)
  have hu := huX hr
  refine ⟨_, (pss_cons (ps_if (pt_cmpR (op_ltU hu) (pv 1) pe_int (nomark _)) (pss_one (ps_ret pe_int)) pss_nil)
      (pss_cons (ps_if (pt_cmpR (op_neU hu) (pe_dget (h1of hu) (pv 0) pe_str (fun _ _ => rfl)) (pe_lst pa_nil) (nomark _)) (pss_cons (ps_set (i := 2) sc_law_draw.nd rfl (Or.inl rfl) (pe_bm0 PySem.F.plainAttrs_list PySem.F.slot_list_pop PySem.F.type_list_pop mt_pop (pe_dget (h1of hu) (pv 0) pe_str (fun _ _ => rfl))))
        (pss_cons (ps_if (pt_cmpR op_geU (pv 2) (pv 1) (nomark _)) (pss_one (ps_expr (pe_bm PySem.F.plainAttrs_list PySem.F.slot_list_append PySem.F.type_list_append mt_append (pe_dget (h1of hu) (pv 0) pe_str (fun _ _ => rfl)) (pa_cons (pe_op op_divU (pv 2) (pv 1)) pa_nil)))) pss_nil)
        (pss_one (ps_ret (pe_op op_modU (pe_callTy cb_int (by rfl) B.z_int (by decide +kernel) (pa_cons (pv 2) pa_nil)) (pv 1)))))) pss_nil)
      (pss_cons (ps_dput (h1of hu) (pv 0) pe_str (pe_op op_plus (pe_dget (h1of hu) (pv 0) pe_str (fun _ _ => rfl)) pe_int) rfl)
      (pss_cons (ps_set (i := 3) sc_law_draw.nd rfl (Or.inl rfl) (pe_op op_modU (pe_callTy cb_int (by rfl) B.z_int (by decide +kernel) (pa_cons (pe_op op_plus (pe_dget (h1of hu) (pv 0) pe_str (fun _ _ => rfl)) (pe_op op_mulU pe_int (pe_dget (h1of hu) (pv 0) pe_str (fun _ _ => rfl)))) pa_nil)) pe_int))
      (pss_cons (ps_set (i := 3) sc_law_draw.nd rfl (Or.inl rfl) (pe_op op_modU (pe_callTy cb_int (by rfl) B.z_int (by decide +kernel) (pa_cons (pe_op op_plus (pe_op op_plus (pe_op op_mulU (pv 3) (pv 3)) (pe_op op_mulU pe_int (pe_dget (h1of hu) (pv 0) pe_str (fun _ _ => rfl)))) pe_int) pa_nil)) pe_int))
      (pss_cons (ps_set (i := 3) sc_law_draw.nd rfl (Or.inl rfl) (pe_op op_modU (pe_callTy cb_int (by rfl) B.z_int (by decide +kernel) (pa_cons (pe_op op_plus (pe_op op_mulU (pv 3) (pv 3)) (pe_dget (h1of hu) (pv 0) pe_str (fun _ _ => rfl))) pa_nil)) pe_int))
      (pss_one (ps_ret (pe_op op_modU (pe_callTy cb_int (by rfl) B.z_int (by decide +kernel) (pa_cons (pe_op op_divU (pv 3) pe_int) pa_nil)) (pv 1)))))))))), ?_⟩
  refine body_of h (by decide) fun as ob r ob' hR hl => ?_
  obtain ⟨m, W, v, W', rfl, hm, hd, rfl, hdr, rfl, rfl⟩ := hR
  obtain ⟨deep, s0, t0⟩ := W
  have hd' : deep.length ≤ 100 := hd
  have hS : (entry 4 [SD.own 0, .dat (.int m)] [Well.oo ⟨deep, s0, t0⟩]) = ⟨[.own 0, .dat (.int m), .un, .un], [.well deep s0 t0]⟩ := rfl
  refine ts_seq (ts_if (et_test (ee_op (ee_var rfl) ee_int ro_lt)) (fun hb => ?_) fun hb => ts_next ?_)
  · have hlt : m < 2 := of_decide_eq_true hb
    have e : draw m ⟨deep, s0, t0⟩ = (0, ⟨deep, s0, t0⟩) := by
      unfold draw
      rw [if_pos hlt]
    rw [e] at hdr
    obtain ⟨rfl, rfl⟩ := Prod.mk.inj hdr
    exact ts_ret ee_int ⟨rfl, rfl⟩
  · have hge : ¬ m < 2 := of_decide_eq_false hb
    refine ts_seq (ts_if (et_test (ee_wne (ee_var rfl) rfl)) (fun hc => ?_) fun hc => ts_next ?_)
    · have hne : deep ≠ [] := by
        intro z
        rw [z] at hc
        cases hc
      obtain ⟨ds, x, rfl⟩ : ∃ ds x, deep = ds ++ [x] := ⟨deep.dropLast, deep.getLast hne, (List.dropLast_concat_getLast hne).symm⟩
      have e : draw m ⟨ds ++ [x], s0, t0⟩ = (x % m, ⟨if m ≤ x then ds ++ [x / m] else ds, s0, t0⟩) := by
        unfold draw
        rw [if_neg hge]
        show (match (ds ++ [x]).getLast? with
          | some x_1 => _
          | none => _) = _
        rw [List.getLast?_concat]
        show (x % m, (⟨if m ≤ x then (ds ++ [x]).dropLast ++ [x / m] else (ds ++ [x]).dropLast, s0, t0⟩ : Well)) = _
        rw [List.dropLast_concat]
      rw [e] at hdr
      obtain ⟨rfl, rfl⟩ := Prod.mk.inj hdr
      refine ts_seq (ts_asg (ee_wpop (ee_var rfl) rfl) ?_)
      have fin : ∀ (nx0 : SS → Prop) (es : List Int), (if m ≤ x then ds ++ [x / m] else ds) = es → Ts K (tRet (tOp rMod' (tCB rInt1 (tCons (tVar 2) tNil)) (tVar 1))) ⟨[.own 0, .dat (.int m), .dat (.int x), .un], [.well es s0 t0]⟩
          { nx := nx0, rt := fun y S' => y = .dat (.int (x % m)) ∧ S'.ob = [Well.oo ⟨if m ≤ x then ds ++ [x / m] else ds, s0, t0⟩] } := fun nx0 es he => by
        rw [he]
        exact ts_ret (ee_op (ee_cb (ea_cons (ee_var rfl) ea_nil) rc_intI) (ee_var rfl) (ro_mod (by omega))) ⟨rfl, rfl⟩
      refine ts_seq (ts_if (et_test (ee_op (ee_var rfl) (ee_var rfl) ro_ge)) (fun hx => ts_drop (ee_wapp (ee_var rfl) ⟨_, _, _, rfl⟩ (ee_op (ee_var rfl) (ee_var rfl) (ro_div (div_ok (by omega) hm))) rfl rfl ?_) ?_) fun hx => ts_next ?_)
      · rw [List.length_append] at hd'
        omega
      · exact fin _ _ (by rw [if_pos (of_decide_eq_true hx)])
      · exact fin _ _ (by rw [if_neg (of_decide_eq_false hx)])
    · have hn : deep = [] := by
        cases deep with
        | nil => rfl
        | cons y ys => cases hc
      subst hn
      have e : draw m ⟨[], s0, t0⟩ = (mixed s0 (t0 + 1) / 128 % m, ⟨[], s0, t0 + 1⟩) := by
        unfold draw
        rw [if_neg hge]
        rfl
      rw [e] at hdr
      obtain ⟨rfl, rfl⟩ := Prod.mk.inj hdr
      have bd : ∀ y k : Int, 0 < k → k < 2 ^ 32 → -(2 ^ 64) < y % k ∧ y % k < 2 ^ 64 := fun y k h1 h2 => by
        have := Int.emod_nonneg y (show k ≠ 0 by omega)
        have := Int.emod_lt_of_pos y h1
        omega
      refine ts_seq (ts_wturn (ee_op (ee_wT (ee_var rfl) rfl) ee_int ro_add) (ee_var rfl) rfl ?_)
      refine ts_seq (ts_asg (ee_op (ee_cb (ea_cons (ee_op (ee_wS (ee_var rfl) rfl) (ee_op ee_int (ee_wT (ee_var rfl) rfl) (ro_mulL (by decide))) ro_add) ea_nil) rc_intI) ee_int (ro_mod (by decide))) ?_)
      refine ts_seq (ts_asg (ee_op (ee_cb (ea_cons (ee_op (ee_op (ee_op (ee_var rfl) (ee_var rfl) (ro_mulL (bd _ _ (by decide) (by decide)))) (ee_op ee_int (ee_wT (ee_var rfl) rfl) (ro_mulL (by decide))) ro_add) ee_int ro_add) ea_nil) rc_intI) ee_int (ro_mod (by decide))) ?_)
      refine ts_seq (ts_asg (ee_op (ee_cb (ea_cons (ee_op (ee_op (ee_var rfl) (ee_var rfl) (ro_mulL (bd _ _ (by decide) (by decide)))) (ee_wS (ee_var rfl) rfl) ro_add) ea_nil) rc_intI) ee_int (ro_mod (by decide))) ?_)
      exact ts_ret (ee_op (ee_cb (ea_cons (ee_op (ee_var rfl) ee_int (ro_div (div_ok (by decide) (by decide)))) ea_nil) rc_intI) (ee_var rfl) (ro_mod (by omega))) ⟨rfl, rfl⟩
end
end K04

set_option maxRecDepth 100000
set_option maxHeartbeats 4000000
namespace K04
open PySem PySem.Spec PyProof.Rows L2 DL
/-! ### the well of a script -/
def cellOf (x : Int) : Int := 2 * (if x < 0 then -x else x) + (if decide (x < 0) = true then 1 else 0)
def cellsOf (ns : List Int) : List Int := (ns.take 63).map cellOf
def stirOne (s c : Int) : Int := (s * 69621 + c + 5) % 4294967291
def wellOf (ns : List Int) : Well := ⟨(cellsOf ns).filter fun c => decide ((10 : Int) ^ (15 : Int).toNat ≤ c), (cellsOf ns).foldl stirOne (48271 + 7 * (ns.length : Int)), 0⟩
theorem well_small (ns : List Int) : (wellOf ns).deep.length ≤ 100 := by
  have h1 : (wellOf ns).deep.length ≤ (cellsOf ns).length := List.length_filter_le _ _
  have h2 : (cellsOf ns).length ≤ 63 := by
    unfold cellsOf
    rw [List.length_map, List.length_take]
    omega
  omega
theorem draw_deep (m : Int) (W : Well) (h : W.deep.length ≤ 100) : (draw m W).2.deep.length ≤ 100 := by
  unfold draw
  by_cases h1 : m < 2
  · rw [if_pos h1]
    exact h
  · rw [if_neg h1]
    cases hg : W.deep.getLast? with
    | none => exact h
    | some x =>
      have hne : W.deep ≠ [] := fun z => by
        rw [z] at hg
        cases hg
      have hl : 0 < W.deep.length := List.length_pos_iff.mpr hne
      show (if m ≤ x then W.deep.dropLast ++ [x / m] else W.deep.dropLast).length ≤ 100
      split
      · rw [List.length_append, List.length_dropLast, List.length_singleton]
        omega
      · rw [List.length_dropLast]
        omega
theorem take_snoc {α : Type} {l : List α} {i : Nat} {x : α} (h : l[i]? = some x) : l.take (i + 1) = l.take i ++ [x] := by
  rw [List.take_add_one, h]
  rfl
theorem int_at {ns : List Int} {i : Nat} {d : PyData} (h : (ns.map PyData.int)[i]? = some d) : ∃ x, ns[i]? = some x ∧ d = .int x := by
  rw [List.getElem?_map] at h
  cases e : ns[i]? with
  | none =>
    rw [e] at h
    cases h
  | some x =>
    rw [e] at h
    exact ⟨x, rfl, (Option.some.inj h).symm⟩
section
variable {P : Program} {w : World} {K : PySem.W.Frag} {mg : Str → Option Value} {base : Heap}
def R_well : FR := fun as ob r ob' => ∃ ns, as = [.scr ns] ∧ ob = [] ∧ r = .own 0 ∧ ob' = [(wellOf ns).oo]
theorem sc_law_well : FnScope ["script", "cell", "cells", "stirred"] ["script"] (defScope s_law_well) := ⟨rfl, rfl, rfl, by decide +kernel, rfl, by decide +kernel, by decide +kernel⟩
theorem ok_law_well (D : Df K mg "_law_well" s_law_well ["script"]) (B : Bi mg) : FnG P w K mg base CX0 1 D.f D.fd ["script"] (spD K 1 R_well) := by
  refine okG D.F sc_law_well (fun vs H Q E h => h.1) (fun cdv A outer s H vs Q E hr gd h => ?_)
  have hu := huX hr
  refine ⟨_, (pss_cons (ps_par (i := 2) (j := 3) (by rfl) sc_law_well.nd rfl rfl (by decide) rfl rfl (pa_cons (pe_lc (own := [("cell", 1)]) (g := gName 1) (tt := tYes) (by rfl) sc_law_well.nd (pi_list (pe_slice sl_any (pv 0) po_none (po_some pe_int))) (blkOk_by (own := [("cell", 1)]) (N := ["script", "cell", "cells", "stirred"]) (sc := defScope s_law_well) (by decide +kernel)) (fun _ _ _ _ _ => (pg_name (i := 1) sc_law_well.nd rfl (Or.inl rfl))) (fun _ _ _ _ _ => pts_nil) (fun _ _ _ _ _ => (pe_op (opK K (R := rPlus) op_plus rfl) (pe_op (opK K (R := rMulU) op_mulU rfl) pe_int (pe_callB cb_abs (by rfl) B.z_abs (by decide +kernel) (pa_cons (pv 1) pa_nil))) (pe_callTy cb_int (by rfl) B.z_int (by decide +kernel) (pa_cons (pe_cmpR (opK K (R := rLtU) (op_ltU hu) rfl) (pv 1) pe_int (nomark _)) pa_nil))))) (pa_cons (pe_op op_plus pe_int (pe_op op_mulU pe_int (pe_callB cb_len (by rfl) B.z_len PySem.boot_len (pa_cons (pv 0) pa_nil)))) pa_nil)) (by rfl))
      (pss_cons (ps_for PassesOwn.never rfl (pi_list (pv 2)) (pg_name (i := 1) sc_law_well.nd rfl (Or.inl rfl))
        (pss_one (ps_set (i := 3) sc_law_well.nd rfl (Or.inl rfl) (pe_op op_modU (pe_callTy cb_int (by rfl) B.z_int (by decide +kernel) (pa_cons (pe_op op_plus (pe_op op_plus (pe_op op_mulU (pv 3) pe_int) (pv 1)) pe_int) pa_nil)) pe_int))))
      (pss_one (ps_ret (pe_disp (pps_cons pe_str (pe_lc (own := [("cell", 1)]) (g := gName 1) (by rfl) sc_law_well.nd (pi_list (pv 2)) (blkOk_by (own := [("cell", 1)]) (N := ["script", "cell", "cells", "stirred"]) (sc := defScope s_law_well) (by decide +kernel)) (fun _ _ _ _ _ => (pg_name (i := 1) sc_law_well.nd rfl (Or.inl rfl))) (fun _ _ _ _ _ => (pts_one (pt_cmpR op_geU (pv 1) (pe_op op_powU pe_int pe_int) (nomark _)))) (fun _ _ _ _ _ => (pv 1))) (pps_cons pe_str (pv 3) (pps_cons pe_str pe_int pps_nil))) (by rfl) (by rfl) (fun z => by cases z) (by decide)))))), ?_⟩
  refine body_of h (by decide) fun as ob r ob' hR hl => ?_
  obtain ⟨ns, rfl, rfl, rfl, rfl⟩ := hR
  have hc63 : (ns.take 63).length ≤ 63 := by
    rw [List.length_take]
    omega
  refine ts_seq (ts_par (x := .dat (.list ((cellsOf ns).map PyData.int))) (y := .dat (.int (48271 + 7 * (ns.length : Int)))) (S1 := ⟨[.scr ns, .un, .un, .un], []⟩)
    (ea_cons (S1 := ⟨[.scr ns, .un, .un, .un], []⟩) (ee_of_el (el_lc (S0 := ⟨[.scr ns, .un, .un, .un], []⟩) (ds := (ns.take 63).map PyData.int) ?_ (fun i acc ob => acc = ((cellsOf ns).take i).map PyData.int ∧ ob = []) ⟨rfl, rfl⟩ ?_ ?_ ?_)) (ea_cons (ee_op ee_int (ee_op ee_int (ee_cb (ea_cons (ee_var rfl) ea_nil) rc_lenScr) (ro_mulL (by decide))) ro_add) ea_nil)) ?_)
  · have := ei_list (ee_of_el (el_slScr (K := K) (ee_var (i := 0) (S := ⟨[.scr ns, .un, .un, .un], []⟩) rfl) eo_none (eo_some (ee_int (j := 63)))))
    rw [show (63 : Int) = ((63 : Nat) : Int) from rfl, cut_take] at this
    exact this
  · rintro i d acc ob hd ⟨rfl, rfl⟩
    obtain ⟨x, hx, rfl⟩ := int_at hd
    refine ⟨_, true, _, egc_name (by decide), et_yes, (fun z => by cases z), fun _ => ⟨.int (cellOf x), _, ee_op (ee_op ee_int (ee_cb (ea_cons (ee_var rfl) ea_nil) rc_abs) (ro_mulL (by decide))) (ee_cb (ea_cons (ee_op (ee_var rfl) ee_int ro_lt) ea_nil) rc_intB) ro_add, ?_, rfl⟩⟩
    rw [take_snoc (x := cellOf x) (by unfold cellsOf; rw [List.getElem?_map, hx]; rfl), List.map_append]
    rfl
  · rw [List.length_map]
    omega
  · rintro acc ob ⟨rfl, rfl⟩
    refine ⟨?_, rfl⟩
    rw [List.length_map, List.take_of_length_le]
    unfold cellsOf
    rw [List.length_map]
    exact Nat.le_refl _
  · have hlc : (cellsOf ns).length ≤ 63 := by
      unfold cellsOf
      rw [List.length_map]
      exact hc63
    refine ts_seq (ts_for (ei_list (ds := (cellsOf ns).map PyData.int) (ee_var rfl)) (fun i S => ∃ z, S = ⟨[.scr ns, z, .dat (.list ((cellsOf ns).map PyData.int)), .dat (.int (((cellsOf ns).take i).foldl stirOne (48271 + 7 * (ns.length : Int))))], []⟩) ⟨.un, rfl⟩ ?_ ?_)
    · rintro i d S' hd ⟨z, rfl⟩
      obtain ⟨x, hx, rfl⟩ := int_at hd
      refine ⟨_, eg_name, ts_asg (ee_op (ee_cb (ea_cons (ee_op (ee_op (ee_op (ee_var rfl) ee_int (ro_mulR (by decide))) (ee_var rfl) ro_add) ee_int ro_add) ea_nil) rc_intI) ee_int (ro_mod (by decide))) ⟨.dat (.int x), ?_⟩⟩
      rw [take_snoc hx, List.foldl_append]
      rfl
    · rintro S' ⟨z, rfl⟩
      rw [List.length_map, List.take_of_length_le (Nat.le_refl _)]
      refine ts_ret (ee_newwell (ds := (wellOf ns).deep) (s := (wellOf ns).s) (t := 0) (S1 := ⟨[.scr ns, z, .dat (.list ((cellsOf ns).map PyData.int)), .dat (.int ((cellsOf ns).foldl stirOne (48271 + 7 * (ns.length : Int))))], []⟩) (el_lc (ei_list (ds := (cellsOf ns).map PyData.int) (ee_var rfl)) (fun i acc ob => acc = (((cellsOf ns).take i).filter fun c => decide ((10 : Int) ^ (15 : Int).toNat ≤ c)).map PyData.int ∧ ob = []) ⟨rfl, rfl⟩ ?_ ?_ ?_) (ee_var rfl) ee_int) ⟨rfl, rfl⟩
      · rintro i d acc ob hd ⟨rfl, rfl⟩
        obtain ⟨x, hx, rfl⟩ := int_at hd
        refine ⟨_, decide ((10 : Int) ^ (15 : Int).toNat ≤ x), _, egc_name (by decide), et_test (ee_op (ee_var rfl) (ee_op ee_int ee_int ro_pow) ro_ge), fun hb => ⟨?_, rfl⟩, fun hb => ⟨.int x, _, ee_var rfl, ?_, rfl⟩⟩
        · rw [take_snoc hx, List.filter_append, List.filter_cons, hb]
          simp
        · rw [take_snoc hx, List.filter_append, List.filter_cons, hb]
          simp
      · rw [List.length_map]
        omega
      · rintro acc ob ⟨rfl, rfl⟩
        refine ⟨?_, rfl⟩
        rw [List.length_map, List.take_of_length_le (Nat.le_refl _)]
        rfl
/-! ### draws as one step -/
theorem ee_drw {E : XK} {ta : TA} {S S1 : SS} {m v : Int} {W W' : Well} {k : Nat} (ha : Ea K ta S [.own k, .dat (.int m)] S1) (ho : S1.ob[k]? = some W.oo) (hdr : draw m W = (v, W')) (hm : m ≤ 2000000000000) (hd : W.deep.length ≤ 100) :
    Ee K (tCall (spD K 2 R_draw) [] E ta) S (.dat (.int v)) { S1 with ob := S1.ob.set k W'.oo } :=
  ee_call1 (k := k) (as := [.own 0, .dat (.int m)]) (r := .dat (.int v)) (o' := W'.oo) ha rfl (fun a h j e => by
    subst e
    rcases List.mem_cons.mp h with e | e
    · cases e
      rfl
    · rw [List.mem_singleton] at e
      cases e) rfl ho (fun z => by cases z) (fun _ z => by cases z) ⟨m, W, v, W', rfl, hm, hd, rfl, hdr, rfl, rfl⟩
def R_pick : FR := fun as ob r ob' => ∃ W ds v W' d, as = [.own 0, .dat (.list ds)] ∧ ob = [W.oo] ∧ W.deep.length ≤ 100 ∧ ds.length ≤ 1000 ∧ draw ds.length W = (v, W') ∧ ds[v.toNat]? = some d ∧ r = .dat d ∧ ob' = [W'.oo]
theorem sc_law_pick : FnScope ["well", "items"] ["well", "items"] (defScope s_law_pick) := ⟨rfl, rfl, rfl, by decide +kernel, rfl, by decide +kernel, by decide +kernel⟩
theorem ok_law_pick (D : Df K mg "_law_pick" s_law_pick ["well", "items"]) (B : Bi mg) (D_law_draw : Df K mg "_law_draw" s_law_draw ["well", "many"]) : FnG P w K mg base CX0 2 D.f D.fd ["well", "items"] (spD K 2 R_pick) := by
  have ok_law_draw : FnG P w K mg base CX0 1 _ _ _ _ := ok_law_draw D_law_draw B
  refine okG D.F sc_law_pick (fun vs H Q E h => h.1) (fun cdv A outer s H vs Q E hr gd h => ?_)
  have hu := huX hr
  refine ⟨_, (pss_one (ps_ret (pe_ix ix_seq (pv 1) (pe_callG (ok_law_draw) (hr.mono (by decide)) gd (by rfl) D_law_draw.m D_law_draw.F.kp D_law_draw.b .nil pass0 (pa_cons (pv 0) (pa_cons (pe_callB cb_len (by rfl) B.z_len PySem.boot_len (pa_cons (pv 1) pa_nil)) pa_nil))) (fun _ _ => rfl)))), ?_⟩
  refine body_of h (by decide) fun as ob r ob' hR hl => ?_
  obtain ⟨W, ds, v, W', d, rfl, rfl, hd, hz, hdr, he, rfl, rfl⟩ := hR
  have h0 : 0 ≤ v := by
    have := draw_lo (ds.length : Int) W
    rw [hdr] at this
    exact this
  refine ts_ret (ee_op (ee_var rfl) (ee_drw (ea_cons (ee_var rfl) (ea_cons (ee_cb (ea_cons (ee_var rfl) ea_nil) (rc_lenL (.dat _))) ea_nil)) rfl hdr (by omega) hd) (ro_ixL (.dat _) ?_)) ⟨rfl, rfl⟩
  exact ix_at he (by omega)
theorem ee_dr {E : XK} {ta : TA} {S S1 : SS} {m : Int} {W : Well} {k : Nat} (ha : Ea K ta S [.own k, .dat (.int m)] S1) (ho : S1.ob[k]? = some W.oo) (hm : m ≤ 2000000000000) (hd : W.deep.length ≤ 100) :
    Ee K (tCall (spD K 2 R_draw) [] E ta) S (.dat (.int (draw m W).1)) { S1 with ob := S1.ob.set k (draw m W).2.oo } := ee_drw ha ho rfl hm hd
end
section
variable {P : Program} {w : World} {K : PySem.W.Frag} {mg : Str → Option Value} {base : Heap}
theorem ee_pck {E : XK} {ta : TA} {S S1 : SS} {ds : List PyData} {v : Int} {d : PyData} {W W' : Well} {k : Nat} (ha : Ea K ta S [.own k, .dat (.list ds)] S1) (ho : S1.ob[k]? = some W.oo) (hdr : draw ds.length W = (v, W')) (he : ds[v.toNat]? = some d) (hm : ds.length ≤ 1000) (hd : W.deep.length ≤ 100) :
    Ee K (tCall (spD K 2 R_pick) [] E ta) S (.dat d) { S1 with ob := S1.ob.set k W'.oo } :=
  ee_call1 (k := k) (as := [.own 0, .dat (.list ds)]) (r := .dat d) (o' := W'.oo) ha rfl (fun a h j e => by
    subst e
    rcases List.mem_cons.mp h with e | e
    · cases e
      rfl
    · rw [List.mem_singleton] at e
      cases e) rfl ho (fun z => by cases z) (fun _ z => by cases z) ⟨W, ds, v, W', d, rfl, rfl, hd, hm, hdr, he, rfl, rfl⟩
theorem ee_w1 {E : XK} {ta : TA} {S S1 : SS} {R : FR} {np k : Nat} {W W' : Well} {d : PyData} (ds : List PyData) (ha : Ea K ta S (.own k :: ds.map SD.dat) S1) (ho : S1.ob[k]? = some W.oo) (hl : ds.length + 1 = np) (hR : R (.own 0 :: ds.map SD.dat) [W.oo] (.dat d) [W'.oo]) :
    Ee K (tCall (spD K np R) [] E ta) S (.dat d) { S1 with ob := S1.ob.set k W'.oo } := by
  refine ee_call1 (k := k) (as := .own 0 :: ds.map SD.dat) (r := .dat d) (o' := W'.oo) ha ?_ (fun a h j e => ?_) ?_ ho (fun z => by cases z) (fun _ z => by cases z) hR
  · rw [List.map_cons, List.map_map]
    rfl
  · subst e
    rcases List.mem_cons.mp h with e | e
    · cases e
      rfl
    · obtain ⟨x, _, e⟩ := List.mem_map.mp e
      cases e
  · rw [List.length_cons, List.length_map]
    exact hl
end
end K04

set_option maxRecDepth 100000
set_option maxHeartbeats 4000000
namespace K04
open PySem PySem.Spec PyProof.Rows L2 DL
/-! ### values whose text is short -/
structure Nc (k b : Nat) (d : PyData) : Prop where
  s : d.showable = true
  t : d.depth ≤ k
  z : d.shown.length ≤ b
theorem Nc.mono {k b k' b' : Nat} {d : PyData} (h : Nc k b d) (h1 : k ≤ k') (h2 : b ≤ b') : Nc k' b' d := ⟨h.s, Nat.le_trans h.t h1, Nat.le_trans h.z h2⟩
theorem piled_le {b : Nat} : ∀ {ts : List Str}, (∀ t ∈ ts, t.length ≤ b) → piled ts ≤ ts.length * (b + 2)
  | [], _ => Nat.zero_le _
  | t :: r, h => by
    rw [piled_cons, List.length_cons, Nat.succ_mul]
    have := h t List.mem_cons_self
    have := piled_le (ts := r) fun x hx => h x (List.mem_cons_of_mem _ hx)
    omega
theorem tupleText_le (ts : List Str) : (tupleText ts).length ≤ piled ts + 3 := by
  unfold tupleText
  rw [strLen_append, strLen_append]
  have e1 : ((("(" : String) : Str)).length = 1 := rfl
  have e3 : (((if ts.length == 1 then ",)" else ")" : String) : Str)).length ≤ 2 := by split <;> decide
  rw [e1]
  by_cases h : ts = []
  · subst h
    have : (Str.join ", " []).length = 0 := rfl
    omega
  · have := join_length_add ts h
    omega
theorem listText_le : ∀ ts : List Str, (listText ts).length ≤ piled ts + 2
  | [] => by decide
  | t :: r => by
    have h := textFrom_length_pos r 1 (("[" : Str) ++ (if (0 : Nat) > 0 then ", " else "" : String) ++ t) (Nat.succ_pos 0)
    have e : ((("[" : Str) ++ (if (0 : Nat) > 0 then ", " else "" : String) ++ t)).length = 1 + t.length := by
      rw [strLen_append, strLen_append]
      rfl
    have hX : (listText (t :: r)).length = (textFrom 0 "[" (t :: r)).length + 1 := by
      show (textFrom 0 "[" (t :: r) ++ "]").length = _
      rw [strLen_append]
      rfl
    have hY : (textFrom 0 "[" (t :: r)).length = (textFrom 1 (("[" : Str) ++ (if (0 : Nat) > 0 then ", " else "" : String) ++ t) r).length := rfl
    rw [piled_cons]
    omega
theorem shownAll_mem {b : Nat} : ∀ {xs : List PyData}, (∀ x ∈ xs, x.shown.length ≤ b) → ∀ t ∈ PyData.shownAll xs, t.length ≤ b
  | [], _, t, h => by
    unfold PyData.shownAll at h
    cases h
  | x :: xs, hx, t, h => by
    unfold PyData.shownAll at h
    rcases List.mem_cons.mp h with rfl | h
    · exact hx x List.mem_cons_self
    · exact shownAll_mem (fun y hy => hx y (List.mem_cons_of_mem _ hy)) t h
theorem shownAll_len : ∀ xs : List PyData, (PyData.shownAll xs).length = xs.length
  | [] => rfl
  | x :: xs => by
    unfold PyData.shownAll
    rw [List.length_cons, List.length_cons, shownAll_len xs]
theorem showableAll_of : ∀ {xs : List PyData}, (∀ x ∈ xs, x.showable = true) → PyData.showableAll xs = true
  | [], _ => rfl
  | x :: xs, h => by
    unfold PyData.showableAll
    rw [h x List.mem_cons_self, showableAll_of fun y hy => h y (List.mem_cons_of_mem _ hy)]
    rfl
theorem depthAll_of {k : Nat} : ∀ {xs : List PyData}, (∀ x ∈ xs, x.depth ≤ k) → PyData.depthAll xs ≤ k
  | [], _ => Nat.zero_le _
  | x :: xs, h => by
    unfold PyData.depthAll
    exact Nat.max_le.mpr ⟨h x List.mem_cons_self, depthAll_of fun y hy => h y (List.mem_cons_of_mem _ hy)⟩
theorem Nc.tup {k b m : Nat} {xs : List PyData} (h : ∀ x ∈ xs, Nc k b x) (hl : xs.length ≤ m) : Nc (k + 1) (m * (b + 2) + 3) (.tuple xs) := by
  refine ⟨by unfold PyData.showable; exact showableAll_of fun x hx => (h x hx).s, by unfold PyData.depth; exact Nat.succ_le_succ (depthAll_of fun x hx => (h x hx).t), ?_⟩
  unfold PyData.shown
  have h1 := tupleText_le (PyData.shownAll xs)
  have h2 := piled_le (b := b) (shownAll_mem fun x hx => (h x hx).z)
  rw [shownAll_len] at h2
  have h3 := Nat.mul_le_mul_right (b + 2) hl
  omega
theorem Nc.lst {k b m : Nat} {xs : List PyData} (h : ∀ x ∈ xs, Nc k b x) (hl : xs.length ≤ m) : Nc (k + 1) (m * (b + 2) + 3) (.list xs) := by
  refine ⟨by unfold PyData.showable; exact showableAll_of fun x hx => (h x hx).s, by unfold PyData.depth; exact Nat.succ_le_succ (depthAll_of fun x hx => (h x hx).t), ?_⟩
  unfold PyData.shown
  have h1 := listText_le (PyData.shownAll xs)
  have h2 := piled_le (b := b) (shownAll_mem fun x hx => (h x hx).z)
  rw [shownAll_len] at h2
  have h3 := Nat.mul_le_mul_right (b + 2) hl
  omega
theorem Nc.int {i : Int} {k : Nat} (h : i.natAbs.log2 < 1900) : Nc k 1901 (.int i) := by
  refine ⟨by unfold PyData.showable; exact decide_eq_true (by omega), Nat.zero_le _, ?_⟩
  unfold PyData.shown
  rw [PySem.ofString_length]
  exact int_text_length_le (by decide) h
theorem Nc.ints {i : Int} {k : Nat} (h : -1000 ≤ i ∧ i ≤ 1000) : Nc k 1901 (.int i) := Nc.int (by
  have h1 : i.natAbs < 2 ^ 10 := by
    rw [show (2 : Nat) ^ 10 = 1024 from rfl]
    omega
  by_cases h0 : i.natAbs = 0
  · rw [h0]
    decide
  · have := (Nat.log2_lt h0).mpr h1
    omega)
theorem Nc.non {k : Nat} : Nc k 1901 .none := ⟨rfl, Nat.zero_le _, by decide⟩
theorem Nc.bl {k : Nat} (b : Bool) : Nc k 1901 (.bool b) := by cases b <;> exact ⟨rfl, Nat.zero_le _, by decide⟩
theorem Nc.str {k : Nat} {x : Str} (h : (reprText x).length ≤ 1901 := by decide +kernel) : Nc k 1901 (.str x) := ⟨rfl, Nat.zero_le _, h⟩
theorem Nc.emp : Nc 1 1901 (.dict []) := ⟨rfl, by decide, by decide⟩
theorem nc_two {k : Nat} {x y : PyData} (h1 : Nc k 1901 x) (h2 : Nc k 1901 y) : Nc (k + 1) 3809 (.tuple [x, y]) := Nc.tup (b := 1901) (m := 2) (fun z hz => by
  rcases List.mem_cons.mp hz with rfl | hz
  · exact h1
  · rw [List.mem_singleton.mp hz]
    exact h2) (Nat.le_refl _)
theorem all_cons {P : PyData → Prop} {x : PyData} {xs : List PyData} (h : P x) (t : ∀ y ∈ xs, P y) : ∀ y ∈ x :: xs, P y := fun y hy => by
  rcases List.mem_cons.mp hy with rfl | hy
  · exact h
  · exact t y hy
theorem all_nil {P : PyData → Prop} : ∀ y ∈ ([] : List PyData), P y := fun _ h => by cases h
theorem rc_rep {K : PySem.W.Frag} {S : SS} {d : PyData} (h : Nc 60 16000000 d) : Rc K (rRepr K) [.dat d] S (.dat (.str d.shown)) S := rc_repr h.s (Nat.le_trans h.t (by decide)) (Nat.le_trans h.z (by decide))
def InKey (x : Int) : Prop := -1000000000000 ≤ x ∧ x ≤ 1000000000000
theorem Nc.key {i : Int} {k : Nat} (h : InKey i) : Nc k 1901 (.int i) := Nc.int (by
  obtain ⟨a, b⟩ := h
  have h1 : i.natAbs < 2 ^ 40 := by
    rw [show (2 : Nat) ^ 40 = 1099511627776 from rfl]
    omega
  by_cases h0 : i.natAbs = 0
  · rw [h0]
    decide
  · have := (Nat.log2_lt h0).mpr h1
    omega)
theorem nc_rowT {ns : List Int} {m : Nat} (h : ∀ x ∈ ns, InKey x) (hl : ns.length ≤ m) : Nc 1 (m * 1903 + 3) (.tuple (ns.map PyData.int)) := Nc.tup (k := 0) (fun x hx => by
  obtain ⟨i, h1, rfl⟩ := List.mem_map.mp hx
  exact Nc.key (h i h1)) (by rw [List.length_map]; exact hl)
theorem nc_rowL {ns : List Int} {m : Nat} (h : ∀ x ∈ ns, InKey x) (hl : ns.length ≤ m) : Nc 1 (m * 1903 + 3) (.list (ns.map PyData.int)) := Nc.lst (k := 0) (fun x hx => by
  obtain ⟨i, h1, rfl⟩ := List.mem_map.mp hx
  exact Nc.key (h i h1)) (by rw [List.length_map]; exact hl)
end K04

set_option maxRecDepth 100000
set_option maxHeartbeats 4000000
namespace K04
open PySem PySem.Spec PyProof.Rows L2 DL
/-! ### orders as pairs of numbers -/
abbrev Pr := Nat × Nat
def pD (x : Pr) : PyData := .tuple [.int (x.1 : Int), .int (x.2 : Int)]
def nD (p : Nat) : PyData := .int (p : Int)
theorem pD_inj {x y : Pr} (h : pD x = pD y) : x = y := by
  unfold pD at h
  obtain ⟨a, b⟩ := x
  obtain ⟨c, d⟩ := y
  simp at h
  ext <;> simp <;> omega
def Lx (x y : Pr) : Prop := x.1 < y.1 ∨ (x.1 = y.1 ∧ x.2 < y.2)
instance (x y : Pr) : Decidable (Lx x y) := by unfold Lx; infer_instance
structure Ord (n : Nat) (ps : List Pr) : Prop where
  up : ps.Pairwise Lx
  ok : ∀ x ∈ ps, x.1 < x.2 ∧ x.2 < n
theorem Ord.sub {n : Nat} {ps qs : List Pr} (h : Ord n ps) (s : qs.Sublist ps) : Ord n qs := ⟨h.up.sublist s, fun x hx => h.ok x (s.subset hx)⟩
theorem Ord.tail {n : Nat} {x : Pr} {ps : List Pr} (h : Ord n (x :: ps)) : Ord n ps := h.sub (List.sublist_cons_self _ _)
def rowP (n p : Nat) : List Pr := (List.range (n - (p + 1))).map fun j => (p, p + 1 + j)
def pairsN (n k : Nat) : List Pr := (List.range k).flatMap (rowP n)
theorem pairsN_succ (n k : Nat) : pairsN n (k + 1) = pairsN n k ++ rowP n k := by
  unfold pairsN
  rw [List.range_succ, List.flatMap_append, List.flatMap_singleton]
theorem rowP_mem {n p : Nat} {x : Pr} (h : x ∈ rowP n p) : x.1 = p ∧ p < x.2 ∧ x.2 < n := by
  unfold rowP at h
  obtain ⟨j, hj, rfl⟩ := List.mem_map.mp h
  have := List.mem_range.mp hj
  exact ⟨rfl, by show p < p + 1 + j; omega, by show p + 1 + j < n; omega⟩
theorem rowP_len (n p : Nat) : (rowP n p).length = n - (p + 1) := by
  unfold rowP
  rw [List.length_map, List.length_range]
theorem rowP_up (n p : Nat) : (rowP n p).Pairwise Lx := by
  unfold rowP
  rw [List.pairwise_map]
  refine List.Pairwise.imp ?_ List.pairwise_lt_range
  intro a b h
  exact .inr ⟨rfl, by show p + 1 + a < p + 1 + b; omega⟩
theorem pairsN_mem {n k : Nat} {x : Pr} (h : x ∈ pairsN n k) : x.1 < k ∧ x.1 < x.2 ∧ x.2 < n := by
  unfold pairsN at h
  obtain ⟨p, hp, hx⟩ := List.mem_flatMap.mp h
  have := List.mem_range.mp hp
  have := rowP_mem hx
  omega
theorem pairsN_has {n k : Nat} {x : Pr} (h1 : x.1 < k) (h2 : x.1 < x.2) (h3 : x.2 < n) : x ∈ pairsN n k := by
  unfold pairsN
  refine List.mem_flatMap.mpr ⟨x.1, List.mem_range.mpr h1, ?_⟩
  unfold rowP
  exact List.mem_map.mpr ⟨x.2 - (x.1 + 1), List.mem_range.mpr (by omega), by ext <;> simp; omega⟩
theorem pairsN_up (n : Nat) : ∀ k, (pairsN n k).Pairwise Lx
  | 0 => .nil
  | k + 1 => by
    rw [pairsN_succ, List.pairwise_append]
    refine ⟨pairsN_up n k, rowP_up n k, fun a ha b hb => .inl ?_⟩
    have := pairsN_mem ha
    have := rowP_mem hb
    omega
theorem pairsN_ord (n k : Nat) : Ord n (pairsN n k) := ⟨pairsN_up n k, fun x hx => by
  have := pairsN_mem hx
  omega⟩
theorem pairsN_len (n : Nat) : ∀ k, (pairsN n k).length ≤ k * n
  | 0 => Nat.zero_le _
  | k + 1 => by
    rw [pairsN_succ, List.length_append, rowP_len, Nat.succ_mul]
    have := pairsN_len n k
    omega
theorem rowP_D (n p : Nat) : (rngD ((p : Int) + 1) (n - (p + 1))).map (fun q => PyData.tuple [.int (p : Int), q]) = (rowP n p).map pD := by
  unfold rngD rowP
  rw [List.map_map, List.map_map]
  refine List.map_congr_left fun j _ => ?_
  show PyData.tuple [_, .int (((p : Int) + 1) + (j : Int))] = PyData.tuple [_, .int ((p + 1 + j : Nat) : Int)]
  rw [show ((p + 1 + j : Nat) : Int) = (p : Int) + 1 + (j : Int) by omega]
theorem pD_succ (x : Nat) : SD.dat (.tuple [.int (x : Int), .int ((x : Int) + 1)]) = .dat (pD (x, x + 1)) := by
  show _ = SD.dat (.tuple [.int (x : Int), .int ((x + 1 : Nat) : Int)])
  rw [show ((x + 1 : Nat) : Int) = (x : Int) + 1 by omega]
theorem rngD_nD (n : Nat) : rngD 0 n = (List.range n).map nD := by
  unfold rngD
  refine List.map_congr_left fun j _ => ?_
  show PyData.int (0 + (j : Int)) = PyData.int (j : Int)
  rw [Int.zero_add]
theorem pD_at {ps : List Pr} {i : Nat} {d : PyData} (h : (ps.map pD)[i]? = some d) : ∃ x, ps[i]? = some x ∧ d = pD x := by
  rw [List.getElem?_map] at h
  cases e : ps[i]? with
  | none =>
    rw [e] at h
    cases h
  | some x =>
    rw [e] at h
    exact ⟨x, rfl, (Option.some.inj h).symm⟩
theorem map_at {α : Type} {f : α → PyData} {l : List α} {i : Nat} {d : PyData} (h : (l.map f)[i]? = some d) : ∃ x, l[i]? = some x ∧ d = f x := by
  rw [List.getElem?_map] at h
  cases e : l[i]? with
  | none =>
    rw [e] at h
    cases h
  | some x =>
    rw [e] at h
    exact ⟨x, rfl, (Option.some.inj h).symm⟩
/-! ### items that are drawn or not -/
section
variable {α β : Type}
def selS (m : Int) (t : Int → Bool) (f : α → β) (s : List β × Well) (x : α) : List β × Well := ((if t (draw m s.2).1 = true then s.1 ++ [f x] else s.1), (draw m s.2).2)
theorem sel_deep (m : Int) (t : Int → Bool) (f : α → β) : ∀ (l : List α) (s : List β × Well), s.2.deep.length ≤ 100 → (l.foldl (selS m t f) s).2.deep.length ≤ 100
  | [], _, h => h
  | x :: l, s, h => sel_deep m t f l _ (draw_deep m s.2 h)
theorem sel_step {m : Int} {t : Int → Bool} {f : α → β} {l : List α} {s : List β × Well} {i : Nat} {d : α} (h : l[i]? = some d) : (l.take (i + 1)).foldl (selS m t f) s = selS m t f ((l.take i).foldl (selS m t f) s) d := by
  rw [take_snoc h, List.foldl_append]
  rfl
theorem sel_sub (m : Int) (t : Int → Bool) (f : α → β) : ∀ (l : List α) (s : List β × Well), ∃ r, (l.foldl (selS m t f) s).1 = s.1 ++ r ∧ r.Sublist (l.map f)
  | [], s => ⟨[], (List.append_nil _).symm, .slnil⟩
  | x :: l, s => by
    obtain ⟨r, h1, h2⟩ := sel_sub m t f l (selS m t f s x)
    by_cases e : t (draw m s.2).1 = true
    · refine ⟨f x :: r, ?_, h2.cons_cons _⟩
      show (l.foldl (selS m t f) (selS m t f s x)).1 = _
      rw [h1]
      show (if t (draw m s.2).1 = true then s.1 ++ [f x] else s.1) ++ r = _
      rw [if_pos e, List.append_assoc]
      rfl
    · refine ⟨r, ?_, h2.cons _⟩
      show (l.foldl (selS m t f) (selS m t f s x)).1 = _
      rw [h1]
      show (if t (draw m s.2).1 = true then s.1 ++ [f x] else s.1) ++ r = _
      rw [if_neg e]
theorem el_sel {K : PySem.W.Frag} {wi : TI} {g : TG} {tt : TT} {te : TE} {vs : List Nat} {S S0 : SS} {W : Well} {m : Int} {t : Int → Bool} {f : α → β} {dA : α → PyData} {dB : β → PyData} {l : List α} (h : Ei K wi S (l.map dA) S0) (ho : S0.ob = [W.oo]) (hl : l.length ≤ 1000000) (hd : W.deep.length ≤ 100)
    (hs : ∀ (x : α) (W' : Well), W'.deep.length ≤ 100 → ∃ Sg S2, Egc K vs g (dA x) { S0 with ob := [W'.oo], sl := wipeS S0.sl vs } Sg ∧ Et K tt Sg (t (draw m W').1) S2 ∧ S2.ob = [(draw m W').2.oo] ∧ ∃ S3, Ee K te S2 (.dat (dB (f x))) S3 ∧ S3.ob = [(draw m W').2.oo]) :
    El K (tLc wi g tt te vs) S ((l.foldl (selS m t f) ([], W)).1.map dB) { S0 with ob := [(l.foldl (selS m t f) ([], W)).2.oo] } := by
  refine el_lc h (fun i acc ob => acc = ((l.take i).foldl (selS m t f) ([], W)).1.map dB ∧ ob = [((l.take i).foldl (selS m t f) ([], W)).2.oo]) ⟨rfl, ho⟩ ?_ (by rw [List.length_map]; exact hl) ?_
  · rintro i d acc ob hd' ⟨rfl, rfl⟩
    obtain ⟨x, hx, rfl⟩ := map_at hd'
    rw [sel_step hx]
    generalize hs0 : (l.take i).foldl (selS m t f) ([], W) = s0
    have ds0 : s0.2.deep.length ≤ 100 := by
      rw [← hs0]
      exact sel_deep _ _ _ _ _ hd
    obtain ⟨Sg, S2, a1, a2, a3, S3, a4, a5⟩ := hs x s0.2 ds0
    refine ⟨Sg, t (draw m s0.2).1, S2, a1, a2, fun hb => ⟨?_, a3⟩, fun hb => ⟨dB (f x), S3, a4, ?_, a5⟩⟩
    · show _ = (if t (draw m s0.2).1 = true then s0.1 ++ [f x] else s0.1).map dB
      rw [if_neg (by rw [hb]; exact Bool.false_ne_true)]
    · show _ = (if t (draw m s0.2).1 = true then s0.1 ++ [f x] else s0.1).map dB
      rw [if_pos hb, List.map_append]
      rfl
  · rintro acc ob ⟨rfl, rfl⟩
    rw [List.length_map, List.take_of_length_le (Nat.le_refl _)]
    exact ⟨rfl, rfl⟩
end
def oftI : List Int := [1, 1, 2, 3, 6]
def orderN (n : Nat) (W : Well) : List Pr × Well :=
  if (draw 8 W).1 < 2 then (if (draw 8 W).1 = 0 then [] else pairsN n n, (draw 8 W).2)
  else if (draw 8 W).1 = 2 then (List.range (n - 1)).foldl (selS 5 (fun v => decide (0 < v)) fun p => (p, p + 1)) ([], (draw 8 W).2)
  else (pairsN n n).foldl (selS (if decide ((n : Int) < 12) = true then 8 else 16) (fun v => decide (v < oftI.getD (draw 5 (draw 8 W).2).1.toNat 0)) id) ([], (draw 5 (draw 8 W).2).2)
theorem orderN_deep (n : Nat) (W : Well) (h : W.deep.length ≤ 100) : (orderN n W).2.deep.length ≤ 100 := by
  unfold orderN
  split
  · exact draw_deep _ _ h
  split
  · exact sel_deep _ _ _ _ _ (draw_deep _ _ h)
  · exact sel_deep _ _ _ _ _ (draw_deep _ _ (draw_deep _ _ h))
theorem orderN_ord (n : Nat) (W : Well) : Ord n (orderN n W).1 := by
  unfold orderN
  split
  · show Ord n (if _ then _ else _)
    split
    · exact ⟨.nil, fun x h => by cases h⟩
    · exact pairsN_ord n n
  split
  · obtain ⟨r, h1, h2⟩ := sel_sub (α := Nat) (β := Pr) 5 (fun v => decide (0 < v)) (fun p => (p, p + 1)) (List.range (n - 1)) ([], (draw 8 W).2)
    rw [h1]
    refine Ord.sub ⟨?_, ?_⟩ h2
    · rw [List.pairwise_map]
      exact List.Pairwise.imp (fun h => .inl h) List.pairwise_lt_range
    · intro x hx
      obtain ⟨p, hp, rfl⟩ := List.mem_map.mp hx
      have := List.mem_range.mp hp
      exact ⟨Nat.lt_succ_self _, by show p + 1 < n; omega⟩
  · obtain ⟨r, h1, h2⟩ := sel_sub (if decide ((n : Int) < 12) = true then 8 else 16) (fun v => decide (v < oftI.getD (draw 5 (draw 8 W).2).1.toNat 0)) id (pairsN n n) ([], (draw 5 (draw 8 W).2).2)
    rw [h1]
    refine (pairsN_ord n n).sub ?_
    rw [List.map_id] at h2
    exact h2
section
variable {P : Program} {w : World} {K : PySem.W.Frag} {mg : Str → Option Value} {base : Heap}
def R_pairs : FR := fun as ob r ob' => ∃ n : Nat, as = [.dat (.int (n : Int))] ∧ n ≤ 100 ∧ ob = [] ∧ r = .dat (.list ((pairsN n n).map pD)) ∧ ob' = []
theorem sc_law_pairs : FnScope ["n", "found", "p", "q"] ["n"] (defScope s_law_pairs) := ⟨rfl, rfl, rfl, by decide +kernel, rfl, by decide +kernel, by decide +kernel⟩
theorem ok_law_pairs (D : Df K mg "_law_pairs" s_law_pairs ["n"]) (B : Bi mg) : FnG P w K mg base CX0 1 D.f D.fd ["n"] (spD K 1 R_pairs) := by
  refine okG D.F sc_law_pairs (fun vs H Q E h => h.1) (fun cdv A outer s H vs Q E hr gd h => ?_)
  have hu := huX hr
  refine ⟨_, (pss_cons (ps_set (i := 1) sc_law_pairs.nd rfl (Or.inl rfl) (pe_lst pa_nil))
      (pss_cons (ps_for PassesOwn.never rfl (pi_range1 (by rfl) B.z_range (pa_cons (pv 0) pa_nil)) (pg_name (i := 2) sc_law_pairs.nd rfl (Or.inr rfl))
        (pss_one (ps_expr (pe_bm PySem.F.plainAttrs_list PySem.F.slot_list_extend PySem.F.type_list_extend mt_extend (pv 1) (pa_cons (pe_lc (own := [("q", 3)]) (g := gName 3) (tt := tYes) (by rfl) sc_law_pairs.nd (pi_range2 (by rfl) B.z_range (pa_cons (pe_op op_plus (pv 2) pe_int) (pa_cons (pv 0) pa_nil))) (blkOk_by (own := [("q", 3)]) (N := ["n", "found", "p", "q"]) (sc := defScope s_law_pairs) (by decide +kernel)) (fun _ _ _ _ _ => (pg_name (i := 3) sc_law_pairs.nd rfl (Or.inl rfl))) (fun _ _ _ _ _ => pts_nil) (fun _ _ _ _ _ => (pe_tup (pa_cons (pv 2) (pa_cons (pv 3) pa_nil))))) pa_nil)))))
      (pss_one (ps_ret (pv 1))))), ?_⟩
  refine body_ofG h (by decide) (fun as ob r ob' hR => ?_) fun as ob r ob' hR hl => ?_
  · obtain ⟨n, rfl, _, rfl, rfl, rfl⟩ := hR
    exact ⟨Nat.le_refl _, fun _ z => by cases z⟩
  obtain ⟨n, rfl, hn, rfl, rfl, rfl⟩ := hR
  refine ts_seq (ts_asg (eo_of_el (el_lst ed_nil)) (ts_seq (ts_for (ei_rng1 (n := (n : Int)) (ed_cons (ee_var rfl) ed_nil) (by omega)) (fun i S => ∃ a, S = ⟨[.dat (.int (n : Int)), .own 0, a, .un], [.lst ((pairsN n i).map pD)]⟩) ⟨.un, rfl⟩ ?_ ?_)))
  · rintro i d S' hd ⟨a, rfl⟩
    obtain ⟨hi, rfl⟩ := rngD_get hd
    have hi1 : i < n := hi
    have hlen := pairsN_len n i
    have hin : i * n ≤ 100 * 100 := Nat.mul_le_mul (by omega) hn
    have e0 : (0 : Int) + (i : Int) = (i : Int) := by omega
    rw [e0]
    refine ⟨_, eg_name, ts_drop (ee_extend (es := (rowP n i).map pD) (S1 := ⟨[.dat (.int (n : Int)), .own 0, .dat (.int (i : Int)), .un], [.lst ((pairsN n i).map pD)]⟩) (S2 := ⟨[.dat (.int (n : Int)), .own 0, .dat (.int (i : Int)), .un], [.lst ((pairsN n i).map pD)]⟩) (ee_var rfl) (ee_of_el ?_) (.dat _) ⟨_, rfl⟩ rfl ?_) ⟨.dat (.int (i : Int)), ?_⟩⟩
    · rw [← rowP_D]
      refine el_lcm (S0 := ⟨[.dat (.int (n : Int)), .own 0, .dat (.int (i : Int)), .un], [.lst ((pairsN n i).map pD)]⟩) (ds := rngD ((i : Int) + 1) (n - (i + 1))) ?_ (by rw [rngD_len]; omega) fun j d hd => ⟨_, egc_name (by decide), _, ee_tup (ed_cons (ee_var rfl) (ed_cons (ee_var rfl) ed_nil)), rfl, rfl⟩
      have := ei_rng2 (K := K) (S := ⟨[.dat (.int (n : Int)), .own 0, .dat (.int (i : Int)), .un], [.lst ((pairsN n i).map pD)]⟩) (lo := (i : Int) + 1) (n := (n : Int)) (ed_cons (ee_op (ee_var (i := 2) rfl) ee_int ro_add) (ed_cons (ee_var (i := 0) rfl) ed_nil)) (by omega)
      rw [show ((n : Int) - ((i : Int) + 1)).toNat = n - (i + 1) by omega] at this
      exact this
    · rw [List.length_map, List.length_map, rowP_len]
      omega
    · show (⟨_, [.lst ((pairsN n i).map pD ++ (rowP n i).map pD)]⟩ : SS) = _
      rw [pairsN_succ, List.map_append]
  · rintro S' ⟨a, rfl⟩
    rw [rngD_len]
    exact ts_ret (ee_frz (ee_var rfl) rfl) ⟨rfl, List.nil_prefix⟩
theorem pick_at {l : List Int} {W : Well} (h : 0 < l.length) : (l.map PyData.int)[(draw (((l.map PyData.int).length : Nat) : Int) W).1.toNat]? = some (.int (l.getD (draw (((l.map PyData.int).length : Nat) : Int) W).1.toNat 0)) := by
  have h1 := draw_lo (((l.map PyData.int).length : Nat) : Int) W
  have h2 := draw_hi (m := (((l.map PyData.int).length : Nat) : Int)) W (by rw [List.length_map]; omega)
  have hi : (draw (((l.map PyData.int).length : Nat) : Int) W).1.toNat < l.length := by
    rw [List.length_map] at h2 h1 ⊢
    omega
  rw [List.length_map] at hi ⊢
  rw [List.getElem?_map, List.getElem?_eq_getElem hi, List.getD_eq_getElem?_getD, List.getElem?_eq_getElem hi]
  rfl
def R_order : FR := fun as ob r ob' => ∃ W, ∃ n : Nat, as = [.own 0, .dat (.int (n : Int))] ∧ ob = [W.oo] ∧ W.deep.length ≤ 100 ∧ 1 ≤ n ∧ n ≤ 100 ∧ r = .dat (.tuple ((orderN n W).1.map pD)) ∧ ob' = [(orderN n W).2.oo]
theorem sc_law_order : FnScope ["well", "n", "pairs", "way", "p", "often", "pair"] ["well", "n"] (defScope s_law_order) := ⟨rfl, rfl, rfl, by decide +kernel, rfl, by decide +kernel, by decide +kernel⟩
theorem ok_law_order (D : Df K mg "_law_order" s_law_order ["well", "n"]) (B : Bi mg) (D_law_draw : Df K mg "_law_draw" s_law_draw ["well", "many"]) (D_law_pick : Df K mg "_law_pick" s_law_pick ["well", "items"]) (D_law_pairs : Df K mg "_law_pairs" s_law_pairs ["n"]) : FnG P w K mg base CX0 3 D.f D.fd ["well", "n"] (spD K 2 R_order) := by
  have ok_law_draw : FnG P w K mg base CX0 1 _ _ _ _ := ok_law_draw D_law_draw B
  have ok_law_pick : FnG P w K mg base CX0 2 _ _ _ _ := ok_law_pick D_law_pick B D_law_draw
  have ok_law_pairs : FnG P w K mg base CX0 1 _ _ _ _ := ok_law_pairs D_law_pairs B
  refine okG D.F sc_law_order (fun vs H Q E h => h.1) (fun cdv A outer s H vs Q E hr gd h => ?_)
  have hu := huX hr
  refine ⟨_, (pss_cons (ps_par (i := 2) (j := 3) (by rfl) sc_law_order.nd rfl rfl (by decide) rfl rfl (pa_cons (pe_callG (ok_law_pairs) (hr.mono (by decide)) gd (by rfl) D_law_pairs.m D_law_pairs.F.kp D_law_pairs.b .nil pass0 (pa_cons (pv 1) pa_nil)) (pa_cons (pe_callG (ok_law_draw) (hr.mono (by decide)) gd (by rfl) D_law_draw.m D_law_draw.F.kp D_law_draw.b .nil pass0 (pa_cons (pv 0) (pa_cons pe_int pa_nil))) pa_nil)) (by rfl))
      (pss_cons (ps_if (pt_cmpR (op_ltU hu) (pv 3) pe_int (nomark _)) (pss_one (ps_ret (pe_ifExp (pt_cmpR (op_eqU hu) (pv 3) pe_int (nomark _)) (pe_tup pa_nil) (pe_callTy cb_tuple (by rfl) B.z_tuple (by decide +kernel) (pa_cons (pv 2) pa_nil))))) pss_nil)
      (pss_cons (ps_if (pt_cmpR (op_eqU hu) (pv 3) pe_int (nomark _)) (pss_one (ps_ret (pe_callTy cb_tuple (by rfl) B.z_tuple (by decide +kernel) (pa_cons (pe_lc (own := [("p", 4)]) (g := gName 4) (by rfl) sc_law_order.nd (pi_range1 (by rfl) B.z_range (pa_cons (pe_op op_subU (pv 1) pe_int) pa_nil)) (blkOk_by (own := [("p", 4)]) (N := ["well", "n", "pairs", "way", "p", "often", "pair"]) (sc := defScope s_law_order) (by decide +kernel)) (fun _ _ _ _ _ => (pg_name (i := 4) sc_law_order.nd rfl (Or.inl rfl))) (fun _ _ _ _ _ => (pts_one (pt_cmpR (opK K (R := rGtU) (op_gtU hu) rfl) (pe_callG (ok_law_draw) (hr.mono (by decide)) gd (by rfl) D_law_draw.m D_law_draw.F.kp D_law_draw.b .nil pass0 (pa_cons (pv 0) (pa_cons pe_int pa_nil))) pe_int (nomark _)))) (fun _ _ _ _ _ => (pe_tup (pa_cons (pv 4) (pa_cons (pe_op (opK K (R := rPlus) op_plus rfl) (pv 4) pe_int) pa_nil))))) pa_nil)))) pss_nil)
      (pss_cons (ps_set (i := 5) sc_law_order.nd rfl (Or.inr rfl) (pe_callG (ok_law_pick) (hr.mono (by decide)) gd (by rfl) D_law_pick.m D_law_pick.F.kp D_law_pick.b .nil pass0 (pa_cons (pv 0) (pa_cons (pe_lst (pa_cons pe_int (pa_cons pe_int (pa_cons pe_int (pa_cons pe_int (pa_cons pe_int pa_nil)))))) pa_nil))))
      (pss_one (ps_ret (pe_callTy cb_tuple (by rfl) B.z_tuple (by decide +kernel) (pa_cons (pe_lc (own := [("pair", 6)]) (g := gName 6) (by rfl) sc_law_order.nd (pi_list (pv 2)) (blkOk_by (own := [("pair", 6)]) (N := ["well", "n", "pairs", "way", "p", "often", "pair"]) (sc := defScope s_law_order) (by decide +kernel)) (fun _ _ _ _ _ => (pg_name (i := 6) sc_law_order.nd rfl (Or.inl rfl))) (fun _ _ _ _ _ => (pts_one (pt_cmpR (opK K (R := rLtU) (op_ltU hu) rfl) (pe_callG (ok_law_draw) (hr.mono (by decide)) gd (by rfl) D_law_draw.m D_law_draw.F.kp D_law_draw.b .nil pass0 (pa_cons (pv 0) (pa_cons (pe_ifExp (pt_cmpR (opK K (R := rLtU) (op_ltU hu) rfl) (pv 1) pe_int (nomark _)) pe_int pe_int) pa_nil))) (pv 5) (nomark _)))) (fun _ _ _ _ _ => (pv 6))) pa_nil)))))))), ?_⟩
  refine body_of h (by decide) fun as ob r ob' hR hl => ?_
  obtain ⟨W, n, rfl, rfl, hd, hn0, hn, rfl, rfl⟩ := hR
  have d1 := draw_deep 8 W hd
  have d2 := draw_deep 5 (draw 8 W).2 d1
  have plen : (pairsN n n).length ≤ 1000000 := by
    have h1 := pairsN_len n n
    have h2 : n * n ≤ 100 * 100 := Nat.mul_le_mul hn hn
    omega
  refine ts_seq (ts_par (x := .dat (.list ((pairsN n n).map pD))) (y := .dat (.int (draw 8 W).1)) (S1 := ⟨[.own 0, .dat (.int (n : Int)), .un, .un, .un, .un, .un], [(draw 8 W).2.oo]⟩) (ea_cons (ee_callD (ed_cons (ee_var rfl) ed_nil) rfl ⟨n, rfl, hn, rfl, rfl, rfl⟩) (ea_cons (ee_drw (ea_cons (ee_var rfl) (ea_cons ee_int ea_nil)) rfl rfl (by decide) hd) ea_nil)) ?_)
  refine ts_seq (ts_if (et_test (ee_op (ee_var rfl) ee_int ro_lt)) (fun hb => ?_) fun hb => ts_next ?_)
  · have hlt : (draw 8 W).1 < 2 := of_decide_eq_true hb
    have e : orderN n W = (if (draw 8 W).1 = 0 then [] else pairsN n n, (draw 8 W).2) := by
      unfold orderN
      rw [if_pos hlt]
    rw [e]
    refine ts_ret (S1 := ⟨[.own 0, .dat (.int (n : Int)), .dat (.list ((pairsN n n).map pD)), .dat (.int (draw 8 W).1), .un, .un, .un], [(draw 8 W).2.oo]⟩) (ee_if (x := .dat (.tuple ((if (draw 8 W).1 = 0 then [] else pairsN n n).map pD))) (et_test (ee_op (ee_var rfl) ee_int ro_eqI)) (fun h0 => ?_) fun h0 => ?_) ⟨rfl, rfl⟩
    · rw [if_pos (of_decide_eq_true h0)]
      exact ee_tup ed_nil
    · rw [if_neg (of_decide_eq_false h0)]
      exact ee_cb (ea_cons (ee_var rfl) ea_nil) (rc_tupL (.dat _))
  · have hge : ¬ (draw 8 W).1 < 2 := of_decide_eq_false hb
    refine ts_seq (ts_if (et_test (ee_op (ee_var rfl) ee_int ro_eqI)) (fun hb2 => ?_) fun hb2 => ts_next ?_)
    · have e : orderN n W = (List.range (n - 1)).foldl (selS 5 (fun v => decide (0 < v)) fun p => (p, p + 1)) ([], (draw 8 W).2) := by
        unfold orderN
        rw [if_neg hge, if_pos (of_decide_eq_true hb2)]
      rw [e]
      refine ts_ret (ee_cb (ea_cons (ee_of_el (el_sel (dA := nD) (dB := pD) (m := 5) (t := fun v => decide (0 < v)) (f := fun p => (p, p + 1)) (l := List.range (n - 1)) (W := (draw 8 W).2) (S0 := ⟨[.own 0, .dat (.int (n : Int)), .dat (.list ((pairsN n n).map pD)), .dat (.int (draw 8 W).1), .un, .un, .un], [(draw 8 W).2.oo]⟩) ?_ rfl (by rw [List.length_range]; omega) d1 fun x W' hd' => ⟨_, _, egc_name (by decide), et_test (ee_op (ee_drw (ea_cons (ee_var rfl) (ea_cons ee_int ea_nil)) rfl rfl (by decide) hd') ee_int ro_gt), rfl, _, ee_eq (ee_tup (ed_cons (ee_var rfl) (ed_cons (ee_op (ee_var rfl) ee_int ro_add) ed_nil))) (pD_succ x), rfl⟩)) ea_nil) (rc_tupL (.dat _))) ⟨rfl, rfl⟩
      · rw [← rngD_nD]
        have := ei_rng1 (K := K) (S := ⟨[.own 0, .dat (.int (n : Int)), .dat (.list ((pairsN n n).map pD)), .dat (.int (draw 8 W).1), .un, .un, .un], [(draw 8 W).2.oo]⟩) (n := (n : Int) - 1) (ed_cons (ee_op (ee_var (i := 1) rfl) ee_int ro_sub) ed_nil) (by omega)
        rw [show ((n : Int) - 1).toNat = n - 1 by omega] at this
        exact this
    · have e : orderN n W = (pairsN n n).foldl (selS (if decide ((n : Int) < 12) = true then 8 else 16) (fun v => decide (v < oftI.getD (draw 5 (draw 8 W).2).1.toNat 0)) id) ([], (draw 5 (draw 8 W).2).2) := by
        unfold orderN
        rw [if_neg hge, if_neg (of_decide_eq_false hb2)]
      rw [e]
      have hof : (oftI.map PyData.int)[(draw 5 (draw 8 W).2).1.toNat]? = some (.int (oftI.getD (draw 5 (draw 8 W).2).1.toNat 0)) := pick_at (l := oftI) (W := (draw 8 W).2) (by decide)
      generalize oftI.getD (draw 5 (draw 8 W).2).1.toNat 0 = often at hof
      refine ts_seq (ts_asg (ee_pck (ds := oftI.map PyData.int) (d := .int often) (ea_cons (ee_var rfl) (ea_cons (ee_of_el (el_lst (ds := oftI.map PyData.int) (ed_cons ee_int (ed_cons ee_int (ed_cons ee_int (ed_cons ee_int (ed_cons ee_int ed_nil))))) (show (5 : Nat) ≤ 1000000 by decide))) ea_nil)) rfl rfl hof (show (5 : Nat) ≤ 1000 by decide) d1) ?_)
      show Ts K _ ⟨[.own 0, .dat (.int (n : Int)), .dat (.list ((pairsN n n).map pD)), .dat (.int (draw 8 W).1), .un, .dat (.int often), .un], [(draw 5 (draw 8 W).2).2.oo]⟩ _
      have d3 : (draw 5 (draw 8 W).2).2.deep.length ≤ 100 := d2
      generalize (draw 5 (draw 8 W).2).2 = W2 at d3
      generalize (draw 8 W).1 = way
      generalize hm : (if decide ((n : Int) < 12) = true then (8 : Int) else 16) = m
      have hm2 : m ≤ 1000000 := by
        rw [← hm]
        split <;> decide
      refine ts_ret (ee_cb (ea_cons (ee_of_el (el_sel (dA := pD) (dB := pD) (m := m) (t := fun v => decide (v < often)) (f := id) (l := pairsN n n) (W := W2) (S0 := ⟨[.own 0, .dat (.int (n : Int)), .dat (.list ((pairsN n n).map pD)), .dat (.int way), .un, .dat (.int often), .un], [W2.oo]⟩) (ei_list (ee_var rfl)) rfl plen d3 fun x W' hd' => ⟨_, _, egc_name (by decide), et_test (ee_op (ee_drw (m := m) (S1 := ⟨[.own 0, .dat (.int (n : Int)), .dat (.list ((pairsN n n).map pD)), .dat (.int way), .un, .dat (.int often), .dat (pD x)], [W'.oo]⟩) (ea_cons (ee_var rfl) (ea_cons (ee_if (x := .dat (.int m)) (et_test (ee_op (ee_var rfl) ee_int ro_lt)) (fun hb => ?_) fun hb => ?_) ea_nil)) rfl rfl (by omega) hd') (ee_var rfl) ro_lt), rfl, _, ee_var rfl, rfl⟩)) ea_nil) (rc_tupL (.dat _))) ⟨rfl, rfl⟩
      · rw [← hm, if_pos hb]
        exact ee_int
      · rw [← hm, if_neg (by rw [hb]; exact Bool.false_ne_true)]
        exact ee_int
end
end K04

set_option maxRecDepth 100000
set_option maxHeartbeats 4000000
namespace K04
open PySem PySem.Spec PyProof.Rows L2 DL
/-! ### ways by pairs, and numbers that tell them by their bits -/
inductive Pth (ps : List Pr) : Nat → Nat → Prop
  | one {a b : Nat} (h : (a, b) ∈ ps) : Pth ps a b
  | more {a b c : Nat} (h : (a, b) ∈ ps) (t : Pth ps b c) : Pth ps a c
theorem Pth.trans {ps : List Pr} {a b c : Nat} (h : Pth ps a b) (k : Pth ps b c) : Pth ps a c := by
  induction h with
  | one h => exact .more h k
  | more h _ ih => exact .more h (ih k)
theorem Pth.mono {ps qs : List Pr} (m : ∀ x ∈ ps, x ∈ qs) {a b : Nat} (h : Pth ps a b) : Pth qs a b := by
  induction h with
  | one h => exact .one (m _ h)
  | more h _ ih => exact .more (m _ h) ih
theorem Pth.lt {n : Nat} {ps : List Pr} (o : ∀ x ∈ ps, x.1 < x.2 ∧ x.2 < n) {a b : Nat} (h : Pth ps a b) : a < b ∧ b < n := by
  induction h with
  | one h => exact o _ h
  | more h _ ih =>
    have := o _ h
    dsimp only at this
    omega
def stepA (ab : List Nat) (x : Pr) : List Nat := ab.set x.1 (ab.getD x.1 0 ||| (2 ^ x.2 ||| ab.getD x.2 0))
def aboveN (n : Nat) (ps : List Pr) : List Nat := ps.foldr (fun x ab => stepA ab x) (List.replicate n 0)
def bt (n : Nat) (ps : List Pr) (p q : Nat) : Bool := ((aboveN n ps).getD p 0).testBit q
theorem stepA_len (ab : List Nat) (x : Pr) : (stepA ab x).length = ab.length := List.length_set
theorem aboveN_len (n : Nat) : ∀ ps, (aboveN n ps).length = n
  | [] => List.length_replicate
  | x :: ps => by
    show (stepA (aboveN n ps) x).length = n
    rw [stepA_len, aboveN_len n ps]
theorem set_getD {l : List Nat} {i j v : Nat} (h : i < l.length) : (l.set i v).getD j 0 = if i = j then v else l.getD j 0 := by
  rw [List.getD_eq_getElem?_getD, List.getD_eq_getElem?_getD]
  by_cases e : i = j
  · rw [if_pos e, ← e, List.getElem?_set_self h]
    rfl
  · rw [if_neg e, List.getElem?_set_ne e]
theorem Pth.head {x : Pr} {ps : List Pr} (hx : x.1 < x.2) (hu : ∀ y ∈ ps, x.1 ≤ y.1 ∧ y.1 < y.2) {a c : Nat} (h : Pth (x :: ps) a c) : Pth ps a c ∨ (a = x.1 ∧ (c = x.2 ∨ Pth ps x.2 c)) := by
  induction h with
  | one h =>
    rcases List.mem_cons.mp h with h | h
    · subst h
      exact .inr ⟨rfl, .inl rfl⟩
    · exact .inl (.one h)
  | @more a b c h t ih =>
    rcases List.mem_cons.mp h with h | h
    · subst h
      rcases ih with ih | ⟨ih, _⟩
      · exact .inr ⟨rfl, .inr ih⟩
      · dsimp only at ih hx
        omega
    · have := hu _ h
      dsimp only at this
      rcases ih with ih | ⟨ih, _⟩
      · exact .inl (.more h ih)
      · omega
theorem bt_pth {n : Nat} : ∀ {ps : List Pr}, Ord n ps → ∀ {p q : Nat}, p < n → (bt n ps p q = true ↔ Pth ps p q)
  | [], _, p, q, hp => by
    unfold bt aboveN
    rw [List.foldr_nil, List.getD_eq_getElem?_getD, List.getElem?_replicate, if_pos hp]
    show (0 : Nat).testBit q = true ↔ _
    rw [Nat.zero_testBit]
    refine ⟨fun h => (by cases h), fun h => ?_⟩
    cases h with
    | one h => cases h
    | more h _ => cases h
  | x :: ps, o, p, q, hp => by
    have hx := o.ok x List.mem_cons_self
    have hu : ∀ y ∈ ps, x.1 ≤ y.1 ∧ y.1 < y.2 := fun y hy => by
      have h1 := List.rel_of_pairwise_cons o.up hy
      have h2 := (o.ok y (List.mem_cons_of_mem _ hy)).1
      unfold Lx at h1
      omega
    have ih : ∀ {p q : Nat}, p < n → (bt n ps p q = true ↔ Pth ps p q) := fun h => bt_pth o.tail h
    have e : bt n (x :: ps) p q = if x.1 = p then (bt n ps x.1 q || (decide (x.2 = q) || bt n ps x.2 q)) else bt n ps p q := by
      unfold bt
      show ((stepA (aboveN n ps) x).getD p 0).testBit q = _
      unfold stepA
      rw [set_getD (by rw [aboveN_len]; omega)]
      split
      · rw [Nat.testBit_or, Nat.testBit_or, Nat.testBit_two_pow]
      · rfl
    rw [e]
    constructor
    · intro h
      split at h
      · rename_i hpx
        subst hpx
        rw [Bool.or_eq_true, Bool.or_eq_true, ih (by omega), ih (by omega)] at h
        rcases h with h | h | h
        · exact h.mono fun _ m => List.mem_cons_of_mem _ m
        · rw [← of_decide_eq_true h]
          exact .one List.mem_cons_self
        · exact .more (b := x.2) List.mem_cons_self (h.mono fun _ m => List.mem_cons_of_mem _ m)
      · rw [ih hp] at h
        exact h.mono fun _ m => List.mem_cons_of_mem _ m
    · intro h
      rcases h.head hx.1 hu with h | ⟨rfl, hh⟩
      · split
        · rename_i hpx
          subst hpx
          rw [(ih (by omega)).mpr h]
          rfl
        · exact (ih hp).mpr h
      · rw [if_pos rfl, Bool.or_eq_true, Bool.or_eq_true]
        rcases hh with hh | hh
        · exact .inr (.inl (decide_eq_true hh.symm))
        · exact .inr (.inr ((ih hx.2).mpr hh))
/-- all pairs that a test takes -/
def prs (n : Nat) (B : Nat → Nat → Bool) : List Pr := (List.range n).flatMap fun p => ((List.range n).filter (B p)).map fun q => (p, q)
theorem prs_mem {n : Nat} {B : Nat → Nat → Bool} {a b : Nat} : (a, b) ∈ prs n B ↔ a < n ∧ b < n ∧ B a b = true := by
  unfold prs
  constructor
  · intro h
    obtain ⟨p, hp, h⟩ := List.mem_flatMap.mp h
    obtain ⟨q, hq, h⟩ := List.mem_map.mp h
    obtain ⟨h1, h2⟩ := List.mem_filter.mp hq
    obtain ⟨rfl, rfl⟩ := Prod.mk.inj h
    exact ⟨List.mem_range.mp hp, List.mem_range.mp h1, h2⟩
  · rintro ⟨h1, h2, h3⟩
    exact List.mem_flatMap.mpr ⟨a, List.mem_range.mpr h1, List.mem_map.mpr ⟨b, List.mem_filter.mpr ⟨List.mem_range.mpr h2, h3⟩, rfl⟩⟩
theorem prs_congr {n : Nat} {B C : Nat → Nat → Bool} (h : ∀ a b, a < n → b < n → B a b = C a b) : prs n B = prs n C := by
  unfold prs
  have e : ∀ l : List Nat, (∀ p ∈ l, p < n) → (l.flatMap fun p => ((List.range n).filter (B p)).map fun q => (p, q)) = l.flatMap fun p => ((List.range n).filter (C p)).map fun q => (p, q) := fun l => by
    induction l with
    | nil => intro _; rfl
    | cons a l ih =>
      intro hl
      rw [List.flatMap_cons, List.flatMap_cons, ih fun p hp => hl p (List.mem_cons_of_mem _ hp)]
      rw [List.filter_congr fun q hq => h a q (hl a List.mem_cons_self) (List.mem_range.mp hq)]
  exact e _ fun p hp => List.mem_range.mp hp
theorem flat_up {α : Type} {R : α → α → Prop} {f : Nat → List α} (h1 : ∀ a, (f a).Pairwise R) (h2 : ∀ a b x y, a < b → x ∈ f a → y ∈ f b → R x y) : ∀ k, ((List.range k).flatMap f).Pairwise R
  | 0 => .nil
  | k + 1 => by
    rw [List.range_succ, List.flatMap_append, List.flatMap_singleton, List.pairwise_append]
    refine ⟨flat_up h1 h2 k, h1 k, fun a ha b hb => ?_⟩
    obtain ⟨p, hp, ha⟩ := List.mem_flatMap.mp ha
    exact h2 p k a b (List.mem_range.mp hp) ha hb
theorem prs_ord {n : Nat} {B : Nat → Nat → Bool} (h : ∀ a b, a < n → B a b = true → a < b) : Ord n (prs n B) := by
  refine ⟨flat_up (fun p => ?_) (fun a b x y hab hx hy => ?_) n, fun x hx => ?_⟩
  · rw [List.pairwise_map]
    exact List.Pairwise.imp (fun h => .inr ⟨rfl, h⟩) (List.Pairwise.filter _ List.pairwise_lt_range)
  · obtain ⟨q, _, rfl⟩ := List.mem_map.mp hx
    obtain ⟨q, _, rfl⟩ := List.mem_map.mp hy
    exact .inl hab
  · obtain ⟨a, b⟩ := x
    obtain ⟨h1, h2, h3⟩ := prs_mem.mp hx
    exact ⟨h a b h1 h3, h2⟩
theorem prs_len (n : Nat) (B : Nat → Nat → Bool) : (prs n B).length ≤ n * n := by
  unfold prs
  have e : ∀ l : List Nat, (l.flatMap fun p => ((List.range n).filter (B p)).map fun q => (p, q)).length ≤ l.length * n := fun l => by
    induction l with
    | nil => exact Nat.zero_le _
    | cons a l ih =>
      rw [List.flatMap_cons, List.length_append, List.length_map, List.length_cons, Nat.succ_mul]
      have := List.length_filter_le (B a) (List.range n)
      rw [List.length_range] at this
      omega
  have := e (List.range n)
  rw [List.length_range] at this
  exact this
/-- whether a third place parts p and q -/
def parts (n : Nat) (ps : List Pr) (p q : Nat) : Bool := (List.range n).any fun r => bt n ps p r && bt n ps r q
def cloN (n : Nat) (ps : List Pr) : List Pr := prs n (bt n ps)
def lstN (n : Nat) (ps : List Pr) : List Pr := prs n fun p q => bt n ps p q && !parts n ps p q
theorem bt_lt {n : Nat} {ps : List Pr} (o : Ord n ps) {p q : Nat} (hp : p < n) (h : bt n ps p q = true) : p < q ∧ q < n := ((bt_pth o hp).mp h).lt o.ok
theorem cloN_ord {n : Nat} {ps : List Pr} (o : Ord n ps) : Ord n (cloN n ps) := prs_ord fun _ _ h1 h2 => (bt_lt o h1 h2).1
theorem lstN_ord {n : Nat} {ps : List Pr} (o : Ord n ps) : Ord n (lstN n ps) := prs_ord fun _ _ h1 h2 => (bt_lt o h1 (Bool.and_eq_true_iff.mp h2).1).1
theorem parts_iff {n : Nat} {ps : List Pr} (o : Ord n ps) {p q : Nat} (hp : p < n) : parts n ps p q = true ↔ ∃ r, Pth ps p r ∧ Pth ps r q := by
  unfold parts
  rw [List.any_eq_true]
  constructor
  · rintro ⟨r, hr, h⟩
    obtain ⟨h1, h2⟩ := Bool.and_eq_true_iff.mp h
    exact ⟨r, (bt_pth o hp).mp h1, (bt_pth o (List.mem_range.mp hr)).mp h2⟩
  · rintro ⟨r, h1, h2⟩
    have := (h1.lt o.ok).2
    exact ⟨r, List.mem_range.mpr this, Bool.and_eq_true_iff.mpr ⟨(bt_pth o hp).mpr h1, (bt_pth o this).mpr h2⟩⟩
theorem clo_mem {n : Nat} {ps : List Pr} (o : Ord n ps) {a b : Nat} : (a, b) ∈ cloN n ps ↔ Pth ps a b := by
  unfold cloN
  rw [prs_mem]
  constructor
  · rintro ⟨h1, h2, h3⟩
    exact (bt_pth o h1).mp h3
  · intro h
    have := h.lt o.ok
    exact ⟨by omega, this.2, (bt_pth o (by omega)).mpr h⟩
theorem lst_mem {n : Nat} {ps : List Pr} (o : Ord n ps) {a b : Nat} : (a, b) ∈ lstN n ps ↔ Pth ps a b ∧ ¬ ∃ r, Pth ps a r ∧ Pth ps r b := by
  unfold lstN
  rw [prs_mem]
  constructor
  · rintro ⟨h1, h2, h3⟩
    obtain ⟨h4, h5⟩ := Bool.and_eq_true_iff.mp h3
    refine ⟨(bt_pth o h1).mp h4, fun h => ?_⟩
    rw [(parts_iff o h1).mpr h] at h5
    cases h5
  · rintro ⟨h, hn⟩
    have := h.lt o.ok
    refine ⟨by omega, this.2, Bool.and_eq_true_iff.mpr ⟨(bt_pth o (by omega)).mpr h, ?_⟩⟩
    cases e : parts n ps a b with
    | false => rfl
    | true => exact absurd ((parts_iff o (by omega)).mp e) hn
theorem clo_pth {n : Nat} {ps : List Pr} (o : Ord n ps) {a b : Nat} : Pth (cloN n ps) a b ↔ Pth ps a b := by
  constructor
  · intro h
    induction h with
    | one h => exact (clo_mem o).mp h
    | more h _ ih => exact ((clo_mem o).mp h).trans ih
  · intro h
    exact .one ((clo_mem o).mpr h)
theorem lst_pth {n : Nat} {ps : List Pr} (o : Ord n ps) {a b : Nat} : Pth (lstN n ps) a b ↔ Pth ps a b := by
  constructor
  · intro h
    induction h with
    | one h => exact ((lst_mem o).mp h).1
    | more h _ ih => exact ((lst_mem o).mp h).1.trans ih
  · have key : ∀ k a b, b - a ≤ k → Pth ps a b → Pth (lstN n ps) a b := fun k => by
      induction k with
      | zero =>
        intro a b hk h
        have := h.lt o.ok
        omega
      | succ k ih =>
        intro a b hk h
        by_cases e : ∃ r, Pth ps a r ∧ Pth ps r b
        · obtain ⟨r, h1, h2⟩ := e
          have l1 := h1.lt o.ok
          have l2 := h2.lt o.ok
          exact (ih a r (by omega) h1).trans (ih r b (by omega) h2)
        · exact .one ((lst_mem o).mpr ⟨h, e⟩)
    exact key _ a b (Nat.le_refl _)
theorem bt_same {n : Nat} {ps qs : List Pr} (o1 : Ord n ps) (o2 : Ord n qs) (h : ∀ a b, Pth ps a b ↔ Pth qs a b) {a b : Nat} (ha : a < n) : bt n ps a b = bt n qs a b := by
  rw [Bool.eq_iff_iff, bt_pth o1 ha, bt_pth o2 ha]
  exact h a b
theorem clo_same {n : Nat} {ps qs : List Pr} (o1 : Ord n ps) (o2 : Ord n qs) (h : ∀ a b, Pth ps a b ↔ Pth qs a b) : cloN n ps = cloN n qs := prs_congr fun a b ha _ => bt_same o1 o2 h ha
theorem parts_same {n : Nat} {ps qs : List Pr} (o1 : Ord n ps) (o2 : Ord n qs) (h : ∀ a b, Pth ps a b ↔ Pth qs a b) {a b : Nat} (ha : a < n) : parts n ps a b = parts n qs a b := by
  rw [Bool.eq_iff_iff, parts_iff o1 ha, parts_iff o2 ha]
  exact exists_congr fun r => and_congr (h a r) (h r b)
theorem lst_same {n : Nat} {ps qs : List Pr} (o1 : Ord n ps) (o2 : Ord n qs) (h : ∀ a b, Pth ps a b ↔ Pth qs a b) : lstN n ps = lstN n qs := prs_congr fun a b ha _ => by rw [bt_same o1 o2 h ha, parts_same o1 o2 h ha]
end K04

set_option maxRecDepth 100000
set_option maxHeartbeats 4000000
namespace K04
open PySem PySem.Spec PyProof.Rows L2 DL
/-! ### closed and least_order of the program -/
theorem ixN_nat {n i : Nat} (h : i < n) : ixN n (i : Int) = some i := by
  unfold ixN
  rw [if_pos (by omega), if_pos (by omega)]
  rfl
theorem nD_get {L : List Nat} {i : Nat} (h : i < L.length) : (L.map nD)[i]? = some (.int ((L.getD i 0 : Nat) : Int)) := by
  rw [List.getElem?_map, List.getElem?_eq_getElem h, List.getD_eq_getElem?_getD, List.getElem?_eq_getElem h]
  rfl
theorem nD_at {L : List Nat} {i : Nat} (h : i < L.length) : atI (L.map nD) (i : Int) = some (.int ((L.getD i 0 : Nat) : Int)) := atI_nat (nD_get h)
theorem pow_ok {b : Nat} (h : b ≤ 100) : CPow 1 (b : Int) := ⟨by omega, by omega, by omega⟩
theorem repD_nD (n : Nat) : repD ((n : Int)).toNat [.int 0] = (List.replicate n 0).map nD := by
  rw [Int.toNat_natCast]
  induction n with
  | zero => rfl
  | succ n ih =>
    rw [repD_succ, ih]
    rfl
section
variable {P : Program} {w : World} {K : PySem.W.Frag} {mg : Str → Option Value} {base : Heap}
def R_above : FR := fun as ob r ob' => ∃ (n : Nat) (ps : List Pr), as = [.dat (.int (n : Int)), .dat (.tuple (ps.map pD))] ∧ n ≤ 100 ∧ ps.length ≤ 10000 ∧ (∀ x ∈ ps, x.1 < x.2 ∧ x.2 < n) ∧ ob = [] ∧ r = .dat (.list ((aboveN n ps).map nD)) ∧ ob' = []
theorem above_fold (n : Nat) (ps : List Pr) : aboveN n ps = ps.reverse.foldl stepA (List.replicate n 0) := by
  unfold aboveN
  rw [List.foldl_reverse]
theorem fold_len (n : Nat) : ∀ (ps : List Pr) (ab : List Nat), (ps.foldl stepA ab).length = ab.length
  | [], _ => rfl
  | x :: ps, ab => by
    rw [List.foldl_cons, fold_len n ps, stepA_len]
theorem sc_places_above : FnScope ["n", "order", "above", "p", "q"] ["n", "order"] (defScope s_places_above) := ⟨rfl, rfl, rfl, by decide +kernel, rfl, by decide +kernel, by decide +kernel⟩
theorem ok_places_above (D : Df K mg "_places_above" s_places_above ["n", "order"]) (B : Bi mg) : FnG P w K mg base CX0 1 D.f D.fd ["n", "order"] (spD K 2 R_above) := by
  refine okG D.F sc_places_above (fun vs H Q E h => h.1) (fun cdv A outer s H vs Q E hr gd h => ?_)
  have hu := huX hr
  refine ⟨_, (pss_cons (ps_set (i := 2) sc_places_above.nd rfl (Or.inl rfl) (pe_op op_mulU (pe_lst (pa_cons pe_int pa_nil)) (pv 0)))
      (pss_cons (ps_for PassesOwn.never rfl (pi_tup (pe_revT (pv 1))) (pg_tup rfl (pgs_cons (pg_name (i := 3) sc_places_above.nd rfl (Or.inl rfl)) (pgs_cons (pg_name (i := 4) sc_places_above.nd rfl (Or.inl rfl)) pgs_nil)))
        (pss_one (ps_asg (pe_op op_or (pe_op op_or (pe_ix ix_seq (pv 2) (pv 3) (fun _ _ => rfl)) (pe_op op_shl pe_int (pv 4))) (pe_ix ix_seq (pv 2) (pv 4) (fun _ _ => rfl))) (pg_sub (pv 2) (pv 3) set_list))))
      (pss_one (ps_ret (pv 2))))), ?_⟩
  refine body_ofG h (by decide) (fun as ob r ob' hR => ?_) fun as ob r ob' hR hl => ?_
  · obtain ⟨n, ps, rfl, _, _, _, rfl, rfl, rfl⟩ := hR
    exact ⟨Nat.le_refl _, fun _ z => by cases z⟩
  obtain ⟨n, ps, rfl, hn, hz, hok, rfl, rfl, rfl⟩ := hR
  refine ts_seq (ts_asg (eo_of_el (S1 := ⟨[.dat (.int (n : Int)), .dat (.tuple (ps.map pD)), .un, .un, .un], []⟩) (ds := (List.replicate n 0).map nD) ?_) ?_)
  · rw [← repD_nD]
    exact el_op (ee_of_el (el_lst (ed_cons ee_int ed_nil))) (ee_var rfl) (rol_rep (.dat _) (by omega) (by rw [Int.toNat_natCast]; show 1 * n ≤ 1000000; omega) (by omega))
  refine ts_seq (ts_for (ds := (ps.reverse).map pD) (S0 := ⟨[.dat (.int (n : Int)), .dat (.tuple (ps.map pD)), .own 0, .un, .un], [.lst ((List.replicate n 0).map nD)]⟩) ?_ (fun i S => ∃ a b, S = ⟨[.dat (.int (n : Int)), .dat (.tuple (ps.map pD)), .own 0, a, b], [.lst (((ps.reverse.take i).foldl stepA (List.replicate n 0)).map nD)]⟩) ⟨.un, .un, rfl⟩ ?_ ?_)
  · rw [List.map_reverse]
    first | exact ei_tup (ee_revT (ee_var rfl)) | exact ei_back (ee_var rfl)
  · rintro i d S' hd ⟨a, b, rfl⟩
    obtain ⟨x, hx, rfl⟩ := pD_at hd
    have hxm := hok x (List.mem_reverse.mp (List.mem_of_getElem? hx))
    have hlen : ((ps.reverse.take i).foldl stepA (List.replicate n 0)).length = n := by
      rw [fold_len n, List.length_replicate]
    rw [take_snoc hx, List.foldl_append]
    generalize (ps.reverse.take i).foldl stepA (List.replicate n 0) = L at hlen
    refine ⟨_, eg_tup (egs_cons eg_name (egs_cons eg_name egs_nil)), ts_asgG (d := .int ((L.getD x.1 0 ||| 2 ^ x.2 ||| L.getD x.2 0 : Nat) : Int)) (S1 := ⟨[.dat (.int (n : Int)), .dat (.tuple (ps.map pD)), .own 0, .dat (.int (x.1 : Int)), .dat (.int (x.2 : Int))], [.lst (L.map nD)]⟩) (ee_op (ee_op (ee_op (ee_var rfl) (ee_var rfl) (ro_ixL (.own rfl) (nD_at (by omega)))) (ee_op ee_int (ee_var rfl) (ro_shl1 (pow_ok (by omega)))) ro_bor) (ee_op (ee_var rfl) (ee_var rfl) (ro_ixL (.own rfl) (nD_at (by omega)))) ro_bor) (egh_sub (k := 0) (ds := L.map nD) (n := x.1) (ee_var rfl) (ee_var rfl) rfl ?_) ⟨.dat (.int (x.1 : Int)), .dat (.int (x.2 : Int)), ?_⟩⟩
    · rw [List.length_map]
      exact ixN_nat (by omega)
    · show (⟨_, [.lst ((L.map nD).set x.1 (.int ((L.getD x.1 0 ||| 2 ^ x.2 ||| L.getD x.2 0 : Nat) : Int)))]⟩ : SS) = _
      rw [Nat.or_assoc, show (PyData.int ((L.getD x.1 0 ||| (2 ^ x.2 ||| L.getD x.2 0) : Nat) : Int)) = nD (L.getD x.1 0 ||| (2 ^ x.2 ||| L.getD x.2 0)) from rfl, ← List.map_set]
      rfl
  · rintro S' ⟨a, b, rfl⟩
    rw [List.length_map, List.take_length, ← above_fold]
    exact ts_ret (ee_frz (ee_var rfl) rfl) ⟨rfl, List.nil_prefix⟩
/-! ### pairs by bits -/
def R_prs : FR := fun as ob r ob' => ∃ L : List Nat, as = [.dat (.list (L.map nD))] ∧ L.length ≤ 100 ∧ ob = [] ∧ r = .dat (.tuple ((prs L.length fun p q => (L.getD p 0).testBit q).map pD)) ∧ ob' = []
theorem outL_prs {n : Nat} {B : Nat → Nat → Bool} {p : PyData → PyData → Bool} (h : ∀ a b, a < n → b < n → p (nD a) (nD b) = B a b) : outL (fun _ => rngD 0 n) p (fun d e => .tuple [d, e]) (rngD 0 n) = (prs n B).map pD := by
  unfold outL prs
  rw [rngD_nD]
  have e : ∀ l : List Nat, (∀ a ∈ l, a < n) → ((l.map nD).flatMap fun d => (((List.range n).map nD).filter (p d)).map fun e => PyData.tuple [d, e]) = (l.flatMap fun a => ((List.range n).filter (B a)).map fun q => (a, q)).map pD := fun l => by
    induction l with
    | nil => intro _; rfl
    | cons a l ih =>
      intro hl
      rw [List.map_cons, List.flatMap_cons, List.flatMap_cons, List.map_append, ih fun x hx => hl x (List.mem_cons_of_mem _ hx)]
      rw [List.filter_map, List.filter_congr (p := p (nD a) ∘ nD) (q := B a) fun q hq => h a q (hl a List.mem_cons_self) (List.mem_range.mp hq), List.map_map, List.map_map]
      rfl
  exact e _ fun a ha => List.mem_range.mp ha
def tI (d : PyData) : Nat := (toI d).toNat
theorem tI_nD (a : Nat) : tI (nD a) = a := Int.toNat_natCast a
theorem sc_pairs : FnScope ["above", "places", "p", "q"] ["above"] (defScope s_pairs) := ⟨rfl, rfl, rfl, by decide +kernel, rfl, by decide +kernel, by decide +kernel⟩
theorem ok_pairs (D : Df K mg "_pairs" s_pairs ["above"]) (B : Bi mg) : FnG P w K mg base CX0 1 D.f D.fd ["above"] (spD K 1 R_prs) := by
  refine okG D.F sc_pairs (fun vs H Q E h => h.1) (fun cdv A outer s H vs Q E hr gd h => ?_)
  have hu := huX hr
  refine ⟨_, (pss_cons (ps_set (i := 1) sc_pairs.nd rfl (Or.inr rfl) (pe_callTy cr_range1 (by rfl) B.z_range (by decide +kernel) (pa_cons (pe_callB cb_len (by rfl) B.z_len PySem.boot_len (pa_cons (pv 0) pa_nil)) pa_nil)))
      (pss_one (ps_ret (pe_callTy cb_tuple (by rfl) B.z_tuple (by decide +kernel) (pa_cons (pe_lc2 (own := [("p", 2), ("q", 3)]) (vs1 := [3]) (tt := tYes) (by rfl) sc_pairs.nd (pi_rngV (pv 1)) (blkOk_by (own := [("p", 2), ("q", 3)]) (N := ["above", "places", "p", "q"]) (sc := defScope s_pairs) (by decide +kernel)) (by decide) (fun _ _ _ _ _ => (pg_name (i := 2) sc_pairs.nd rfl (Or.inl rfl))) (fun _ _ _ _ _ => pts_nil) (fun _ _ _ _ _ => (pi_rngV (pv 1))) (fun _ _ _ _ _ => (pg_name (i := 3) sc_pairs.nd rfl (Or.inl rfl))) (fun _ _ _ _ _ => (pts_one (pt_truK K rfl (pe_op op_and (pe_op op_shr (pe_ix (ixK K (R := rIx) ix_seq rfl) (pv 0) (pv 2) (fun _ _ => rfl)) (pv 3)) pe_int)))) (fun _ _ _ _ _ => (pe_tup (pa_cons (pv 2) (pa_cons (pv 3) pa_nil))))) pa_nil))))), ?_⟩
  refine body_of h (by decide) fun as ob r ob' hR hl => ?_
  obtain ⟨L, rfl, hn, rfl, rfl, rfl⟩ := hR
  refine ts_seq (ts_asg (ee_cb (ea_cons (ee_cb (ea_cons (ee_var rfl) ea_nil) (rc_lenL (.dat _))) ea_nil) rc_rng1) ?_)
  rw [List.length_map]
  refine ts_ret (S1 := ⟨[.dat (.list (L.map nD)), .rng 0 (L.length : Int), .un, .un], []⟩) (ee_cb (ea_cons (ee_of_el ?_) ea_nil) (rc_tupL (.dat _))) ⟨rfl, rfl⟩
  rw [← outL_prs (p := fun d e => (L.getD (tI d) 0).testBit (tI e)) fun a b ha hb => by rw [tI_nD, tI_nD]]
  refine el_lc2 (S0 := ⟨[.dat (.list (L.map nD)), .rng 0 (L.length : Int), .un, .un], []⟩) (ds := rngD 0 L.length) (fun _ => rngD 0 L.length) _ _ (ei_rngV (lo := 0) (hi := (L.length : Int)) (ee_var rfl) (by omega)) ?_ fun i d hd => ?_
  · rw [outL_prs (B := fun p q => (L.getD p 0).testBit q) fun a b ha hb => by rw [tI_nD, tI_nD], List.length_map]
    have h1 := prs_len L.length fun p q => (L.getD p 0).testBit q
    have h2 : L.length * L.length ≤ 100 * 100 := Nat.mul_le_mul hn hn
    omega
  · rw [rngD_nD] at hd
    obtain ⟨a, ha, rfl⟩ := map_at hd
    have ha' := List.mem_range.mp (List.mem_of_getElem? ha)
    refine ⟨_, egc_name (by decide), rfl, ei_rngV (lo := 0) (hi := (L.length : Int)) (ee_var rfl) (by omega), fun j e he => ?_⟩
    rw [rngD_nD] at he
    obtain ⟨b, hb, rfl⟩ := map_at he
    have hb' := List.mem_range.mp (List.mem_of_getElem? hb)
    refine ⟨_, _, egc_name (by decide), et_eq (et_truI (ee_op (ee_op (ee_op (ee_var rfl) (ee_var rfl) (ro_ixL (.dat _) (nD_at ha'))) (ee_var rfl) ro_shr) ee_int (ro_band (b := 1)))) ?_, rfl, fun _ => ⟨_, ee_tup (ed_cons (ee_var rfl) (ed_cons (ee_var rfl) ed_nil)), rfl⟩⟩
    show ((((L.getD a 0) >>> b &&& 1 : Nat) : Int) != 0) = _
    rw [bit_of, tI_nD, tI_nD]
def R_closed : FR := fun as ob r ob' => ∃ (n : Nat) (ps : List Pr), as = [.dat (.int (n : Int)), .dat (.tuple (ps.map pD))] ∧ n ≤ 100 ∧ ps.length ≤ 10000 ∧ (∀ x ∈ ps, x.1 < x.2 ∧ x.2 < n) ∧ ob = [] ∧ r = .dat (.tuple ((cloN n ps).map pD)) ∧ ob' = []
theorem scclosed : FnScope ["n", "order"] ["n", "order"] (defScope sclosed) := ⟨rfl, rfl, rfl, by decide +kernel, rfl, by decide +kernel, by decide +kernel⟩
theorem okclosed (D : Df K mg "closed" sclosed ["n", "order"]) (B : Bi mg) (D_places_above : Df K mg "_places_above" s_places_above ["n", "order"]) (D_pairs : Df K mg "_pairs" s_pairs ["above"]) : FnG P w K mg base CX0 2 D.f D.fd ["n", "order"] (spD K 2 R_closed) := by
  have ok_places_above : FnG P w K mg base CX0 1 _ _ _ _ := ok_places_above D_places_above B
  have ok_pairs : FnG P w K mg base CX0 1 _ _ _ _ := ok_pairs D_pairs B
  refine okG D.F scclosed (fun vs H Q E h => h.1) (fun cdv A outer s H vs Q E hr gd h => ?_)
  have hu := huX hr
  refine ⟨_, (pss_one (ps_ret (pe_callG (ok_pairs) (hr.mono (by decide)) gd (by rfl) D_pairs.m D_pairs.F.kp D_pairs.b .nil pass0 (pa_cons (pe_callG (ok_places_above) (hr.mono (by decide)) gd (by rfl) D_places_above.m D_places_above.F.kp D_places_above.b .nil pass0 (pa_cons (pv 0) (pa_cons (pv 1) pa_nil))) pa_nil)))), ?_⟩
  refine body_of h (by decide) fun as ob r ob' hR hl => ?_
  obtain ⟨n, ps, rfl, hn, hz, hok, rfl, rfl, rfl⟩ := hR
  have ho := aboveN_len n ps
  refine ts_ret (ee_callD (ed_cons (ee_callD (ed_cons (ee_var rfl) (ed_cons (ee_var rfl) ed_nil)) rfl ⟨n, ps, rfl, hn, hz, hok, rfl, rfl, rfl⟩) ed_nil) rfl ⟨aboveN n ps, rfl, by omega, rfl, ?_, rfl⟩) ⟨rfl, rfl⟩
  rw [ho]
  rfl
def furN (L : List Nat) (p k : Nat) : Nat := (List.range k).foldl (fun acc j => if (L.getD p 0).testBit (p + 1 + j) = true then acc ||| L.getD (p + 1 + j) 0 else acc) 0
theorem furN_succ (L : List Nat) (p k : Nat) : furN L p (k + 1) = if (L.getD p 0).testBit (p + 1 + k) = true then furN L p k ||| L.getD (p + 1 + k) 0 else furN L p k := by
  unfold furN
  rw [List.range_succ, List.foldl_append]
  rfl
theorem furN_bit (L : List Nat) (p r : Nat) : ∀ k, (furN L p k).testBit r = true ↔ ∃ j, j < k ∧ (L.getD p 0).testBit (p + 1 + j) = true ∧ (L.getD (p + 1 + j) 0).testBit r = true
  | 0 => by
    constructor
    · intro h
      unfold furN at h
      rw [List.range_zero, List.foldl_nil, Nat.zero_testBit] at h
      cases h
    · rintro ⟨j, h, _⟩
      omega
  | k + 1 => by
    rw [furN_succ]
    constructor
    · intro h
      split at h
      · rename_i hb
        rw [Nat.testBit_or, Bool.or_eq_true, furN_bit L p r k] at h
        rcases h with ⟨j, h1, h2⟩ | h
        · exact ⟨j, by omega, h2⟩
        · exact ⟨k, by omega, hb, h⟩
      · rw [furN_bit L p r k] at h
        obtain ⟨j, h1, h2⟩ := h
        exact ⟨j, by omega, h2⟩
    · rintro ⟨j, h1, h2, h3⟩
      by_cases e : j = k
      · subst e
        rw [if_pos h2, Nat.testBit_or, h3, Bool.or_true]
      · have := (furN_bit L p r k).mpr ⟨j, by omega, h2, h3⟩
        split
        · rw [Nat.testBit_or, this, Bool.true_or]
        · exact this
def nearN (L : List Nat) (k : Nat) : List Nat := (List.range k).map fun p => dropN (L.getD p 0) (furN L p (L.length - (p + 1)))
theorem nearN_succ (L : List Nat) (k : Nat) : nearN L (k + 1) = nearN L k ++ [dropN (L.getD k 0) (furN L k (L.length - (k + 1)))] := by
  unfold nearN
  rw [List.range_succ, List.map_append]
  rfl
theorem nearN_len (L : List Nat) (k : Nat) : (nearN L k).length = k := by
  unfold nearN
  rw [List.length_map, List.length_range]
theorem near_least {n : Nat} {ps : List Pr} (o : Ord n ps) : (prs n fun p q => ((nearN (aboveN n ps) n).getD p 0).testBit q) = lstN n ps := by
  refine prs_congr fun a b ha hb => ?_
  have e : (nearN (aboveN n ps) n).getD a 0 = dropN ((aboveN n ps).getD a 0) (furN (aboveN n ps) a (n - (a + 1))) := by
    unfold nearN
    rw [List.getD_eq_getElem?_getD, List.getElem?_map, List.getElem?_range ha, aboveN_len]
    rfl
  rw [e, drop_bit]
  show (bt n ps a b && _) = (bt n ps a b && _)
  congr 2
  rw [Bool.eq_iff_iff, furN_bit, parts_iff o ha]
  constructor
  · rintro ⟨j, h1, h2, h3⟩
    exact ⟨a + 1 + j, (bt_pth o ha).mp h2, (bt_pth o (by omega)).mp h3⟩
  · rintro ⟨r, h1, h2⟩
    have l1 := h1.lt o.ok
    have e : a + 1 + (r - (a + 1)) = r := by omega
    refine ⟨r - (a + 1), by omega, ?_, ?_⟩
    · rw [e]
      exact (bt_pth o ha).mpr h1
    · rw [e]
      exact (bt_pth o (by omega)).mpr h2
def R_least : FR := fun as ob r ob' => ∃ (n : Nat) (ps : List Pr), as = [.dat (.int (n : Int)), .dat (.tuple (ps.map pD))] ∧ n ≤ 100 ∧ ps.length ≤ 10000 ∧ Ord n ps ∧ ob = [] ∧ r = .dat (.tuple ((lstN n ps).map pD)) ∧ ob' = []
theorem scleast_order : FnScope ["n", "order", "above", "nearest", "p", "further", "q"] ["n", "order"] (defScope sleast_order) := ⟨rfl, rfl, rfl, by decide +kernel, rfl, by decide +kernel, by decide +kernel⟩
theorem okleast_order (D : Df K mg "least_order" sleast_order ["n", "order"]) (B : Bi mg) (D_places_above : Df K mg "_places_above" s_places_above ["n", "order"]) (D_pairs : Df K mg "_pairs" s_pairs ["above"]) : FnG P w K mg base CX0 2 D.f D.fd ["n", "order"] (spD K 2 R_least) := by
  have ok_places_above : FnG P w K mg base CX0 1 _ _ _ _ := ok_places_above D_places_above B
  have ok_pairs : FnG P w K mg base CX0 1 _ _ _ _ := ok_pairs D_pairs B
  refine okG D.F scleast_order (fun vs H Q E h => h.1) (fun cdv A outer s H vs Q E hr gd h => ?_)
  have hu := huX hr
  refine ⟨_, (pss_cons (ps_set (i := 2) scleast_order.nd rfl (Or.inl rfl) (pe_callG (ok_places_above) (hr.mono (by decide)) gd (by rfl) D_places_above.m D_places_above.F.kp D_places_above.b .nil pass0 (pa_cons (pv 0) (pa_cons (pv 1) pa_nil))))
      (pss_cons (ps_set (i := 3) scleast_order.nd rfl (Or.inl rfl) (pe_lst pa_nil))
      (pss_cons (ps_for PassesOwn.never rfl (pi_range1 (by rfl) B.z_range (pa_cons (pv 0) pa_nil)) (pg_name (i := 4) scleast_order.nd rfl (Or.inl rfl))
        (pss_cons (ps_set (i := 5) scleast_order.nd rfl (Or.inl rfl) pe_int)
        (pss_cons (ps_for PassesOwn.never rfl (pi_range2 (by rfl) B.z_range (pa_cons (pe_op op_plus (pv 4) pe_int) (pa_cons (pv 0) pa_nil))) (pg_name (i := 6) scleast_order.nd rfl (Or.inl rfl))
          (pss_one (ps_if (pt_tru (pe_op op_and (pe_op op_shr (pe_ix ix_seq (pv 2) (pv 4) (fun _ _ => rfl)) (pv 6)) pe_int)) (pss_one (ps_aug (i := 5) scleast_order.nd rfl (Or.inl rfl) (pe_ix ix_seq (pv 2) (pv 6) (fun _ _ => rfl)) ip_or)) pss_nil)))
        (pss_one (ps_expr (pe_bm PySem.F.plainAttrs_list PySem.F.slot_list_append PySem.F.type_list_append mt_append (pv 3) (pa_cons (pe_op op_and (pe_ix ix_seq (pv 2) (pv 4) (fun _ _ => rfl)) (pe_un un_inv (pv 5))) pa_nil)))))))
      (pss_one (ps_ret (pe_callG (ok_pairs) (hr.mono (by decide)) gd (by rfl) D_pairs.m D_pairs.F.kp D_pairs.b .nil pass0 (pa_cons (pv 3) pa_nil))))))), ?_⟩
  refine body_ofG h (by decide) (fun as ob r ob' hR => ?_) fun as ob r ob' hR hl => ?_
  · obtain ⟨n, ps, rfl, _, _, _, rfl, rfl, rfl⟩ := hR
    exact ⟨Nat.le_refl _, fun _ z => by cases z⟩
  obtain ⟨n, ps, rfl, hn, hz, hok, rfl, rfl, rfl⟩ := hR
  rw [← near_least hok]
  have ho := aboveN_len n ps
  refine ts_seq (ts_asg (ee_callD (d := .list ((aboveN n ps).map nD)) (ed_cons (ee_var rfl) (ed_cons (ee_var rfl) ed_nil)) rfl ⟨n, ps, rfl, hn, hz, hok.ok, rfl, rfl, rfl⟩) ?_)
  show Ts K _ ⟨[.dat (.int (n : Int)), .dat (.tuple (ps.map pD)), .dat (.list ((aboveN n ps).map nD)), .un, .un, .un, .un], []⟩ _
  generalize aboveN n ps = L at ho
  subst ho
  refine ts_seq (ts_asg (eo_of_el (el_lst ed_nil)) (ts_seq (ts_for (ds := rngD 0 L.length) (ei_rng1 (n := (L.length : Int)) (ed_cons (ee_var rfl) ed_nil) (by omega)) (fun i S => ∃ a b c, S = ⟨[.dat (.int (L.length : Int)), .dat (.tuple (ps.map pD)), .dat (.list (L.map nD)), .own 0, a, b, c], [.lst ((nearN L i).map nD)]⟩) ⟨.un, .un, .un, rfl⟩ ?_ ?_)))
  · rintro i d S' hd ⟨a, b, c, rfl⟩
    rw [rngD_nD] at hd
    obtain ⟨p, hp, rfl⟩ := map_at hd
    have hi : i < L.length := by
      have := (List.getElem?_eq_some_iff.mp hp).1
      rw [List.length_range] at this
      exact this
    rw [List.getElem?_range hi] at hp
    obtain rfl := Option.some.inj hp
    refine ⟨_, eg_name, ts_seq (ts_asg ee_int (ts_seq (ts_for (ds := rngD ((i : Int) + 1) (L.length - (i + 1))) (S0 := ⟨[.dat (.int (L.length : Int)), .dat (.tuple (ps.map pD)), .dat (.list (L.map nD)), .own 0, .dat (nD i), .dat (.int 0), c], [.lst ((nearN L i).map nD)]⟩) ?_ (fun j S => ∃ c, S = ⟨[.dat (.int (L.length : Int)), .dat (.tuple (ps.map pD)), .dat (.list (L.map nD)), .own 0, .dat (nD i), .dat (nD (furN L i j)), c], [.lst ((nearN L i).map nD)]⟩) ⟨c, rfl⟩ ?_ ?_)))⟩
    · have := ei_rng2 (K := K) (S := ⟨[.dat (.int (L.length : Int)), .dat (.tuple (ps.map pD)), .dat (.list (L.map nD)), .own 0, .dat (nD i), .dat (.int 0), c], [.lst ((nearN L i).map nD)]⟩) (lo := (i : Int) + 1) (n := (L.length : Int)) (ed_cons (ee_op (ee_var (i := 4) rfl) ee_int ro_add) (ed_cons (ee_var (i := 0) rfl) ed_nil)) (by omega)
      rw [show ((L.length : Int) - ((i : Int) + 1)).toNat = L.length - (i + 1) by omega] at this
      exact this
    · rintro j d S' hd ⟨c, rfl⟩
      obtain ⟨hj, rfl⟩ := rngD_get hd
      have e1 : (i : Int) + 1 + (j : Int) = ((i + 1 + j : Nat) : Int) := by omega
      rw [e1]
      refine ⟨_, eg_name, ts_if (b := (L.getD i 0).testBit (i + 1 + j)) (et_eq (et_truI (ee_op (ee_op (ee_op (ee_var rfl) (ee_var rfl) (ro_ixL (.dat _) (nD_at hi))) (ee_var rfl) ro_shr) ee_int (ro_band (b := 1)))) (bit_of _ _)) (fun hb => ?_) fun hb => ?_⟩
      · refine ts_aug (f := fun i j => Builtin.bitOr i j) (j := ((furN L i j : Nat) : Int)) (l := ((L.getD (i + 1 + j) 0 : Nat) : Int)) rfl (ee_op (ee_var rfl) (ee_var rfl) (ro_ixL (.dat _) (nD_at (by omega)))) ⟨.dat (nD (i + 1 + j)), ?_⟩
        rw [bor_nat, furN_succ, if_pos hb]
        rfl
      · refine ts_next ⟨.dat (nD (i + 1 + j)), ?_⟩
        rw [furN_succ, if_neg (by rw [hb]; exact Bool.false_ne_true)]
        rfl
    · rintro S' ⟨c, rfl⟩
      rw [rngD_len]
      refine ts_drop (ee_append (ds := (nearN L i).map nD) (S1 := ⟨[.dat (.int (L.length : Int)), .dat (.tuple (ps.map pD)), .dat (.list (L.map nD)), .own 0, .dat (nD i), .dat (nD (furN L i (L.length - (i + 1)))), c], [.lst ((nearN L i).map nD)]⟩) (ee_var rfl) (ee_op (ee_op (ee_var rfl) (ee_var rfl) (ro_ixL (.dat _) (nD_at hi))) (ee_un (ee_var rfl) ru_inv) ro_bdrop) ⟨_, rfl⟩ rfl ?_) ⟨.dat (nD i), .dat (nD (furN L i (L.length - (i + 1)))), c, ?_⟩
      · rw [List.length_map, nearN_len]
        omega
      · rw [nearN_succ, List.map_append]
        rfl
  · rintro S' ⟨a, b, c, rfl⟩
    rw [rngD_len]
    refine ts_ret (ee_callD (ed_cons (ee_frz (ee_var rfl) rfl) ed_nil) rfl ⟨nearN L L.length, rfl, by rw [nearN_len]; omega, rfl, ?_, rfl⟩) ⟨rfl, List.nil_prefix⟩
    rw [nearN_len]
end
end K04

set_option maxRecDepth 100000
set_option maxHeartbeats 4000000
namespace K04
open PySem PySem.Spec PyProof.Rows L2 DL
/-! ### rows that are let -/
theorem rp_bools {K : PySem.W.Frag} {Hf : Hp} : ∀ {bs : List Bool} {xs : List V}, RpA K Hf xs (bs.map PyData.bool) → xs = bs.map V.bl
  | [], _, .nil => rfl
  | b :: bs, _, .cons h t => by
    cases h
    rw [rp_bools t]
    rfl
theorem rc_all {K : PySem.W.Frag} {S : SS} {bs : List Bool} : Rc K (rAll K) [.dat (.list (bs.map PyData.bool))] S (.dat (.bool (bs.all id))) S := fun c Hf H σ fp ok vs r Q q => by
  obtain ⟨v, rfl, rv⟩ := r.one
  cases rv with
  | lst h1 h2 => exact ⟨_, bs, rfl, .inl (.inl (by rw [← rp_bools h2]; exact ok.hd.ex _ _ h1)), q _ _ _ _ ok Gr.refl (Rp.bl _)⟩
theorem kI_at {row : List Int} {i : Nat} (h : i < row.length) : atI (row.map PyData.int) (i : Int) = some (.int (row.getD i 0)) := atI_nat (by
  rw [List.getElem?_map, List.getElem?_eq_getElem h, List.getD_eq_getElem?_getD, List.getElem?_eq_getElem h]
  rfl)
def letN (row : List Int) (x : Pr) : Bool := decide (row.getD x.1 0 ≤ row.getD x.2 0)
def letsN (ps : List Pr) (row : List Int) : Bool := ps.all (letN row)
section
variable {P : Program} {w : World} {K : PySem.W.Frag} {mg : Str → Option Value} {base : Heap}
def R_lets : FR := fun as ob r ob' => ∃ (ps : List Pr) (row : List Int), as = [.dat (.tuple (ps.map pD)), .dat (.tuple (row.map PyData.int))] ∧ ps.length ≤ 10000 ∧ (∀ x ∈ ps, x.1 < x.2 ∧ x.2 < row.length) ∧ ob = [] ∧ r = .dat (.bool (letsN ps row)) ∧ ob' = []
theorem sclets : FnScope ["order", "row", "p", "q"] ["order", "row"] (defScope slets) := ⟨rfl, rfl, rfl, by decide +kernel, rfl, by decide +kernel, by decide +kernel⟩
theorem oklets (D : Df K mg "lets" slets ["order", "row"]) (B : Bi mg) : FnG P w K mg base CX0 1 D.f D.fd ["order", "row"] (spD K 2 R_lets) := by
  refine okG D.F sclets (fun vs H Q E h => h.1) (fun cdv A outer s H vs Q E hr gd h => ?_)
  have hu := huX hr
  refine ⟨_, (pss_one (ps_ret (pe_callB (cr_all rfl) (by rfl) B.z_all (by decide +kernel) (pa_cons (pe_lc (own := [("p", 2), ("q", 3)]) (tt := tYes) (by rfl) sclets.nd (pi_tup (pv 0)) (blkOk_by (own := [("p", 2), ("q", 3)]) (N := ["order", "row", "p", "q"]) (sc := defScope slets) (by decide +kernel)) (fun _ _ _ _ _ => (pg_tupK K (n := 2) rfl rfl (pgs_cons (pg_name (i := 2) sclets.nd rfl (Or.inl rfl)) (pgs_cons (pg_name (i := 3) sclets.nd rfl (Or.inl rfl)) pgs_nil)))) (fun _ _ _ _ _ => pts_nil) (fun _ _ _ _ _ => (pe_cmpR (opK K (R := rLeU) (op_leU hu) rfl) (pe_ix (ixK K (R := rIx) ix_seq rfl) (pv 1) (pv 2) (fun _ _ => rfl)) (pe_ix (ixK K (R := rIx) ix_seq rfl) (pv 1) (pv 3) (fun _ _ => rfl)) (nomark _)))) pa_nil)))), ?_⟩
  refine body_of h (by decide) fun as ob r ob' hR hl => ?_
  obtain ⟨ps, row, rfl, hz, hok, rfl, rfl, rfl⟩ := hR
  have e : letsN ps row = (ps.map (letN row)).all id := by
    rw [List.all_map]
    rfl
  rw [e]
  refine ts_ret (S1 := ⟨[.dat (.tuple (ps.map pD)), .dat (.tuple (row.map PyData.int)), .un, .un], []⟩) (ee_cb (ea_cons (ee_of_el ?_) ea_nil) rc_all) ⟨rfl, rfl⟩
  rw [List.map_map]
  refine el_lcmA (dA := pD) (lst := ps) (ei_tup (ee_var rfl)) (by omega) fun x hx => ⟨_, egc_tup (egcs_cons (egc_name (by decide)) (egcs_cons (egc_name (by decide)) egcs_nil)), rfl, _, ee_op (ee_op (ee_var rfl) (ee_var rfl) (ro_ixT (kI_at ?_))) (ee_op (ee_var rfl) (ee_var rfl) (ro_ixT (kI_at ?_))) ro_le, rfl⟩
  · have := hok x hx
    omega
  · exact (hok x hx).2
end
end K04

set_option maxRecDepth 100000
set_option maxHeartbeats 4000000
namespace K04
open PySem PySem.Spec PyProof.Rows L2 DL
/-! ### rows -/
def rD (row : List Int) : PyData := .tuple (row.map PyData.int)
def rngI (n : Nat) : List Int := (List.range n).map fun (i : Nat) => (0 : Int) + (i : Int)
theorem rngI_len (n : Nat) : (rngI n).length = n := by
  unfold rngI
  rw [List.length_map, List.length_range]
theorem rngD_map (n : Nat) : rngD 0 n = (rngI n).map PyData.int := by
  unfold rngD rngI
  rw [List.map_map]
  rfl
theorem rngI_mem {n : Nat} {p : Int} (h : p ∈ rngI n) : 0 ≤ p ∧ p < n := by
  unfold rngI at h
  obtain ⟨i, h1, h2⟩ := List.mem_map.mp h
  have := List.mem_range.mp h1
  omega
theorem mapI (f : Int → Int) (ns : List Int) : (ns.map PyData.int).map (fun d => PyData.int (f (toI d))) = (ns.map f).map PyData.int := by
  rw [List.map_map, List.map_map]
  rfl
/-! ### things mixed by draws -/
def mixedOf {α : Type} (z : α) : Nat → List α → Well → List α × Well
  | 0, _, W => ([], W)
  | k + 1, xs, W => (xs.getD (draw xs.length W).1.toNat z :: (mixedOf z k (xs.eraseIdx (draw xs.length W).1.toNat) (draw xs.length W).2).1, (mixedOf z k (xs.eraseIdx (draw xs.length W).1.toNat) (draw xs.length W).2).2)
theorem erase_map {α β : Type} (f : α → β) : ∀ (xs : List α) (i : Nat), (xs.map f).eraseIdx i = (xs.eraseIdx i).map f
  | [], _ => rfl
  | _ :: _, 0 => rfl
  | x :: xs, i + 1 => congrArg (f x :: ·) (erase_map f xs i)
theorem mixed_map {α β : Type} (z : α) (f : α → β) : ∀ (k : Nat) (xs : List α) (W : Well), mixedOf (f z) k (xs.map f) W = ((mixedOf z k xs W).1.map f, (mixedOf z k xs W).2)
  | 0, _, _ => rfl
  | k + 1, xs, W => by
    have e : ∀ i, (xs.map f).getD i (f z) = f (xs.getD i z) := fun i => by
      rw [List.getD_eq_getElem?_getD, List.getD_eq_getElem?_getD, List.getElem?_map]
      cases xs[i]? <;> rfl
    have e2 : ∀ i, (xs.map f).eraseIdx i = (xs.eraseIdx i).map f := fun i => erase_map f xs i
    show (_ :: _, _) = (f _ :: _, _)
    rw [List.length_map, e, e2, mixed_map z f k]
    rfl
theorem mixed_deep {α : Type} (z : α) : ∀ (k : Nat) (xs : List α) (W : Well), W.deep.length ≤ 100 → (mixedOf z k xs W).2.deep.length ≤ 100
  | 0, _, _, h => h
  | k + 1, xs, W, h => mixed_deep z k _ _ (draw_deep _ _ h)
theorem draw_nat {n : Nat} (W : Well) (h : 0 < n) : (draw (n : Int) W).1.toNat < n := by
  have h1 := draw_lo (n : Int) W
  have h2 := draw_hi (m := (n : Int)) W (by omega)
  omega
theorem perm_erase {α : Type} (z : α) : ∀ {xs : List α} {i : Nat}, i < xs.length → (xs.getD i z :: xs.eraseIdx i).Perm xs
  | x :: xs, 0, _ => List.Perm.refl _
  | x :: xs, i + 1, h => by
    have ih := perm_erase z (xs := xs) (i := i) (by simpa using h)
    show (xs.getD i z :: x :: xs.eraseIdx i).Perm (x :: xs)
    exact (List.Perm.swap x (xs.getD i z) _).trans (ih.cons x)
theorem erase_len {α : Type} {xs : List α} {i : Nat} (h : i < xs.length) : (xs.eraseIdx i).length = xs.length - 1 := List.length_eraseIdx_of_lt h
theorem mixed_perm {α : Type} (z : α) : ∀ (k : Nat) (xs : List α) (W : Well), xs.length = k → (mixedOf z k xs W).1.Perm xs
  | 0, xs, _, h => by
    rw [List.length_eq_zero_iff.mp h]
    exact List.Perm.refl _
  | k + 1, xs, W, h => by
    have hi := draw_nat (n := xs.length) W (by omega)
    exact ((mixed_perm z k _ _ (by rw [erase_len hi, h]; rfl)).cons _).trans (perm_erase z hi)
section
variable {P : Program} {w : World} {K : PySem.W.Frag} {mg : Str → Option Value} {base : Heap}
def R_mixed : FR := fun as ob r ob' => ∃ W ds z, as = [.own 0, .dat (.list ds)] ∧ ob = [W.oo] ∧ W.deep.length ≤ 100 ∧ ds.length ≤ 1000 ∧ (∀ x ∈ ds, Fl 5 x) ∧ r = .dat (.list (mixedOf z ds.length ds W).1) ∧ ob' = [(mixedOf z ds.length ds W).2.oo]
theorem sc_law_mixed : FnScope ["well", "items", "rest", "found"] ["well", "items"] (defScope s_law_mixed) := ⟨rfl, rfl, rfl, by decide +kernel, rfl, by decide +kernel, by decide +kernel⟩
theorem ok_law_mixed (D : Df K mg "_law_mixed" s_law_mixed ["well", "items"]) (B : Bi mg) (D_law_draw : Df K mg "_law_draw" s_law_draw ["well", "many"]) : FnG P w K mg base CX0 2 D.f D.fd ["well", "items"] (spD K 2 R_mixed) := by
  have ok_law_draw : FnG P w K mg base CX0 1 _ _ _ _ := ok_law_draw D_law_draw B
  refine okG D.F sc_law_mixed (fun vs H Q E h => h.1) (fun cdv A outer s H vs Q E hr gd h => ?_)
  have hu := huX hr
  refine ⟨_, (pss_cons (ps_par (i := 2) (j := 3) (by rfl) sc_law_mixed.nd rfl rfl (by decide) rfl rfl (pa_cons (pe_callTy cb_list (by rfl) B.z_list (by decide +kernel) (pa_cons (pv 1) pa_nil)) (pa_cons (pe_lst pa_nil) pa_nil)) (by rfl))
      (pss_cons (ps_while PassesOwn.never (pt_cmpR (op_neU hu) (pv 2) (pe_lst pa_nil) (nomark _))
        (pss_one (ps_expr (pe_bm PySem.F.plainAttrs_list PySem.F.slot_list_append PySem.F.type_list_append mt_append (pv 3) (pa_cons (pe_bm PySem.F.plainAttrs_list PySem.F.slot_list_pop PySem.F.type_list_pop mt_popAt (pv 2) (pa_cons (pe_callG (ok_law_draw) (hr.mono (by decide)) gd (by rfl) D_law_draw.m D_law_draw.F.kp D_law_draw.b .nil pass0 (pa_cons (pv 0) (pa_cons (pe_callB cb_len (by rfl) B.z_len PySem.boot_len (pa_cons (pv 2) pa_nil)) pa_nil))) pa_nil)) pa_nil)))))
      (pss_one (ps_ret (pv 3))))), ?_⟩
  refine body_ofG h (by decide) (fun as ob r ob' hR => ?_) fun as ob r ob' hR hl => ?_
  · obtain ⟨W, ds, z, rfl, rfl, _, _, _, rfl, rfl⟩ := hR
    exact ⟨Nat.le_refl _, fun _ z => by cases z⟩
  obtain ⟨W, ds, z, rfl, rfl, hd, hz, hfl, rfl, rfl⟩ := hR
  refine ts_seq (ts_par (x := .own 1) (y := .own 2) (ea_cons (eo_of_el (el_cb (ea_cons (ee_var rfl) ea_nil) (rcl_listL (.dat _)))) (ea_cons (eo_of_el (el_lst ed_nil)) ea_nil)) ?_)
  refine ts_seq (ts_while (fun m S => ∃ rest found W', S = ⟨[.own 0, .dat (.list ds), .own 1, .own 2], [Well.oo W', .lst rest, .lst found]⟩ ∧ rest.length = m ∧ W'.deep.length ≤ 100 ∧ found.length + m ≤ 1000 ∧ (∀ x ∈ rest, Fl 5 x) ∧ found ++ (mixedOf z m rest W').1 = (mixedOf z ds.length ds W).1 ∧ (mixedOf z m rest W').2 = (mixedOf z ds.length ds W).2) ds.length ⟨ds, [], W, rfl, rfl, hd, by rw [List.length_nil]; omega, hfl, rfl, rfl⟩ ?_)
  rintro m S' ⟨rest, found, W', rfl, rfl, hd', hz', hfl', e1, e2⟩
  refine ⟨!rest.isEmpty, _, et_test (ee_op (ee_var rfl) (ee_of_el (el_lst ed_nil)) (ro_neNil (.own rfl) (.dat _) hfl')), fun hb => ?_, fun hb => ?_⟩
  · obtain ⟨k, hk⟩ : ∃ k, rest.length = k + 1 := by
      cases rest with
      | nil => cases hb
      | cons a b => exact ⟨b.length, rfl⟩
    have hi := draw_nat (n := rest.length) W' (by omega)
    have hlo := draw_lo (rest.length : Int) W'
    have hx : rest[(draw (rest.length : Int) W').1.toNat]? = some (rest.getD (draw (rest.length : Int) W').1.toNat z) := by
      rw [List.getD_eq_getElem?_getD, List.getElem?_eq_getElem hi]
      rfl
    have ee : mixedOf z rest.length rest W' = (rest.getD (draw rest.length W').1.toNat z :: (mixedOf z k (rest.eraseIdx (draw rest.length W').1.toNat) (draw rest.length W').2).1, (mixedOf z k (rest.eraseIdx (draw rest.length W').1.toNat) (draw rest.length W').2).2) := by
      conv => lhs; rw [hk]
      rfl
    rw [ee] at e1 e2
    have el := erase_len hi
    have d' := draw_deep (rest.length : Int) W' hd'
    refine ts_drop (ee_append (ds := found) (k := 2) (ee_var rfl) (ee_popAt (k := 1) (ds := rest) (n := (draw (rest.length : Int) W').1.toNat) (ee_var rfl) (ee_dr (W := W') (ea_cons (ee_var rfl) (ea_cons (ee_cb (ea_cons (ee_var rfl) ea_nil) (rc_lenL (.own rfl))) ea_nil)) rfl (by omega) hd') ⟨_, rfl⟩ rfl ?_ hx (by omega)) ⟨_, rfl⟩ rfl (by omega)) ⟨k, by omega, rest.eraseIdx (draw (rest.length : Int) W').1.toNat, found ++ [rest.getD (draw (rest.length : Int) W').1.toNat z], (draw (rest.length : Int) W').2, rfl, by omega, d', ?_, fun x hx => hfl' x (List.mem_of_mem_eraseIdx hx), ?_, e2⟩
    · unfold ixN
      rw [if_pos (by omega), if_pos (by omega)]
    · rw [List.length_append, List.length_singleton]
      omega
    · rw [List.append_assoc]
      exact e1
  · have hn : rest = [] := by
      cases rest with
      | nil => rfl
      | cons a b => cases hb
    subst hn
    rw [← e1, ← e2]
    refine ts_ret (ee_frz (ee_var rfl) rfl) ⟨?_, [.lst [], .gone], rfl⟩
    rw [show (mixedOf z ([] : List PyData).length [] W').1 = [] from rfl, List.append_nil]
/-! ### lists of draws -/
def mapS (g : Well → Int × Well) : Nat → Well → List Int × Well
  | 0, W => ([], W)
  | k + 1, W => ((mapS g k W).1 ++ [(g (mapS g k W).2).1], (g (mapS g k W).2).2)
theorem mapS_len (g : Well → Int × Well) (W : Well) : ∀ k, (mapS g k W).1.length = k
  | 0 => rfl
  | k + 1 => by
    show ((mapS g k W).1 ++ [_]).length = _
    rw [List.length_append, mapS_len g W k]
    rfl
theorem mapS_deep {g : Well → Int × Well} (hg : ∀ W, W.deep.length ≤ 100 → (g W).2.deep.length ≤ 100) {W : Well} (h : W.deep.length ≤ 100) : ∀ k, (mapS g k W).2.deep.length ≤ 100
  | 0 => h
  | k + 1 => hg _ (mapS_deep hg h k)
theorem mapS_all {g : Well → Int × Well} {p : Int → Prop} (hg : ∀ W, p (g W).1) (W : Well) : ∀ k, ∀ x ∈ (mapS g k W).1, p x
  | 0, x, h => by cases h
  | k + 1, x, h => by
    rcases List.mem_append.mp h with h | h
    · exact mapS_all hg W k x h
    · rw [List.mem_singleton.mp h]
      exact hg _
theorem el_mapS {wi : TI} {tg : TG} {te : TE} {vs : List Nat} {S S0 : SS} {g : Well → Int × Well} {n : Nat} {W : Well} (h : Ei K wi S (rngD 0 n) S0) (ho : S0.ob = [W.oo]) (hn : n ≤ 1000) (hd : W.deep.length ≤ 100) (hg : ∀ W, W.deep.length ≤ 100 → (g W).2.deep.length ≤ 100)
    (hs : ∀ (i : Nat) (W' : Well), i < n → W'.deep.length ≤ 100 → ∃ Sg, Egc K vs tg (.int (0 + (i : Int))) { S0 with ob := [W'.oo], sl := wipeS S0.sl vs } Sg ∧ ∃ S3, Ee K te Sg (.dat (.int (g W').1)) S3 ∧ S3.ob = [(g W').2.oo]) : El K (tLc wi tg tYes te vs) S ((mapS g n W).1.map PyData.int) { S0 with ob := [(mapS g n W).2.oo] } := by
  refine el_lc h (fun i acc ob => acc = (mapS g i W).1.map PyData.int ∧ ob = [(mapS g i W).2.oo]) ⟨rfl, ho⟩ ?_ (by rw [rngD_len]; omega) ?_
  · rintro i d acc ob hdd ⟨rfl, rfl⟩
    obtain ⟨hi, rfl⟩ := rngD_get hdd
    obtain ⟨Sg, a1, S3, a2, a3⟩ := hs i _ hi (mapS_deep hg hd i)
    refine ⟨Sg, true, Sg, a1, et_yes, (fun z => by cases z), fun _ => ⟨_, S3, a2, ?_, a3⟩⟩
    show _ = ((mapS g i W).1 ++ [_]).map PyData.int
    rw [List.map_append]
    rfl
  · rintro acc ob ⟨rfl, rfl⟩
    rw [rngD_len]
    exact ⟨rfl, rfl⟩
def g1L : List Int := [(10 : Int) ^ (12 : Int).toNat, -((10 : Int) ^ (12 : Int).toNat), 0, 1, (10 : Int) ^ (12 : Int).toNat - 1]
def g3L : List Int := [1, -1]
def rowG (way : Int) (W : Well) : Int × Well :=
  if way = 0 then draw 2 W
  else if way = 1 then (g1L.getD (draw 5 W).1.toNat 0, (draw 5 W).2)
  else if way = 3 then (g3L.getD (draw 2 W).1.toNat 0 * (draw ((10 : Int) ^ (12 : Int).toNat + 1) (draw 2 W).2).1, (draw ((10 : Int) ^ (12 : Int).toNat + 1) (draw 2 W).2).2)
  else ((draw (3 + (draw 3 W).1) (draw 3 W).2).1 - 1, (draw (3 + (draw 3 W).1) (draw 3 W).2).2)
def rowOf (n : Nat) (W : Well) : List Int × Well :=
  if (draw 8 W).1 = 2 then mixedOf 0 n (rngI n) (draw 8 W).2
  else (if (draw 8 W).1 = 4 then sortI (mapS (rowG (draw 8 W).1) n (draw 8 W).2).1 else if (draw 8 W).1 = 5 then (sortI (mapS (rowG (draw 8 W).1) n (draw 8 W).2).1).reverse else (mapS (rowG (draw 8 W).1) n (draw 8 W).2).1, (mapS (rowG (draw 8 W).1) n (draw 8 W).2).2)
theorem rowG_deep (way : Int) (W : Well) (h : W.deep.length ≤ 100) : (rowG way W).2.deep.length ≤ 100 := by
  unfold rowG
  split
  · exact draw_deep _ _ h
  split
  · exact draw_deep _ _ h
  split
  · exact draw_deep _ _ (draw_deep _ _ h)
  · exact draw_deep _ _ (draw_deep _ _ h)
theorem big12 : (10 : Int) ^ (12 : Int).toNat = 1000000000000 := by decide +kernel
theorem getD_mem {p : Int → Prop} {l : List Int} {i : Nat} (h : ∀ x ∈ l, p x) (h0 : p 0) : p (l.getD i 0) := by
  rw [List.getD_eq_getElem?_getD]
  by_cases e : i < l.length
  · rw [List.getElem?_eq_getElem e]
    exact h _ (List.getElem_mem e)
  · rw [List.getElem?_eq_none (by omega)]
    exact h0
theorem rowG_key (way : Int) (W : Well) : InKey (rowG way W).1 := by
  unfold rowG InKey
  split
  · have := draw_lo 2 W
    have := draw_hi (m := 2) W (by decide)
    omega
  split
  · refine getD_mem (p := InKey) (l := g1L) (fun x hx => ?_) (by unfold InKey; decide)
    unfold g1L at hx
    rw [big12] at hx
    simp at hx
    unfold InKey
    omega
  split
  · have h1 := draw_lo ((10 : Int) ^ (12 : Int).toNat + 1) (draw 2 W).2
    have h2 := draw_hi (m := (10 : Int) ^ (12 : Int).toNat + 1) (draw 2 W).2 (by rw [big12]; decide)
    have key : ∀ a X : Int, (a = 1 ∨ a = -1 ∨ a = 0) → 0 ≤ X → X < (10 : Int) ^ (12 : Int).toNat + 1 → -1000000000000 ≤ a * X ∧ a * X ≤ 1000000000000 := fun a X e l1 l2 => by
      rw [big12] at l2
      rcases e with e | e | e <;> rw [e] <;> omega
    have h3 : g3L.getD (draw 2 W).1.toNat 0 = 1 ∨ g3L.getD (draw 2 W).1.toNat 0 = -1 ∨ g3L.getD (draw 2 W).1.toNat 0 = 0 := by
      refine getD_mem (p := fun x => x = 1 ∨ x = -1 ∨ x = 0) (l := g3L) (fun x hx => ?_) (.inr (.inr rfl))
      unfold g3L at hx
      simp at hx
      omega
    exact key _ _ h3 h1 h2
  · have := draw_lo 3 W
    have := draw_hi (m := 3) W (by decide)
    have := draw_lo (3 + (draw 3 W).1) (draw 3 W).2
    have := draw_hi (m := 3 + (draw 3 W).1) (draw 3 W).2 (by omega)
    show -1000000000000 ≤ _ - (1 : Int) ∧ _ - (1 : Int) ≤ 1000000000000
    omega
theorem rowOf_len (n : Nat) (W : Well) : (rowOf n W).1.length = n := by
  unfold rowOf
  split
  · rw [(mixed_perm 0 n (rngI n) _ (rngI_len n)).length_eq, rngI_len]
  · show (if _ then _ else _ : List Int).length = _
    split
    · rw [(sortI_perm _).length_eq, mapS_len]
    split
    · rw [List.length_reverse, (sortI_perm _).length_eq, mapS_len]
    · rw [mapS_len]
theorem rowOf_deep (n : Nat) (W : Well) (h : W.deep.length ≤ 100) : (rowOf n W).2.deep.length ≤ 100 := by
  unfold rowOf
  split
  · exact mixed_deep 0 n _ _ (draw_deep _ _ h)
  · exact mapS_deep (rowG_deep _) (draw_deep _ _ h) n
theorem rowOf_key {n : Nat} (hn : n ≤ 1000) (W : Well) : ∀ x ∈ (rowOf n W).1, InKey x := by
  have hm : ∀ way W, ∀ x ∈ (mapS (rowG way) n W).1, InKey x := fun way W => mapS_all (rowG_key way) W n
  unfold rowOf
  split
  · intro x hx
    have := rngI_mem ((mixed_perm 0 n (rngI n) _ (rngI_len n)).subset hx)
    unfold InKey
    omega
  · intro x hx
    have hx : x ∈ (if (draw 8 W).1 = 4 then sortI (mapS (rowG (draw 8 W).1) n (draw 8 W).2).1 else if (draw 8 W).1 = 5 then (sortI (mapS (rowG (draw 8 W).1) n (draw 8 W).2).1).reverse else (mapS (rowG (draw 8 W).1) n (draw 8 W).2).1) := hx
    split at hx
    · exact hm _ _ _ ((sortI_perm _).subset hx)
    split at hx
    · exact hm _ _ _ ((sortI_perm _).subset (List.mem_reverse.mp hx))
    · exact hm _ _ _ hx
def R_row : FR := fun as ob r ob' => ∃ W n, as = [.own 0, .dat (.int ((n : Nat) : Int))] ∧ ob = [W.oo] ∧ W.deep.length ≤ 100 ∧ n ≤ 100 ∧ r = .dat (rD (rowOf n W).1) ∧ ob' = [(rowOf n W).2.oo]
theorem sc_law_row : FnScope ["well", "n", "way", "p", "found"] ["well", "n"] (defScope s_law_row) := ⟨rfl, rfl, rfl, by decide +kernel, rfl, by decide +kernel, by decide +kernel⟩
theorem ok_law_row (D : Df K mg "_law_row" s_law_row ["well", "n"]) (B : Bi mg) (D_law_draw : Df K mg "_law_draw" s_law_draw ["well", "many"]) (D_law_pick : Df K mg "_law_pick" s_law_pick ["well", "items"]) (D_law_mixed : Df K mg "_law_mixed" s_law_mixed ["well", "items"]) : FnG P w K mg base CX0 3 D.f D.fd ["well", "n"] (spD K 2 R_row) := by
  have ok_law_draw : FnG P w K mg base CX0 1 _ _ _ _ := ok_law_draw D_law_draw B
  have ok_law_pick : FnG P w K mg base CX0 2 _ _ _ _ := ok_law_pick D_law_pick B D_law_draw
  have ok_law_mixed : FnG P w K mg base CX0 2 _ _ _ _ := ok_law_mixed D_law_mixed B D_law_draw
  refine okG D.F sc_law_row (fun vs H Q E h => h.1) (fun cdv A outer s H vs Q E hr gd h => ?_)
  have hu := huX hr
  refine ⟨_, (pss_cons (ps_set (i := 2) sc_law_row.nd rfl (Or.inl rfl) (pe_callG (ok_law_draw) (hr.mono (by decide)) gd (by rfl) D_law_draw.m D_law_draw.F.kp D_law_draw.b .nil pass0 (pa_cons (pv 0) (pa_cons pe_int pa_nil))))
      (pss_cons (ps_if (pt_cmpR (op_eqU hu) (pv 2) pe_int (nomark _)) (pss_one (ps_ret (pe_callTy cb_tuple (by rfl) B.z_tuple (by decide +kernel) (pa_cons (pe_lc (own := [("p", 3)]) (g := gName 3) (tt := tYes) (by rfl) sc_law_row.nd (pi_range1 (by rfl) B.z_range (pa_cons (pv 1) pa_nil)) (blkOk_by (own := [("p", 3)]) (N := ["well", "n", "way", "p", "found"]) (sc := defScope s_law_row) (by decide +kernel)) (fun _ _ _ _ _ => (pg_name (i := 3) sc_law_row.nd rfl (Or.inl rfl))) (fun _ _ _ _ _ => pts_nil) (fun _ _ _ _ _ => (pe_callG (ok_law_draw) (hr.mono (by decide)) gd (by rfl) D_law_draw.m D_law_draw.F.kp D_law_draw.b .nil pass0 (pa_cons (pv 0) (pa_cons pe_int pa_nil))))) pa_nil)))) pss_nil)
      (pss_cons (ps_if (pt_cmpR (op_eqU hu) (pv 2) pe_int (nomark _)) (pss_one (ps_ret (pe_callTy cb_tuple (by rfl) B.z_tuple (by decide +kernel) (pa_cons (pe_lc (own := [("p", 3)]) (g := gName 3) (tt := tYes) (by rfl) sc_law_row.nd (pi_range1 (by rfl) B.z_range (pa_cons (pv 1) pa_nil)) (blkOk_by (own := [("p", 3)]) (N := ["well", "n", "way", "p", "found"]) (sc := defScope s_law_row) (by decide +kernel)) (fun _ _ _ _ _ => (pg_name (i := 3) sc_law_row.nd rfl (Or.inl rfl))) (fun _ _ _ _ _ => pts_nil) (fun _ _ _ _ _ => (pe_callG (ok_law_pick) (hr.mono (by decide)) gd (by rfl) D_law_pick.m D_law_pick.F.kp D_law_pick.b .nil pass0 (pa_cons (pv 0) (pa_cons (pe_lst (pa_cons (pe_op op_powU pe_int pe_int) (pa_cons (pe_un un_negU (pe_op op_powU pe_int pe_int)) (pa_cons pe_int (pa_cons pe_int (pa_cons (pe_op op_subU (pe_op op_powU pe_int pe_int) pe_int) pa_nil)))))) pa_nil))))) pa_nil)))) pss_nil)
      (pss_cons (ps_if (pt_cmpR (op_eqU hu) (pv 2) pe_int (nomark _)) (pss_one (ps_ret (pe_callTy cb_tuple (by rfl) B.z_tuple (by decide +kernel) (pa_cons (pe_callG (ok_law_mixed) (hr.mono (by decide)) gd (by rfl) D_law_mixed.m D_law_mixed.F.kp D_law_mixed.b .nil pass0 (pa_cons (pv 0) (pa_cons (pe_listRg rfl (by rfl) B.z_list (prg_1 (by rfl) B.z_range (pv 1))) pa_nil))) pa_nil)))) pss_nil)
      (pss_cons (ps_if (pt_cmpR (op_eqU hu) (pv 2) pe_int (nomark _)) (pss_one (ps_ret (pe_callTy cb_tuple (by rfl) B.z_tuple (by decide +kernel) (pa_cons (pe_lc (own := [("p", 3)]) (g := gName 3) (tt := tYes) (by rfl) sc_law_row.nd (pi_range1 (by rfl) B.z_range (pa_cons (pv 1) pa_nil)) (blkOk_by (own := [("p", 3)]) (N := ["well", "n", "way", "p", "found"]) (sc := defScope s_law_row) (by decide +kernel)) (fun _ _ _ _ _ => (pg_name (i := 3) sc_law_row.nd rfl (Or.inl rfl))) (fun _ _ _ _ _ => pts_nil) (fun _ _ _ _ _ => (pe_op (opK K (R := rMulU) op_mulU rfl) (pe_callG (ok_law_pick) (hr.mono (by decide)) gd (by rfl) D_law_pick.m D_law_pick.F.kp D_law_pick.b .nil pass0 (pa_cons (pv 0) (pa_cons (pe_lst (pa_cons pe_int (pa_cons (pe_un un_negU pe_int) pa_nil))) pa_nil))) (pe_callG (ok_law_draw) (hr.mono (by decide)) gd (by rfl) D_law_draw.m D_law_draw.F.kp D_law_draw.b .nil pass0 (pa_cons (pv 0) (pa_cons (pe_op (opK K (R := rPlus) op_plus rfl) (pe_op op_powU pe_int pe_int) pe_int) pa_nil)))))) pa_nil)))) pss_nil)
      (pss_cons (ps_setLc (i := 4) (own := [("p", 3)]) (g := gName 3) (tt := tYes) (by rfl) sc_law_row.nd rfl rfl (sw_true rfl rfl rfl (by decide +kernel)) (pi_range1 (by rfl) B.z_range (pa_cons (pv 1) pa_nil)) (blkOk_by (own := [("p", 3)]) (N := ["well", "n", "way", "p", "found"]) (sc := defScope s_law_row) (by decide +kernel)) (fun _ _ _ _ _ => (pg_name (i := 3) sc_law_row.nd rfl (Or.inl rfl))) (fun _ _ _ _ _ => pts_nil) (fun _ _ _ _ _ => (pe_op op_subU (pe_callG (ok_law_draw) (hr.mono (by decide)) gd (by rfl) D_law_draw.m D_law_draw.F.kp D_law_draw.b .nil pass0 (pa_cons (pv 0) (pa_cons (pe_op (opK K (R := rPlus) op_plus rfl) pe_int (pe_callG (ok_law_draw) (hr.mono (by decide)) gd (by rfl) D_law_draw.m D_law_draw.F.kp D_law_draw.b .nil pass0 (pa_cons (pv 0) (pa_cons pe_int pa_nil)))) pa_nil))) pe_int)))
      (pss_cons (ps_if (pt_cmpR (op_eqU hu) (pv 2) pe_int (nomark _)) (pss_one (ps_ret (pe_callTy cb_tuple (by rfl) B.z_tuple (by decide +kernel) (pa_cons (pe_callB cr_sortU (by rfl) B.z_sorted (by decide +kernel) (pa_cons (pv 4) pa_nil)) pa_nil)))) pss_nil)
      (pss_one (ps_ret (pe_ifExp (pt_cmpR (op_eqU hu) (pv 2) pe_int (nomark _)) (pe_callTy cb_tuple (by rfl) B.z_tuple (by decide +kernel) (pa_cons (pe_revL (pe_callB cr_sortU (by rfl) B.z_sorted (by decide +kernel) (pa_cons (pv 4) pa_nil))) pa_nil)) (pe_callTy cb_tuple (by rfl) B.z_tuple (by decide +kernel) (pa_cons (pv 4) pa_nil)))))))))))), ?_⟩
  refine body_ofG h (by decide) (fun as ob r ob' hR => ?_) fun as ob r ob' hR hl => ?_
  · obtain ⟨W, n, rfl, rfl, _, _, rfl, rfl⟩ := hR
    exact ⟨Nat.le_refl _, fun _ z => by cases z⟩
  obtain ⟨W, n, rfl, rfl, hd, hn, rfl, rfl⟩ := hR
  have d1 := draw_deep 8 W hd
  have e : rowOf n W = if (draw 8 W).1 = 2 then mixedOf 0 n (rngI n) (draw 8 W).2 else (if (draw 8 W).1 = 4 then sortI (mapS (rowG (draw 8 W).1) n (draw 8 W).2).1 else if (draw 8 W).1 = 5 then (sortI (mapS (rowG (draw 8 W).1) n (draw 8 W).2).1).reverse else (mapS (rowG (draw 8 W).1) n (draw 8 W).2).1, (mapS (rowG (draw 8 W).1) n (draw 8 W).2).2) := rfl
  rw [e]
  refine ts_seq (ts_asg (ee_dr (W := W) (ea_cons (ee_var rfl) (ea_cons ee_int ea_nil)) rfl (by decide) hd) ?_)
  show Ts K _ ⟨[.own 0, .dat (.int (n : Int)), .dat (.int (draw 8 W).1), .un, .un], [(draw 8 W).2.oo]⟩ _
  generalize (draw 8 W).1 = way
  generalize (draw 8 W).2 = W1 at d1
  have rng : Ei K (iRng1 (tCons (tVar 1) tNil)) ⟨[.own 0, .dat (.int (n : Int)), .dat (.int way), .un, .un], [W1.oo]⟩ (rngD 0 n) ⟨[.own 0, .dat (.int (n : Int)), .dat (.int way), .un, .un], [W1.oo]⟩ := ei_rng1 (n := (n : Int)) (ed_cons (ee_var rfl) ed_nil) (by omega)
  refine ts_seq (ts_if (et_test (ee_op (ee_var rfl) ee_int ro_eqI)) (fun hb => ?_) fun hb => ts_next ?_)
  · obtain rfl := of_decide_eq_true hb
    refine ts_ret (ee_cb (ea_cons (ee_of_el (el_mapS (g := rowG 0) rng rfl (by omega) d1 (rowG_deep 0) fun i W' hi hd' => ⟨_, egc_name (by decide), _, ee_dr (W := W') (ea_cons (ee_var rfl) (ea_cons ee_int ea_nil)) rfl (by decide) hd', rfl⟩)) ea_nil) (rc_tupL (.dat _))) ⟨rfl, ⟨[], rfl⟩⟩
  have n0 := of_decide_eq_false hb
  refine ts_seq (ts_if (et_test (ee_op (ee_var rfl) ee_int ro_eqI)) (fun hb => ?_) fun hb => ts_next ?_)
  · obtain rfl := of_decide_eq_true hb
    refine ts_ret (ee_cb (ea_cons (ee_of_el (el_mapS (g := rowG 1) rng rfl (by omega) d1 (rowG_deep 1) fun i W' hi hd' => ⟨_, egc_name (by decide), _, ee_pck (W := W') (ds := g1L.map PyData.int) (ea_cons (ee_var rfl) (ea_cons (ee_lst (ds := g1L.map PyData.int) (ed_cons (ee_op ee_int ee_int ro_pow) (ed_cons (ee_un (ee_op ee_int ee_int ro_pow) ru_neg) (ed_cons ee_int (ed_cons ee_int (ed_cons (ee_op (ee_op ee_int ee_int ro_pow) ee_int ro_sub) ed_nil))))) (show (5 : Nat) ≤ 1000000 by decide)) ea_nil)) rfl rfl (pick_at (show (0 : Nat) < 5 by decide)) (show (5 : Nat) ≤ 1000 by decide) hd', rfl⟩)) ea_nil) (rc_tupL (.dat _))) ⟨rfl, ⟨[], rfl⟩⟩
  have n1 := of_decide_eq_false hb
  refine ts_seq (ts_if (et_test (ee_op (ee_var rfl) ee_int ro_eqI)) (fun hb => ?_) fun hb => ts_next ?_)
  · obtain rfl := of_decide_eq_true hb
    have R : R_mixed [.own 0, .dat (.list (rngD 0 n))] [W1.oo] (.dat (.list ((mixedOf 0 n (rngI n) W1).1.map PyData.int))) [(mixedOf 0 n (rngI n) W1).2.oo] := by
      have q := mixed_map 0 PyData.int n (rngI n) W1
      rw [← rngD_map] at q
      refine ⟨W1, rngD 0 n, .int 0, rfl, rfl, d1, by rw [rngD_len]; omega, fun x hx => ?_, ?_, ?_⟩
      · rw [rngD_map] at hx
        exact Fl.rI hx
      · rw [rngD_len, q]
      · rw [rngD_len, q]
    refine ts_ret (ee_cb (ea_cons (ee_w1 (W := W1) (W' := (mixedOf 0 n (rngI n) W1).2) [.list (rngD 0 n)] (ea_cons (ee_var rfl) (ea_cons (ee_rng1 (i := (n : Int)) (ee_var rfl) (by omega)) ea_nil)) rfl rfl R) ea_nil) (rc_tupL (.dat _))) ⟨rfl, ⟨[], rfl⟩⟩
  have n2 := of_decide_eq_false hb
  rw [if_neg n2]
  refine ts_seq (ts_if (et_test (ee_op (ee_var rfl) ee_int ro_eqI)) (fun hb => ?_) fun hb => ts_next ?_)
  · obtain rfl := of_decide_eq_true hb
    refine ts_ret (ee_cb (ea_cons (ee_of_el (el_mapS (g := rowG 3) rng rfl (by omega) d1 (rowG_deep 3) fun i W' hi hd' => ⟨_, egc_name (by decide), _, ee_op (ee_pck (W := W') (ds := g3L.map PyData.int) (ea_cons (ee_var rfl) (ea_cons (ee_lst (ds := g3L.map PyData.int) (ed_cons ee_int (ed_cons (ee_un ee_int ru_neg) ed_nil)) (show (2 : Nat) ≤ 1000000 by decide)) ea_nil)) rfl rfl (pick_at (show (0 : Nat) < 2 by decide)) (show (2 : Nat) ≤ 1000 by decide) hd') (ee_dr (W := (draw 2 W').2) (ea_cons (ee_var rfl) (ea_cons (ee_op (ee_op ee_int ee_int ro_pow) ee_int ro_add) ea_nil)) rfl (by rw [big12]; decide) (draw_deep _ _ hd')) (ro_mulL ?_), rfl⟩)) ea_nil) (rc_tupL (.dat _))) ⟨rfl, ⟨[], rfl⟩⟩
    refine getD_mem (p := fun x => -(2 ^ 64) < x ∧ x < 2 ^ 64) (l := g3L) (fun x hx => ?_) (by decide)
    unfold g3L at hx
    simp at hx
    omega
  have n3 := of_decide_eq_false hb
  have gw : rowG way = rowG 6 := by
    funext W
    unfold rowG
    rw [if_neg n0, if_neg n1, if_neg n3, if_neg (by decide), if_neg (by decide), if_neg (by decide)]
  rw [gw]
  refine ts_seq (ts_asg (ee_of_el (el_mapS (g := rowG 6) rng rfl (by omega) d1 (rowG_deep 6) fun i W' hi hd' => ⟨_, egc_name (by decide), _, ee_op (ee_dr (W := (draw 3 W').2) (ea_cons (ee_var rfl) (ea_cons (ee_op ee_int (ee_dr (W := W') (ea_cons (ee_var rfl) (ea_cons ee_int ea_nil)) rfl (by decide) hd') ro_add) ea_nil)) rfl ?_ (draw_deep _ _ hd')) ee_int ro_sub, rfl⟩)) ?_)
  · have := draw_hi (m := 3) W' (by decide)
    omega
  show Ts K _ ⟨[.own 0, .dat (.int (n : Int)), .dat (.int way), .un, .dat (.list ((mapS (rowG 6) n W1).1.map PyData.int))], [(mapS (rowG 6) n W1).2.oo]⟩ _
  generalize mapS (rowG 6) n W1 = fd
  refine ts_seq (ts_if (et_test (ee_op (ee_var rfl) ee_int ro_eqI)) (fun hb => ?_) fun hb => ts_next ?_)
  · rw [if_pos (of_decide_eq_true hb)]
    exact ts_ret (ee_cb (ea_cons (ee_cb (ea_cons (ee_var rfl) ea_nil) rc_sortL) ea_nil) (rc_tupL (.dat _))) ⟨rfl, ⟨[], rfl⟩⟩
  rw [if_neg (of_decide_eq_false hb)]
  refine ts_ret (x := .dat (rD (if way = 5 then (sortI fd.1).reverse else fd.1))) (S1 := ⟨[.own 0, .dat (.int (n : Int)), .dat (.int way), .un, .dat (.list (fd.1.map PyData.int))], [fd.2.oo]⟩) (ee_if (et_test (ee_op (ee_var rfl) ee_int ro_eqI)) (fun hb => ?_) fun hb => ?_) ⟨rfl, ⟨[], rfl⟩⟩
  · rw [if_pos (of_decide_eq_true hb)]
    unfold rD
    rw [List.map_reverse]
    exact ee_cb (ea_cons (ee_revL (ee_cb (ea_cons (ee_var rfl) ea_nil) rc_sortL)) ea_nil) (rc_tupL (.dat _))
  · rw [if_neg (of_decide_eq_false hb)]
    exact ee_cb (ea_cons (ee_var rfl) ea_nil) (rc_tupL (.dat _))
end
end K04

set_option maxRecDepth 100000
set_option maxHeartbeats 4000000
namespace K04
open PySem PySem.Spec PyProof.Rows L2 DL
/-! ### cuts -/
def cutB (key x : Int) : Int := if key < x then 1 else 0
def cutI (row : List Int) (key : Int) : List Int := row.map (cutB key)
theorem cutI_len (row : List Int) (key : Int) : (cutI row key).length = row.length := List.length_map ..
theorem cutI_key (row : List Int) (key : Int) : ∀ x ∈ cutI row key, InKey x := fun x hx => by
  unfold cutI at hx
  obtain ⟨y, _, rfl⟩ := List.mem_map.mp hx
  unfold cutB InKey
  split <;> decide
section
variable {P : Program} {w : World} {K : PySem.W.Frag} {mg : Str → Option Value} {base : Heap}
def R_cut : FR := fun as ob r ob' => ∃ row key, as = [.dat (rD row), .dat (.int key)] ∧ row.length ≤ 1000 ∧ ob = [] ∧ r = .dat (rD (cutI row key)) ∧ ob' = []
theorem sccut : FnScope ["row", "key", "item"] ["row", "key"] (defScope scut) := ⟨rfl, rfl, rfl, by decide +kernel, rfl, by decide +kernel, by decide +kernel⟩
theorem okcut (D : Df K mg "cut" scut ["row", "key"]) (B : Bi mg) : FnG P w K mg base CX0 1 D.f D.fd ["row", "key"] (spD K 2 R_cut) := by
  refine okG D.F sccut (fun vs H Q E h => h.1) (fun cdv A outer s H vs Q E hr gd h => ?_)
  have hu := huX hr
  refine ⟨_, (pss_one (ps_ret (pe_callTy cb_tuple (by rfl) B.z_tuple (by decide +kernel) (pa_cons (pe_lc (own := [("item", 2)]) (g := gName 2) (tt := tYes) (by rfl) sccut.nd (pi_tup (pv 0)) (blkOk_by (own := [("item", 2)]) (N := ["row", "key", "item"]) (sc := defScope scut) (by decide +kernel)) (fun _ _ _ _ _ => (pg_name (i := 2) sccut.nd rfl (Or.inl rfl))) (fun _ _ _ _ _ => pts_nil) (fun _ _ _ _ _ => (pe_ifExp (pt_cmpR (opK K (R := rGtU) (op_gtU hu) rfl) (pv 2) (pv 1) (nomark _)) pe_int pe_int))) pa_nil)))), ?_⟩
  refine body_of h (by decide) fun as ob r ob' hR hl => ?_
  obtain ⟨row, key, rfl, hz, rfl, rfl, rfl⟩ := hR
  have e : rD (cutI row key) = .tuple ((row.map PyData.int).map fun d => .int (cutB key (toI d))) := by
    rw [mapI (cutB key)]
    rfl
  rw [e]
  refine ts_ret (ee_cb (ea_cons (ee_of_el (el_lcm (ei_tup (ee_var rfl)) (by rw [List.length_map]; omega) fun i d hd => ?_)) ea_nil) (rc_tupL (.dat _))) ⟨rfl, rfl⟩
  obtain ⟨x, hx, rfl⟩ := int_at hd
  refine ⟨_, egc_name (by decide), _, ee_if (S2 := ⟨[.dat (rD row), .dat (.int key), .dat (.int x)], []⟩) (x := .dat (.int (cutB key x))) (et_test (ee_op (S2 := ⟨[.dat (rD row), .dat (.int key), .dat (.int x)], []⟩) (ee_var rfl) (ee_var rfl) ro_gt)) (fun hb => ?_) (fun hb => ?_), rfl, rfl⟩
  · unfold cutB
    rw [if_pos (of_decide_eq_true hb)]
    exact ee_int
  · unfold cutB
    rw [if_neg (of_decide_eq_false hb)]
    exact ee_int
end
end K04

set_option maxRecDepth 100000
set_option maxHeartbeats 4000000
namespace K04
open PySem PySem.Spec PyProof.Rows L2 DL
/-! ### texts of orders and rows -/
theorem nc_pD {x : Pr} (h1 : x.1 ≤ 1000) (h2 : x.2 ≤ 1000) : Nc 1 3809 (pD x) := nc_two (Nc.ints (by omega)) (Nc.ints (by omega))
theorem nc_prs {n : Nat} {ps : List Pr} (hn : n ≤ 25) (hb : ∀ x ∈ ps, x.1 < n ∧ x.2 < n) (hl : ps.length ≤ 625) : Nc 2 2400000 (.tuple (ps.map pD)) := (Nc.tup (k := 1) (b := 3809) (m := 625) (fun d hd => by
  obtain ⟨x, hx, rfl⟩ := List.mem_map.mp hd
  have := hb x hx
  exact nc_pD (by omega) (by omega)) (by rw [List.length_map]; exact hl)).mono (by decide) (by decide)
theorem nc_list {l : List PyData} (h : ∀ d ∈ l, Nc 2 2400000 d) (hl : l.length ≤ 4) : Nc 60 16000000 (.list l) := (Nc.lst h hl).mono (by decide) (by decide)
theorem prs_b {n : Nat} {B : Nat → Nat → Bool} : ∀ x ∈ prs n B, x.1 < n ∧ x.2 < n := fun x hx => by
  obtain ⟨a, b⟩ := x
  have := prs_mem.mp hx
  exact ⟨this.1, this.2.1⟩
theorem prs_625 {n : Nat} (hn : n ≤ 25) (B : Nat → Nat → Bool) : (prs n B).length ≤ 625 := by
  have h1 := prs_len n B
  have h2 : n * n ≤ 25 * 25 := Nat.mul_le_mul hn hn
  omega
theorem ord_625 {n : Nat} (hn : n ≤ 25) {ps : List Pr} (o : Ord n ps) : ps.length ≤ 625 := by
  have h : ps.length ≤ (prs n fun a b => decide ((a, b) ∈ ps)).length := by
    have key : ∀ {xs ys : List Pr}, xs.Pairwise Lx → (∀ x ∈ xs, x ∈ ys) → xs.length ≤ ys.length := fun {xs} => by
      induction xs with
      | nil => intro ys _ _; exact Nat.zero_le _
      | cons x xs ih =>
        intro ys h hs
        have h1 : x ∈ ys := hs x List.mem_cons_self
        have h2 := ih (ys := ys.erase x) (List.pairwise_cons.mp h).2 fun y hy => by
          have hne : y ≠ x := fun z => by
            have := (List.pairwise_cons.mp h).1 y hy
            rw [z] at this
            unfold Lx at this
            omega
          exact (List.mem_erase_of_ne hne).mpr (hs y (List.mem_cons_of_mem _ hy))
        have h3 := List.length_erase_of_mem h1
        have h4 := List.length_pos_of_mem h1
        rw [List.length_cons]
        omega
    refine key o.up fun x hx => ?_
    obtain ⟨a, b⟩ := x
    have := o.ok _ hx
    dsimp only at this
    exact prs_mem.mpr ⟨by omega, this.2, decide_eq_true hx⟩
  exact Nat.le_trans h (prs_625 hn _)
/-! ### the law's own look, keys to cut by -/
def inRange (x : Int) : Bool := decide (-1000000000000 ≤ x) && decide (x ≤ 1000000000000)
theorem zip_D (a b : List Int) : zipD (a.map PyData.int) (b.map PyData.int) = (a.zip b).map fun z => PyData.tuple [.int z.1, .int z.2] := by
  unfold zipD
  refine List.ext_getElem (by simp) fun i h1 h2 => ?_
  have hi : i < a.length ∧ i < b.length := by
    rw [List.length_map, List.length_zip] at h2
    omega
  rw [List.getElem_map, List.getElem_range, List.getElem_map, List.getElem_zip, List.getD_eq_getElem?_getD, List.getElem?_map, List.getElem?_eq_getElem hi.1, List.getD_eq_getElem?_getD, List.getElem?_map, List.getElem?_eq_getElem hi.2]
  rfl
theorem rep_ints (v : Int) : ∀ k, repD k [PyData.int v] = (List.replicate k v).map PyData.int
  | 0 => rfl
  | k + 1 => by
    rw [repD_succ, rep_ints v k]
    rfl
theorem nodup_leI : ∀ {xs ys : List Int}, xs.Nodup → (∀ x ∈ xs, x ∈ ys) → xs.length ≤ ys.length
  | [], _, _, _ => Nat.zero_le _
  | x :: xs, ys, nd, h => by
    obtain ⟨n1, n2⟩ := List.nodup_cons.mp nd
    have h1 := h x List.mem_cons_self
    have ih := nodup_leI (xs := xs) (ys := ys.erase x) n2 fun y hy => (List.mem_erase_of_ne (fun e => by subst e; exact n1 hy)).mpr (h y (List.mem_cons_of_mem _ hy))
    have e := List.length_erase_of_mem h1
    have p := List.length_pos_of_mem h1
    rw [List.length_cons]
    omega
theorem setI_len (row : List Int) : (setI row).length ≤ row.length := nodup_leI ((setI_sorted row).imp fun {a b} h => Int.ne_of_lt h) fun x hx => setI_mem.mp hx
theorem at_int0 {ns : List Int} (h : 0 < ns.length) : atI (ns.map PyData.int) 0 = some (.int (ns.getD 0 0)) := by
  refine ix_at (i := 0) ?_ rfl
  rw [List.getElem?_map, List.getElem?_eq_getElem h, List.getD_eq_getElem?_getD, List.getElem?_eq_getElem h]
  rfl
theorem at_intL {ns : List Int} (h : 0 < ns.length) : atI (ns.map PyData.int) (-1) = some (.int (ns.getLastD 0)) := by
  obtain ⟨l, x, rfl⟩ : ∃ l x, ns = l ++ [x] := ⟨ns.dropLast, ns.getLast (List.length_pos_iff.mp h), (List.dropLast_concat_getLast _).symm⟩
  rw [List.map_append]
  refine (atI_last _ _).trans ?_
  rw [List.getLastD_concat]
def mx6 (row : List Int) (W : Well) : List Int := (mixedOf 0 (setI row).length (setI row) W).1.take 6
def foundOf (row : List Int) (W : Well) : List Int := ((mx6 row W ++ ((mx6 row W).take 2).map (fun x => x + 1)) ++ ((mx6 row W).take 2).map (fun x => x - 1)) ++ [0, (setI row).getD 0 0 - 1, (setI row).getLastD 0]
def keysOf (row : List Int) (W : Well) : List Int × Well := ((foundOf row W).filter inRange ++ [1000000000000, -1000000000000], (mixedOf 0 (setI row).length (setI row) W).2)
theorem keys_key {row : List Int} {W : Well} : ∀ x ∈ (keysOf row W).1, InKey x := fun x hx => by
  rcases List.mem_append.mp hx with hx | hx
  · have := (List.mem_filter.mp hx).2
    unfold inRange at this
    rw [Bool.and_eq_true, decide_eq_true_eq, decide_eq_true_eq] at this
    exact this
  · simp only [List.mem_cons, List.not_mem_nil, or_false] at hx
    unfold InKey
    omega
theorem found_len (row : List Int) (W : Well) : (foundOf row W).length ≤ 13 := by
  unfold foundOf mx6
  simp only [List.length_append, List.length_map, List.length_take, List.length_cons, List.length_nil]
  omega
theorem keys_len (row : List Int) (W : Well) : (keysOf row W).1.length ≤ 15 := by
  have h1 := found_len row W
  have h2 := List.length_filter_le inRange (foundOf row W)
  show (_ ++ [_, _] : List Int).length ≤ _
  rw [List.length_append]
  show _ + 2 ≤ _
  omega
section
variable {P : Program} {w : World} {K : PySem.W.Frag} {mg : Str → Option Value} {base : Heap}
def PrOk (n : Nat) (ps : List Pr) : Prop := ∀ x ∈ ps, x.1 < x.2 ∧ x.2 < n
def R_islet : FR := fun as ob r ob' => ∃ (ps : List Pr) (row : List Int), as = [.dat (.tuple (ps.map pD)), .dat (rD row)] ∧ PrOk row.length ps ∧ ps.length ≤ 10000 ∧ ob = [] ∧ r = .dat (.bool (letsN ps row)) ∧ ob' = []
theorem lets_iff {ps : List Pr} {row : List Int} : letsN ps row = true ↔ ∀ x ∈ ps, row.getD x.1 0 ≤ row.getD x.2 0 := by
  unfold letsN
  rw [List.all_eq_true]
  exact ⟨fun h x hx => of_decide_eq_true (h x hx), fun h x hx => decide_eq_true (h x hx)⟩
theorem lets_none (ps : List Pr) (row : List Int) : ((ps.filter fun x => decide (row.getD x.2 0 < row.getD x.1 0)).map fun _ => PyData.int 1).isEmpty = letsN ps row := by
  rw [List.isEmpty_map, Bool.eq_iff_iff, lets_iff, List.isEmpty_iff, List.filter_eq_nil_iff]
  exact ⟨fun h x hx => by have := h x hx; simp at this; exact this, fun h x hx => by have := h x hx; simp; exact this⟩
theorem sc_law_is_let : FnScope ["order", "row", "p", "q"] ["order", "row"] (defScope s_law_is_let) := ⟨rfl, rfl, rfl, by decide +kernel, rfl, by decide +kernel, by decide +kernel⟩
theorem ok_law_is_let (D : Df K mg "_law_is_let" s_law_is_let ["order", "row"]) (B : Bi mg) : FnG P w K mg base CX0 1 D.f D.fd ["order", "row"] (spD K 2 R_islet) := by
  refine okG D.F sc_law_is_let (fun vs H Q E h => h.1) (fun cdv A outer s H vs Q E hr gd h => ?_)
  have hu := huX hr
  refine ⟨_, (pss_one (ps_ret (pe_cmpR (op_eqU hu) (pe_lc (own := [("p", 2), ("q", 3)]) (by rfl) sc_law_is_let.nd (pi_tup (pv 0)) (blkOk_by (own := [("p", 2), ("q", 3)]) (N := ["order", "row", "p", "q"]) (sc := defScope s_law_is_let) (by decide +kernel)) (fun _ _ _ _ _ => (pg_tupK K (n := 2) rfl rfl (pgs_cons (pg_name (i := 2) sc_law_is_let.nd rfl (Or.inl rfl)) (pgs_cons (pg_name (i := 3) sc_law_is_let.nd rfl (Or.inl rfl)) pgs_nil)))) (fun _ _ _ _ _ => (pts_one (pt_cmpR (opK K (R := rGtU) (op_gtU hu) rfl) (pe_ix (ixK K (R := rIx) ix_seq rfl) (pv 1) (pv 2) (fun _ _ => rfl)) (pe_ix (ixK K (R := rIx) ix_seq rfl) (pv 1) (pv 3) (fun _ _ => rfl)) (nomark _)))) (fun _ _ _ _ _ => pe_int)) (pe_lst pa_nil) (nomark _)))), ?_⟩
  refine body_of h (by decide) fun as ob r ob' hR hl => ?_
  obtain ⟨ps, row, rfl, hp, hz, rfl, rfl, rfl⟩ := hR
  rw [← lets_none]
  refine ts_ret (S1 := ⟨[.dat (.tuple (ps.map pD)), .dat (rD row), .un, .un], []⟩) (ee_op (ee_of_el ?_) (ee_of_el (el_lst ed_nil)) (ro_eqE (.dat _) (.dat _))) ⟨rfl, rfl⟩
  exact el_lcfA (dA := pD) (lst := ps) (p := fun x => decide (row.getD x.2 0 < row.getD x.1 0)) (f := fun _ => PyData.int 1) (S0 := ⟨[.dat (.tuple (ps.map pD)), .dat (rD row), .un, .un], []⟩) (ei_tup (ee_var rfl)) (by omega) fun x hx => ⟨_, _, egc_tup (egcs_cons (egc_name (by decide)) (egcs_cons (egc_name (by decide)) egcs_nil)), et_test (ee_op (ee_op (ee_var rfl) (ee_var rfl) (ro_ixT (kI_at (by have := hp x hx; omega)))) (ee_op (ee_var rfl) (ee_var rfl) (ro_ixT (kI_at (hp x hx).2))) ro_gt), rfl, fun _ => ⟨_, ee_int, rfl⟩⟩
def R_keys : FR := fun as ob r ob' => ∃ W row, as = [.own 0, .dat (rD row)] ∧ ob = [W.oo] ∧ W.deep.length ≤ 100 ∧ 1 ≤ row.length ∧ row.length < 64 ∧ r = .dat (.list ((keysOf row W).1.map PyData.int)) ∧ ob' = [(keysOf row W).2.oo]
abbrev Sk (row so : List Int) (f k : SD) (W : Well) : SS := ⟨[.own 0, .dat (rD row), .dat (.list (so.map PyData.int)), f, k], [W.oo]⟩
theorem sc_law_keys : FnScope ["well", "row", "some", "found", "key"] ["well", "row"] (defScope s_law_keys) := ⟨rfl, rfl, rfl, by decide +kernel, rfl, by decide +kernel, by decide +kernel⟩
theorem ok_law_keys (D : Df K mg "_law_keys" s_law_keys ["well", "row"]) (B : Bi mg) (D_law_draw : Df K mg "_law_draw" s_law_draw ["well", "many"]) (D_law_mixed : Df K mg "_law_mixed" s_law_mixed ["well", "items"]) : FnG P w K mg base CX0 3 D.f D.fd ["well", "row"] (spD K 2 R_keys) := by
  have ok_law_mixed : FnG P w K mg base CX0 2 _ _ _ _ := ok_law_mixed D_law_mixed B D_law_draw
  refine okG D.F sc_law_keys (fun vs H Q E h => h.1) (fun cdv A outer s H vs Q E hr gd h => ?_)
  have hu := huX hr
  refine ⟨_, (pss_cons (ps_set (i := 2) sc_law_keys.nd rfl (Or.inl rfl) (pe_callB (cr_sortedSet rfl) (by rfl) B.z_sorted (by decide +kernel) (pa_cons (pe_callTy (cr_setI rfl) (by rfl) B.z_set (by decide +kernel) (pa_cons (pv 1) pa_nil)) pa_nil)))
      (pss_cons (ps_set (i := 3) sc_law_keys.nd rfl (Or.inl rfl) (pe_slice sl_any (pe_callG (ok_law_mixed) (hr.mono (by decide)) gd (by rfl) D_law_mixed.m D_law_mixed.F.kp D_law_mixed.b .nil pass0 (pa_cons (pv 0) (pa_cons (pv 2) pa_nil))) po_none (po_some pe_int)))
      (pss_cons (ps_set (i := 3) sc_law_keys.nd rfl (Or.inl rfl) (pe_op op_plus (pe_op op_plus (pe_op op_plus (pv 3) (pe_lc (own := [("key", 4)]) (g := gName 4) (tt := tYes) (by rfl) sc_law_keys.nd (pi_list (pe_slice sl_any (pv 3) po_none (po_some pe_int))) (blkOk_by (own := [("key", 4)]) (N := ["well", "row", "some", "found", "key"]) (sc := defScope s_law_keys) (by decide +kernel)) (fun _ _ _ _ _ => (pg_name (i := 4) sc_law_keys.nd rfl (Or.inl rfl))) (fun _ _ _ _ _ => pts_nil) (fun _ _ _ _ _ => (pe_op (opK K (R := rPlus) op_plus rfl) (pv 4) pe_int)))) (pe_lc (own := [("key", 4)]) (g := gName 4) (tt := tYes) (by rfl) sc_law_keys.nd (pi_list (pe_slice sl_any (pv 3) po_none (po_some pe_int))) (blkOk_by (own := [("key", 4)]) (N := ["well", "row", "some", "found", "key"]) (sc := defScope s_law_keys) (by decide +kernel)) (fun _ _ _ _ _ => (pg_name (i := 4) sc_law_keys.nd rfl (Or.inl rfl))) (fun _ _ _ _ _ => pts_nil) (fun _ _ _ _ _ => (pe_op op_subU (pv 4) pe_int)))) (pe_lst (pa_cons pe_int (pa_cons (pe_op op_subU (pe_ix ix_seq (pv 2) pe_int (fun _ _ => rfl)) pe_int) (pa_cons (pe_ix ix_seq (pv 2) (pe_un un_negU pe_int) (fun _ _ => rfl)) pa_nil))))))
      (pss_one (ps_ret (pe_op op_plus (pe_lc (own := [("key", 4)]) (g := gName 4) (by rfl) sc_law_keys.nd (pi_list (pv 3)) (blkOk_by (own := [("key", 4)]) (N := ["well", "row", "some", "found", "key"]) (sc := defScope s_law_keys) (by decide +kernel)) (fun _ _ _ _ _ => (pg_name (i := 4) sc_law_keys.nd rfl (Or.inl rfl))) (fun _ _ _ _ _ => (pts_one (pt_chain (opK K (R := rLeU) (op_leU hu) rfl) (opK K (R := rLeU) (op_leU hu) rfl) (pe_un un_negU (pe_op op_powU pe_int pe_int)) (pv 4) (pe_op op_powU pe_int pe_int)))) (fun _ _ _ _ _ => (pv 4))) (pe_lst (pa_cons (pe_op op_powU pe_int pe_int) (pa_cons (pe_un un_negU (pe_op op_powU pe_int pe_int)) pa_nil))))))))), ?_⟩
  refine body_of h (by decide) fun as ob r ob' hR hl => ?_
  obtain ⟨W, row, rfl, rfl, hW, h1, h64, rfl, rfl⟩ := hR
  have sl := setI_len row
  have sp : 0 < (setI row).length := by
    cases row with
    | nil => simp at h1
    | cons a b =>
      have : a ∈ setI (a :: b) := setI_mem.mpr List.mem_cons_self
      exact List.length_pos_of_mem this
  refine ts_seq (ts_asg (x := .dat (.list ((setI row).map PyData.int))) (ee_of_el (el_sset (us := row) (ea_cons (ee_var rfl) ea_nil) (.inr rfl) (by omega) (fun _ h => h) h64)) ?_)
  have md := mixed_map 0 PyData.int (setI row).length (setI row) W
  have R : R_mixed [.own 0, .dat (.list ((setI row).map PyData.int))] [W.oo] (.dat (.list ((mixedOf 0 (setI row).length (setI row) W).1.map PyData.int))) [(mixedOf 0 (setI row).length (setI row) W).2.oo] := by
    refine ⟨W, (setI row).map PyData.int, .int 0, rfl, rfl, hW, by rw [List.length_map]; omega, fun x hx => Fl.rI hx, ?_, ?_⟩
    · rw [List.length_map, md]
    · rw [List.length_map, md]
  have fl := found_len row W
  have kw : keysOf row W = ((foundOf row W).filter inRange ++ [1000000000000, -1000000000000], (mixedOf 0 (setI row).length (setI row) W).2) := rfl
  have fw : foundOf row W = ((mx6 row W ++ ((mx6 row W).take 2).map (fun x => x + 1)) ++ ((mx6 row W).take 2).map (fun x => x - 1)) ++ [0, (setI row).getD 0 0 - 1, (setI row).getLastD 0] := rfl
  have mw : mx6 row W = (mixedOf 0 (setI row).length (setI row) W).1.take 6 := rfl
  rw [kw]
  generalize foundOf row W = fo at fl fw
  generalize mx6 row W = m6 at fw mw
  have l6 : m6.length ≤ 6 := by
    rw [mw, List.length_take]
    omega
  show Ts K _ (Sk row (setI row) .un .un W) _
  generalize (mixedOf 0 (setI row).length (setI row) W).2 = W2 at R
  generalize (mixedOf 0 (setI row).length (setI row) W).1 = mx at R mw
  generalize setI row = so at R fw sl sp
  have t6 : cutD (mx.map PyData.int) none (some 6) = m6.map PyData.int := by
    rw [cut_takeD (by decide), mw, ← List.map_take]
    rfl
  refine ts_seq (ts_asg (x := .dat (.list (m6.map PyData.int))) (S1 := Sk row so .un .un W2) ?_ ?_)
  · have := ee_slL (K := K) (ee_w1 (K := K) (E := E0) (R := R_mixed) (np := 2) (k := 0) (W := W) (W' := W2) (S := Sk row so .un .un W) (S1 := Sk row so .un .un W) (d := .list (mx.map PyData.int)) [.list (so.map PyData.int)] (ea_cons (ee_var (i := 0) rfl) (ea_cons (ee_var (i := 2) rfl) ea_nil)) rfl rfl R) eo_none (eo_some (ee_int (j := 6))) (.dat _)
    rw [t6] at this
    exact this
  have t2 : cutD (m6.map PyData.int) none (some 2) = (m6.take 2).map PyData.int := by
    rw [cut_takeD (by decide), ← List.map_take]
    rfl
  have l2 : (m6.take 2).length ≤ 2 := by
    rw [List.length_take]
    omega
  have sl2 := ei_list (ee_slL (K := K) (S := Sk row so (.dat (.list (m6.map PyData.int))) .un W2) (x := .dat (.list (m6.map PyData.int))) (ee_var (i := 3) rfl) eo_none (eo_some (ee_int (j := 2))) (.dat _))
  rw [t2] at sl2
  have up : (((m6.take 2).map PyData.int).map fun d => PyData.int (toI d + 1)) = ((m6.take 2).map fun x => x + 1).map PyData.int := mapI (fun x => x + 1) _
  have dn : (((m6.take 2).map PyData.int).map fun d => PyData.int (toI d - 1)) = ((m6.take 2).map fun x => x - 1).map PyData.int := mapI (fun x => x - 1) _
  refine ts_seq (ts_asg (x := .dat (.list (fo.map PyData.int))) (S1 := Sk row so (.dat (.list (m6.map PyData.int))) .un W2) (ee_eq (x := .dat (.list (((m6.map PyData.int ++ ((m6.take 2).map fun x => x + 1).map PyData.int) ++ ((m6.take 2).map fun x => x - 1).map PyData.int) ++ [.int 0, .int (so.getD 0 0 - 1), .int (so.getLastD 0)])))
    (ee_op (S1 := Sk row so (.dat (.list (m6.map PyData.int))) .un W2) (ee_op (S1 := Sk row so (.dat (.list (m6.map PyData.int))) .un W2) (ee_op (S1 := Sk row so (.dat (.list (m6.map PyData.int))) .un W2) (ee_var rfl) (ee_of_el ?_) (ro_cat ?_)) (ee_of_el ?_) (ro_cat ?_)) (ee_lst (ed_cons ee_int (ed_cons (ee_op (ee_op (ee_var rfl) ee_int (ro_ixL (.dat _) (at_int0 sp))) ee_int ro_sub) (ed_cons (ee_op (ee_var rfl) (ee_un ee_int ru_neg) (ro_ixL (.dat _) (at_intL sp))) ed_nil))) (show (3 : Nat) ≤ 1000000 by decide)) (ro_cat ?_)) ?_) ?_)
  · rw [← up]
    refine el_lcm sl2 (by rw [List.length_map]; omega) fun i d hd => ?_
    obtain ⟨x, hx, rfl⟩ := int_at hd
    exact ⟨_, egc_name (by decide), _, ee_op (ee_var rfl) ee_int ro_add, rfl, rfl⟩
  · rw [List.length_map, List.length_map, List.length_map]
    omega
  · rw [← dn]
    refine el_lcm sl2 (by rw [List.length_map]; omega) fun i d hd => ?_
    obtain ⟨x, hx, rfl⟩ := int_at hd
    exact ⟨_, egc_name (by decide), _, ee_op (ee_var rfl) ee_int ro_sub, rfl, rfl⟩
  · rw [List.length_append, List.length_map, List.length_map, List.length_map, List.length_map, List.length_map]
    omega
  · simp only [List.length_append, List.length_map, List.length_cons, List.length_nil]
    omega
  · rw [fw, List.map_append, List.map_append, List.map_append]
    rfl
  have fi : (fo.filter inRange).map PyData.int = ((fo.map PyData.int).filter fun d => inRange (toI d)).map id := by
    rw [List.map_id, List.filter_map]
    rfl
  refine ts_ret (ee_eq (x := .dat (.list ((fo.filter inRange).map PyData.int ++ [.int ((10 : Int) ^ (12 : Int).toNat), .int (-((10 : Int) ^ (12 : Int).toNat))]))) (ee_op (S1 := Sk row so (.dat (.list (fo.map PyData.int))) .un W2) (ee_of_el (S1 := Sk row so (.dat (.list (fo.map PyData.int))) .un W2) ?_) (ee_lst (ed_cons (ee_op ee_int ee_int ro_pow) (ed_cons (ee_un (ee_op ee_int ee_int ro_pow) ru_neg) ed_nil)) (show (2 : Nat) ≤ 1000000 by decide)) (ro_cat ?_)) ?_) ⟨rfl, rfl⟩
  · rw [fi]
    refine el_lcf (ei_list (ee_var rfl)) (by rw [List.length_map]; omega) fun i d hd => ?_
    obtain ⟨x, hx, rfl⟩ := int_at hd
    refine ⟨_, _, egc_name (by decide), et_test (ee_chain (a := decide (-1000000000000 ≤ x)) (b := decide (x ≤ 1000000000000)) (ee_eq (x := .dat (.int (-((10 : Int) ^ (12 : Int).toNat)))) (y := .dat (.int (-1000000000000))) (ee_un (ee_op ee_int ee_int ro_pow) ru_neg) (by rw [big12])) (ee_var rfl) ro_le (fun _ => ee_eq (x := .dat (.int ((10 : Int) ^ (12 : Int).toNat))) (y := .dat (.int 1000000000000)) (ee_op ee_int ee_int ro_pow) (by rw [big12])) fun _ => ro_le), rfl, fun _ => ⟨_, ee_var rfl, rfl⟩⟩
  · have := List.length_filter_le inRange fo
    rw [List.length_map]
    show _ + 2 ≤ _
    omega
  · rw [List.map_append, big12]
    rfl
end
end K04

set_option maxRecDepth 100000
set_option maxHeartbeats 4000000
namespace K04
open PySem PySem.Spec PyProof.Rows L2 DL
/-! ### cuts within cuts -/
theorem cutB_le {a b x : Int} (h : a ≤ b) : cutB b x ≤ cutB a x := by
  unfold cutB
  split
  · rename_i q
    rw [if_pos (by omega)]
    exact Int.le_refl _
  · split <;> decide
theorem cutB_one (a x : Int) : cutB a x ≤ 1 := by
  unfold cutB
  split <;> decide
theorem zip_map2 (f g : Int → Int) : ∀ l : List Int, (l.map f).zip (l.map g) = l.map fun x => (f x, g x)
  | [] => rfl
  | x :: l => by
    rw [List.map_cons, List.map_cons, List.zip_cons_cons, zip_map2 f g l]
    rfl
section
variable {P : Program} {w : World} {K : PySem.W.Frag} {mg : Str → Option Value} {base : Heap}
def gKwcut : List Value → List Value → List Value
  | [], [a1, a2] => [a2, a1]
  | _, _ => []
def gKwVcut : List V → List V → List V
  | [], [a1, a2] => [a2, a1]
  | _, _ => []
theorem kb_cut (D : Df K mg "cut" scut ["row", "key"]) : KBinds K D.fd ["row", "key"] ["key", "row"] gKwcut gKwVcut := by
  obtain ⟨oc, od, kV, doc, pm, an, cdv, ct, osl, e, lk, hcd⟩ := D.F.ex
  refine ⟨fun s us ws _ hl => ?_, fun {vs us zs ws} r rz => ?_⟩
  · match us, ws, hl with
    | [], [a1, a2], _ =>
      rw [e]
      exact .of_eq rfl
    | [], [], h => cases h
    | [], [_], h => cases h
    | [], _ :: _ :: _ :: _, h => cases h
    | _ :: _, _, h => cases h
  · cases r with
    | cons h t => exact .nil
    | nil => cases rz with
      | nil => exact .nil
      | cons h1 t1 => cases t1 with
        | nil => exact .nil
        | cons h2 t2 => cases t2 with
          | nil => exact .cons h2 (.cons h1 (.nil))
          | cons _ _ => exact .nil
theorem ee_kcut {R : FR} {E : XK} {tk : TA} {S S2 : SS} {d1 d2 d : PyData} (hk : Ed K tk S [d1, d2] S2) (hR : R [.dat d2, .dat d1] [] (.dat d) []) : Ee K (tCallK (spD K 2 R) gKwVcut E tNil tk) S (.dat d) S2 := by
  refine ee_callK (ds := []) (es := [d1, d2]) (fs := [d2, d1]) ed_nil hk (fun Hf vs zs h1 h2 => ?_) rfl hR
  cases h1
  cases h2 with
  | cons q1 t1 =>
    cases t1 with
    | cons q2 t2 =>
      cases t2
      exact .cons q2 (.cons q1 (.nil))
theorem nc_r {row : List Int} (h : ∀ x ∈ row, InKey x) (hl : row.length ≤ 100) : Nc 60 16000000 (rD row) := (nc_rowT h hl).mono (by decide) (by decide)
def R_cuts : FR := fun as ob r ob' => ∃ (row keys : List Int), as = [.dat (rD row), .dat (.list (keys.map PyData.int))] ∧ 1 ≤ row.length ∧ row.length ≤ 100 ∧ (∀ x ∈ row, InKey x) ∧ keys.length ≤ 50 ∧ ob = [] ∧ r = .dat (.bool true) ∧ ob' = []
abbrev Sc (row keys : List Int) (l a b c d e f g : SD) : SS := ⟨[.dat (rD row), .dat (.list (keys.map PyData.int)), l, a, b, c, d, e, f, g], []⟩
theorem sc_law_are_cuts : FnScope ["row", "keys", "last", "nth", "key", "own", "due", "found", "one", "other"] ["row", "keys"] (defScope s_law_are_cuts) := ⟨rfl, rfl, rfl, by decide +kernel, rfl, by decide +kernel, by decide +kernel⟩
theorem ok_law_are_cuts (D : Df K mg "_law_are_cuts" s_law_are_cuts ["row", "keys"]) (B : Bi mg) (Dcut : Df K mg "cut" scut ["row", "key"]) : FnG P w K mg base CX0 2 D.f D.fd ["row", "keys"] (spD K 2 R_cuts) := by
  have okcut : FnG P w K mg base CX0 1 _ _ _ _ := okcut Dcut B
  have KBcut := kb_cut Dcut
  refine okG D.F sc_law_are_cuts (fun vs H Q E h => h.1) (fun cdv A outer s H vs Q E hr gd h => ?_)
  have hu := huX hr
  refine ⟨_, (pss_cons (ps_set (i := 2) sc_law_are_cuts.nd rfl (Or.inl rfl) (pe_op op_mulS (pe_tup (pa_cons pe_int pa_nil)) (pe_callB cb_len (by rfl) B.z_len PySem.boot_len (pa_cons (pv 0) pa_nil))))
      (pss_cons (ps_for PassesOwn.never rfl (pi_enum (by rfl) B.z_enumerate (pa_cons (pe_callB cr_sortU (by rfl) B.z_sorted (by decide +kernel) (pa_cons (pv 1) pa_nil)) pa_nil)) (pg_tup rfl (pgs_cons (pg_name (i := 3) sc_law_are_cuts.nd rfl (Or.inl rfl)) (pgs_cons (pg_name (i := 4) sc_law_are_cuts.nd rfl (Or.inr rfl)) pgs_nil)))
        (pss_cons (ps_set (i := 6) sc_law_are_cuts.nd rfl (Or.inl rfl) (pe_callTy cb_tuple (by rfl) B.z_tuple (by decide +kernel) (pa_cons (pe_lc (own := [("own", 5)]) (g := gName 5) (tt := tYes) (by rfl) sc_law_are_cuts.nd (pi_tup (pv 0)) (blkOk_by (own := [("own", 5)]) (N := ["row", "keys", "last", "nth", "key", "own", "due", "found", "one", "other"]) (sc := defScope s_law_are_cuts) (by decide +kernel)) (fun _ _ _ _ _ => (pg_name (i := 5) sc_law_are_cuts.nd rfl (Or.inl rfl))) (fun _ _ _ _ _ => pts_nil) (fun _ _ _ _ _ => (pe_callTy cb_int (by rfl) B.z_int (by decide +kernel) (pa_cons (pe_cmpR (opK K (R := rGtU) (op_gtU hu) rfl) (pv 5) (pv 4) (nomark _)) pa_nil)))) pa_nil)))
        (pss_cons (ps_set (i := 7) sc_law_are_cuts.nd rfl (Or.inl rfl) (pe_ifExp (pt_cmpR (op_eqU hu) (pv 3) pe_int (nomark _)) (pe_callK0 (okcut) (hr.mono (by decide)) gd (by rfl) Dcut.m Dcut.F.kp KBcut pass0 (pk_cons (pv 4) (pk_cons (pv 0) pk_nil))) (pe_callG (okcut) (hr.mono (by decide)) gd (by rfl) Dcut.m Dcut.F.kp Dcut.b .nil pass0 (pa_cons (pv 0) (pa_cons (pv 4) pa_nil)))))
        (pss_cons (ps_if (PW.pt (pw_or (pt_cmpR (op_neU hu) (pe_callB (call_reprD gd hu) (by rfl) B.z_repr (by decide +kernel) (pa_cons (pv 7) pa_nil)) (pe_callB (call_reprD gd hu) (by rfl) B.z_repr (by decide +kernel) (pa_cons (pv 6) pa_nil)) (nomark _)) (pw_or1 (pt_cmpR (op_neU hu) (pe_lc (own := [("one", 8), ("other", 9)]) (by rfl) sc_law_are_cuts.nd (RZ.pi_zipA (by rfl) B.z_zip (pa_cons (pv 7) (pa_cons (pv 2) pa_nil))) (blkOk_by (own := [("one", 8), ("other", 9)]) (N := ["row", "keys", "last", "nth", "key", "own", "due", "found", "one", "other"]) (sc := defScope s_law_are_cuts) (by decide +kernel)) (fun _ _ _ _ _ => (pg_tupK K (n := 2) rfl rfl (pgs_cons (pg_name (i := 8) sc_law_are_cuts.nd rfl (Or.inl rfl)) (pgs_cons (pg_name (i := 9) sc_law_are_cuts.nd rfl (Or.inl rfl)) pgs_nil)))) (fun _ _ _ _ _ => (pts_one (pt_cmpR (opK K (R := rGtU) (op_gtU hu) rfl) (pv 8) (pv 9) (nomark _)))) (fun _ _ _ _ _ => pe_int)) (pe_lst pa_nil) (nomark _))))) (pss_one (ps_ret pe_bl)) pss_nil)
        (pss_one (ps_set (i := 2) sc_law_are_cuts.nd rfl (Or.inl rfl) (pv 7)))))))
      (pss_one (ps_ret (pe_cmpR (op_eqU hu) (pe_callB (call_reprD gd hu) (by rfl) B.z_repr (by decide +kernel) (pa_cons (pe_callG (okcut) (hr.mono (by decide)) gd (by rfl) Dcut.m Dcut.F.kp Dcut.b .nil pass0 (pa_cons (pv 0) (pa_cons (pe_op op_powU pe_int pe_int) pa_nil))) pa_nil)) (pe_callB (call_reprD gd hu) (by rfl) B.z_repr (by decide +kernel) (pa_cons (pe_op op_mulS (pe_tup (pa_cons pe_int pa_nil)) (pe_callB cb_len (by rfl) B.z_len PySem.boot_len (pa_cons (pv 0) pa_nil))) pa_nil)) (nomark _)))))), ?_⟩
  refine body_of h (by decide) fun as ob r ob' hR hl => ?_
  obtain ⟨row, keys, rfl, h1, hl100, hk, hkl, rfl, rfl, rfl⟩ := hR
  have rep : ∀ v : Int, (.dat (.tuple (repD ((row.length : Nat) : Int).toNat [.int v])) : SD) = .dat (rD (row.map fun _ => v)) := fun v => by
    rw [Int.toNat_natCast, rep_ints, ← List.map_const']
    rfl
  have many : ∀ (S : SS) (v : Int), S.sl[0]? = some (.dat (rD row)) → Ee K (tOp (rMulS K) (tTup (tCons (tC (.int v)) tNil)) (tCB (DL.rLen K) (tCons (tVar 0) tNil))) S (.dat (rD (row.map fun _ => v))) S := fun S v hs => by
    have hlen := ee_cb (K := K) (S := S) (ea_cons (ee_var hs (by intro z; cases z)) ea_nil) (rc_lenT (ds := row.map PyData.int))
    rw [List.length_map] at hlen
    exact ee_eq (ee_op (ee_tup (ds := [.int v]) (ed_cons ee_int ed_nil) (show (1 : Nat) ≤ 1000000 by decide)) hlen (ro_mulS (by omega) (by omega) (show (1 : Nat) ≤ 1000 by decide))) (rep v)
  refine ts_seq (ts_asg (x := .dat (rD (row.map fun _ => (1 : Int)))) (S1 := Sc row keys .un .un .un .un .un .un .un .un) (many (Sc row keys .un .un .un .un .un .un .un .un) 1 rfl) ?_)
  have sl : (sortI keys).length ≤ 50 := by
    rw [(sortI_perm keys).length_eq]
    exact hkl
  refine ts_seq (ts_for (ds := enumD ((sortI keys).map PyData.int)) (S0 := Sc row keys (.dat (rD (row.map fun _ => (1 : Int)))) .un .un .un .un .un .un .un) (ei_enum (ed_cons (ee_cb (ea_cons (ee_var rfl) ea_nil) rc_sortL) ed_nil)) (fun i S => ∃ g a b c d e f h', S = Sc row keys (.dat (rD (row.map g))) a b c d e f h' ∧ ∀ j, i ≤ j → ∀ k, (sortI keys)[j]? = some k → ∀ x, cutB k x ≤ g x) ⟨fun _ => 1, .un, .un, .un, .un, .un, .un, .un, rfl, fun j _ k _ x => cutB_one k x⟩ ?_ ?_)
  · rintro i d S' hd ⟨g, a, b, c, d', e, f, h', rfl, hg⟩
    obtain ⟨y, hy, rfl⟩ := enumD_get hd
    obtain ⟨key, hkey, rfl⟩ := int_at hy
    have nC : Nc 60 16000000 (rD (cutI row key)) := nc_r (cutI_key _ _) (by rw [cutI_len]; exact hl100)
    have q : R_cut [.dat (rD row), .dat (.int key)] [] (.dat (rD (cutI row key))) [] := ⟨row, key, rfl, by omega, rfl, rfl, rfl⟩
    generalize hF : SD.dat (rD (row.map g)) = L
    refine ⟨_, eg_tup (egs_cons eg_name (egs_cons eg_name egs_nil)), ?_⟩
    show Ts K _ (Sc row keys L (.dat (.int (i : Int))) (.dat (.int key)) c d' e f h') _
    refine ts_seq (ts_asg (x := .dat (rD (cutI row key))) (S1 := Sc row keys L (.dat (.int (i : Int))) (.dat (.int key)) c d' e f h') (ee_cb (ea_cons (ee_of_el (S1 := Sc row keys L (.dat (.int (i : Int))) (.dat (.int key)) c d' e f h') (ds := (cutI row key).map PyData.int) ?_) ea_nil) (rc_tupL (.dat _))) ?_)
    · rw [show (cutI row key).map PyData.int = (row.map PyData.int).map fun d => .int (cutB key (toI d)) from (mapI (cutB key) row).symm]
      refine el_lcm (S0 := Sc row keys L (.dat (.int (i : Int))) (.dat (.int key)) c d' e f h') (ei_tup (ee_var rfl)) (by rw [List.length_map]; omega) fun i' d hd => ?_
      obtain ⟨x, hx, rfl⟩ := int_at hd
      refine ⟨_, egc_name (by decide), _, ee_eq (ee_cb (ea_cons (ee_op (ee_var rfl) (ee_var rfl) ro_gt) ea_nil) rc_intB) ?_, rfl, rfl⟩
      show SD.dat (.int (if decide (key < x) = true then 1 else 0)) = SD.dat (.int (cutB key x))
      unfold cutB
      by_cases q : key < x
      · rw [if_pos q, if_pos (decide_eq_true q)]
      · rw [if_neg q, if_neg (by simpa using q)]
    show Ts K _ (Sc row keys L (.dat (.int (i : Int))) (.dat (.int key)) c (.dat (rD (cutI row key))) e f h') _
    refine ts_seq (ts_asg (x := .dat (rD (cutI row key))) (S1 := Sc row keys L (.dat (.int (i : Int))) (.dat (.int key)) c (.dat (rD (cutI row key))) e f h') (ee_if (S1 := Sc row keys L (.dat (.int (i : Int))) (.dat (.int key)) c (.dat (rD (cutI row key))) e f h') (et_test (ee_op (ee_var rfl) ee_int ro_eqI)) (fun _ => ee_kcut (ed_cons (ee_var rfl) (ed_cons (ee_var rfl) ed_nil)) q) fun _ => ee_callD (ed_cons (ee_var rfl) (ed_cons (ee_var rfl) ed_nil)) rfl q) ?_)
    show Ts K _ (Sc row keys L (.dat (.int (i : Int))) (.dat (.int key)) c (.dat (rD (cutI row key))) (.dat (rD (cutI row key))) f h') _
    have hz : ∀ z ∈ (cutI row key).zip (row.map g), ¬ z.2 < z.1 := fun z hz => by
      unfold cutI at hz
      rw [zip_map2] at hz
      obtain ⟨x, _, rfl⟩ := List.mem_map.mp hz
      have := hg i (Nat.le_refl _) key hkey x
      show ¬ g x < cutB key x
      omega
    have ze : ((cutI row key).zip (row.map g)).filter (fun z => decide (z.2 < z.1)) = [] := List.filter_eq_nil_iff.mpr fun z m => by
      rw [decide_eq_true_eq]
      exact hz z m
    refine ts_seq (ts_if (b := false) (S1 := Sc row keys L (.dat (.int (i : Int))) (.dat (.int key)) c (.dat (rD (cutI row key))) (.dat (rD (cutI row key))) f h') (et_orF (et_test (ee_op (ee_cb (ea_cons (ee_var rfl) ea_nil) (rc_rep nC)) (ee_cb (ea_cons (ee_var rfl) ea_nil) (rc_rep nC)) ro_neS_self)) (et_test (ee_op (S1 := Sc row keys L (.dat (.int (i : Int))) (.dat (.int key)) c (.dat (rD (cutI row key))) (.dat (rD (cutI row key))) f h') (ee_eq (x := .dat (.list ((((cutI row key).zip (row.map g)).filter (fun z => decide (z.2 < z.1))).map fun _ => PyData.int 1))) (y := .dat (.list [])) (ee_of_el (el_lcfA (dA := fun z : Int × Int => PyData.tuple [.int z.1, .int z.2]) (lst := (cutI row key).zip (row.map g)) (p := fun z => decide (z.2 < z.1)) (f := fun _ => PyData.int 1) (S0 := Sc row keys L (.dat (.int (i : Int))) (.dat (.int key)) c (.dat (rD (cutI row key))) (.dat (rD (cutI row key))) f h') ?_ ?_ fun z hz => ⟨_, _, egc_tup (egcs_cons (egc_name (by decide)) (egcs_cons (egc_name (by decide)) egcs_nil)), et_test (ee_op (ee_var rfl) (ee_var rfl) ro_gt), rfl, fun _ => ⟨_, ee_int, rfl⟩⟩)) (by rw [ze]; rfl)) (ee_of_el (el_lst ed_nil)) (ro_neD_self (.dat _) (.dat _) (Fl.lst (k := 0) fun _ z => by cases z))))) (fun z => by cases z) fun _ => ts_next ?_)
    · rw [← zip_D]
      exact ei_zipT (ed_cons (ee_var (i := 7) rfl) (ed_cons (ee_var (i := 2) (by rw [← hF]; rfl)) ed_nil))
    · rw [List.length_zip, cutI_len]
      omega
    refine ts_asg (ee_var (i := 7) rfl) ⟨cutB key, .dat (.int (i : Int)), .dat (.int key), c, .dat (rD (cutI row key)), .dat (rD (cutI row key)), f, h', rfl, fun j hj k hk' x => ?_⟩
    refine cutB_le ?_
    have sp := sortI_sorted keys
    by_cases e : j = i
    · subst e
      rw [hkey] at hk'
      rw [Option.some.inj hk']
      exact Int.le_refl _
    · obtain ⟨l1, e1⟩ := List.getElem?_eq_some_iff.mp hkey
      obtain ⟨l2, e2⟩ := List.getElem?_eq_some_iff.mp hk'
      rw [← e1, ← e2]
      exact List.pairwise_iff_getElem.mp sp i j l1 l2 (by omega)
  · rintro S' ⟨g, a, b, c, d, e, f, h', rfl, _⟩
    have nO : Nc 60 16000000 (rD (row.map fun _ => (0 : Int))) := nc_r (fun x hx => by
      obtain ⟨_, _, rfl⟩ := List.mem_map.mp hx
      unfold InKey
      decide) (by rw [List.length_map]; exact hl100)
    have eq0 : cutI row 1000000000000 = row.map fun _ => (0 : Int) := List.map_congr_left fun x hx => by
      have := hk x hx
      unfold InKey at this
      unfold cutB
      rw [if_neg (by omega)]
    have q : R_cut [.dat (rD row), .dat (.int 1000000000000)] [] (.dat (rD (row.map fun _ => (0 : Int)))) [] := ⟨row, _, rfl, by omega, rfl, by rw [eq0], rfl⟩
    refine ts_ret (ee_op (ee_cb (ea_cons (ee_callD (S1 := Sc row keys (.dat (rD (row.map g))) a b c d e f h') (ed_cons (ee_var rfl) (ed_cons (ee_eq (y := .dat (.int 1000000000000)) (ee_op ee_int ee_int ro_pow) (by rw [big12])) ed_nil)) rfl q) ea_nil) (rc_rep nO)) (ee_cb (ea_cons (many (Sc row keys (.dat (rD (row.map g))) a b c d e f h') 0 rfl) ea_nil) (rc_rep nO)) ro_eqS_self) ⟨rfl, rfl⟩
end
end K04

set_option maxRecDepth 100000
set_option maxHeartbeats 4000000
namespace K04
open PySem PySem.Spec PyProof.Rows L2 DL
/-! ### a row is let just if its words are -/
theorem cut_at {row : List Int} {key : Int} {i : Nat} (h : i < row.length) : (cutI row key).getD i 0 = cutB key (row.getD i 0) := by
  unfold cutI
  rw [List.getD_eq_getElem?_getD, List.getD_eq_getElem?_getD, List.getElem?_map, List.getElem?_eq_getElem h]
  rfl
theorem words_let {ps : List Pr} {row : List Int} (hp : PrOk row.length ps) : ((setI row).map fun key => letsN ps (cutI row key)).all id = letsN ps row := by
  rw [List.all_map, Bool.eq_iff_iff, List.all_eq_true, lets_iff]
  constructor
  · intro h x hx
    have h2 := hp x hx
    have l1 : x.1 < row.length := by omega
    have hm : row.getD x.2 0 ∈ row := by
      rw [List.getD_eq_getElem?_getD, List.getElem?_eq_getElem h2.2]
      exact List.getElem_mem _
    have h3 := lets_iff.mp (h _ (setI_mem.mpr hm)) x hx
    rw [cut_at l1, cut_at h2.2] at h3
    by_cases e : row.getD x.1 0 ≤ row.getD x.2 0
    · exact e
    · have e1 : cutB (row.getD x.2 0) (row.getD x.1 0) = 1 := if_pos (by omega)
      have e2 : cutB (row.getD x.2 0) (row.getD x.2 0) = 0 := if_neg (by omega)
      rw [e1, e2] at h3
      exact absurd h3 (by decide)
  · intro h key _
    refine lets_iff.mpr fun x hx => ?_
    have h2 := hp x hx
    have h3 := h x hx
    rw [cut_at (by omega), cut_at h2.2]
    unfold cutB
    split <;> split <;> omega
theorem bools_all : ∀ bs : List Bool, (!(bs.map PyData.bool).any fun z => PyData.eqv z (.bool false)) = bs.all id
  | [] => rfl
  | b :: bs => by
    rw [List.map_cons, List.any_cons, List.all_cons, ← bools_all bs, Bool.not_or]
    cases b <;> rfl
theorem keys_deep {row : List Int} {W : Well} (h : W.deep.length ≤ 100) : (keysOf row W).2.deep.length ≤ 100 := mixed_deep _ _ _ _ h
section
variable {P : Program} {w : World} {K : PySem.W.Frag} {mg : Str → Option Value} {base : Heap}
def gKwlets : List Value → List Value → List Value
  | [], [a1, a2] => [a2, a1]
  | _, _ => []
def gKwVlets : List V → List V → List V
  | [], [a1, a2] => [a2, a1]
  | _, _ => []
theorem kb_lets (D : Df K mg "lets" slets ["order", "row"]) : KBinds K D.fd ["order", "row"] ["row", "order"] gKwlets gKwVlets := by
  obtain ⟨oc, od, kV, doc, pm, an, cdv, ct, osl, e, lk, hcd⟩ := D.F.ex
  refine ⟨fun s us ws _ hl => ?_, fun {vs us zs ws} r rz => ?_⟩
  · match us, ws, hl with
    | [], [a1, a2], _ =>
      rw [e]
      exact .of_eq rfl
    | [], [], h => cases h
    | [], [_], h => cases h
    | [], _ :: _ :: _ :: _, h => cases h
    | _ :: _, _, h => cases h
  · cases r with
    | cons h t => exact .nil
    | nil => cases rz with
      | nil => exact .nil
      | cons h1 t1 => cases t1 with
        | nil => exact .nil
        | cons h2 t2 => cases t2 with
          | nil => exact .cons h2 (.cons h1 (.nil))
          | cons _ _ => exact .nil
theorem ee_klets {R : FR} {E : XK} {tk : TA} {S S2 : SS} {d1 d2 d : PyData} (hk : Ed K tk S [d1, d2] S2) (hR : R [.dat d2, .dat d1] [] (.dat d) []) : Ee K (tCallK (spD K 2 R) gKwVlets E tNil tk) S (.dat d) S2 := by
  refine ee_callK (ds := []) (es := [d1, d2]) (fs := [d2, d1]) ed_nil hk (fun Hf vs zs h1 h2 => ?_) rfl hR
  cases h1
  cases h2 with
  | cons q1 t1 =>
    cases t1 with
    | cons q2 t2 =>
      cases t2
      exact .cons q2 (.cons q1 (.nil))
def R_right : FR := fun as ob r ob' => ∃ (W : Well) (n : Nat) (ps : List Pr) (row : List Int) (b : Bool), as = [.own 0, .dat (.int (n : Int)), .dat (.tuple (ps.map pD)), .dat (rD row), .dat (.bool b)] ∧ ob = [W.oo] ∧ W.deep.length ≤ 100 ∧ PrOk row.length ps ∧ ps.length ≤ 625 ∧ 1 ≤ row.length ∧ row.length ≤ 25 ∧ (∀ x ∈ row, InKey x) ∧ r = .dat (.bool true) ∧ ob' = [(keysOf row W).2.oo]
abbrev Sr (n : Nat) (ps : List Pr) (row : List Int) (b : Bool) (ks : List Int) (W : Well) (a c d e : SD) : SS := ⟨[.own 0, .dat (.int (n : Int)), .dat (.tuple (ps.map pD)), .dat (rD row), .dat (.bool b), .dat (.str (PyData.list [.tuple (ps.map pD), rD row]).shown), .dat (.bool (letsN ps row)), .dat (.list (ks.map PyData.int)), a, c, d, e], [W.oo]⟩
theorem sc_law_is_right : FnScope ["well", "n", "order", "row", "is_named", "known", "due", "keys", "found", "key", "by_words", "one"] ["well", "n", "order", "row", "is_named"] (defScope s_law_is_right) := ⟨rfl, rfl, rfl, by decide +kernel, rfl, by decide +kernel, by decide +kernel⟩
theorem ok_law_is_right (D : Df K mg "_law_is_right" s_law_is_right ["well", "n", "order", "row", "is_named"]) (B : Bi mg) (Dlets : Df K mg "lets" slets ["order", "row"]) (Dcut : Df K mg "cut" scut ["row", "key"]) (D_law_draw : Df K mg "_law_draw" s_law_draw ["well", "many"]) (D_law_mixed : Df K mg "_law_mixed" s_law_mixed ["well", "items"]) (D_law_is_let : Df K mg "_law_is_let" s_law_is_let ["order", "row"]) (D_law_keys : Df K mg "_law_keys" s_law_keys ["well", "row"]) (D_law_are_cuts : Df K mg "_law_are_cuts" s_law_are_cuts ["row", "keys"]) : FnG P w K mg base CX0 4 D.f D.fd ["well", "n", "order", "row", "is_named"] (spD K 5 R_right) := by
  have oklets : FnG P w K mg base CX0 1 _ _ _ _ := oklets Dlets B
  have okcut : FnG P w K mg base CX0 1 _ _ _ _ := okcut Dcut B
  have ok_law_is_let : FnG P w K mg base CX0 1 _ _ _ _ := ok_law_is_let D_law_is_let B
  have ok_law_keys : FnG P w K mg base CX0 3 _ _ _ _ := ok_law_keys D_law_keys B D_law_draw D_law_mixed
  have ok_law_are_cuts : FnG P w K mg base CX0 2 _ _ _ _ := ok_law_are_cuts D_law_are_cuts B Dcut
  have KBlets := kb_lets Dlets
  refine okG D.F sc_law_is_right (fun vs H Q E h => h.1) (fun cdv A outer s H vs Q E hr gd h => ?_)
  have hu := huX hr
  refine ⟨_, (pss_cons (ps_par3 (i := 5) (j := 6) (l := 7) (by rfl) sc_law_is_right.nd rfl rfl rfl (by decide) (by decide) (by decide) rfl rfl rfl (pa_cons (pe_callB (call_reprD gd hu) (by rfl) B.z_repr (by decide +kernel) (pa_cons (pe_lst (pa_cons (pv 2) (pa_cons (pv 3) pa_nil))) pa_nil)) (pa_cons (pe_callG (ok_law_is_let) (hr.mono (by decide)) gd (by rfl) D_law_is_let.m D_law_is_let.F.kp D_law_is_let.b .nil pass0 (pa_cons (pv 2) (pa_cons (pv 3) pa_nil))) (pa_cons (pe_callG (ok_law_keys) (hr.mono (by decide)) gd (by rfl) D_law_keys.m D_law_keys.F.kp D_law_keys.b .nil pass0 (pa_cons (pv 0) (pa_cons (pv 3) pa_nil))) pa_nil))) (by rfl))
      (pss_cons (ps_set (i := 8) sc_law_is_right.nd rfl (Or.inl rfl) (pe_ifExp (pt_val (pv 4)) (pe_callK0 (oklets) (hr.mono (by decide)) gd (by rfl) Dlets.m Dlets.F.kp KBlets pass0 (pk_cons (pv 3) (pk_cons (pv 2) pk_nil))) (pe_callG (oklets) (hr.mono (by decide)) gd (by rfl) Dlets.m Dlets.F.kp Dlets.b .nil pass0 (pa_cons (pv 2) (pa_cons (pv 3) pa_nil)))))
      (pss_cons (ps_if (PW.pt (pw_or (pt_cmpR (op_neU hu) (pe_callB (call_reprD gd hu) (by rfl) B.z_repr (by decide +kernel) (pa_cons (pv 8) pa_nil)) (pe_callB (call_reprD gd hu) (by rfl) B.z_repr (by decide +kernel) (pa_cons (pv 6) pa_nil)) (nomark _)) (pw_or (pt_not (pt_val (pe_callG (ok_law_are_cuts) (hr.mono (by decide)) gd (by rfl) D_law_are_cuts.m D_law_are_cuts.F.kp D_law_are_cuts.b .nil pass0 (pa_cons (pv 3) (pa_cons (pv 7) pa_nil))))) (pw_or1 (pt_cmpR (op_neU hu) (pe_callB (call_reprD gd hu) (by rfl) B.z_repr (by decide +kernel) (pa_cons (pe_callG (oklets) (hr.mono (by decide)) gd (by rfl) Dlets.m Dlets.F.kp Dlets.b .nil pass0 (pa_cons (pv 2) (pa_cons (pv 3) pa_nil))) pa_nil)) (pe_callB (call_reprD gd hu) (by rfl) B.z_repr (by decide +kernel) (pa_cons (pv 6) pa_nil)) (nomark _)))))) (pss_one (ps_ret pe_bl)) pss_nil)
      (pss_cons (ps_setLc (i := 10) (own := [("key", 9)]) (g := gName 9) (tt := tYes) (by rfl) sc_law_is_right.nd rfl rfl (sw_true rfl rfl rfl (by decide +kernel)) (pi_list (pe_callB (cr_sortedSet rfl) (by rfl) B.z_sorted (by decide +kernel) (pa_cons (pe_callTy (cr_setI rfl) (by rfl) B.z_set (by decide +kernel) (pa_cons (pv 3) pa_nil)) pa_nil))) (blkOk_by (own := [("key", 9)]) (N := ["well", "n", "order", "row", "is_named", "known", "due", "keys", "found", "key", "by_words", "one"]) (sc := defScope s_law_is_right) (by decide +kernel)) (fun _ _ _ _ _ => (pg_name (i := 9) sc_law_is_right.nd rfl (Or.inl rfl))) (fun _ _ _ _ _ => pts_nil) (fun _ _ _ _ _ => (pe_callG (oklets) (hr.mono (by decide)) gd (by rfl) Dlets.m Dlets.F.kp Dlets.b .nil pass0 (pa_cons (pv 2) (pa_cons (pe_callG (okcut) (hr.mono (by decide)) gd (by rfl) Dcut.m Dcut.F.kp Dcut.b .nil pass0 (pa_cons (pv 3) (pa_cons (pv 9) pa_nil))) pa_nil)))))
      (pss_cons (ps_if (PW.pt (pw_or (pt_cmpR (op_neU hu) (pe_cmpR (op_nInL (Nat.lt_of_le_of_lt (Nat.add_le_add_left (by decide) _) hu)) pe_bl (pv 10) (by with_unfolding_all rfl)) (pv 6) (nomark _)) (pw_or1 (pt_cmpR (op_neU hu) (pe_lc (own := [("one", 11)]) (g := gName 11) (by rfl) sc_law_is_right.nd (pi_list (pv 10)) (blkOk_by (own := [("one", 11)]) (N := ["well", "n", "order", "row", "is_named", "known", "due", "keys", "found", "key", "by_words", "one"]) (sc := defScope s_law_is_right) (by decide +kernel)) (fun _ _ _ _ _ => (pg_name (i := 11) sc_law_is_right.nd rfl (Or.inl rfl))) (fun _ _ _ _ _ => (pts_one (pt_cmpR (opK K (R := rNotInT) (op_notInT (Nat.lt_of_le_of_lt (Nat.add_le_add_left (by decide) _) hu)) rfl) (pv 11) (pe_tup (pa_cons pe_bl (pa_cons pe_bl pa_nil))) (by with_unfolding_all rfl)))) (fun _ _ _ _ _ => pe_int)) (pe_lst pa_nil) (nomark _))))) (pss_one (ps_ret pe_bl)) pss_nil)
      (pss_one (ps_ret (pe_cmpR (op_eqU hu) (pe_callB (call_reprD gd hu) (by rfl) B.z_repr (by decide +kernel) (pa_cons (pe_lst (pa_cons (pv 2) (pa_cons (pv 3) pa_nil))) pa_nil)) (pv 5) (nomark _))))))))), ?_⟩
  refine body_of h (by decide) fun as ob r ob' hR hl => ?_
  obtain ⟨W, n, ps, row, b, rfl, rfl, hW, hp, hz, h1, h25, hk, rfl, rfl⟩ := hR
  have nO : Nc 2 2400000 (.tuple (ps.map pD)) := nc_prs h25 (fun x hx => by have := hp x hx; omega) hz
  have nR : Nc 2 2400000 (rD row) := (nc_rowT hk h25).mono (by decide) (by decide)
  have nb : Nc 60 16000000 (.list [.tuple (ps.map pD), rD row]) := nc_list (fun d hd => by
    rcases List.mem_cons.mp hd with rfl | hd
    · exact nO
    · rw [List.mem_singleton.mp hd]
      exact nR) (show (2 : Nat) ≤ 4 by decide)
  have nB : Nc 60 16000000 (.bool (letsN ps row)) := (Nc.bl (k := 1) _).mono (by decide) (by decide)
  have qL : R_lets [.dat (.tuple (ps.map pD)), .dat (rD row)] [] (.dat (.bool (letsN ps row))) [] := ⟨ps, row, rfl, by omega, hp, rfl, rfl, rfl⟩
  have kd := keys_deep (row := row) hW
  have kl := keys_len row W
  refine ts_seq (ts_par3 (x := .dat (.str (PyData.list [.tuple (ps.map pD), rD row]).shown)) (y := .dat (.bool (letsN ps row))) (z := .dat (.list ((keysOf row W).1.map PyData.int))) (ea_cons (ee_cb (ea_cons (ee_lst (ed_cons (ee_var rfl) (ed_cons (ee_var rfl) ed_nil)) (show (2 : Nat) ≤ 1000000 by decide)) ea_nil) (rc_rep nb)) (ea_cons (ee_callD (ed_cons (ee_var rfl) (ed_cons (ee_var rfl) ed_nil)) rfl ⟨ps, row, rfl, hp, by omega, rfl, rfl, rfl⟩) (ea_cons (ee_w1 (R := R_keys) (W := W) (W' := (keysOf row W).2) (k := 0) [rD row] (ea_cons (ee_var rfl) (ea_cons (ee_var rfl) ea_nil)) rfl rfl ⟨W, row, rfl, rfl, hW, h1, by omega, rfl, rfl⟩) ea_nil))) ?_)
  show Ts K _ (Sr n ps row b (keysOf row W).1 (keysOf row W).2 .un .un .un .un) _
  generalize (keysOf row W).2 = W2 at kd ⊢
  generalize (keysOf row W).1 = ks at kl ⊢
  refine ts_seq (ts_asg (x := .dat (.bool (letsN ps row))) (S1 := Sr n ps row b ks W2 .un .un .un .un) (ee_if (S1 := Sr n ps row b ks W2 .un .un .un .un) (et_test (ee_var rfl)) (fun _ => ee_klets (ed_cons (ee_var rfl) (ed_cons (ee_var rfl) ed_nil)) qL) fun _ => ee_callD (ed_cons (ee_var rfl) (ed_cons (ee_var rfl) ed_nil)) rfl qL) ?_)
  show Ts K _ (Sr n ps row b ks W2 (.dat (.bool (letsN ps row))) .un .un .un) _
  have ls := setI_len row
  refine ts_seq (ts_if (b := false) (S1 := Sr n ps row b ks W2 (.dat (.bool (letsN ps row))) .un .un .un) (et_orF (et_test (ee_op (ee_cb (ea_cons (ee_var rfl) ea_nil) (rc_rep nB)) (ee_cb (ea_cons (ee_var rfl) ea_nil) (rc_rep nB)) ro_neS_self)) (et_orF (et_eq (et_not (et_B (ee_callD (d := .bool true) (ed_cons (ee_var rfl) (ed_cons (ee_var rfl) ed_nil)) rfl ⟨row, ks, rfl, h1, by omega, hk, by omega, rfl, rfl, rfl⟩))) rfl) (et_test (ee_op (ee_cb (ea_cons (ee_callD (ed_cons (ee_var rfl) (ed_cons (ee_var rfl) ed_nil)) rfl qL) ea_nil) (rc_rep nB)) (ee_cb (ea_cons (ee_var rfl) ea_nil) (rc_rep nB)) ro_neS_self)))) (fun z => by cases z) fun _ => ts_next ?_)
  generalize hbs : (setI row).map (fun key => letsN ps (cutI row key)) = bs
  have hall : bs.all id = letsN ps row := by
    rw [← hbs]
    exact words_let hp
  have bl : bs.length ≤ 25 := by
    rw [← hbs, List.length_map]
    omega
  refine ts_seq (ts_asg (x := .dat (.list (bs.map PyData.bool))) (S1 := Sr n ps row b ks W2 (.dat (.bool (letsN ps row))) .un .un .un) (ee_of_el ?_) ?_)
  · rw [← hbs, List.map_map]
    refine el_lcmA (dA := PyData.int) (lst := setI row) (S0 := Sr n ps row b ks W2 (.dat (.bool (letsN ps row))) .un .un .un) (ei_list (ee_of_el (el_sset (us := row) (ea_cons (ee_var rfl) ea_nil) (.inr rfl) (by omega) (fun _ h => h) (by omega)))) (by omega) fun key _ => ⟨_, egc_name (by decide), rfl, _, ee_callD (ed_cons (ee_var rfl) (ed_cons (ee_callD (ed_cons (ee_var rfl) (ed_cons (ee_var rfl) ed_nil)) rfl ⟨row, key, rfl, by omega, rfl, rfl, rfl⟩) ed_nil)) rfl ⟨ps, cutI row key, rfl, by omega, by rw [cutI_len]; exact hp, rfl, rfl, rfl⟩, rfl⟩
  show Ts K _ (Sr n ps row b ks W2 (.dat (.bool (letsN ps row))) .un (.dat (.list (bs.map PyData.bool))) .un) _
  have flb : ∀ z ∈ bs.map PyData.bool, Fl 1 z := fun z hz => by
    obtain ⟨q, _, rfl⟩ := List.mem_map.mp hz
    exact Fl.bl
  have two : ∀ q : Bool, (!([PyData.bool true, .bool false].any fun z => PyData.eqv z (.bool q))) = false := fun q => by cases q <;> rfl
  refine ts_seq (ts_if (b := false) (S1 := Sr n ps row b ks W2 (.dat (.bool (letsN ps row))) .un (.dat (.list (bs.map PyData.bool))) .un) (et_orF (et_test (ee_op (ee_eq (y := .dat (.bool (letsN ps row))) (ee_op ee_bl (ee_var rfl) (ro_nInL (ds := bs.map PyData.bool) (d := .bool false) (.dat _) (.dat _) ((Fl.bl (k := 1)).sh) ((Fl.lst flb).sh))) (by rw [bools_all, hall])) (ee_var rfl) (ro_neD_self (.dat _) (.dat _) (Fl.bl (k := 1))))) (et_test (ee_op (ee_eq (x := .dat (.list ((bs.filter fun _ => false).map fun _ => PyData.int 1))) (y := .dat (.list [])) (ee_of_el (el_lcfA (dA := PyData.bool) (lst := bs) (p := fun _ => false) (f := fun _ => PyData.int 1) (S0 := Sr n ps row b ks W2 (.dat (.bool (letsN ps row))) .un (.dat (.list (bs.map PyData.bool))) .un) (ei_list (ee_var rfl)) (by omega) fun q _ => ⟨_, _, egc_name (by decide), et_eq (et_test (ee_op (ee_var rfl) (ee_tup (ds := [.bool true, .bool false]) (ed_cons ee_bl (ed_cons ee_bl ed_nil))) (ro_notInTD (.dat _) (.dat _) ((Fl.bl (k := 1)).sh) (by decide)))) (two q), rfl, fun z => by cases z⟩)) (by rw [List.filter_eq_nil_iff.mpr (fun _ _ z => by cases z)]; rfl)) (ee_of_el (el_lst ed_nil)) (ro_neD_self (.dat _) (.dat _) (Fl.lst (k := 0) fun _ z => by cases z))))) (fun z => by cases z) fun _ => ts_next ?_)
  exact ts_ret (ee_op (ee_cb (ea_cons (ee_lst (ed_cons (ee_var rfl) (ed_cons (ee_var rfl) ed_nil)) (show (2 : Nat) ≤ 1000000 by decide)) ea_nil) (rc_rep nb)) (ee_var rfl) ro_eqS_self) ⟨rfl, rfl⟩
end
end K04

set_option maxRecDepth 100000
set_option maxHeartbeats 4000000
namespace K04
open PySem PySem.Spec PyProof.Rows L2 DL
/-! ### rows along an order -/
def mx2 (i j : Int) : Int := if j > i then j else i
theorem mx2_key {i j : Int} (h1 : InKey i) (h2 : InKey j) : InKey (mx2 i j) := by
  unfold mx2
  split
  · exact h2
  · exact h1
def castP (x : Pr) : Int × Int := ((x.1 : Int), (x.2 : Int))
theorem cast_D (ps : List Pr) : (ps.map castP).map DL.prD = ps.map pD := by
  rw [List.map_map]
  rfl
def alS (L : List Int) (z : Int × Int) : List Int := L.set z.2.toNat (mx2 (L.getD z.2.toNat 0) (L.getD z.1.toNat 0))
structure RowIn (n : Nat) (L : List Int) : Prop where
  len : L.length = n
  key : ∀ x ∈ L, InKey x
theorem RowIn.at_ {n : Nat} {L : List Int} (h : RowIn n L) (i : Nat) : InKey (L.getD i 0) := getD_mem h.key (by unfold InKey; decide)
theorem RowIn.put {n : Nat} {L : List Int} (h : RowIn n L) (i : Nat) {x : Int} (hx : InKey x) : RowIn n (L.set i x) := ⟨by rw [List.length_set]; exact h.len, fun y hy => by
  rcases List.mem_or_eq_of_mem_set hy with hy | rfl
  · exact h.key y hy
  · exact hx⟩
theorem alF_ok {n : Nat} : ∀ {zs : List (Int × Int)} {L : List Int}, RowIn n L → RowIn n (zs.foldl alS L)
  | [], _, h => h
  | z :: zs, L, h => alF_ok (zs := zs) (h.put _ (mx2_key (h.at_ _) (h.at_ _)))
def al0 (ps : List Pr) (row : List Int) : List Int := (sndSort (ps.map castP)).foldl alS row
def p4L : List Int := [1, 1, 2, (10 : Int) ^ (12 : Int).toNat]
def al1 (L : List Int) (W : Well) : List Int × Well :=
  (L.set (draw (L.length : Int) W).1.toNat (mx2 (-((10 : Int) ^ (12 : Int).toNat)) (L.getD (draw (L.length : Int) W).1.toNat 0 - p4L.getD (draw 4 (draw (L.length : Int) W).2).1.toNat 0)), (draw 4 (draw (L.length : Int) W).2).2)
def alongN (ps : List Pr) (row : List Int) (W : Well) : List Int × Well := if (draw 3 W).1 = 0 then al1 (al0 ps row) (draw 3 W).2 else (al0 ps row, (draw 3 W).2)
theorem al1_ok {n : Nat} {L : List Int} {W : Well} (h : RowIn n L) : RowIn n (al1 L W).1 := by
  refine h.put _ ?_
  have hx := h.at_ (draw (L.length : Int) W).1.toNat
  have hp : 1 ≤ p4L.getD (draw 4 (draw (L.length : Int) W).2).1.toNat 0 ∨ p4L.getD (draw 4 (draw (L.length : Int) W).2).1.toNat 0 = 0 := getD_mem (p := fun x => 1 ≤ x ∨ x = 0) (fun x hx => by
    unfold p4L at hx
    rw [big12] at hx
    simp at hx
    omega) (.inr rfl)
  unfold mx2
  rw [big12]
  unfold InKey at hx ⊢
  split <;> omega
theorem along_ok {n : Nat} {ps : List Pr} {row : List Int} {W : Well} (h : RowIn n row) : RowIn n (alongN ps row W).1 := by
  unfold alongN
  split
  · exact al1_ok (alF_ok h)
  · exact alF_ok h
theorem along_deep {ps : List Pr} {row : List Int} {W : Well} (h : W.deep.length ≤ 100) : (alongN ps row W).2.deep.length ≤ 100 := by
  unfold alongN
  split
  · exact draw_deep _ _ (draw_deep _ _ (draw_deep _ _ h))
  · exact draw_deep _ _ h
def qT : Str := (envOfC "_law_along" (defScope s_law_along) 0 0 .none).qual ++ "<lambda>"
section
variable {P : Program} {w : World} {K : PySem.W.Frag} {mg : Str → Option Value} {base : Heap}
def R_along (PT : Addr) : FR := fun as ob r ob' => ∃ (W : Well) (n : Nat) (ps : List Pr) (row : List Int), as = [.own 0, .dat (.int (n : Int)), .dat (.tuple (ps.map pD)), .dat (rD row)] ∧ ob = [W.oo, .tab PT qT] ∧ W.deep.length ≤ 100 ∧ PrOk n ps ∧ ps.length ≤ 10000 ∧ 1 ≤ n ∧ n ≤ 100 ∧ RowIn n row ∧ r = .dat (rD (alongN ps row W).1) ∧ ob' = [(alongN ps row W).2.oo, .tab PT qT]
abbrev Sal (PT : Addr) (n : Nat) (ps : List Pr) (row : List Int) (L : List Int) (W : Well) (a b c : SD) : SS := ⟨[.own 0, .dat (.int (n : Int)), .dat (.tuple (ps.map pD)), .dat (rD row), .own 2, a, b, c], [W.oo, .tab PT qT, .lst (L.map PyData.int)]⟩
theorem sc_law_along : FnScope ["well", "n", "order", "row", "found", "p", "q", "at"] ["well", "n", "order", "row"] (defScope s_law_along) := ⟨rfl, rfl, rfl, by decide +kernel, rfl, by decide +kernel, by decide +kernel⟩
theorem ok_law_along (D : Df K mg "_law_along" s_law_along ["well", "n", "order", "row"]) (B : Bi mg) (D_law_draw : Df K mg "_law_draw" s_law_draw ["well", "many"]) (D_law_pick : Df K mg "_law_pick" s_law_pick ["well", "items"]) {PT : Addr} (hT : ∃ c, D.fd.code = .ref c ∧ LamX.TabB base mg c PT) : FnG P w K mg base CX0 3 D.f D.fd ["well", "n", "order", "row"] (spD K 4 (R_along PT)) := by
  have ok_law_draw : FnG P w K mg base CX0 1 _ _ _ _ := ok_law_draw D_law_draw B
  have ok_law_pick : FnG P w K mg base CX0 2 _ _ _ _ := ok_law_pick D_law_pick B D_law_draw
  refine okGT D.F sc_law_along hT (fun vs H Q E h => h.1) (fun cdv c A outer s H vs Q E hcd TB hr gd h => ?_)
  have hu := huX hr
  have hd := hdX hr
  refine ⟨_, (pss_cons (ps_set (i := 4) sc_law_along.nd rfl (Or.inl rfl) (pe_callTy cb_list (by rfl) B.z_list (by decide +kernel) (pa_cons (pv 3) pa_nil)))
      (pss_cons (ps_for PassesOwn.never rfl (pi_list (pe_sortK "pair" TB hcd (by rfl) B.z_sorted hu hd (pa_cons (pv 2) pa_nil))) (pg_tup rfl (pgs_cons (pg_name (i := 5) sc_law_along.nd rfl (Or.inl rfl)) (pgs_cons (pg_name (i := 6) sc_law_along.nd rfl (Or.inl rfl)) pgs_nil)))
        (pss_one (ps_asg (pe_callB (call_max2 rfl) (by rfl) B.z_max (by decide +kernel) (pa_cons (pe_ix ix_seq (pv 4) (pv 6) (fun _ _ => rfl)) (pa_cons (pe_ix ix_seq (pv 4) (pv 5) (fun _ _ => rfl)) pa_nil))) (pg_sub (pv 4) (pv 6) set_list))))
      (pss_cons (ps_if (pt_cmpR (op_eqU hu) (pe_callG (ok_law_draw) (hr.mono (by decide)) gd (by rfl) D_law_draw.m D_law_draw.F.kp D_law_draw.b .nil pass0 (pa_cons (pv 0) (pa_cons pe_int pa_nil))) pe_int (nomark _)) (pss_cons (ps_set (i := 7) sc_law_along.nd rfl (Or.inl rfl) (pe_callG (ok_law_draw) (hr.mono (by decide)) gd (by rfl) D_law_draw.m D_law_draw.F.kp D_law_draw.b .nil pass0 (pa_cons (pv 0) (pa_cons (pv 1) pa_nil))))
        (pss_one (ps_asg (pe_callB (call_max2 rfl) (by rfl) B.z_max (by decide +kernel) (pa_cons (pe_un un_negU (pe_op op_powU pe_int pe_int)) (pa_cons (pe_op op_subU (pe_ix ix_seq (pv 4) (pv 7) (fun _ _ => rfl)) (pe_callG (ok_law_pick) (hr.mono (by decide)) gd (by rfl) D_law_pick.m D_law_pick.F.kp D_law_pick.b .nil pass0 (pa_cons (pv 0) (pa_cons (pe_lst (pa_cons pe_int (pa_cons pe_int (pa_cons pe_int (pa_cons (pe_op op_powU pe_int pe_int) pa_nil))))) pa_nil)))) pa_nil))) (pg_sub (pv 4) (pv 7) set_list)))) pss_nil)
      (pss_one (ps_ret (pe_callTy cb_tuple (by rfl) B.z_tuple (by decide +kernel) (pa_cons (pv 4) pa_nil))))))), ?_⟩
  refine body_ofG h (by decide) (fun as ob r ob' hR => ?_) fun as ob r ob' hR hl => ?_
  · obtain ⟨W, n, ps, row, rfl, rfl, _, _, _, _, _, _, rfl, rfl⟩ := hR
    exact ⟨Nat.le_refl _, fun _ z => by cases z⟩
  obtain ⟨W, n, ps, row, rfl, rfl, hW, hp, hz, h1, hn, hrow, rfl, rfl⟩ := hR
  refine ts_seq (ts_asg (x := .own 2) (S1 := ⟨[.own 0, .dat (.int (n : Int)), .dat (.tuple (ps.map pD)), .dat (rD row), .un, .un, .un, .un], [W.oo, .tab PT qT, .lst (row.map PyData.int)]⟩) (eo_of_el (el_cb (S1 := ⟨[.own 0, .dat (.int (n : Int)), .dat (.tuple (ps.map pD)), .dat (rD row), .un, .un, .un, .un], [W.oo, .tab PT qT]⟩) (ea_cons (ee_var rfl) ea_nil) rcl_listT)) ?_)
  show Ts K _ (Sal PT n ps row row W .un .un .un) _
  have zin : ∀ z ∈ sndSort (ps.map castP), ∃ x ∈ ps, z = castP x := fun z hz => by
    obtain ⟨x, hx, e⟩ := List.mem_map.mp ((sndSort_perm _).subset hz)
    exact ⟨x, hx, e.symm⟩
  refine ts_seq (ts_for (ds := (sndSort (ps.map castP)).map DL.prD) (S0 := Sal PT n ps row row W .un .un .un) (ei_list (ee_of_el (el_sortK (k := 1) (ee_eq (ee_var rfl) (by rw [cast_D])) rfl))) (fun i S => ∃ a b, S = Sal PT n ps row (((sndSort (ps.map castP)).take i).foldl alS row) W a b .un) ⟨.un, .un, rfl⟩ ?_ ?_)
  · rintro i d S' hd ⟨a, b, rfl⟩
    obtain ⟨z, hz, rfl⟩ := map_at hd
    obtain ⟨x, hx, rfl⟩ := zin z (List.mem_of_getElem? hz)
    have h2 := hp x hx
    rw [take_snoc hz, List.foldl_append]
    have hL : RowIn n (((sndSort (ps.map castP)).take i).foldl alS row) := alF_ok hrow
    generalize ((sndSort (ps.map castP)).take i).foldl alS row = L at hL
    have ll := hL.len
    refine ⟨_, eg_tup (egs_cons eg_name (egs_cons eg_name egs_nil)), ?_⟩
    show Ts K _ (Sal PT n ps row L W (.dat (.int (x.1 : Int))) (.dat (.int (x.2 : Int))) .un) _
    refine ts_asgG (d := .int (mx2 (L.getD x.2 0) (L.getD x.1 0))) (S1 := Sal PT n ps row L W (.dat (.int (x.1 : Int))) (.dat (.int (x.2 : Int))) .un) (ee_cb (ea_cons (ee_op (ee_var rfl) (ee_var rfl) (ro_ixL (.own rfl) (kI_at (by omega)))) (ea_cons (ee_op (ee_var rfl) (ee_var rfl) (ro_ixL (.own rfl) (kI_at (by omega)))) ea_nil)) rc_max2) (egh_sub (ee_var rfl) (ee_var rfl) rfl (ixN_nat (by rw [List.length_map]; omega))) ⟨.dat (.int (x.1 : Int)), .dat (.int (x.2 : Int)), ?_⟩
    show (⟨_, [_, _, .lst ((L.map PyData.int).set x.2 (.int (mx2 (L.getD x.2 0) (L.getD x.1 0))))]⟩ : SS) = ⟨_, [_, _, .lst ((L.set x.2 (mx2 (L.getD x.2 0) (L.getD x.1 0))).map PyData.int)]⟩
    rw [List.map_set]
  rintro S' ⟨a, b, rfl⟩
  rw [List.length_map, List.take_of_length_le (Nat.le_refl _)]
  have hL : RowIn n (al0 ps row) := alF_ok hrow
  unfold alongN
  show Ts K _ (Sal PT n ps row (al0 ps row) W a b .un) _
  generalize al0 ps row = L at hL
  have ll := hL.len
  have d1 := draw_deep 3 W hW
  refine ts_seq (ts_if (b := decide ((draw 3 W).1 = 0)) (S1 := Sal PT n ps row L (draw 3 W).2 a b .un) (et_test (ee_op (ee_dr (W := W) (k := 0) (ea_cons (ee_var rfl) (ea_cons ee_int ea_nil)) rfl (by decide) hW) ee_int ro_eqI)) (fun hb => ?_) fun hb => ts_next ?_)
  · rw [if_pos (of_decide_eq_true hb)]
    generalize (draw 3 W).2 = W1 at d1
    unfold al1
    rw [ll]
    have d2 := draw_deep (n : Int) W1 d1
    have hi := draw_nat (n := n) W1 (by omega)
    have hlo := draw_lo (n : Int) W1
    refine ts_seq (ts_asg (x := .dat (.int (draw (n : Int) W1).1)) (S1 := Sal PT n ps row L (draw (n : Int) W1).2 a b .un) (ee_dr (W := W1) (k := 0) (ea_cons (ee_var rfl) (ea_cons (ee_var rfl) ea_nil)) rfl (by omega) d1) ?_)
    obtain ⟨j, hj⟩ : ∃ j : Nat, (draw (n : Int) W1).1 = (j : Int) := ⟨(draw (n : Int) W1).1.toNat, by omega⟩
    rw [hj] at hi ⊢
    rw [Int.toNat_natCast] at hi ⊢
    generalize (draw (n : Int) W1).2 = W2 at d2
    show Ts K _ (Sal PT n ps row L W2 a b (.dat (.int (j : Int)))) _
    refine ts_asgG (d := .int (mx2 (-((10 : Int) ^ (12 : Int).toNat)) (L.getD j 0 - p4L.getD (draw 4 W2).1.toNat 0))) (S1 := Sal PT n ps row L (draw 4 W2).2 a b (.dat (.int (j : Int)))) (ee_cb (ea_cons (ee_un (ee_op ee_int ee_int ro_pow) ru_neg) (ea_cons (ee_op (ee_op (S1 := Sal PT n ps row L W2 a b (.dat (.int (j : Int)))) (S2 := Sal PT n ps row L W2 a b (.dat (.int (j : Int)))) (ee_var rfl) (ee_var rfl) (ro_ixL (.own rfl) (kI_at (by omega)))) (ee_pck (W := W2) (k := 0) (S1 := Sal PT n ps row L W2 a b (.dat (.int (j : Int)))) (ds := p4L.map PyData.int) (ea_cons (ee_var rfl) (ea_cons (ee_lst (ds := p4L.map PyData.int) (ed_cons ee_int (ed_cons ee_int (ed_cons ee_int (ed_cons (ee_op ee_int ee_int ro_pow) ed_nil)))) (show (4 : Nat) ≤ 1000000 by decide)) ea_nil)) rfl rfl (pick_at (show (0 : Nat) < 4 by decide)) (show (4 : Nat) ≤ 1000 by decide) d2) ro_sub) ea_nil)) rc_max2) (egh_sub (ee_var rfl) (ee_var rfl) rfl (ixN_nat (by rw [List.length_map]; omega))) ?_
    refine ts_ret (ee_cb (ea_cons (ee_var rfl) ea_nil) (rc_tupL (.own rfl))) ⟨?_, ⟨[.lst _], rfl⟩⟩
    unfold rD
    rw [List.map_set]
  · rw [if_neg (of_decide_eq_false hb)]
    exact ts_ret (ee_cb (ea_cons (ee_var rfl) ea_nil) (rc_tupL (.own rfl))) ⟨rfl, ⟨[.lst _], rfl⟩⟩
end
end K04

set_option maxRecDepth 100000
set_option maxHeartbeats 4000000
namespace K04
open PySem PySem.Spec PyProof.Rows L2 DL
/-! ### the law -/
theorem lets_pth {ps : List Pr} {row : List Int} : letsN ps row = true ↔ ∀ a b, Pth ps a b → row.getD a 0 ≤ row.getD b 0 := by
  rw [lets_iff]
  constructor
  · intro h a b p
    induction p with
    | one m => exact h _ m
    | more m _ ih => exact Int.le_trans (h _ m) ih
  · rintro h ⟨a, b⟩ hx
    exact h a b (.one hx)
theorem lets_same {ps qs : List Pr} {row : List Int} (h : ∀ a b, Pth ps a b ↔ Pth qs a b) : letsN ps row = letsN qs row := by
  rw [Bool.eq_iff_iff, lets_pth, lets_pth]
  exact ⟨fun k a b p => k a b ((h a b).mpr p), fun k a b p => k a b ((h a b).mp p)⟩
def sizes6 (a b c : Int) : List Int := [2, 3, 24, 4 + a, 5 + b, 2 + c]
theorem size6_at {a b c : Int} (a0 : 0 ≤ a) (a1 : a < 4) (b0 : 0 ≤ b) (b1 : b < 8) (c0 : 0 ≤ c) (c1 : c < 23) {i : Nat} (h : i < 6) : ∃ n : Nat, ((sizes6 a b c).map PyData.int)[i]? = some (.int (n : Int)) ∧ 2 ≤ n ∧ n ≤ 24 := by
  have e : ∀ x : Int, 2 ≤ x → x ≤ 24 → ∃ n : Nat, some (PyData.int x) = some (.int (n : Int)) ∧ 2 ≤ n ∧ n ≤ 24 := fun x h1 h2 => ⟨x.toNat, by rw [Int.toNat_of_nonneg (by omega)], by omega, by omega⟩
  match i, h with
  | 0, _ => exact e 2 (by decide) (by decide)
  | 1, _ => exact e 3 (by decide) (by decide)
  | 2, _ => exact e 24 (by decide) (by decide)
  | 3, _ => exact e (4 + a) (by omega) (by omega)
  | 4, _ => exact e (5 + b) (by omega) (by omega)
  | 5, _ => exact e (2 + c) (by omega) (by omega)
theorem row_in (n : Nat) (hn : n ≤ 100) (W : Well) : RowIn n (rowOf n W).1 := ⟨rowOf_len n W, rowOf_key (by omega) W⟩
theorem RowIn.sorted {n : Nat} {L : List Int} (h : RowIn n L) : RowIn n (sortI L) := ⟨by rw [(sortI_perm L).length_eq]; exact h.len, fun x hx => h.key x ((sortI_perm L).subset hx)⟩
theorem RowIn.flat {n : Nat} {L : List Int} (h : RowIn n L) : RowIn n (List.replicate n (L.getD 0 0)) := ⟨List.length_replicate, fun x hx => by
  rw [(List.mem_replicate.mp hx).2]
  exact h.at_ 0⟩
section
variable {P : Program} {w : World} {K : PySem.W.Frag} {mg : Str → Option Value} {base : Heap}
abbrev Sl (PT : Addr) (ns : List Int) (W : Well) (a b c d e f g : SD) : SS := ⟨[.scr ns, .own 1, a, b, c, d, e, f, g], [.tab PT qT, W.oo]⟩
def R_law (PT : Addr) : FR := fun as ob r ob' => ∃ ns, as = [.scr ns] ∧ ob = [.tab PT qT] ∧ r = .dat (.bool true) ∧ ob' = [.tab PT qT]
theorem ee_rt {E : XK} {ta : TA} {S S1 : SS} {W : Well} {n : Nat} {ps : List Pr} {row : List Int} {b : Bool} (ha : Ea K ta S [.own 1, .dat (.int (n : Int)), .dat (.tuple (ps.map pD)), .dat (rD row), .dat (.bool b)] S1) (ho : S1.ob[1]? = some W.oo) (hW : W.deep.length ≤ 100) (hp : PrOk n ps) (hz : ps.length ≤ 625) (h1 : 2 ≤ n) (h2 : n ≤ 24) (hr : RowIn n row) :
    Ee K (tCall (spD K 5 R_right) [] E ta) S (.dat (.bool true)) { S1 with ob := S1.ob.set 1 (keysOf row W).2.oo } :=
  ee_w1 (R := R_right) (k := 1) (W := W) (W' := (keysOf row W).2) [.int (n : Int), .tuple (ps.map pD), rD row, .bool b] ha ho rfl ⟨W, n, ps, row, b, rfl, rfl, hW, by rw [hr.len]; exact hp, hz, by rw [hr.len]; omega, by rw [hr.len]; omega, hr.key, rfl, rfl⟩
theorem sclaw : FnScope ["script", "well", "turn", "n", "order", "row", "nth", "own", "due"] ["script"] (defScope slaw) := ⟨rfl, rfl, rfl, by decide +kernel, rfl, by decide +kernel, by decide +kernel⟩
theorem oklaw (D : Df K mg "law" slaw ["script"]) (B : Bi mg) (Dlets : Df K mg "lets" slets ["order", "row"]) (Dcut : Df K mg "cut" scut ["row", "key"]) (Dclosed : Df K mg "closed" sclosed ["n", "order"]) (Dleast_order : Df K mg "least_order" sleast_order ["n", "order"]) (D_places_above : Df K mg "_places_above" s_places_above ["n", "order"]) (D_pairs : Df K mg "_pairs" s_pairs ["above"]) (D_law_well : Df K mg "_law_well" s_law_well ["script"]) (D_law_draw : Df K mg "_law_draw" s_law_draw ["well", "many"]) (D_law_pick : Df K mg "_law_pick" s_law_pick ["well", "items"]) (D_law_mixed : Df K mg "_law_mixed" s_law_mixed ["well", "items"]) (D_law_pairs : Df K mg "_law_pairs" s_law_pairs ["n"]) (D_law_order : Df K mg "_law_order" s_law_order ["well", "n"]) (D_law_row : Df K mg "_law_row" s_law_row ["well", "n"]) (D_law_is_let : Df K mg "_law_is_let" s_law_is_let ["order", "row"]) (D_law_along : Df K mg "_law_along" s_law_along ["well", "n", "order", "row"]) (D_law_keys : Df K mg "_law_keys" s_law_keys ["well", "row"]) (D_law_are_cuts : Df K mg "_law_are_cuts" s_law_are_cuts ["row", "keys"]) (D_law_is_right : Df K mg "_law_is_right" s_law_is_right ["well", "n", "order", "row", "is_named"]) {PT : Addr} (hT : ∃ c, D_law_along.fd.code = .ref c ∧ LamX.TabB base mg c PT) : FnG P w K mg base CX0 5 D.f D.fd ["script"] (spD K 1 (R_law PT)) := by
  have oklets : FnG P w K mg base CX0 1 _ _ _ _ := oklets Dlets B
  have okclosed : FnG P w K mg base CX0 2 _ _ _ _ := okclosed Dclosed B D_places_above D_pairs
  have okleast_order : FnG P w K mg base CX0 2 _ _ _ _ := okleast_order Dleast_order B D_places_above D_pairs
  have ok_law_well : FnG P w K mg base CX0 1 _ _ _ _ := ok_law_well D_law_well B
  have ok_law_draw : FnG P w K mg base CX0 1 _ _ _ _ := ok_law_draw D_law_draw B
  have ok_law_pairs : FnG P w K mg base CX0 1 _ _ _ _ := ok_law_pairs D_law_pairs B
  have ok_law_order : FnG P w K mg base CX0 3 _ _ _ _ := ok_law_order D_law_order B D_law_draw D_law_pick D_law_pairs
  have ok_law_row : FnG P w K mg base CX0 3 _ _ _ _ := ok_law_row D_law_row B D_law_draw D_law_pick D_law_mixed
  have ok_law_along : FnG P w K mg base CX0 3 _ _ _ _ := ok_law_along D_law_along B D_law_draw D_law_pick hT
  have ok_law_is_right : FnG P w K mg base CX0 4 _ _ _ _ := ok_law_is_right D_law_is_right B Dlets Dcut D_law_draw D_law_mixed D_law_is_let D_law_keys D_law_are_cuts
  refine okG D.F sclaw (fun vs H Q E h => h.1) (fun cdv A outer s H vs Q E hr gd h => ?_)
  have hu := huX hr
  refine ⟨_, (pss_cons (ps_set (i := 1) sclaw.nd rfl (Or.inl rfl) (pe_callG (ok_law_well) (hr.mono (by decide)) gd (by rfl) D_law_well.m D_law_well.F.kp D_law_well.b .nil pass0 (pa_cons (pv 0) pa_nil)))
      (pss_cons (ps_for PassesOwn.never rfl (pi_range1 (by rfl) B.z_range (pa_cons pe_int pa_nil)) (pg_name (i := 2) sclaw.nd rfl (Or.inl rfl))
        (pss_cons (ps_set (i := 3) sclaw.nd rfl (Or.inl rfl) (pe_ix ix_seq (pe_lst (pa_cons pe_int (pa_cons pe_int (pa_cons pe_int (pa_cons (pe_op op_plus pe_int (pe_callG (ok_law_draw) (hr.mono (by decide)) gd (by rfl) D_law_draw.m D_law_draw.F.kp D_law_draw.b .nil pass0 (pa_cons (pv 1) (pa_cons pe_int pa_nil)))) (pa_cons (pe_op op_plus pe_int (pe_callG (ok_law_draw) (hr.mono (by decide)) gd (by rfl) D_law_draw.m D_law_draw.F.kp D_law_draw.b .nil pass0 (pa_cons (pv 1) (pa_cons pe_int pa_nil)))) (pa_cons (pe_op op_plus pe_int (pe_callG (ok_law_draw) (hr.mono (by decide)) gd (by rfl) D_law_draw.m D_law_draw.F.kp D_law_draw.b .nil pass0 (pa_cons (pv 1) (pa_cons pe_int pa_nil)))) pa_nil))))))) (pv 2) (fun _ _ => rfl)))
        (pss_cons (ps_set (i := 4) sclaw.nd rfl (Or.inl rfl) (pe_callG (ok_law_order) (hr.mono (by decide)) gd (by rfl) D_law_order.m D_law_order.F.kp D_law_order.b .nil pass0 (pa_cons (pv 1) (pa_cons (pv 3) pa_nil))))
        (pss_cons (ps_set (i := 5) sclaw.nd rfl (Or.inl rfl) (pe_callG (ok_law_row) (hr.mono (by decide)) gd (by rfl) D_law_row.m D_law_row.F.kp D_law_row.b .nil pass0 (pa_cons (pv 1) (pa_cons (pv 3) pa_nil))))
        (pss_cons (ps_for PassesOwn.never rfl (pi_enum (by rfl) B.z_enumerate (pa_cons (pe_lst (pa_cons (pv 5) (pa_cons (pe_callG (ok_law_along) (hr.mono (by decide)) gd (by rfl) D_law_along.m D_law_along.F.kp D_law_along.b .nil pass0 (pa_cons (pv 1) (pa_cons (pv 3) (pa_cons (pv 4) (pa_cons (pv 5) pa_nil))))) (pa_cons (pe_callTy cb_tuple (by rfl) B.z_tuple (by decide +kernel) (pa_cons (pe_callB cr_sortU (by rfl) B.z_sorted (by decide +kernel) (pa_cons (pv 5) pa_nil)) pa_nil)) (pa_cons (pe_op op_mulS (pe_tup (pa_cons (pe_ix ix_seq (pv 5) pe_int (fun _ _ => rfl)) pa_nil)) (pv 3)) pa_nil))))) pa_nil)) (pg_tup rfl (pgs_cons (pg_name (i := 6) sclaw.nd rfl (Or.inl rfl)) (pgs_cons (pg_name (i := 7) sclaw.nd rfl (Or.inl rfl)) pgs_nil)))
          (pss_one (ps_if (pt_not (pt_val (pe_callG (ok_law_is_right) (hr.mono (by decide)) gd (by rfl) D_law_is_right.m D_law_is_right.F.kp D_law_is_right.b .nil pass0 (pa_cons (pv 1) (pa_cons (pv 3) (pa_cons (pv 4) (pa_cons (pv 7) (pa_cons (pe_cmpR (op_eqU hu) (pv 6) (pe_op op_modU (pv 2) pe_int) (nomark _)) pa_nil)))))))) (pss_one (ps_ret pe_bl)) pss_nil)))
        (pss_cons (ps_if (PW.pt (pw_or (pt_cmpR op_notBl (pe_callG (oklets) (hr.mono (by decide)) gd (by rfl) Dlets.m Dlets.F.kp Dlets.b .nil pass0 (pa_cons (pe_tup pa_nil) (pa_cons (pv 5) pa_nil))) pe_bl (nomark _)) (pw_or1 (pt_not (pt_val (pe_callG (ok_law_is_right) (hr.mono (by decide)) gd (by rfl) D_law_is_right.m D_law_is_right.F.kp D_law_is_right.b .nil pass0 (pa_cons (pv 1) (pa_cons (pv 3) (pa_cons (pe_callTy cb_tuple (by rfl) B.z_tuple (by decide +kernel) (pa_cons (pe_callG (ok_law_pairs) (hr.mono (by decide)) gd (by rfl) D_law_pairs.m D_law_pairs.F.kp D_law_pairs.b .nil pass0 (pa_cons (pv 3) pa_nil)) pa_nil)) (pa_cons (pv 5) (pa_cons pe_bl pa_nil))))))))))) (pss_one (ps_ret pe_bl)) pss_nil)
        (pss_cons (ps_set (i := 8) sclaw.nd rfl (Or.inl rfl) (pe_callG (oklets) (hr.mono (by decide)) gd (by rfl) Dlets.m Dlets.F.kp Dlets.b .nil pass0 (pa_cons (pv 4) (pa_cons (pv 5) pa_nil))))
        (pss_one (ps_if (PW.pt (pw_and (pt_cmpR (op_ltU hu) (pv 3) pe_int (nomark _)) (pw_and1 (pt_cmpR (op_neU hu) (pe_callB (call_reprD gd hu) (by rfl) B.z_repr (by decide +kernel) (pa_cons (pe_lst (pa_cons (pe_callG (oklets) (hr.mono (by decide)) gd (by rfl) Dlets.m Dlets.F.kp Dlets.b .nil pass0 (pa_cons (pe_callG (okclosed) (hr.mono (by decide)) gd (by rfl) Dclosed.m Dclosed.F.kp Dclosed.b .nil pass0 (pa_cons (pv 3) (pa_cons (pv 4) pa_nil))) (pa_cons (pv 5) pa_nil))) (pa_cons (pe_callG (oklets) (hr.mono (by decide)) gd (by rfl) Dlets.m Dlets.F.kp Dlets.b .nil pass0 (pa_cons (pe_callG (okleast_order) (hr.mono (by decide)) gd (by rfl) Dleast_order.m Dleast_order.F.kp Dleast_order.b .nil pass0 (pa_cons (pv 3) (pa_cons (pv 4) pa_nil))) (pa_cons (pv 5) pa_nil))) pa_nil))) pa_nil)) (pe_callB (call_reprD gd hu) (by rfl) B.z_repr (by decide +kernel) (pa_cons (pe_lst (pa_cons (pv 8) (pa_cons (pv 8) pa_nil))) pa_nil)) (nomark _))))) (pss_one (ps_ret pe_bl)) pss_nil)))))))))
      (pss_one (ps_ret pe_bl)))), ?_⟩
  refine body_ofG h (by decide) (fun as ob r ob' hR => ?_) fun as ob r ob' hR hl => ?_
  · obtain ⟨ns, rfl, rfl, rfl, rfl⟩ := hR
    exact ⟨Nat.le_refl _, fun _ z => by cases z⟩
  obtain ⟨ns, rfl, rfl, rfl, rfl⟩ := hR
  refine ts_seq (ts_asg (x := .own 1) (S1 := ⟨[.scr ns, .un, .un, .un, .un, .un, .un, .un, .un], [.tab PT qT, (wellOf ns).oo]⟩) (ee_call0 (r := .own 0) (ob' := [(wellOf ns).oo]) (as := [.scr ns]) (S1 := ⟨[.scr ns, .un, .un, .un, .un, .un, .un, .un, .un], [.tab PT qT]⟩) (ea_cons (ee_var rfl) ea_nil) (fun a h => by rw [List.mem_singleton.mp h]; trivial) rfl ⟨ns, rfl, rfl, rfl, rfl⟩) ?_)
  have hW := well_small ns
  generalize wellOf ns = W at hW
  show Ts K _ (Sl PT ns W .un .un .un .un .un .un .un) _
  refine ts_seq (ts_for (S0 := Sl PT ns W .un .un .un .un .un .un .un) (ei_rng1 (n := 6) (ed_cons ee_int ed_nil) (by decide)) (fun i S => ∃ W a b c d e f g, S = Sl PT ns W a b c d e f g ∧ W.deep.length ≤ 100) ⟨W, .un, .un, .un, .un, .un, .un, .un, rfl, hW⟩ ?_ ?_)
  · rintro i d S' hd ⟨W, a, b, c, d', e, f, g, rfl, hW⟩
    obtain ⟨hi, rfl⟩ := rngD_get hd
    have hi6 : i < 6 := hi
    have e0 : (0 : Int) + (i : Int) = (i : Int) := by omega
    rw [e0]
    have d1 := draw_deep 4 W hW
    have d2 := draw_deep 8 (draw 4 W).2 d1
    have d3 := draw_deep 23 (draw 8 (draw 4 W).2).2 d2
    obtain ⟨n, hn, hn2, hn24⟩ := size6_at (draw_lo 4 W) (draw_hi (m := 4) W (by decide)) (draw_lo 8 (draw 4 W).2) (draw_hi (m := 8) (draw 4 W).2 (by decide)) (draw_lo 23 (draw 8 (draw 4 W).2).2) (draw_hi (m := 23) (draw 8 (draw 4 W).2).2 (by decide)) hi6
    refine ⟨_, eg_name, ts_seq (ts_asg (x := .dat (.int (n : Int))) (S1 := Sl PT ns (draw 23 (draw 8 (draw 4 W).2).2).2 (.dat (.int (i : Int))) b c d' e f g) (ee_op (ee_lst (ds := (sizes6 (draw 4 W).1 (draw 8 (draw 4 W).2).1 (draw 23 (draw 8 (draw 4 W).2).2).1).map PyData.int) (S1 := Sl PT ns (draw 23 (draw 8 (draw 4 W).2).2).2 (.dat (.int (i : Int))) b c d' e f g) (ed_cons ee_int (ed_cons ee_int (ed_cons ee_int
      (ed_cons (ee_op ee_int (ee_dr (S1 := Sl PT ns W (.dat (.int (i : Int))) b c d' e f g) (W := W) (k := 1) (ea_cons (ee_var rfl) (ea_cons ee_int ea_nil)) rfl (by decide) hW) ro_add)
      (ed_cons (ee_op ee_int (ee_dr (S1 := Sl PT ns (draw 4 W).2 (.dat (.int (i : Int))) b c d' e f g) (W := (draw 4 W).2) (k := 1) (ea_cons (ee_var rfl) (ea_cons ee_int ea_nil)) rfl (by decide) d1) ro_add)
      (ed_cons (ee_op ee_int (ee_dr (S1 := Sl PT ns (draw 8 (draw 4 W).2).2 (.dat (.int (i : Int))) b c d' e f g) (W := (draw 8 (draw 4 W).2).2) (k := 1) (ea_cons (ee_var rfl) (ea_cons ee_int ea_nil)) rfl (by decide) d2) ro_add) ed_nil)))))) (show (6 : Nat) ≤ 1000000 by decide)) (ee_var rfl) (ro_ixL (.dat _) (atI_nat hn))) ?_)⟩
    generalize (draw 23 (draw 8 (draw 4 W).2).2).2 = W3 at d3
    show Ts K _ (Sl PT ns W3 (.dat (.int (i : Int))) (.dat (.int (n : Int))) c d' e f g) _
    have o := orderN_ord n W3
    have d4 := orderN_deep n W3 d3
    refine ts_seq (ts_asg (x := .dat (.tuple ((orderN n W3).1.map pD))) (S1 := Sl PT ns (orderN n W3).2 (.dat (.int (i : Int))) (.dat (.int (n : Int))) c d' e f g) (ee_w1 (R := R_order) (W := W3) (W' := (orderN n W3).2) (k := 1) (S1 := Sl PT ns W3 (.dat (.int (i : Int))) (.dat (.int (n : Int))) c d' e f g) [.int (n : Int)] (ea_cons (ee_var rfl) (ea_cons (ee_var rfl) ea_nil)) rfl rfl ⟨W3, n, rfl, rfl, d3, by omega, by omega, rfl, rfl⟩) ?_)
    generalize (orderN n W3).2 = W4 at d4
    generalize (orderN n W3).1 = ps at o
    have hp : PrOk n ps := o.ok
    have pz : ps.length ≤ 625 := ord_625 (by omega) o
    show Ts K _ (Sl PT ns W4 (.dat (.int (i : Int))) (.dat (.int (n : Int))) (.dat (.tuple (ps.map pD))) d' e f g) _
    have d5 := rowOf_deep n W4 d4
    refine ts_seq (ts_asg (x := .dat (rD (rowOf n W4).1)) (S1 := Sl PT ns (rowOf n W4).2 (.dat (.int (i : Int))) (.dat (.int (n : Int))) (.dat (.tuple (ps.map pD))) d' e f g) (ee_w1 (R := R_row) (W := W4) (W' := (rowOf n W4).2) (k := 1) (S1 := Sl PT ns W4 (.dat (.int (i : Int))) (.dat (.int (n : Int))) (.dat (.tuple (ps.map pD))) d' e f g) [.int (n : Int)] (ea_cons (ee_var rfl) (ea_cons (ee_var rfl) ea_nil)) rfl rfl ⟨W4, n, rfl, rfl, d4, by omega, rfl, rfl⟩) ?_)
    have hrow := row_in n (by omega) W4
    generalize (rowOf n W4).2 = W5 at d5
    generalize (rowOf n W4).1 = row at hrow
    have rl := hrow.len
    show Ts K _ (Sl PT ns W5 (.dat (.int (i : Int))) (.dat (.int (n : Int))) (.dat (.tuple (ps.map pD))) (.dat (rD row)) e f g) _
    have d6 : (alongN ps row W5).2.deep.length ≤ 100 := along_deep d5
    have hal : RowIn n (alongN ps row W5).1 := along_ok hrow
    have qA : R_along PT [.own 0, .dat (.int (n : Int)), .dat (.tuple (ps.map pD)), .dat (rD row)] [W5.oo, .tab PT qT] (.dat (rD (alongN ps row W5).1)) [(alongN ps row W5).2.oo, .tab PT qT] := ⟨W5, n, ps, row, rfl, rfl, d5, hp, by omega, by omega, by omega, hrow, rfl, rfl⟩
    generalize (alongN ps row W5).2 = W6 at d6 qA
    generalize (alongN ps row W5).1 = al at hal qA
    have rep : (.dat (.tuple (repD ((n : Nat) : Int).toNat [.int (row.getD 0 0)])) : SD) = .dat (rD (List.replicate n (row.getD 0 0))) := by
      rw [Int.toNat_natCast, rep_ints]
      rfl
    have all : ∀ own ∈ [row, al, sortI row, List.replicate n (row.getD 0 0)], RowIn n own := fun own ho => by
      simp only [List.mem_cons, List.not_mem_nil, or_false] at ho
      rcases ho with rfl | rfl | rfl | rfl
      · exact hrow
      · exact hal
      · exact hrow.sorted
      · exact hrow.flat
    refine ts_seq (ts_for (ds := enumD ([row, al, sortI row, List.replicate n (row.getD 0 0)].map rD)) (S0 := Sl PT ns W6 (.dat (.int (i : Int))) (.dat (.int (n : Int))) (.dat (.tuple (ps.map pD))) (.dat (rD row)) e f g) (ei_enum (ed_cons (ee_lst (ds := [row, al, sortI row, List.replicate n (row.getD 0 0)].map rD) (S1 := Sl PT ns W6 (.dat (.int (i : Int))) (.dat (.int (n : Int))) (.dat (.tuple (ps.map pD))) (.dat (rD row)) e f g) (ed_cons (ee_var rfl)
      (ed_cons (ee_call2 (k := 1) (k2 := 0) (o' := W6.oo) (S1 := Sl PT ns W5 (.dat (.int (i : Int))) (.dat (.int (n : Int))) (.dat (.tuple (ps.map pD))) (.dat (rD row)) e f g) (as := [.own 0, .dat (.int (n : Int)), .dat (.tuple (ps.map pD)), .dat (rD row)]) (ea_cons (ee_var rfl) (ea_cons (ee_var rfl) (ea_cons (ee_var rfl) (ea_cons (ee_var rfl) ea_nil)))) rfl (fun a h j e => by
          subst e
          simp at h
          exact h) rfl (o := W5.oo) rfl (fun z => by cases z) (fun _ z => by cases z) (o2 := .tab PT qT) rfl (fun z => by cases z) (fun _ z => by cases z) (by decide) qA (fun j z => by cases z))
      (ed_cons (ee_cb (ea_cons (ee_cb (ea_cons (ee_var rfl) ea_nil) rc_sortT) ea_nil) (rc_tupL (.dat _)))
      (ed_cons (ee_eq (ee_op (ee_tup (ds := [.int (row.getD 0 0)]) (ed_cons (ee_op (ee_var rfl) ee_int (ro_ixT (at_int0 (by omega)))) ed_nil) (show (1 : Nat) ≤ 1000000 by decide)) (ee_var rfl) (ro_mulS (by omega) (by omega) (show (1 : Nat) ≤ 1000 by decide))) rep) ed_nil)))) (show (4 : Nat) ≤ 1000000 by decide)) ed_nil)) (fun j S => ∃ W e f, S = Sl PT ns W (.dat (.int (i : Int))) (.dat (.int (n : Int))) (.dat (.tuple (ps.map pD))) (.dat (rD row)) e f g ∧ W.deep.length ≤ 100) ⟨W6, e, f, rfl, d6⟩ ?_ ?_)
    · rintro j d S' hd ⟨W, e, f, rfl, hW⟩
      obtain ⟨y, hy, rfl⟩ := enumD_get hd
      obtain ⟨own, ho, rfl⟩ := map_at hy
      have hown := all own (List.mem_of_getElem? ho)
      have kd := keys_deep (row := own) hW
      refine ⟨_, eg_tup (egs_cons eg_name (egs_cons eg_name egs_nil)), ?_⟩
      show Ts K _ (Sl PT ns W (.dat (.int (i : Int))) (.dat (.int (n : Int))) (.dat (.tuple (ps.map pD))) (.dat (rD row)) (.dat (.int (j : Int))) (.dat (rD own)) g) _
      exact ts_if (b := false) (S1 := Sl PT ns (keysOf own W).2 (.dat (.int (i : Int))) (.dat (.int (n : Int))) (.dat (.tuple (ps.map pD))) (.dat (rD row)) (.dat (.int (j : Int))) (.dat (rD own)) g) (et_eq (et_not (et_B (ee_rt (W := W) (S1 := Sl PT ns W (.dat (.int (i : Int))) (.dat (.int (n : Int))) (.dat (.tuple (ps.map pD))) (.dat (rD row)) (.dat (.int (j : Int))) (.dat (rD own)) g) (ea_cons (ee_var rfl) (ea_cons (ee_var rfl) (ea_cons (ee_var rfl) (ea_cons (ee_var rfl) (ea_cons (ee_op (ee_var rfl) (ee_op (ee_var rfl) ee_int (ro_mod (by decide))) ro_eqI) ea_nil))))) rfl hW hp pz hn2 hn24 hown))) rfl) (fun z => by cases z) fun _ => ts_next ⟨_, _, _, rfl, kd⟩
    rintro S' ⟨W, e, f, rfl, hW⟩
    have kd := keys_deep (row := row) hW
    have qE : R_lets [.dat (.tuple (([] : List Pr).map pD)), .dat (rD row)] [] (.dat (.bool true)) [] := ⟨[], row, rfl, by decide, (fun _ z => by cases z), rfl, rfl, rfl⟩
    have qL : R_lets [.dat (.tuple (ps.map pD)), .dat (rD row)] [] (.dat (.bool (letsN ps row))) [] := ⟨ps, row, rfl, by omega, by rw [rl]; exact hp, rfl, rfl, rfl⟩
    have po := pairsN_ord n n
    refine ts_seq (ts_if (b := false) (S1 := Sl PT ns (keysOf row W).2 (.dat (.int (i : Int))) (.dat (.int (n : Int))) (.dat (.tuple (ps.map pD))) (.dat (rD row)) e f g) (et_orF (et_test (ee_op (ee_callD (S1 := Sl PT ns W (.dat (.int (i : Int))) (.dat (.int (n : Int))) (.dat (.tuple (ps.map pD))) (.dat (rD row)) e f g) (ed_cons (ee_tup (ds := []) ed_nil) (ed_cons (ee_var rfl) ed_nil)) rfl qE) ee_bl ro_notBl)) (et_eq (et_not (et_B (ee_rt (W := W) (S1 := Sl PT ns W (.dat (.int (i : Int))) (.dat (.int (n : Int))) (.dat (.tuple (ps.map pD))) (.dat (rD row)) e f g) (ps := pairsN n n) (ea_cons (ee_var rfl) (ea_cons (ee_var rfl) (ea_cons (ee_cb (ea_cons (ee_callD (ed_cons (ee_var rfl) ed_nil) rfl ⟨n, rfl, by omega, rfl, rfl, rfl⟩) ea_nil) (rc_tupL (.dat _))) (ea_cons (ee_var rfl) (ea_cons ee_bl ea_nil))))) rfl hW po.ok (ord_625 (by omega) po) hn2 hn24 hrow))) rfl)) (fun z => by cases z) fun _ => ts_next ?_)
    generalize (keysOf row W).2 = W7 at kd
    refine ts_seq (ts_asg (x := .dat (.bool (letsN ps row))) (S1 := Sl PT ns W7 (.dat (.int (i : Int))) (.dat (.int (n : Int))) (.dat (.tuple (ps.map pD))) (.dat (rD row)) e f g) (ee_callD (ed_cons (ee_var rfl) (ed_cons (ee_var rfl) ed_nil)) rfl qL) ?_)
    show Ts K _ (Sl PT ns W7 (.dat (.int (i : Int))) (.dat (.int (n : Int))) (.dat (.tuple (ps.map pD))) (.dat (rD row)) e f (.dat (.bool (letsN ps row)))) _
    have oc := cloN_ord o
    have ol := lstN_ord o
    have lc : (cloN n ps).length ≤ 625 := prs_625 (by omega) _
    have ll : (lstN n ps).length ≤ 625 := prs_625 (by omega) _
    have q1 : R_lets [.dat (.tuple ((cloN n ps).map pD)), .dat (rD row)] [] (.dat (.bool (letsN ps row))) [] := ⟨cloN n ps, row, rfl, by omega, by rw [rl]; exact oc.ok, rfl, by rw [lets_same fun a b => clo_pth o], rfl⟩
    have q2 : R_lets [.dat (.tuple ((lstN n ps).map pD)), .dat (rD row)] [] (.dat (.bool (letsN ps row))) [] := ⟨lstN n ps, row, rfl, by omega, by rw [rl]; exact ol.ok, rfl, by rw [lets_same fun a b => lst_pth o], rfl⟩
    have nb : Nc 60 16000000 (.list [.bool (letsN ps row), .bool (letsN ps row)]) := nc_list (fun d hd => by
      rcases List.mem_cons.mp hd with rfl | hd
      · exact (Nc.bl (k := 1) _).mono (by decide) (by decide)
      · rw [List.mem_singleton.mp hd]
        exact (Nc.bl (k := 1) _).mono (by decide) (by decide)) (show (2 : Nat) ≤ 4 by decide)
    generalize letsN ps row = due at q1 q2 nb
    exact ts_if (b := (decide ((n : Int) < 10) && false)) (S1 := Sl PT ns W7 (.dat (.int (i : Int))) (.dat (.int (n : Int))) (.dat (.tuple (ps.map pD))) (.dat (rD row)) e f (.dat (.bool due))) (et_and (et_test (ee_op (ee_var rfl) ee_int ro_lt)) fun _ => et_test (ee_op (ee_cb (ea_cons (ee_lst (ds := [.bool due, .bool due]) (ed_cons (ee_callD (ed_cons (ee_callD (ed_cons (ee_var rfl) (ed_cons (ee_var rfl) ed_nil)) rfl ⟨n, ps, rfl, by omega, by omega, hp, rfl, rfl, rfl⟩) (ed_cons (ee_var rfl) ed_nil)) rfl q1) (ed_cons (ee_callD (ed_cons (ee_callD (ed_cons (ee_var rfl) (ed_cons (ee_var rfl) ed_nil)) rfl ⟨n, ps, rfl, by omega, by omega, o, rfl, rfl, rfl⟩) (ed_cons (ee_var rfl) ed_nil)) rfl q2) ed_nil)) (show (2 : Nat) ≤ 1000000 by decide)) ea_nil) (rc_rep nb)) (ee_cb (ea_cons (ee_lst (ed_cons (ee_var rfl) (ed_cons (ee_var rfl) ed_nil)) (show (2 : Nat) ≤ 1000000 by decide)) ea_nil) (rc_rep nb)) ro_neS_self)) (fun z => by rw [Bool.and_false] at z; cases z) fun _ => ts_next ⟨W7, _, _, _, _, _, _, _, rfl, kd⟩
  · rintro S' ⟨W, a, b, c, d, e, f, g, rfl, _⟩
    exact ts_ret ee_bl ⟨rfl, ⟨[W.oo], rfl⟩⟩
end
end K04

set_option maxRecDepth 100000
set_option maxHeartbeats 4000000
namespace K04
open PySem PySem.Spec PyProof.Rows L2 DL
theorem all_mk {l : PySem.W.OpenLaw} {w : World} {K : PySem.W.Frag} {h : Heap} {mg : Str → Option Value} {fa : Addr} {PT cA : Addr} (X : K.In h) (G : h.Ns mainGlobals mg) (hfa : mg "law" = some (.ref fa))
    {f1 f2 f3 f4 f5 f6 f7 f8 f9 f10 f11 f12 f13 f14 f15 f16 f17 f18 f19 : Addr} {od1 an1 od2 an2 od3 an3 od4 an4 od5 an5 od6 an6 od7 an7 od8 an8 od9 an9 od10 an10 od11 an11 od12 an12 od13 an13 od14 an14 od15 an15 od16 an16 od17 an17 od18 an18 od19 an19 : Option Addr} {sl1 sl2 sl3 sl4 sl5 sl6 sl7 sl8 sl9 sl10 sl11 sl12 sl13 sl14 sl15 sl16 sl17 sl18 sl19 : Array (Option Value)} {oc1 kV1 dc1 pm1 cd1 ct1 oc2 kV2 dc2 pm2 cd2 ct2 oc3 kV3 dc3 pm3 cd3 ct3 oc4 kV4 dc4 pm4 cd4 ct4 oc5 kV5 dc5 pm5 cd5 ct5 oc6 kV6 dc6 pm6 cd6 ct6 oc7 kV7 dc7 pm7 cd7 ct7 oc8 kV8 dc8 pm8 cd8 ct8 oc9 kV9 dc9 pm9 cd9 ct9 oc10 kV10 dc10 pm10 cd10 ct10 oc11 kV11 dc11 pm11 cd11 ct11 oc12 kV12 dc12 pm12 cd12 ct12 oc13 kV13 dc13 pm13 cd13 ct13 oc14 kV14 dc14 pm14 cd14 ct14 oc15 kV15 dc15 pm15 cd15 ct15 oc16 kV16 dc16 pm16 ct16 oc17 kV17 dc17 pm17 cd17 ct17 oc18 kV18 dc18 pm18 cd18 ct18 oc19 kV19 dc19 pm19 cd19 ct19 : Value}
    (hPT : K.lookup PT = none) (hHD : PySem.W.codeHdIn K cA PT = true)
    (a1 : PySem.W.nsIn K mainGlobals "law" = some (some (.ref f1))) (l1 : K.lookup f1 = some ⟨oc1, od1, .func (PySem.W.fnOf "law" "law" (defArgs slaw) (defBody slaw) (defScope slaw) .none kV1 dc1 pm1 an1 cd1 ct1), sl1⟩) (c1 : PySem.W.codeIn K cd1 "law" = true) (k1 : PySem.W.keepIn K (.ref f1) = true)
    (a2 : PySem.W.nsIn K mainGlobals "lets" = some (some (.ref f2))) (l2 : K.lookup f2 = some ⟨oc2, od2, .func (PySem.W.fnOf "lets" "lets" (defArgs slets) (defBody slets) (defScope slets) .none kV2 dc2 pm2 an2 cd2 ct2), sl2⟩) (c2 : PySem.W.codeIn K cd2 "lets" = true) (k2 : PySem.W.keepIn K (.ref f2) = true)
    (a3 : PySem.W.nsIn K mainGlobals "cut" = some (some (.ref f3))) (l3 : K.lookup f3 = some ⟨oc3, od3, .func (PySem.W.fnOf "cut" "cut" (defArgs scut) (defBody scut) (defScope scut) .none kV3 dc3 pm3 an3 cd3 ct3), sl3⟩) (c3 : PySem.W.codeIn K cd3 "cut" = true) (k3 : PySem.W.keepIn K (.ref f3) = true)
    (a4 : PySem.W.nsIn K mainGlobals "closed" = some (some (.ref f4))) (l4 : K.lookup f4 = some ⟨oc4, od4, .func (PySem.W.fnOf "closed" "closed" (defArgs sclosed) (defBody sclosed) (defScope sclosed) .none kV4 dc4 pm4 an4 cd4 ct4), sl4⟩) (c4 : PySem.W.codeIn K cd4 "closed" = true) (k4 : PySem.W.keepIn K (.ref f4) = true)
    (a5 : PySem.W.nsIn K mainGlobals "least_order" = some (some (.ref f5))) (l5 : K.lookup f5 = some ⟨oc5, od5, .func (PySem.W.fnOf "least_order" "least_order" (defArgs sleast_order) (defBody sleast_order) (defScope sleast_order) .none kV5 dc5 pm5 an5 cd5 ct5), sl5⟩) (c5 : PySem.W.codeIn K cd5 "least_order" = true) (k5 : PySem.W.keepIn K (.ref f5) = true)
    (a6 : PySem.W.nsIn K mainGlobals "_places_above" = some (some (.ref f6))) (l6 : K.lookup f6 = some ⟨oc6, od6, .func (PySem.W.fnOf "_places_above" "_places_above" (defArgs s_places_above) (defBody s_places_above) (defScope s_places_above) .none kV6 dc6 pm6 an6 cd6 ct6), sl6⟩) (c6 : PySem.W.codeIn K cd6 "_places_above" = true) (k6 : PySem.W.keepIn K (.ref f6) = true)
    (a7 : PySem.W.nsIn K mainGlobals "_pairs" = some (some (.ref f7))) (l7 : K.lookup f7 = some ⟨oc7, od7, .func (PySem.W.fnOf "_pairs" "_pairs" (defArgs s_pairs) (defBody s_pairs) (defScope s_pairs) .none kV7 dc7 pm7 an7 cd7 ct7), sl7⟩) (c7 : PySem.W.codeIn K cd7 "_pairs" = true) (k7 : PySem.W.keepIn K (.ref f7) = true)
    (a8 : PySem.W.nsIn K mainGlobals "_law_well" = some (some (.ref f8))) (l8 : K.lookup f8 = some ⟨oc8, od8, .func (PySem.W.fnOf "_law_well" "_law_well" (defArgs s_law_well) (defBody s_law_well) (defScope s_law_well) .none kV8 dc8 pm8 an8 cd8 ct8), sl8⟩) (c8 : PySem.W.codeIn K cd8 "_law_well" = true) (k8 : PySem.W.keepIn K (.ref f8) = true)
    (a9 : PySem.W.nsIn K mainGlobals "_law_draw" = some (some (.ref f9))) (l9 : K.lookup f9 = some ⟨oc9, od9, .func (PySem.W.fnOf "_law_draw" "_law_draw" (defArgs s_law_draw) (defBody s_law_draw) (defScope s_law_draw) .none kV9 dc9 pm9 an9 cd9 ct9), sl9⟩) (c9 : PySem.W.codeIn K cd9 "_law_draw" = true) (k9 : PySem.W.keepIn K (.ref f9) = true)
    (a10 : PySem.W.nsIn K mainGlobals "_law_pick" = some (some (.ref f10))) (l10 : K.lookup f10 = some ⟨oc10, od10, .func (PySem.W.fnOf "_law_pick" "_law_pick" (defArgs s_law_pick) (defBody s_law_pick) (defScope s_law_pick) .none kV10 dc10 pm10 an10 cd10 ct10), sl10⟩) (c10 : PySem.W.codeIn K cd10 "_law_pick" = true) (k10 : PySem.W.keepIn K (.ref f10) = true)
    (a11 : PySem.W.nsIn K mainGlobals "_law_mixed" = some (some (.ref f11))) (l11 : K.lookup f11 = some ⟨oc11, od11, .func (PySem.W.fnOf "_law_mixed" "_law_mixed" (defArgs s_law_mixed) (defBody s_law_mixed) (defScope s_law_mixed) .none kV11 dc11 pm11 an11 cd11 ct11), sl11⟩) (c11 : PySem.W.codeIn K cd11 "_law_mixed" = true) (k11 : PySem.W.keepIn K (.ref f11) = true)
    (a12 : PySem.W.nsIn K mainGlobals "_law_pairs" = some (some (.ref f12))) (l12 : K.lookup f12 = some ⟨oc12, od12, .func (PySem.W.fnOf "_law_pairs" "_law_pairs" (defArgs s_law_pairs) (defBody s_law_pairs) (defScope s_law_pairs) .none kV12 dc12 pm12 an12 cd12 ct12), sl12⟩) (c12 : PySem.W.codeIn K cd12 "_law_pairs" = true) (k12 : PySem.W.keepIn K (.ref f12) = true)
    (a13 : PySem.W.nsIn K mainGlobals "_law_order" = some (some (.ref f13))) (l13 : K.lookup f13 = some ⟨oc13, od13, .func (PySem.W.fnOf "_law_order" "_law_order" (defArgs s_law_order) (defBody s_law_order) (defScope s_law_order) .none kV13 dc13 pm13 an13 cd13 ct13), sl13⟩) (c13 : PySem.W.codeIn K cd13 "_law_order" = true) (k13 : PySem.W.keepIn K (.ref f13) = true)
    (a14 : PySem.W.nsIn K mainGlobals "_law_row" = some (some (.ref f14))) (l14 : K.lookup f14 = some ⟨oc14, od14, .func (PySem.W.fnOf "_law_row" "_law_row" (defArgs s_law_row) (defBody s_law_row) (defScope s_law_row) .none kV14 dc14 pm14 an14 cd14 ct14), sl14⟩) (c14 : PySem.W.codeIn K cd14 "_law_row" = true) (k14 : PySem.W.keepIn K (.ref f14) = true)
    (a15 : PySem.W.nsIn K mainGlobals "_law_is_let" = some (some (.ref f15))) (l15 : K.lookup f15 = some ⟨oc15, od15, .func (PySem.W.fnOf "_law_is_let" "_law_is_let" (defArgs s_law_is_let) (defBody s_law_is_let) (defScope s_law_is_let) .none kV15 dc15 pm15 an15 cd15 ct15), sl15⟩) (c15 : PySem.W.codeIn K cd15 "_law_is_let" = true) (k15 : PySem.W.keepIn K (.ref f15) = true)
    (a16 : PySem.W.nsIn K mainGlobals "_law_along" = some (some (.ref f16))) (l16 : K.lookup f16 = some ⟨oc16, od16, .func (PySem.W.fnOf "_law_along" "_law_along" (defArgs s_law_along) (defBody s_law_along) (defScope s_law_along) .none kV16 dc16 pm16 an16 (.ref cA) ct16), sl16⟩) (c16 : PySem.W.codeIn K (.ref cA) "_law_along" = true) (k16 : PySem.W.keepIn K (.ref f16) = true)
    (a17 : PySem.W.nsIn K mainGlobals "_law_keys" = some (some (.ref f17))) (l17 : K.lookup f17 = some ⟨oc17, od17, .func (PySem.W.fnOf "_law_keys" "_law_keys" (defArgs s_law_keys) (defBody s_law_keys) (defScope s_law_keys) .none kV17 dc17 pm17 an17 cd17 ct17), sl17⟩) (c17 : PySem.W.codeIn K cd17 "_law_keys" = true) (k17 : PySem.W.keepIn K (.ref f17) = true)
    (a18 : PySem.W.nsIn K mainGlobals "_law_are_cuts" = some (some (.ref f18))) (l18 : K.lookup f18 = some ⟨oc18, od18, .func (PySem.W.fnOf "_law_are_cuts" "_law_are_cuts" (defArgs s_law_are_cuts) (defBody s_law_are_cuts) (defScope s_law_are_cuts) .none kV18 dc18 pm18 an18 cd18 ct18), sl18⟩) (c18 : PySem.W.codeIn K cd18 "_law_are_cuts" = true) (k18 : PySem.W.keepIn K (.ref f18) = true)
    (a19 : PySem.W.nsIn K mainGlobals "_law_is_right" = some (some (.ref f19))) (l19 : K.lookup f19 = some ⟨oc19, od19, .func (PySem.W.fnOf "_law_is_right" "_law_is_right" (defArgs s_law_is_right) (defBody s_law_is_right) (defScope s_law_is_right) .none kV19 dc19 pm19 an19 cd19 ct19), sl19⟩) (c19 : PySem.W.codeIn K cd19 "_law_is_right" = true) (k19 : PySem.W.keepIn K (.ref f19) = true)
    (z1 : PySem.W.nsIn K mainGlobals "abs" = some none) (z2 : PySem.W.nsIn K mainGlobals "all" = some none) (z3 : PySem.W.nsIn K mainGlobals "enumerate" = some none) (z4 : PySem.W.nsIn K mainGlobals "int" = some none) (z5 : PySem.W.nsIn K mainGlobals "len" = some none) (z6 : PySem.W.nsIn K mainGlobals "list" = some none) (z7 : PySem.W.nsIn K mainGlobals "max" = some none) (z8 : PySem.W.nsIn K mainGlobals "range" = some none) (z9 : PySem.W.nsIn K mainGlobals "repr" = some none) (z10 : PySem.W.nsIn K mainGlobals "set" = some none) (z11 : PySem.W.nsIn K mainGlobals "sorted" = some none) (z12 : PySem.W.nsIn K mainGlobals "tuple" = some none) (z13 : PySem.W.nsIn K mainGlobals "zip" = some none) :
    ∃ (fd : FuncData) (c : Addr), PySem.W.codeHdIn (lessT K PT) c PT = true ∧ (∀ (s : Shared) (v : Value), BindsTo s fd ⟨[v], []⟩ [("script", v)]) ∧ ∀ base : Heap, (lessT K PT).In base → base.Ns mainGlobals mg → LamX.TabB base mg c PT → FnG l.prog w (lessT K PT) mg base CX0 5 fa fd ["script"] (spD (lessT K PT) 1 (R_law PT)) := by
  have e := hfa.symm.trans (PySem.W.mg_of X G a1)
  cases e
  have D2 : Df (lessT K PT) mg "lets" slets ["order", "row"] := ⟨f2, _, fun_mk (st := slets) (lessT_fn hPT l2) (lessT_code hPT c2) (lessT_keep hPT l2), .all fun us hl => match us, hl with | [_, _], _ => rfl, PySem.W.mg_of X G a2⟩
  have D3 : Df (lessT K PT) mg "cut" scut ["row", "key"] := ⟨f3, _, fun_mk (st := scut) (lessT_fn hPT l3) (lessT_code hPT c3) (lessT_keep hPT l3), .all fun us hl => match us, hl with | [_, _], _ => rfl, PySem.W.mg_of X G a3⟩
  have D4 : Df (lessT K PT) mg "closed" sclosed ["n", "order"] := ⟨f4, _, fun_mk (st := sclosed) (lessT_fn hPT l4) (lessT_code hPT c4) (lessT_keep hPT l4), .all fun us hl => match us, hl with | [_, _], _ => rfl, PySem.W.mg_of X G a4⟩
  have D5 : Df (lessT K PT) mg "least_order" sleast_order ["n", "order"] := ⟨f5, _, fun_mk (st := sleast_order) (lessT_fn hPT l5) (lessT_code hPT c5) (lessT_keep hPT l5), .all fun us hl => match us, hl with | [_, _], _ => rfl, PySem.W.mg_of X G a5⟩
  have D6 : Df (lessT K PT) mg "_places_above" s_places_above ["n", "order"] := ⟨f6, _, fun_mk (st := s_places_above) (lessT_fn hPT l6) (lessT_code hPT c6) (lessT_keep hPT l6), .all fun us hl => match us, hl with | [_, _], _ => rfl, PySem.W.mg_of X G a6⟩
  have D7 : Df (lessT K PT) mg "_pairs" s_pairs ["above"] := ⟨f7, _, fun_mk (st := s_pairs) (lessT_fn hPT l7) (lessT_code hPT c7) (lessT_keep hPT l7), .all fun us hl => match us, hl with | [_], _ => rfl, PySem.W.mg_of X G a7⟩
  have D8 : Df (lessT K PT) mg "_law_well" s_law_well ["script"] := ⟨f8, _, fun_mk (st := s_law_well) (lessT_fn hPT l8) (lessT_code hPT c8) (lessT_keep hPT l8), .all fun us hl => match us, hl with | [_], _ => rfl, PySem.W.mg_of X G a8⟩
  have D9 : Df (lessT K PT) mg "_law_draw" s_law_draw ["well", "many"] := ⟨f9, _, fun_mk (st := s_law_draw) (lessT_fn hPT l9) (lessT_code hPT c9) (lessT_keep hPT l9), .all fun us hl => match us, hl with | [_, _], _ => rfl, PySem.W.mg_of X G a9⟩
  have D10 : Df (lessT K PT) mg "_law_pick" s_law_pick ["well", "items"] := ⟨f10, _, fun_mk (st := s_law_pick) (lessT_fn hPT l10) (lessT_code hPT c10) (lessT_keep hPT l10), .all fun us hl => match us, hl with | [_, _], _ => rfl, PySem.W.mg_of X G a10⟩
  have D11 : Df (lessT K PT) mg "_law_mixed" s_law_mixed ["well", "items"] := ⟨f11, _, fun_mk (st := s_law_mixed) (lessT_fn hPT l11) (lessT_code hPT c11) (lessT_keep hPT l11), .all fun us hl => match us, hl with | [_, _], _ => rfl, PySem.W.mg_of X G a11⟩
  have D12 : Df (lessT K PT) mg "_law_pairs" s_law_pairs ["n"] := ⟨f12, _, fun_mk (st := s_law_pairs) (lessT_fn hPT l12) (lessT_code hPT c12) (lessT_keep hPT l12), .all fun us hl => match us, hl with | [_], _ => rfl, PySem.W.mg_of X G a12⟩
  have D13 : Df (lessT K PT) mg "_law_order" s_law_order ["well", "n"] := ⟨f13, _, fun_mk (st := s_law_order) (lessT_fn hPT l13) (lessT_code hPT c13) (lessT_keep hPT l13), .all fun us hl => match us, hl with | [_, _], _ => rfl, PySem.W.mg_of X G a13⟩
  have D14 : Df (lessT K PT) mg "_law_row" s_law_row ["well", "n"] := ⟨f14, _, fun_mk (st := s_law_row) (lessT_fn hPT l14) (lessT_code hPT c14) (lessT_keep hPT l14), .all fun us hl => match us, hl with | [_, _], _ => rfl, PySem.W.mg_of X G a14⟩
  have D15 : Df (lessT K PT) mg "_law_is_let" s_law_is_let ["order", "row"] := ⟨f15, _, fun_mk (st := s_law_is_let) (lessT_fn hPT l15) (lessT_code hPT c15) (lessT_keep hPT l15), .all fun us hl => match us, hl with | [_, _], _ => rfl, PySem.W.mg_of X G a15⟩
  obtain ⟨D16, e16⟩ : ∃ D : Df (lessT K PT) mg "_law_along" s_law_along ["well", "n", "order", "row"], D.fd.code = .ref cA := ⟨⟨f16, _, fun_mk (st := s_law_along) (lessT_fn hPT l16) (lessT_code hPT c16) (lessT_keep hPT l16), .all fun us hl => match us, hl with | [_, _, _, _], _ => rfl, PySem.W.mg_of X G a16⟩, rfl⟩
  have D17 : Df (lessT K PT) mg "_law_keys" s_law_keys ["well", "row"] := ⟨f17, _, fun_mk (st := s_law_keys) (lessT_fn hPT l17) (lessT_code hPT c17) (lessT_keep hPT l17), .all fun us hl => match us, hl with | [_, _], _ => rfl, PySem.W.mg_of X G a17⟩
  have D18 : Df (lessT K PT) mg "_law_are_cuts" s_law_are_cuts ["row", "keys"] := ⟨f18, _, fun_mk (st := s_law_are_cuts) (lessT_fn hPT l18) (lessT_code hPT c18) (lessT_keep hPT l18), .all fun us hl => match us, hl with | [_, _], _ => rfl, PySem.W.mg_of X G a18⟩
  have D19 : Df (lessT K PT) mg "_law_is_right" s_law_is_right ["well", "n", "order", "row", "is_named"] := ⟨f19, _, fun_mk (st := s_law_is_right) (lessT_fn hPT l19) (lessT_code hPT c19) (lessT_keep hPT l19), .all fun us hl => match us, hl with | [_, _, _, _, _], _ => rfl, PySem.W.mg_of X G a19⟩
  have B : Bi mg := ⟨PySem.W.mg_none_of X G z1, PySem.W.mg_none_of X G z2, PySem.W.mg_none_of X G z3, PySem.W.mg_none_of X G z4, PySem.W.mg_none_of X G z5, PySem.W.mg_none_of X G z6, PySem.W.mg_none_of X G z7, PySem.W.mg_none_of X G z8, PySem.W.mg_none_of X G z9, PySem.W.mg_none_of X G z10, PySem.W.mg_none_of X G z11, PySem.W.mg_none_of X G z12, PySem.W.mg_none_of X G z13⟩
  refine ⟨PySem.W.fnOf "law" "law" (defArgs slaw) (defBody slaw) (defScope slaw) .none kV1 dc1 pm1 an1 cd1 ct1, cA, lessT_hd hPT hHD, fun s v => .of_eq rfl, fun base hK hN TB => ?_⟩
  exact oklaw ⟨_, _, fun_mk (st := slaw) (lessT_fn hPT l1) (lessT_code hPT c1) (lessT_keep hPT l1), .all fun us hl => match us, hl with | [_], _ => rfl, PySem.W.mg_of X G a1⟩ B D2 D3 D4 D5 D6 D7 D8 D9 D10 D11 D12 D13 D14 D15 D16 D17 D18 D19 ⟨cA, e16, TB⟩
theorem law_start {K : PySem.W.Frag} {H : Hp} {a PT : Addr} {ns : List Int} (hT : H PT = some (.tbl #[])) (na : a ≠ PT) (hS : SqL K H a (ns.map V.int)) : spD K 1 (R_law PT) [.ref a] H (fun v _ => v = .bl true) fun _ _ _ => False :=
  tab_start hT na hS ⟨ns, rfl, rfl, rfl, rfl⟩
theorem walk {l : PySem.W.OpenLaw} {q : Program} {loose : List Str} {XP : (Str → Option Value) → Heap → Prop} {YP : World → Heap → Prop} {d : DefRec} {K : Params → PySem.W.Frag} (PT : Addr) (hn : l.most = some 63) (hdf : d.params.defaults = [])
    (hY : ∀ (w : World) (h : Heap), YP w h → (K w.params).In h) (hT : ∀ (w : World) (h : Heap), YP w h → h.get? PT = some { cls := .none, data := .fields #[] })
    (F : ∀ (w : World) (mg : Str → Option Value) (fa : Addr) (h : Heap), (K w.params).In h → h.Ns mainGlobals mg → mg d.name = some (.ref fa) →
      ∃ (fd : FuncData) (c : Addr), PySem.W.codeHdIn (lessT (K w.params) PT) c PT = true ∧ (∀ (s : Shared) (u : Value), BindsTo s fd ⟨[u], []⟩ [("script", u)]) ∧
        ∀ base : Heap, (lessT (K w.params) PT).In base → base.Ns mainGlobals mg → LamX.TabB base mg c PT → FnG l.prog w (lessT (K w.params) PT) mg base CX0 5 fa fd ["script"] (spD (lessT (K w.params) PT) 1 (R_law PT))) :
    PySem.W.WalkO q loose XP YP l.row.toRowW d [] (fun f vs => PySem.call f vs) :=
  walk_ofGT (n := 63) (k := 5) (x := "script") (PT := PT) (CX := fun _ => CX0) (sp := fun w => spD (lessT (K w.params) PT) 1 (R_law PT)) hn (by decide) hdf ⟨rfl, by decide, by decide⟩ hY hT F (fun _ _ a ns hl hH na hS => law_start hH na hS) fun _ _ _ _ _ z => z
end K04
open PySem PySem.W PyProof.Rows
set_option maxRecDepth 100000 in
set_option maxHeartbeats 0 in
theorem PySem.Challenge.cw_tieskept_k04_whole_rows_that_are_let_holds : PySem.Challenge.rw_tieskept_k04_whole_rows_that_are_let.Holds := by
  w_on; o_law; k_head; (case hw => w_witness2)
  k_fill
  refine K04.walk (l := PySem.Challenge.rw_tieskept_k04_whole_rows_that_are_let) 98 rfl rfl (fun w h Y => PySem.W.km_in_of Y) (fun w h Y => PySem.W.km_tabs_of Y _ List.mem_cons_self) ?F
  case F =>
    intro w mg fa h KX G hmg
    refine' K04.all_mk (PT := 98) KX G hmg ?hPT ?hHD ?a1 ?l1 ?c1 ?k1 ?a2 ?l2 ?c2 ?k2 ?a3 ?l3 ?c3 ?k3 ?a4 ?l4 ?c4 ?k4 ?a5 ?l5 ?c5 ?k5 ?a6 ?l6 ?c6 ?k6 ?a7 ?l7 ?c7 ?k7 ?a8 ?l8 ?c8 ?k8 ?a9 ?l9 ?c9 ?k9 ?a10 ?l10 ?c10 ?k10 ?a11 ?l11 ?c11 ?k11 ?a12 ?l12 ?c12 ?k12 ?a13 ?l13 ?c13 ?k13 ?a14 ?l14 ?c14 ?k14 ?a15 ?l15 ?c15 ?k15 ?a16 ?l16 ?c16 ?k16 ?a17 ?l17 ?c17 ?k17 ?a18 ?l18 ?c18 ?k18 ?a19 ?l19 ?c19 ?k19  ?z1 ?z2 ?z3 ?z4 ?z5 ?z6 ?z7 ?z8 ?z9 ?z10 ?z11 ?z12 ?z13
    (case a1 => k_is); (case l1 => k_is); (case c1 => k_is); (case k1 => k_is)
    (case a2 => k_is); (case l2 => k_is); (case c2 => k_is); (case k2 => k_is)
    (case a3 => k_is); (case l3 => k_is); (case c3 => k_is); (case k3 => k_is)
    (case a4 => k_is); (case l4 => k_is); (case c4 => k_is); (case k4 => k_is)
    (case a5 => k_is); (case l5 => k_is); (case c5 => k_is); (case k5 => k_is)
    (case a6 => k_is); (case l6 => k_is); (case c6 => k_is); (case k6 => k_is)
    (case a7 => k_is); (case l7 => k_is); (case c7 => k_is); (case k7 => k_is)
    (case a8 => k_is); (case l8 => k_is); (case c8 => k_is); (case k8 => k_is)
    (case a9 => k_is); (case l9 => k_is); (case c9 => k_is); (case k9 => k_is)
    (case a10 => k_is); (case l10 => k_is); (case c10 => k_is); (case k10 => k_is)
    (case a11 => k_is); (case l11 => k_is); (case c11 => k_is); (case k11 => k_is)
    (case a12 => k_is); (case l12 => k_is); (case c12 => k_is); (case k12 => k_is)
    (case a13 => k_is); (case l13 => k_is); (case c13 => k_is); (case k13 => k_is)
    (case a14 => k_is); (case l14 => k_is); (case c14 => k_is); (case k14 => k_is)
    (case a15 => k_is); (case l15 => k_is); (case c15 => k_is); (case k15 => k_is)
    (case a16 => k_is); (case l16 => k_is); (case c16 => k_is); (case k16 => k_is)
    (case a17 => k_is); (case l17 => k_is); (case c17 => k_is); (case k17 => k_is)
    (case a18 => k_is); (case l18 => k_is); (case c18 => k_is); (case k18 => k_is)
    (case a19 => k_is); (case l19 => k_is); (case c19 => k_is); (case k19 => k_is)
    (case z1 => k_is); (case z2 => k_is); (case z3 => k_is); (case z4 => k_is); (case z5 => k_is); (case z6 => k_is); (case z7 => k_is); (case z8 => k_is); (case z9 => k_is); (case z10 => k_is); (case z11 => k_is); (case z12 => k_is); (case z13 => k_is)
    (case hPT => exact rfl)
    (case hHD => exact rfl)
