import PyProof.Rows.All
import Wide.All
import OpenK.AllK
import Wide.FinOn
import HandS.ForMost
import HandS.ExcInit
import HandS.ExcIs
import HandS.Wide
import HandS.Deep
import HandS.IsInst
import HandS.SortInts
import HandS.EndBits
import KE.KExcStr
import PyProof.ExcReprCall
import PySem.Challenge.RW_peersmeet_k01_kinds_of_any_thing
set_option Elab.async false
set_option linter.all false
set_option autoImplicit false
set_option maxRecDepth 100000
set_option maxHeartbeats 2000000
namespace G
open PySem PySem.Spec PySem.Calls L2

/-- a tuple: tracked, or written -/
def Tp (K : PySem.W.Frag) (H : Hp) (a : Addr) (xs : List V) : Prop :=
  H a = some (.tup xs) ∨ ∃ (o : Obj) (its : Array Value) (n : Nat), K.lookup a = some o ∧ o.cls = .type "tuple" ∧ o.data = .seq its n ∧ its.size ≤ sizeLine ∧ Vals xs its.toList
theorem Tp.sq {K : PySem.W.Frag} {H : Hp} {a : Addr} {xs : List V} (h : Tp K H a xs) : SqT K H a xs := h.imp (fun h => .inl h) fun h => h
theorem Tp.of {K : PySem.W.Frag} {H : Hp} {a : Addr} {xs : List V} (h : H a = some (.tup xs)) : Tp K H a xs := .inl h
theorem Tp.same {K : PySem.W.Frag} {H H' : Hp} {a : Addr} {xs : List V} (e : Same H H') (h : Tp K H a xs) : Tp K H' a xs := h.imp (fun h => e _ _ h) fun h => h
/-! ### an exception as a value: its args at t, its own dict -/
abbrev excObj (C : Addr) (d : Option Addr) (t : Addr) : Obj := { cls := .ref C, dict := d, data := .fields #[.ref t, .none, .none, .none, .bool false, .none] }
def exoT (a C : Addr) (d : Option Addr) (t : Addr) : HO := .ext fun h => h.get? a = some (excObj C d t)
theorem exoT_ok {P : Program} {w : World} {H : Hp} {h : Heap} {a C t : Addr} {d : Option Addr} (e : h.get? a = some (excObj C d t)) : ObjOk P w H h a (exoT a C d t) := ⟨e, ⟨_, e⟩, fun _ _ p k => k _ p⟩
theorem exoT_at {P : Program} {w : World} {H : Hp} {h : Heap} {a C t : Addr} {d : Option Addr} (hok : HOk P w H h) (e : H a = some (exoT a C d t)) : h.get? a = some (excObj C d t) := (hok a _ e).1
/-! ### data -/
inductive D where
  | non | bl (b : Bool) | int (i : Int) | str (x : Str) | ty (n : String)
  | lst (xs : List D) | tup (xs : List D) | dct (ks : List Key) (xs : List D) | ins (C : Nat) (ns : List Str) (xs : List D) | mut (k : Nat) | scr (ns : List Int) | exc (C : Nat) (f msg : Str) (d : D)
structure Gm where
  K : PySem.W.Frag
  cl : Nat → Addr
mutual
def Has (Γ : Gm) (ms : List Addr) (F : Hp) (v : V) : D → Prop
  | .non => v = .non
  | .bl b => v = .bl b
  | .int i => v = .int i
  | .str x => v = .str x
  | .ty n => v = .ty n
  | .lst ds => ∃ a xs, v = .ref a ∧ F a = some (.lst xs) ∧ HasL Γ ms F xs ds
  | .tup ds => ∃ a xs, v = .ref a ∧ Tp Γ.K F a xs ∧ HasL Γ ms F xs ds
  | .dct ks ds => ∃ a xs, v = .ref a ∧ F a = some (.dK (ks.zip xs)) ∧ ks.length = xs.length ∧ HasL Γ ms F xs ds
  | .ins C ns ds => ∃ a dx xs, v = .ref a ∧ F a = some (.ins (Γ.cl C) dx (ns.zip xs)) ∧ ns.length = xs.length ∧ HasL Γ ms F xs ds
  | .mut k => ∃ a, v = .ref a ∧ ms[k]? = some a
  | .scr ns => ∃ a, v = .ref a ∧ SqL Γ.K F a (ns.map V.int)
  | .exc C f msg d => ∃ a t dx y, v = .ref a ∧ F a = some (exoT a (Γ.cl C) (some dx) t) ∧ F t = some (.tup [.str msg]) ∧ F dx = some (exd dx [(f, y)]) ∧ Has Γ ms F y d
def HasL (Γ : Gm) (ms : List Addr) (F : Hp) (vs : List V) : List D → Prop
  | [] => vs = []
  | d :: ds => ∃ w ws, vs = w :: ws ∧ Has Γ ms F w d ∧ HasL Γ ms F ws ds
end
theorem getP {α : Type} {l r : List α} {k : Nat} {a : α} (h : l[k]? = some a) : (l ++ r)[k]? = some a := by
  rw [List.getElem?_append_left (List.getElem?_eq_some_iff.mp h).1]
  exact h
section
variable {Γ : Gm} {ms : List Addr} {F F' : Hp}
mutual
theorem Has.mono {new : List Addr} (e : Same F F') : ∀ {v : V} {d : D}, Has Γ ms F v d → Has Γ (ms ++ new) F' v d
  | v, .non, h => h
  | v, .bl b, h => h
  | v, .int i, h => h
  | v, .str x, h => h
  | v, .ty n, h => h
  | v, .lst ds, ⟨a, xs, hv, hs, hl⟩ => ⟨a, xs, hv, e _ _ hs, HasL.mono e hl⟩
  | v, .tup ds, ⟨a, xs, hv, hs, hl⟩ => ⟨a, xs, hv, Tp.same e hs, HasL.mono e hl⟩
  | v, .dct ks ds, ⟨a, xs, hv, hs, hn, hl⟩ => ⟨a, xs, hv, e _ _ hs, hn, HasL.mono e hl⟩
  | v, .ins C ns ds, ⟨a, dx, xs, hv, hs, hn, hl⟩ => ⟨a, dx, xs, hv, e _ _ hs, hn, HasL.mono e hl⟩
  | v, .mut k, ⟨a, hv, hk⟩ => ⟨a, hv, getP hk⟩
  | v, .scr ns, ⟨a, hv, hk⟩ => ⟨a, hv, e.seq hk⟩
  | v, .exc C f msg d, ⟨a, t, dx, y, hv, h1, h2, h3, h4⟩ => ⟨a, t, dx, y, hv, e _ _ h1, e _ _ h2, e _ _ h3, Has.mono e h4⟩
theorem HasL.mono {new : List Addr} (e : Same F F') : ∀ {vs : List V} {ds : List D}, HasL Γ ms F vs ds → HasL Γ (ms ++ new) F' vs ds
  | vs, [], h => h
  | vs, d :: ds, ⟨w, ws, hv, h1, h2⟩ => ⟨w, ws, hv, Has.mono e h1, HasL.mono e h2⟩
end
theorem HasL.length : ∀ {vs : List V} {ds : List D}, HasL Γ ms F vs ds → vs.length = ds.length
  | _, [], h => by cases h; rfl
  | _, d :: ds, ⟨w, ws, hv, h1, h2⟩ => by subst hv; simp [HasL.length h2]
theorem HasL.get : ∀ {vs : List V} {ds : List D} {i : Nat} {d : D}, HasL Γ ms F vs ds → ds[i]? = some d → ∃ v, vs[i]? = some v ∧ Has Γ ms F v d
  | _, [], i, d, h, e => by simp at e
  | _, d0 :: ds, 0, d, ⟨w, ws, hv, h1, h2⟩, e => by
    subst hv
    simp at e; subst e
    exact ⟨w, rfl, h1⟩
  | _, d0 :: ds, i + 1, d, ⟨w, ws, hv, h1, h2⟩, e => by
    subst hv
    obtain ⟨v, e1, e2⟩ := HasL.get (i := i) h2 (by simpa using e)
    exact ⟨v, by simpa using e1, e2⟩
theorem HasL.getV {vs : List V} {ds : List D} {i : Nat} {v : V} (h : HasL Γ ms F vs ds) (e : vs[i]? = some v) : ∃ d, ds[i]? = some d ∧ Has Γ ms F v d := by
  have h1 := (List.getElem?_eq_some_iff.mp e).1
  have h2 : i < ds.length := by rw [← h.length]; exact h1
  obtain ⟨v', e', q⟩ := h.get (i := i) (d := ds[i]) (List.getElem?_eq_getElem h2)
  rw [e] at e'; cases e'
  exact ⟨ds[i], List.getElem?_eq_getElem h2, q⟩
theorem HasL.append : ∀ {vs ws : List V} {ds es : List D}, HasL Γ ms F vs ds → HasL Γ ms F ws es → HasL Γ ms F (vs ++ ws) (ds ++ es)
  | _, ws, [], es, h, q => by cases h; exact q
  | _, ws, d :: ds, es, ⟨w, t, hv, h1, h2⟩, q => by subst hv; exact ⟨w, t ++ ws, rfl, h1, HasL.append h2 q⟩
theorem HasL.one {v : V} {d : D} (h : Has Γ ms F v d) : HasL Γ ms F [v] [d] := ⟨v, [], rfl, h, rfl⟩
theorem HasL.take : ∀ {vs : List V} {ds : List D} (n : Nat), HasL Γ ms F vs ds → HasL Γ ms F (vs.take n) (ds.take n)
  | vs, ds, 0, _ => by simp [HasL]
  | _, [], n + 1, h => by cases h; simp [HasL]
  | _, d :: ds, n + 1, ⟨w, t, hv, h1, h2⟩ => by subst hv; exact ⟨w, t.take n, by simp, h1, HasL.take n h2⟩
theorem HasL.drop : ∀ {vs : List V} {ds : List D} (n : Nat), HasL Γ ms F vs ds → HasL Γ ms F (vs.drop n) (ds.drop n)
  | vs, ds, 0, h => by simpa using h
  | _, [], n + 1, h => by cases h; simp [HasL]
  | _, d :: ds, n + 1, ⟨w, t, hv, h1, h2⟩ => by subst hv; exact HasL.drop n h2
theorem HasL.set {v : V} {d : D} (q : Has Γ ms F v d) : ∀ {vs : List V} {ds : List D} (n : Nat), HasL Γ ms F vs ds → HasL Γ ms F (vs.set n v) (ds.set n d)
  | _, [], n, h => by cases h; simp [HasL]
  | _, d :: ds, 0, ⟨w, t, hv, h1, h2⟩ => by subst hv; exact ⟨_, _, rfl, q, h2⟩
  | _, d :: ds, n + 1, ⟨w, t, hv, h1, h2⟩ => by subst hv; exact ⟨_, _, rfl, h1, HasL.set q n h2⟩
theorem HasL.rev : ∀ {vs : List V} {ds : List D}, HasL Γ ms F vs ds → HasL Γ ms F vs.reverse ds.reverse
  | _, [], h => by cases h; simp [HasL]
  | _, d :: ds, ⟨w, t, hv, h1, h2⟩ => by
    subst hv
    rw [List.reverse_cons, List.reverse_cons]
    exact (HasL.rev h2).append (HasL.one h1)
end

/-! ### mutable objects -/
inductive MO where
  | lst (xs : List D) | dct (ks : List Key) (xs : List D) | ins (C : Nat) (ns : List Str) (xs : List D) | dead
def MOk (Γ : Gm) (ms : List Addr) (F H : Hp) (a : Addr) : MO → Prop
  | .lst ds => ∃ xs, H a = some (.lst xs) ∧ HasL Γ ms F xs ds
  | .dct ks ds => ∃ xs, H a = some (.dK (ks.zip xs)) ∧ ks.length = xs.length ∧ HasL Γ ms F xs ds
  | .ins C ns ds => ∃ dx xs, H a = some (.ins (Γ.cl C) dx (ns.zip xs)) ∧ ns.length = xs.length ∧ HasL Γ ms F xs ds
  | .dead => ∃ o, H a = some o
theorem MOk.ex {Γ : Gm} {ms : List Addr} {F H : Hp} {a : Addr} : ∀ {o : MO}, MOk Γ ms F H a o → ∃ u, H a = some u
  | .lst _, ⟨_, h, _⟩ => ⟨_, h⟩
  | .dct _ _, ⟨_, h, _⟩ => ⟨_, h⟩
  | .ins _ _ _, ⟨_, _, h, _⟩ => ⟨_, h⟩
  | .dead, h => h
theorem MOk.mono {Γ : Gm} {ms new : List Addr} {F F' H H' : Hp} {a : Addr} (e : Same F F') (k : ∀ o, H a = some o → H' a = some o) : ∀ {o : MO}, MOk Γ ms F H a o → MOk Γ (ms ++ new) F' H' a o
  | .lst _, ⟨_, h, q⟩ => ⟨_, k _ h, q.mono e⟩
  | .dct _ _, ⟨_, h, n, q⟩ => ⟨_, k _ h, n, q.mono e⟩
  | .ins _ _ _, ⟨_, _, h, n, q⟩ => ⟨_, _, k _ h, n, q.mono e⟩
  | .dead, ⟨_, h⟩ => ⟨_, k _ h⟩
/-- the heap: what is frozen (F), and the mutable objects at ms -/
structure HR (Γ : Gm) (ms : List Addr) (F H : Hp) (μ : List MO) : Prop where
  sub : Same F H
  out : ∀ b ∈ ms, F b = none
  len : ms.length = μ.length
  nd : ms.Nodup
  obj : ∀ (k : Nat) (o : MO), μ[k]? = some o → ∃ a, ms[k]? = some a ∧ MOk Γ ms F H a o
structure Stp (ms ms' : List Addr) (F F' H H' : Hp) : Prop where
  new : ∃ new, ms' = ms ++ new ∧ ∀ b ∈ new, H b = none
  keep : ∀ b o, H b = some o → b ∉ ms → H' b = some o
  fsub : Same F F'
  fnew : ∀ b, F b = none → H b ≠ none → F' b = none
theorem Stp.refl (ms : List Addr) (F H : Hp) : Stp ms ms F F H H := ⟨⟨[], by simp, by simp⟩, fun _ _ h _ => h, Same.refl _, fun _ h _ => h⟩
theorem Stp.trans {m1 m2 m3 : List Addr} {F1 F2 F3 H1 H2 H3 : Hp} (a : Stp m1 m2 F1 F2 H1 H2) (b : Stp m2 m3 F2 F3 H2 H3) (live : ∀ b ∈ m1, H2 b ≠ none) : Stp m1 m3 F1 F3 H1 H3 := by
  obtain ⟨n1, e1, f1⟩ := a.new
  obtain ⟨n2, e2, f2⟩ := b.new
  subst e1; subst e2
  refine ⟨⟨n1 ++ n2, by simp, fun c hc => ?_⟩, fun c o h hn => ?_, a.fsub.trans b.fsub, fun c h hn => ?_⟩
  · rcases List.mem_append.mp hc with h | h
    · exact f1 c h
    · have q := f2 c h
      cases z : H1 c with
      | none => rfl
      | some o =>
        by_cases hm : c ∈ m1
        · exact absurd q (live c hm)
        · rw [a.keep c o z hm] at q; cases q
  · refine b.keep c o (a.keep c o h hn) fun z => ?_
    rcases List.mem_append.mp z with z | z
    · exact hn z
    · rw [f1 c z] at h; cases h
  · refine b.fnew c (a.fnew c h hn) ?_
    by_cases hm : c ∈ m1
    · exact live c hm
    · cases z : H1 c with
      | none => exact absurd z hn
      | some o => rw [a.keep c o z hm]; exact fun q => nomatch q
theorem HR.live {Γ : Gm} {ms : List Addr} {F H : Hp} {μ : List MO} (h : HR Γ ms F H μ) : ∀ b ∈ ms, H b ≠ none := by
  intro b hb
  obtain ⟨k, hk, e⟩ := List.getElem_of_mem hb
  have hk' : k < μ.length := by rw [← h.len]; exact hk
  obtain ⟨a, ea, m⟩ := h.obj k μ[k] (List.getElem?_eq_getElem hk')
  rw [List.getElem?_eq_getElem hk] at ea
  cases ea
  obtain ⟨u, hu⟩ := m.ex
  rw [← e, hu]
  exact fun q => nomatch q
/-- a new object, frozen at once -/
theorem HR.alloc {Γ : Gm} {ms : List Addr} {F H : Hp} {μ : List MO} {p : Addr} (h : HR Γ ms F H μ) (hp : H p = none) (o : HO) : HR Γ ms (upd F p o) (upd H p o) μ ∧ Stp ms ms F (upd F p o) H (upd H p o) := by
  have hF : F p = none := h.sub.free hp
  have sF : Same F (upd F p o) := fun b u e => by rw [upd_ne (ne_of_none e hF)]; exact e
  have sH : ∀ b u, H b = some u → upd H p o b = some u := fun b u e => by rw [upd_ne (ne_of_none e hp)]; exact e
  refine ⟨⟨fun b u e => ?_, fun b hb => ?_, h.len, h.nd, fun k u e => ?_⟩, ⟨⟨[], by simp, by simp⟩, fun b u e _ => sH b u e, sF, fun b e hn => ?_⟩⟩
  · by_cases hb : b = p
    · subst hb; rw [upd_same] at e ⊢; exact e
    · rw [upd_ne hb] at e ⊢; exact h.sub b u e
  · have hne : b ≠ p := fun z => h.live b hb (by rw [z]; exact hp)
    rw [upd_ne hne]; exact h.out b hb
  · obtain ⟨a, ea, m⟩ := h.obj k u e
    have m' := m.mono (new := []) sF (sH a)
    rw [List.append_nil] at m'
    exact ⟨a, ea, m'⟩
  · have hne : b ≠ p := fun z => hn (by rw [z]; exact hp)
    rw [upd_ne hne]; exact e
/-- a new object, mutable -/
theorem HR.push {Γ : Gm} {ms : List Addr} {F H : Hp} {μ : List MO} {p : Addr} (h : HR Γ ms F H μ) (hp : H p = none) {o : HO} {u : MO} (m : MOk Γ (ms ++ [p]) F (upd H p o) p u) :
    HR Γ (ms ++ [p]) F (upd H p o) (μ ++ [u]) ∧ Stp ms (ms ++ [p]) F F H (upd H p o) := by
  have hF : F p = none := h.sub.free hp
  have sH : ∀ b u, H b = some u → upd H p o b = some u := fun b u e => by rw [upd_ne (ne_of_none e hp)]; exact e
  refine ⟨⟨fun b u e => sH b u (h.sub b u e), fun b hb => ?_, by simp [h.len], ?_, fun k u' e => ?_⟩, ⟨⟨[p], rfl, fun b hb => by simp at hb; subst hb; exact hp⟩, fun b u e _ => sH b u e, Same.refl _, fun b e _ => e⟩⟩
  · rcases List.mem_append.mp hb with hb | hb
    · exact h.out b hb
    · simp at hb; subst hb; exact hF
  · refine List.nodup_append.mpr ⟨h.nd, by simp, fun b hb c hc => ?_⟩
    simp at hc; subst hc
    intro z; subst z
    exact h.live _ hb hp
  · by_cases hk : k < μ.length
    · rw [List.getElem?_append_left hk] at e
      obtain ⟨a, ea, m'⟩ := h.obj k u' e
      exact ⟨a, getP ea, m'.mono (Same.refl _) (sH a)⟩
    · have hk2 := (List.getElem?_eq_some_iff.mp e).1
      simp at hk2
      have : k = μ.length := by omega
      subst this
      simp at e; subst e
      refine ⟨p, ?_, m⟩
      rw [← h.len]; simp
/-- a mutable object changes -/
theorem HR.write {Γ : Gm} {ms : List Addr} {F H : Hp} {μ : List MO} {k : Nat} {a : Addr} (h : HR Γ ms F H μ) (ha : ms[k]? = some a) {o : HO} {u : MO} (m : MOk Γ ms F (upd H a o) a u) :
    HR Γ ms F (upd H a o) (μ.set k u) ∧ Stp ms ms F F H (upd H a o) := by
  have hm : a ∈ ms := List.mem_of_getElem? ha
  refine ⟨⟨fun b u e => ?_, h.out, by simp [h.len], h.nd, fun j u' e => ?_⟩, ⟨⟨[], by simp, by simp⟩, fun b u e hn => ?_, Same.refl _, fun b e _ => e⟩⟩
  · have hne : b ≠ a := fun z => by rw [z, h.out a hm] at e; cases e
    rw [upd_ne hne]; exact h.sub b u e
  · by_cases hj : j = k
    · subst hj
      have hk : j < μ.length := by rw [← h.len]; exact (List.getElem?_eq_some_iff.mp ha).1
      rw [List.getElem?_set_self hk] at e; cases e
      exact ⟨a, ha, m⟩
    · rw [List.getElem?_set_ne (Ne.symm hj)] at e
      obtain ⟨b, eb, m'⟩ := h.obj j u' e
      have hne : b ≠ a := fun z => by subst z; exact hj (nodup_ix' h.nd eb ha)
      have m2 := m'.mono (new := []) (H' := upd H a o) (Same.refl F) (fun o' q => by rw [upd_ne hne]; exact q)
      rw [List.append_nil] at m2
      exact ⟨b, eb, m2⟩
  · have hne : b ≠ a := fun z => hn (z ▸ hm)
    rw [upd_ne hne]; exact e
where nodup_ix' {ms : List Addr} (hN : ms.Nodup) {i j : Nat} {x : Addr} (a : ms[i]? = some x) (b : ms[j]? = some x) : i = j := nd_ix hN a b
end G

set_option Elab.async false
set_option linter.all false
set_option autoImplicit false
set_option maxRecDepth 100000
set_option maxHeartbeats 2000000
namespace G
open PySem PySem.Spec L2

/-! ### the def's own names -/
inductive SV where
  | no | d (x : D) | own (xs : List D)
def SOk (Γ : Gm) (H0 : Hp) (ms : List Addr) (F H : Hp) (v : Option (Option V)) : SV → Prop
  | .no => True
  | .d x => ∃ u, v = some (some u) ∧ Has Γ ms F u x
  | .own ds => ∃ a xs, v = some (some (.ref a)) ∧ H a = some (.lst xs) ∧ HasL Γ ms F xs ds ∧ F a = none ∧ a ∉ ms ∧ H0 a = none
structure ER (Γ : Gm) (H0 : Hp) (ms : List Addr) (F H : Hp) (σ : St) (δ : List SV) : Prop where
  len : σ.length = δ.length
  ok : ∀ (i : Nat) (sv : SV), δ[i]? = some sv → SOk Γ H0 ms F H σ[i]? sv
  inj : ∀ (i j : Nat) (a : Addr) (ds es : List D), δ[i]? = some (.own ds) → δ[j]? = some (.own es) → σ[i]? = some (some (.ref a)) → σ[j]? = some (some (.ref a)) → i = j
structure Og where
  ms : List Addr
  F : Hp
  H : Hp
structure SR (Γ : Gm) (O : Og) (ms : List Addr) (F H : Hp) (σ : St) (δ : List SV) (μ : List MO) : Prop where
  hr : HR Γ ms F H μ
  er : ER Γ O.H ms F H σ δ
  st : Stp O.ms ms O.F F O.H H
section
variable {Γ : Gm} {O : Og} {ms ms' : List Addr} {F F' H H' H0 : Hp} {σ : St} {δ : List SV} {μ μ' : List MO}
theorem SOk.step {v : Option (Option V)} (s : Stp ms ms' F F' H H') : ∀ {sv : SV}, SOk Γ H0 ms F H v sv → SOk Γ H0 ms' F' H' v sv := by
  obtain ⟨new, rfl, fr⟩ := s.new
  intro sv h
  cases sv with
  | no => trivial
  | d x => obtain ⟨u, e, q⟩ := h; exact ⟨u, e, q.mono s.fsub⟩
  | own ds =>
    obtain ⟨a, xs, e, ha, hl, hF, hm, h0⟩ := h
    have hn : a ∉ ms ++ new := fun z => by
      rcases List.mem_append.mp z with z | z
      · exact hm z
      · rw [fr a z] at ha; cases ha
    exact ⟨a, xs, e, s.keep a _ ha hm, hl.mono s.fsub, s.fnew a hF (by rw [ha]; exact fun q => nomatch q), hn, h0⟩
theorem ER.step (s : Stp ms ms' F F' H H') (h : ER Γ H0 ms F H σ δ) : ER Γ H0 ms' F' H' σ δ := ⟨h.len, fun i sv e => (h.ok i sv e).step s, h.inj⟩
theorem SR.step (h : SR Γ O ms F H σ δ μ) (r : HR Γ ms' F' H' μ') (s : Stp ms ms' F F' H H') : SR Γ O ms' F' H' σ δ μ' := by
  refine ⟨r, h.er.step s, h.st.trans s fun b hb => ?_⟩
  obtain ⟨new, e, _⟩ := h.st.new
  exact h.hr.live b (by rw [e]; exact List.mem_append_left _ hb)
theorem Has.step {v : V} {d : D} (h : Has Γ ms F v d) (s : Stp ms ms' F F' H H') : Has Γ ms' F' v d := by
  obtain ⟨new, rfl, fr⟩ := s.new
  exact h.mono s.fsub
theorem HasL.step {vs : List V} {ds : List D} (h : HasL Γ ms F vs ds) (s : Stp ms ms' F F' H H') : HasL Γ ms' F' vs ds := by
  obtain ⟨new, rfl, fr⟩ := s.new
  exact h.mono s.fsub
theorem Stp.trans' (a : Stp ms ms' F F' H H') {ms2 : List Addr} {F2 H2 : Hp} {μ1 : List MO} (r : HR Γ ms' F' H' μ1) (b : Stp ms' ms2 F' F2 H' H2) : Stp ms ms2 F F2 H H2 :=
  a.trans b fun c hc => r.live c (by obtain ⟨new, e, _⟩ := a.new; rw [e]; exact List.mem_append_left _ hc)
end

/-! ### expressions -/
abbrev EF := List SV → List MO → Option (D × List MO)
abbrev TF := List SV → List MO → Option (Bool × List MO)
abbrev AF := List SV → List MO → Option (List D × List MO)
/-- behind an expression -/
def Fin1 (Γ : Gm) (ms : List Addr) (F H : Hp) (d : D) (μ' : List MO) (Q : VK) : Prop :=
  ∀ v H' ms' F', HR Γ ms' F' H' μ' → Stp ms ms' F F' H H' → Has Γ ms' F' v d → Q v H'
def tE (Γ : Gm) (f : EF) : TE := fun σ H Q => ∃ O ms F δ μ d μ', SR Γ O ms F H σ δ μ ∧ f δ μ = some (d, μ') ∧ Fin1 Γ ms F H d μ' Q
def tT (Γ : Gm) (f : TF) : TT := fun σ H Q => ∃ O ms F δ μ d μ', SR Γ O ms F H σ δ μ ∧ f δ μ = some (d, μ') ∧
  ∀ H' ms' F', HR Γ ms' F' H' μ' → Stp ms ms' F F' H H' → Q d H'
def tA (Γ : Gm) (f : AF) : TA := fun σ H Q => ∃ O ms F δ μ d μ', SR Γ O ms F H σ δ μ ∧ f δ μ = some (d, μ') ∧
  ∀ vs H' ms' F', HR Γ ms' F' H' μ' → Stp ms ms' F F' H H' → HasL Γ ms' F' vs d → Q vs H'
/-- a list or a tuple, as it stands just now -/
inductive SK where
  | l | t
def SeqV (K : PySem.W.Frag) (H : Hp) (a : Addr) : SK → List V → Prop
  | .l, xs => H a = some (.lst xs)
  | .t, xs => Tp K H a xs
abbrev SF := List SV → List MO → Option ((SK × List D) × List MO)
def tQ (Γ : Gm) (f : SF) : TE := fun σ H Q => ∃ O ms F δ μ d μ', SR Γ O ms F H σ δ μ ∧ f δ μ = some (d, μ') ∧
  ∀ a xs H' ms' F', HR Γ ms' F' H' μ' → Stp ms ms' F F' H H' → SeqV Γ.K H' a d.1 xs → HasL Γ ms' F' xs d.2 → Q (.ref a) H'
abbrev gm (X : Cx) (cl : Nat → Addr) : Gm := ⟨X.K, cl⟩
structure DE (X : Cx) (cl : Nat → Addr) (e : Expr) (f : EF) : Prop where
  p : PE X e (tE (gm X cl) f)
structure DT (X : Cx) (cl : Nat → Addr) (e : Expr) (f : TF) : Prop where
  p : PT X e (tT (gm X cl) f)
structure DW (X : Cx) (cl : Nat → Addr) (e : Expr) (f : TF) : Prop where
  p : PW X e (tT (gm X cl) f)
structure DA (X : Cx) (cl : Nat → Addr) (es : List Expr) (f : AF) : Prop where
  p : PA X es (tA (gm X cl) f)
structure DQ (X : Cx) (cl : Nat → Addr) (e : Expr) (f : SF) : Prop where
  p : PE X e (tQ (gm X cl) f)
section
variable {X : Cx} {cl : Nat → Addr} {e a b c : Expr} {es : List Expr} {fa fb fc : EF} {pos : Pos}
theorem _root_.L2.PE.weak {t t' : TE} (h : PE X e t) (k : ∀ σ H Q, t' σ H Q → t σ H Q) : PE X e t' := ⟨fun pins s σ H Q I q => h.run pins s σ H Q I (k σ H Q q)⟩
theorem _root_.L2.PT.weak {t t' : TT} (h : PT X e t) (k : ∀ σ H Q, t' σ H Q → t σ H Q) : PT X e t' := ⟨fun pins s σ H Q I q => h.run pins s σ H Q I (k σ H Q q)⟩
theorem _root_.L2.PW.weak {t t' : TT} (h : PW X e t) (k : ∀ σ H Q, t' σ H Q → t σ H Q) : PW X e t' := ⟨fun w pins s σ H Q I q => h.run w pins s σ H Q I (k σ H Q q)⟩
theorem _root_.L2.PA.weak {t t' : TA} (h : PA X es t) (k : ∀ σ H Q, t' σ H Q → t σ H Q) : PA X es t' := ⟨fun pos pins s σ H Q I q => h.run pos pins s σ H Q I (k σ H Q q)⟩
def eVar (i : Nat) : EF := fun δ μ => match δ[i]? with
  | some (.d x) => some (x, μ)
  | _ => none
theorem de_var {i : Nat} (h : PE X e (tVar i)) : DE X cl e (eVar i) := ⟨h.weak fun σ H Q ⟨O, ms, F, δ, μ, d, μ', R, ev, k⟩ => by
  unfold eVar at ev
  cases hd : δ[i]? with
  | none => rw [hd] at ev; cases ev
  | some sv =>
    rw [hd] at ev
    cases sv with
    | no => cases ev
    | own _ => cases ev
    | d x =>
      cases ev
      obtain ⟨u, eu, q⟩ := R.er.ok i _ hd
      exact ⟨u, eu, k u H ms F R.hr (Stp.refl _ _ _) q⟩⟩
def eC (d : D) : EF := fun _ μ => some (d, μ)
theorem de_c {v : V} {d : D} (h : PE X e (tC v)) (q : ∀ ms F, Has (gm X cl) ms F v d) : DE X cl e (eC d) := ⟨h.weak fun σ H Q ⟨O, ms, F, δ, μ, d', μ', R, ev, k⟩ => by
  cases ev
  exact k v H ms F R.hr (Stp.refl _ _ _) (q ms F)⟩
theorem de_int {i j pos} : DE X cl (.Constant (.int i) j pos) (eC (.int i)) := de_c pe_int fun _ _ => rfl
theorem de_bl {i j pos} : DE X cl (.Constant (.bool i) j pos) (eC (.bl i)) := de_c pe_bl fun _ _ => rfl
theorem de_non {j pos} : DE X cl (.Constant .none j pos) (eC .non) := de_c pe_non fun _ _ => rfl
theorem de_str {x j pos} : DE X cl (.Constant (.str x) j pos) (eC (.str x)) := de_c pe_str fun _ _ => rfl
/-- in a row -/
def eThen (fa : EF) {β : Type} (k : D → List SV → List MO → Option (β × List MO)) : List SV → List MO → Option (β × List MO) := fun δ μ => match fa δ μ with
  | some (d, μ1) => k d δ μ1
  | none => none
theorem eThen_some {β : Type} {k : D → List SV → List MO → Option (β × List MO)} {δ : List SV} {μ : List MO} {r : β × List MO} (h : eThen fa k δ μ = some r) : ∃ d μ1, fa δ μ = some (d, μ1) ∧ k d δ μ1 = some r := by
  unfold eThen at h
  split at h
  · exact ⟨_, _, by assumption, h⟩
  · cases h
theorem tE.seq {Γ : Gm} {O : Og} {ms : List Addr} {F H : Hp} {σ : St} {δ : List SV} {μ μ1 : List MO} {d : D} {Q : VK} (R : SR Γ O ms F H σ δ μ) (e : fa δ μ = some (d, μ1))
    (k : ∀ v H1 ms1 F1, SR Γ O ms1 F1 H1 σ δ μ1 → Stp ms ms1 F F1 H H1 → Has Γ ms1 F1 v d → Q v H1) : tE Γ fa σ H Q :=
  ⟨O, ms, F, δ, μ, d, μ1, R, e, fun v H1 ms1 F1 r s q => k v H1 ms1 F1 (R.step r s) s q⟩
/-- the operator's own rules, one or the other by the values -/
theorem _root_.L2.OpR.any {f : Value → Value → Sem Value} : OpR X f (fun x y H Q => ∃ r, OpR X f r ∧ r x y H Q) := by
  intro pins s σ H x y v u Q I rx ry ⟨r, ho, h⟩
  exact ho pins s σ H x y v u Q I rx ry h
def OpD (X : Cx) (cl : Nat → Addr) (f : Value → Value → Sem Value) (g : D → D → List MO → Option (D × List MO)) : Prop :=
  ∀ ms F H μ x y dx dy d μ' Q, HR (gm X cl) ms F H μ → Has (gm X cl) ms F x dx → Has (gm X cl) ms F y dy → g dx dy μ = some (d, μ') → Fin1 (gm X cl) ms F H d μ' Q → ∃ r, OpR X f r ∧ r x y H Q
def eBin (g : D → D → List MO → Option (D × List MO)) (fa fb : EF) : EF := eThen fa fun x => eThen fb fun y _ μ => g x y μ
theorem opD_run {f : Value → Value → Sem Value} {g : D → D → List MO → Option (D × List MO)} (ho : OpD X cl f g) {σ : St} {H : Hp} {Q : VK} (h : tE (gm X cl) (eBin g fa fb) σ H Q) : tOp (fun x y H Q => ∃ r, OpR X f r ∧ r x y H Q) (tE (gm X cl) fa) (tE (gm X cl) fb) σ H Q := by
  obtain ⟨O, ms, F, δ, μ, d, μ', R, ev, k⟩ := h
  obtain ⟨dx, μ1, e1, ev⟩ := eThen_some ev
  obtain ⟨dy, μ2, e2, ev⟩ := eThen_some ev
  refine tE.seq R e1 fun x H1 ms1 F1 R1 s1 q1 => tE.seq R1 e2 fun y H2 ms2 F2 R2 s2 q2 => ?_
  exact ho ms2 F2 H2 μ2 x y dx dy d μ' Q R2.hr (q1.step s2) q2 ev fun v H' ms' F' r s q => k v H' ms' F' r ((s1.trans' R1.hr s2).trans' R2.hr s) q
theorem de_bin {op : Operator} {g : D → D → List MO → Option (D × List MO)} (ho : OpD X cl (binaryOp op) g) (ha : DE X cl a fa) (hb : DE X cl b fb) : DE X cl (.BinOp a op b pos) (eBin g fa fb) :=
  ⟨(pe_op OpR.any ha.p hb.p).weak fun σ H Q h => opD_run ho h⟩
theorem de_cmp {op : CmpOp} {g : D → D → List MO → Option (D × List MO)} (ho : OpD X cl (compareOp op) g) (ha : DE X cl a fa) (hb : DE X cl b fb) (hm : behindInMarks op b = false := by first | exact nomark _ | rfl) : DE X cl (.Compare a [op] [b] pos) (eBin g fa fb) :=
  ⟨(pe_cmpR OpR.any ha.p hb.p hm).weak fun σ H Q h => opD_run ho h⟩
/-- a test -/
def asB (f : EF) : TF := fun δ μ => match f δ μ with
  | some (.bl b, μ1) => some (b, μ1)
  | _ => none
theorem asB_some {f : EF} {δ : List SV} {μ : List MO} {b : Bool} {μ1 : List MO} (h : asB f δ μ = some (b, μ1)) : f δ μ = some (.bl b, μ1) := by
  unfold asB at h
  split at h
  · cases h; assumption
  · cases h
theorem dt_cmp {op : CmpOp} {g : D → D → List MO → Option (D × List MO)} (ho : OpD X cl (compareOp op) g) (ha : DE X cl a fa) (hb : DE X cl b fb) (hm : behindInMarks op b = false := by first | exact nomark _ | rfl) : DT X cl (.Compare a [op] [b] pos) (asB (eBin g fa fb)) :=
  ⟨(pt_cmpR OpR.any ha.p hb.p hm).weak fun σ H Q ⟨O, ms, F, δ, μ, d, μ', R, ev, k⟩ =>
    opD_run ho ⟨O, ms, F, δ, μ, .bl d, μ', R, asB_some ev, fun v H' ms' F' r s q => ⟨d, q, k H' ms' F' r s⟩⟩⟩
theorem dt_val {f : EF} (h : DE X cl e f) (he : ∀ whole, isTrue e X.env whole = (do let v ← whole; standAt e.pos; holding [v] (truthy v)) := by intro _; rfl) : DT X cl e (asB f) :=
  ⟨(pt_val h.p he).weak fun σ H Q ⟨O, ms, F, δ, μ, d, μ', R, ev, k⟩ => ⟨O, ms, F, δ, μ, .bl d, μ', R, asB_some ev, fun v H' ms' F' r s q => ⟨d, q, k H' ms' F' r s⟩⟩⟩
def tThen (fa : TF) {β : Type} (k : Bool → List SV → List MO → Option (β × List MO)) : List SV → List MO → Option (β × List MO) := fun δ μ => match fa δ μ with
  | some (d, μ1) => k d δ μ1
  | none => none
theorem tThen_some {fa : TF} {β : Type} {k : Bool → List SV → List MO → Option (β × List MO)} {δ : List SV} {μ : List MO} {r : β × List MO} (h : tThen fa k δ μ = some r) : ∃ d μ1, fa δ μ = some (d, μ1) ∧ k d δ μ1 = some r := by
  unfold tThen at h
  split at h
  · exact ⟨_, _, by assumption, h⟩
  · cases h
theorem tT.seq {fa : TF} {Γ : Gm} {O : Og} {ms : List Addr} {F H : Hp} {σ : St} {δ : List SV} {μ μ1 : List MO} {d : Bool} {Q : Bool → Hp → Prop} (R : SR Γ O ms F H σ δ μ) (e : fa δ μ = some (d, μ1))
    (k : ∀ H1 ms1 F1, SR Γ O ms1 F1 H1 σ δ μ1 → Stp ms ms1 F F1 H H1 → Q d H1) : tT Γ fa σ H Q :=
  ⟨O, ms, F, δ, μ, d, μ1, R, e, fun H1 ms1 F1 r s => k H1 ms1 F1 (R.step r s) s⟩
def tfNot (f : TF) : TF := tThen f fun b _ μ => some (!b, μ)
def tfAnd (f g : TF) : TF := tThen f fun b δ μ => if b = true then g δ μ else some (false, μ)
def tfOr (f g : TF) : TF := tThen f fun b δ μ => if b = true then some (true, μ) else g δ μ
variable {ta tb : TF} {rest : List Expr}
theorem dt_not (ha : DT X cl a ta) : DT X cl (.UnaryOp .Not a pos) (tfNot ta) := ⟨(pt_not ha.p).weak fun σ H Q ⟨O, ms, F, δ, μ, d, μ', R, ev, k⟩ => by
  obtain ⟨d1, μ1, e1, ev⟩ := tThen_some ev
  cases ev
  exact tT.seq R e1 fun H1 ms1 F1 R1 s1 => k H1 ms1 F1 R1.hr s1⟩
theorem dw_and1 (ha : DT X cl a ta) : DW X cl (.BoolOp .And [a] pos) ta := ⟨pw_and1 ha.p⟩
theorem dw_or1 (ha : DT X cl a ta) : DW X cl (.BoolOp .Or [a] pos) ta := ⟨pw_or1 ha.p⟩
theorem dw_and (ha : DT X cl a ta) (hb : DW X cl (.BoolOp .And (b :: rest) pos) tb) : DW X cl (.BoolOp .And (a :: b :: rest) pos) (tfAnd ta tb) := ⟨(pw_and ha.p hb.p).weak fun σ H Q ⟨O, ms, F, δ, μ, d, μ', R, ev, k⟩ => by
  obtain ⟨d1, μ1, e1, ev⟩ := tThen_some ev
  refine tT.seq R e1 fun H1 ms1 F1 R1 s1 => ?_
  cases d1 with
  | false => cases ev; exact k H1 ms1 F1 R1.hr s1
  | true => exact tT.seq R1 ev fun H2 ms2 F2 R2 s2 => k H2 ms2 F2 R2.hr (s1.trans' R1.hr s2)⟩
theorem dw_or (ha : DT X cl a ta) (hb : DW X cl (.BoolOp .Or (b :: rest) pos) tb) : DW X cl (.BoolOp .Or (a :: b :: rest) pos) (tfOr ta tb) := ⟨(pw_or ha.p hb.p).weak fun σ H Q ⟨O, ms, F, δ, μ, d, μ', R, ev, k⟩ => by
  obtain ⟨d1, μ1, e1, ev⟩ := tThen_some ev
  refine tT.seq R e1 fun H1 ms1 F1 R1 s1 => ?_
  cases d1 with
  | true => cases ev; exact k H1 ms1 F1 R1.hr s1
  | false => exact tT.seq R1 ev fun H2 ms2 F2 R2 s2 => k H2 ms2 F2 R2.hr (s1.trans' R1.hr s2)⟩
theorem dt_w (h : DW X cl a ta) : DT X cl a ta := ⟨h.p.pt⟩
def eIf (t : TF) (fa fb : EF) : EF := tThen t fun c δ μ => if c = true then fa δ μ else fb δ μ
theorem de_if (hc : DT X cl c ta) (ha : DE X cl a fa) (hb : DE X cl b fb) : DE X cl (.IfExp c a b pos) (eIf ta fa fb) := ⟨(pe_ifExp hc.p ha.p hb.p).weak fun σ H Q ⟨O, ms, F, δ, μ, d, μ', R, ev, k⟩ => by
  obtain ⟨d1, μ1, e1, ev⟩ := tThen_some ev
  refine tT.seq R e1 fun H1 ms1 F1 R1 s1 => ?_
  cases d1 with
  | true => exact tE.seq R1 ev fun v H2 ms2 F2 R2 s2 q => k v H2 ms2 F2 R2.hr (s1.trans' R1.hr s2) q
  | false => exact tE.seq R1 ev fun v H2 ms2 F2 R2 s2 q => k v H2 ms2 F2 R2.hr (s1.trans' R1.hr s2) q⟩
/-- a boolean and, or as a value: all but the last are truths -/
def eAndV (fa fb : EF) : EF := eThen fa fun x δ μ => match x with
  | .bl true => fb δ μ
  | .bl false => some (.bl false, μ)
  | _ => none
def eOrV (fa fb : EF) : EF := eThen fa fun x δ μ => match x with
  | .bl false => fb δ μ
  | .bl true => some (.bl true, μ)
  | _ => none
def eNotV (fa : EF) : EF := eThen fa fun x _ μ => match x with
  | .bl b => some (.bl (!b), μ)
  | _ => none
theorem de_one {op} (h : DE X cl a fa) : DE X cl (.BoolOp op [a] pos) fa := ⟨pe_one h.p⟩
theorem de_and (ha : DE X cl a fa) (hb : DE X cl (.BoolOp .And (b :: rest) pos) fb) : DE X cl (.BoolOp .And (a :: b :: rest) pos) (eAndV fa fb) := ⟨(pe_and ha.p hb.p).weak fun σ H Q ⟨O, ms, F, δ, μ, d, μ', R, ev, k⟩ => by
  obtain ⟨d1, μ1, e1, ev⟩ := eThen_some ev
  refine tE.seq R e1 fun v H1 ms1 F1 R1 s1 q1 => ?_
  split at ev
  · exact ⟨true, q1, by rw [if_pos rfl]; exact tE.seq R1 ev fun v H2 ms2 F2 R2 s2 q => k v H2 ms2 F2 R2.hr (s1.trans' R1.hr s2) q⟩
  · cases ev; exact ⟨false, q1, by rw [if_neg Bool.false_ne_true]; exact k _ H1 ms1 F1 R1.hr s1 rfl⟩
  · cases ev⟩
theorem de_or (ha : DE X cl a fa) (hb : DE X cl (.BoolOp .Or (b :: rest) pos) fb) : DE X cl (.BoolOp .Or (a :: b :: rest) pos) (eOrV fa fb) := ⟨(pe_or ha.p hb.p).weak fun σ H Q ⟨O, ms, F, δ, μ, d, μ', R, ev, k⟩ => by
  obtain ⟨d1, μ1, e1, ev⟩ := eThen_some ev
  refine tE.seq R e1 fun v H1 ms1 F1 R1 s1 q1 => ?_
  split at ev
  · exact ⟨false, q1, by rw [if_neg Bool.false_ne_true]; exact tE.seq R1 ev fun v H2 ms2 F2 R2 s2 q => k v H2 ms2 F2 R2.hr (s1.trans' R1.hr s2) q⟩
  · cases ev; exact ⟨true, q1, by rw [if_pos rfl]; exact k _ H1 ms1 F1 R1.hr s1 rfl⟩
  · cases ev⟩
theorem de_not (ha : DE X cl a fa) : DE X cl (.UnaryOp .Not a pos) (eNotV fa) := ⟨(pe_not ha.p).weak fun σ H Q ⟨O, ms, F, δ, μ, d, μ', R, ev, k⟩ => by
  obtain ⟨d1, μ1, e1, ev⟩ := eThen_some ev
  refine tE.seq R e1 fun v H1 ms1 F1 R1 s1 q1 => ?_
  split at ev
  · cases ev; exact ⟨_, q1, k _ H1 ms1 F1 R1.hr s1 rfl⟩
  · cases ev⟩

/-! ### argument lists, displays -/
def aNil : AF := fun _ μ => some ([], μ)
def aCons (f : EF) (r : AF) : AF := eThen f fun x δ μ => match r δ μ with
  | some (xs, μ1) => some (x :: xs, μ1)
  | none => none
variable {r : AF} {f : EF}
theorem da_nil : DA X cl [] aNil := ⟨pa_nil.weak fun σ H Q ⟨O, ms, F, δ, μ, d, μ', R, ev, k⟩ => by cases ev; exact k [] H ms F R.hr (Stp.refl _ _ _) rfl⟩
theorem da_cons (ha : DE X cl e f) (hr : DA X cl es r) (hs : starEach (e :: es) X.env = (false, eval e X.env) :: starEach es X.env := by rfl) : DA X cl (e :: es) (aCons f r) := ⟨(pa_cons ha.p hr.p hs).weak fun σ H Q ⟨O, ms, F, δ, μ, d, μ', R, ev, k⟩ => by
  obtain ⟨d1, μ1, e1, ev⟩ := eThen_some ev
  refine tE.seq R e1 fun v H1 ms1 F1 R1 s1 q1 => ?_
  split at ev
  · rename_i xs μ2 e2
    cases ev
    exact ⟨O, ms1, F1, δ, μ1, xs, _, R1, e2, fun vs H2 ms2 F2 r2 s2 q2 => k (v :: vs) H2 ms2 F2 r2 (s1.trans' R1.hr s2) ⟨v, vs, rfl, q1.step s2, q2⟩⟩
  · cases ev⟩
theorem Fin1.lst {Γ : Gm} {ms : List Addr} {F H : Hp} {ds : List D} {μ : List MO} {Q : VK} {vs : List V} {p : Addr} (h : Fin1 Γ ms F H (.lst ds) μ Q) (r : HR Γ ms F H μ) (q : HasL Γ ms F vs ds) (hp : H p = none) : Q (.ref p) (upd H p (.lst vs)) := by
  obtain ⟨r', s⟩ := r.alloc hp (.lst vs)
  exact h _ _ ms _ r' s ⟨p, vs, rfl, upd_same, q.step s⟩
theorem Fin1.tup {Γ : Gm} {ms : List Addr} {F H : Hp} {ds : List D} {μ : List MO} {Q : VK} {vs : List V} {p : Addr} (h : Fin1 Γ ms F H (.tup ds) μ Q) (r : HR Γ ms F H μ) (q : HasL Γ ms F vs ds) (hp : H p = none) : Q (.ref p) (upd H p (.tup vs)) := by
  obtain ⟨r', s⟩ := r.alloc hp (.tup vs)
  exact h _ _ ms _ r' s ⟨p, vs, rfl, Tp.of upd_same, q.step s⟩
/-- a list that may change -/
theorem Fin1.mut {Γ : Gm} {ms : List Addr} {F H : Hp} {ds : List D} {μ : List MO} {Q : VK} {vs : List V} {p : Addr} (h : Fin1 Γ ms F H (.mut μ.length) (μ ++ [.lst ds]) Q) (r : HR Γ ms F H μ) (q : HasL Γ ms F vs ds) (hp : H p = none) : Q (.ref p) (upd H p (.lst vs)) := by
  obtain ⟨r', s⟩ := r.push (u := .lst ds) hp ⟨vs, upd_same, q.mono (Same.refl _)⟩
  exact h _ _ _ _ r' s ⟨p, rfl, by rw [← r.len]; simp⟩
def eLst (r : AF) : EF := fun δ μ => match r δ μ with
  | some (xs, μ1) => if xs.length ≤ 1000000 then some (.lst xs, μ1) else none
  | none => none
def eTup (r : AF) : EF := fun δ μ => match r δ μ with
  | some (xs, μ1) => if xs.length ≤ 1000000 then some (.tup xs, μ1) else none
  | none => none
def eLstM (r : AF) : EF := fun δ μ => match r δ μ with
  | some (xs, μ1) => if xs.length ≤ 1000000 then some (.mut μ1.length, μ1 ++ [.lst xs]) else none
  | none => none
theorem million {n : Nat} (h : n ≤ 1000000) : n ≤ sizeLine := by rw [sizeLine_eq]; omega
theorem de_lst (h : DA X cl es r) : DE X cl (.List es pos) (eLst r) := ⟨(pe_lst h.p).weak fun σ H Q ⟨O, ms, F, δ, μ, d, μ', R, ev, k⟩ => by
  unfold eLst at ev
  split at ev
  · rename_i xs μ1 e1
    split at ev
    · rename_i hz
      cases ev
      refine ⟨O, ms, F, δ, μ, xs, _, R, e1, fun vs H1 ms1 F1 r1 s1 q1 => ⟨by rw [q1.length]; exact million hz, fun p hp => ?_⟩⟩
      exact Fin1.lst (fun v H' ms' F' r s q => k v H' ms' F' r (s1.trans' r1 s) q) r1 q1 hp
    · cases ev
  · cases ev⟩
theorem de_lstM (h : DA X cl es r) : DE X cl (.List es pos) (eLstM r) := ⟨(pe_lst h.p).weak fun σ H Q ⟨O, ms, F, δ, μ, d, μ', R, ev, k⟩ => by
  unfold eLstM at ev
  split at ev
  · rename_i xs μ1 e1
    split at ev
    · rename_i hz
      cases ev
      refine ⟨O, ms, F, δ, μ, xs, _, R, e1, fun vs H1 ms1 F1 r1 s1 q1 => ⟨by rw [q1.length]; exact million hz, fun p hp => ?_⟩⟩
      exact Fin1.mut (fun v H' ms' F' r s q => k v H' ms' F' r (s1.trans' r1 s) q) r1 q1 hp
    · cases ev
  · cases ev⟩
theorem de_tup {x1} (h : DA X cl es r) : DE X cl (.Tuple es x1 pos) (eTup r) := ⟨(pe_tup h.p).weak fun σ H Q ⟨O, ms, F, δ, μ, d, μ', R, ev, k⟩ => by
  unfold eTup at ev
  split at ev
  · rename_i xs μ1 e1
    split at ev
    · rename_i hz
      cases ev
      refine ⟨O, ms, F, δ, μ, xs, _, R, e1, fun vs H1 ms1 F1 r1 s1 q1 => ⟨by rw [q1.length]; exact million hz, fun p hp => ?_⟩⟩
      exact Fin1.tup (fun v H' ms' F' r s q => k v H' ms' F' r (s1.trans' r1 s) q) r1 q1 hp
    · cases ev
  · cases ev⟩
end
end G

set_option Elab.async false
set_option linter.all false
set_option autoImplicit false
set_option maxRecDepth 100000
set_option maxHeartbeats 2000000
namespace G
open PySem PySem.Spec L2

/-! ### new lists -/
abbrev NF := List SV → List MO → Option (List D × List MO)
def FinN (Γ : Gm) (ms : List Addr) (F H : Hp) (ds : List D) (μ' : List MO) (Q : VK) : Prop :=
  ∀ vs H' ms' F' p, HR Γ ms' F' H' μ' → Stp ms ms' F F' H H' → HasL Γ ms' F' vs ds → H' p = some (.lst vs) → H p = none → p ∉ ms' → F' p = none → Q (.ref p) H'
def tN (Γ : Gm) (f : NF) : TE := fun σ H Q => ∃ O ms F δ μ d μ', SR Γ O ms F H σ δ μ ∧ f δ μ = some (d, μ') ∧ FinN Γ ms F H d μ' Q
structure DN (X : Cx) (cl : Nat → Addr) (e : Expr) (f : NF) : Prop where
  p : PE X e (tN (gm X cl) f)
section
variable {Γ : Gm} {ms : List Addr} {F H : Hp} {μ : List MO} {p : Addr}
theorem HR.extra (h : HR Γ ms F H μ) (hp : H p = none) (o : HO) : HR Γ ms F (upd H p o) μ ∧ Stp ms ms F F H (upd H p o) := by
  have sH : ∀ b u, H b = some u → upd H p o b = some u := fun b u e => by rw [upd_ne (ne_of_none e hp)]; exact e
  refine ⟨⟨fun b u e => sH b u (h.sub b u e), h.out, h.len, h.nd, fun k u e => ?_⟩, ⟨⟨[], by simp, by simp⟩, fun b u e _ => sH b u e, Same.refl _, fun b e _ => e⟩⟩
  obtain ⟨a, ea, m⟩ := h.obj k u e
  have m' := m.mono (new := []) (Same.refl F) (sH a)
  rw [List.append_nil] at m'
  exact ⟨a, ea, m'⟩
theorem HR.freeze (h : HR Γ ms F H μ) {o : HO} (hp : H p = some o) (hm : p ∉ ms) (hF : F p = none) : HR Γ ms (upd F p o) H μ := by
  have sF : Same F (upd F p o) := fun b u e => by rw [upd_ne (ne_of_none e hF)]; exact e
  refine ⟨fun b u e => ?_, fun b hb => ?_, h.len, h.nd, fun k u e => ?_⟩
  · by_cases hb : b = p
    · subst hb; rw [upd_same] at e; rw [hp]; exact e
    · rw [upd_ne hb] at e; exact h.sub b u e
  · have hne : b ≠ p := fun z => hm (by rw [← z]; exact hb)
    rw [upd_ne hne]; exact h.out b hb
  · obtain ⟨a, ea, m⟩ := h.obj k u e
    have m' := m.mono (new := []) (H' := H) sF (fun o' q => q)
    rw [List.append_nil] at m'
    exact ⟨a, ea, m'⟩
theorem HR.fresh_not (h : HR Γ ms F H μ) (hp : H p = none) : p ∉ ms ∧ F p = none := ⟨fun z => h.live p z hp, h.sub.free hp⟩
end
section
variable {Γ : Gm} {ms : List Addr} {F H : Hp} {μ : List MO} {Q : VK} {ds : List D}
/-- the new list is laid now -/
theorem FinN.here (k : FinN Γ ms F H ds μ Q) {vs : List V} (r : HR Γ ms F H μ) (q : HasL Γ ms F vs ds) {p : Addr} (hp : H p = none) : Q (.ref p) (upd H p (.lst vs)) := by
  obtain ⟨r', s⟩ := r.extra hp (.lst vs)
  exact k vs _ ms F p r' s q upd_same hp (r.fresh_not hp).1 (r.fresh_not hp).2
theorem FinN.step {ms' : List Addr} {F' H' : Hp} {μ1 μ2 : List MO} (k : FinN Γ ms F H ds μ2 Q) (r : HR Γ ms' F' H' μ1) (s : Stp ms ms' F F' H H') (old : ∀ p, H' p = none → H p = none) : FinN Γ ms' F' H' ds μ2 Q :=
  fun vs H2 ms2 F2 p r2 s2 q hp h0 hm hF => k vs H2 ms2 F2 p r2 (s.trans' r s2) q hp (old p h0) hm hF
theorem Stp.old {ms ms' : List Addr} {F F' H H' : Hp} {μ' : List MO} (s : Stp ms ms' F F' H H') (r : HR Γ ms' F' H' μ') : ∀ p, H' p = none → H p = none := fun p h => by
  cases z : H p with
  | none => rfl
  | some o =>
    by_cases hm : p ∈ ms
    · obtain ⟨new, e, _⟩ := s.new
      exact absurd h (r.live p (by rw [e]; exact List.mem_append_left _ hm))
    · rw [s.keep p o z hm] at h; cases h
theorem FinN.step' {ms' : List Addr} {F' H' : Hp} {μ1 μ2 : List MO} (k : FinN Γ ms F H ds μ2 Q) (r : HR Γ ms' F' H' μ1) (s : Stp ms ms' F F' H H') : FinN Γ ms' F' H' ds μ2 Q := k.step r s (s.old r)
theorem Fin1.step {d : D} {ms' : List Addr} {F' H' : Hp} {μ1 μ2 : List MO} (k : Fin1 Γ ms F H d μ2 Q) (r : HR Γ ms' F' H' μ1) (s : Stp ms ms' F F' H H') : Fin1 Γ ms' F' H' d μ2 Q :=
  fun v H2 ms2 F2 r2 s2 q => k v H2 ms2 F2 r2 (s.trans' r s2) q
theorem FinN.of1 {μ' : List MO} (k : Fin1 Γ ms F H (.lst ds) μ' Q) : FinN Γ ms F H ds μ' Q := fun vs H' ms' F' p r s q hp h0 hm hF => by
  have r2 := r.freeze hp hm hF
  have sF : Same F' (upd F' p (.lst vs)) := fun b u e => by rw [upd_ne (ne_of_none e hF)]; exact e
  refine k _ H' ms' (upd F' p (.lst vs)) r2 ⟨s.new, s.keep, s.fsub.trans sF, fun b e hn => ?_⟩ ⟨p, vs, rfl, upd_same, ?_⟩
  · have hne : b ≠ p := fun z => hn (by rw [z]; exact h0)
    rw [upd_ne hne]; exact s.fnew b e hn
  · have q2 := q.mono (new := []) sF
    rw [List.append_nil] at q2; exact q2
theorem FinN.ofM {μ' : List MO} (k : Fin1 Γ ms F H (.mut μ'.length) (μ' ++ [.lst ds]) Q) : FinN Γ ms F H ds μ' Q := fun vs H' ms' F' p r s q hp h0 hm hF => by
  obtain ⟨new, e, fr⟩ := s.new
  refine k _ H' (ms' ++ [p]) F' ⟨r.sub, fun b hb => ?_, by simp [r.len], ?_, fun j u' e => ?_⟩ ⟨⟨new ++ [p], by rw [e]; simp, fun b hb => ?_⟩, s.keep, s.fsub, s.fnew⟩ ⟨p, rfl, by rw [← r.len]; simp⟩
  · rcases List.mem_append.mp hb with hb | hb
    · exact r.out b hb
    · simp at hb; subst hb; exact hF
  · refine List.nodup_append.mpr ⟨r.nd, by simp, fun b hb c hc => ?_⟩
    simp at hc; subst hc
    exact fun z => hm (z ▸ hb)
  · by_cases hk : j < μ'.length
    · rw [List.getElem?_append_left hk] at e
      obtain ⟨a, ea, m'⟩ := r.obj j u' e
      exact ⟨a, getP ea, m'.mono (Same.refl _) fun o q => q⟩
    · have hk2 := (List.getElem?_eq_some_iff.mp e).1
      simp at hk2
      have : j = μ'.length := by omega
      subst this
      simp at e; subst e
      exact ⟨p, by rw [← r.len]; simp, vs, hp, q.mono (Same.refl _)⟩
  · rcases List.mem_append.mp hb with hb | hb
    · exact fr b hb
    · simp at hb; subst hb; exact h0
end
section
variable {X : Cx} {cl : Nat → Addr} {e a b c : Expr} {es : List Expr} {fa fb fc : EF} {pos : Pos} {r : AF} {n : NF}
def eFrz (n : NF) : EF := fun δ μ => match n δ μ with
  | some (ds, μ1) => some (.lst ds, μ1)
  | none => none
def eMut (n : NF) : EF := fun δ μ => match n δ μ with
  | some (ds, μ1) => some (.mut μ1.length, μ1 ++ [.lst ds])
  | none => none
theorem de_frz (h : DN X cl e n) : DE X cl e (eFrz n) := ⟨h.p.weak fun σ H Q ⟨O, ms, F, δ, μ, d, μ', R, ev, k⟩ => by
  unfold eFrz at ev
  split at ev
  · rename_i ds μ1 e1
    cases ev
    exact ⟨O, ms, F, δ, μ, ds, _, R, e1, FinN.of1 k⟩
  · cases ev⟩
theorem de_mut (h : DN X cl e n) : DE X cl e (eMut n) := ⟨h.p.weak fun σ H Q ⟨O, ms, F, δ, μ, d, μ', R, ev, k⟩ => by
  unfold eMut at ev
  split at ev
  · rename_i ds μ1 e1
    cases ev
    exact ⟨O, ms, F, δ, μ, ds, _, R, e1, FinN.ofM k⟩
  · cases ev⟩
def nLst (r : AF) : NF := fun δ μ => match r δ μ with
  | some (xs, μ1) => if xs.length ≤ 1000000 then some (xs, μ1) else none
  | none => none
theorem dn_lst (h : DA X cl es r) : DN X cl (.List es pos) (nLst r) := ⟨(pe_lst h.p).weak fun σ H Q ⟨O, ms, F, δ, μ, d, μ', R, ev, k⟩ => by
  unfold nLst at ev
  split at ev
  · rename_i xs μ1 e1
    split at ev
    · rename_i hz
      cases ev
      exact ⟨O, ms, F, δ, μ, _, _, R, e1, fun vs H1 ms1 F1 r1 s1 q1 => ⟨by rw [q1.length]; exact million hz, fun p hp => (k.step' r1 s1).here r1 q1 hp⟩⟩
    · cases ev
  · cases ev⟩

/-! ### a list or tuple that is read -/
def seqD (μ : List MO) : D → Option (SK × List D)
  | .lst ds => some (.l, ds)
  | .tup ds => some (.t, ds)
  | .mut k => match μ[k]? with
    | some (.lst ds) => some (.l, ds)
    | _ => none
  | _ => none
theorem seqD_ok {Γ : Gm} {ms : List Addr} {F H : Hp} {μ : List MO} {v : V} {d : D} {k : SK} {ds : List D} (r : HR Γ ms F H μ) (h : Has Γ ms F v d) (e : seqD μ d = some (k, ds)) : ∃ a xs, v = .ref a ∧ SeqV Γ.K H a k xs ∧ HasL Γ ms F xs ds := by
  unfold seqD at e
  split at e
  · cases e
    obtain ⟨a, xs, hv, hs, hl⟩ := h
    exact ⟨a, xs, hv, r.sub _ _ hs, hl⟩
  · cases e
    obtain ⟨a, xs, hv, hs, hl⟩ := h
    exact ⟨a, xs, hv, Tp.same r.sub hs, hl⟩
  · split at e
    · rename_i k' ds' hk
      cases e
      obtain ⟨a, hv, hm⟩ := h
      obtain ⟨a', ha', xs, hx, hl⟩ := r.obj _ _ hk
      rw [hm] at ha'; cases ha'
      exact ⟨a, xs, hv, hx, hl⟩
    · cases e
  · cases e
def qE (f : EF) : SF := eThen f fun d _ μ => match seqD μ d with
  | some x => some (x, μ)
  | none => none
theorem dq_e {f : EF} (h : DE X cl e f) : DQ X cl e (qE f) := ⟨h.p.weak fun σ H Q ⟨O, ms, F, δ, μ, d, μ', R, ev, k⟩ => by
  obtain ⟨d1, μ1, e1, ev⟩ := eThen_some ev
  refine tE.seq R e1 fun v H1 ms1 F1 R1 s1 q1 => ?_
  split at ev
  · rename_i x hx
    cases ev
    obtain ⟨a, xs, rfl, hs, hl⟩ := seqD_ok R1.hr q1 hx
    exact k a xs H1 ms1 F1 R1.hr s1 hs hl
  · cases ev⟩
/-- an own list of the def's -/
def qO (i : Nat) : SF := fun δ μ => match δ[i]? with
  | some (.own xs) => some ((.l, xs), μ)
  | _ => none
theorem dq_o {i : Nat} (h : PE X e (tVar i)) : DQ X cl e (qO i) := ⟨h.weak fun σ H Q ⟨O, ms, F, δ, μ, d, μ', R, ev, k⟩ => by
  unfold qO at ev
  split at ev
  · rename_i xs hd
    cases ev
    obtain ⟨a, vs, ea, ha, hl, _⟩ := R.er.ok i _ hd
    exact ⟨_, ea, k a vs H ms F R.hr (Stp.refl _ _ _) ha hl⟩
  · cases ev⟩
theorem tQ.seq {fq : SF} {Γ : Gm} {O : Og} {ms : List Addr} {F H : Hp} {σ : L2.St} {δ : List SV} {μ μ1 : List MO} {d : SK × List D} {Q : VK} (R : SR Γ O ms F H σ δ μ) (e : fq δ μ = some (d, μ1))
    (k : ∀ a xs H1 ms1 F1, SR Γ O ms1 F1 H1 σ δ μ1 → Stp ms ms1 F F1 H H1 → SeqV Γ.K H1 a d.1 xs → HasL Γ ms1 F1 xs d.2 → Q (.ref a) H1) : tQ Γ fq σ H Q :=
  ⟨O, ms, F, δ, μ, d, μ1, R, e, fun a xs H1 ms1 F1 r s q l => k a xs H1 ms1 F1 (R.step r s) s q l⟩
theorem SeqV.or {K : PySem.W.Frag} {H : Hp} {a : Addr} {k : SK} {xs : List V} (h : SeqV K H a k xs) : SqL K H a xs ∨ SqT K H a xs := by
  cases k with
  | l => exact .inl (SqL.of h)
  | t => exact .inr h.sq

/-! ### one argument: built-ins over a value -/
def CallD (X : Cx) (cl : Nat → Addr) (f : Value) (g : List D → List MO → Option (D × List MO)) : Prop :=
  ∀ ms F H μ vs ds d μ' Q, HR (gm X cl) ms F H μ → HasL (gm X cl) ms F vs ds → g ds μ = some (d, μ') → Fin1 (gm X cl) ms F H d μ' Q → ∃ r, CallR X f r ∧ r vs H Q
theorem _root_.L2.CallR.any' {f : Value} : CallR X f (fun vs H Q => ∃ r, CallR X f r ∧ r vs H Q) := by
  intro pins s σ H vs us Q I r ⟨rr, ho, h⟩
  exact ho pins s σ H vs us Q I r h
def aThen (r : AF) {β : Type} (k : List D → List SV → List MO → Option (β × List MO)) : List SV → List MO → Option (β × List MO) := fun δ μ => match r δ μ with
  | some (d, μ1) => k d δ μ1
  | none => none
theorem aThen_some {β : Type} {k : List D → List SV → List MO → Option (β × List MO)} {δ : List SV} {μ : List MO} {x : β × List MO} (h : aThen r k δ μ = some x) : ∃ d μ1, r δ μ = some (d, μ1) ∧ k d δ μ1 = some x := by
  unfold aThen at h
  split at h
  · exact ⟨_, _, by assumption, h⟩
  · cases h
theorem tA.seq {Γ : Gm} {O : Og} {ms : List Addr} {F H : Hp} {σ : L2.St} {δ : List SV} {μ μ1 : List MO} {d : List D} {Q : List V → Hp → Prop} (R : SR Γ O ms F H σ δ μ) (e : r δ μ = some (d, μ1))
    (k : ∀ v H1 ms1 F1, SR Γ O ms1 F1 H1 σ δ μ1 → Stp ms ms1 F F1 H H1 → HasL Γ ms1 F1 v d → Q v H1) : tA Γ r σ H Q :=
  ⟨O, ms, F, δ, μ, d, μ1, R, e, fun v H1 ms1 F1 r s q => k v H1 ms1 F1 (R.step r s) s q⟩
def eCall (g : List D → List MO → Option (D × List MO)) (r : AF) : EF := aThen r fun ds _ μ => g ds μ
theorem callD_run {f : Value} {g : List D → List MO → Option (D × List MO)} (hc : CallD X cl f g) {σ : L2.St} {H : Hp} {Q : VK} (h : tE (gm X cl) (eCall g r) σ H Q) : tCB (fun vs H Q => ∃ r, CallR X f r ∧ r vs H Q) (tA (gm X cl) r) σ H Q := by
  obtain ⟨O, ms, F, δ, μ, d, μ', R, ev, k⟩ := h
  obtain ⟨ds, μ1, e1, ev⟩ := aThen_some ev
  refine tA.seq R e1 fun v H1 ms1 F1 R1 s1 q1 => ?_
  exact hc ms1 F1 H1 μ1 v ds d μ' Q R1.hr q1 ev fun v H' ms' F' r s q => k v H' ms' F' r (s1.trans' R1.hr s) q
theorem de_callB {id : String} {x : Str} {p : Pos} {g : List D → List MO → Option (D × List MO)} (hc : CallD X cl (.builtin id) g) (hg : Gl X x) (hm : X.mg x = none) (hv : bootBuiltins x = some (.builtin id)) (ha : DA X cl (e :: es) r) (hn : x ≠ "__name__" := by decide) (hdb : (x == ("__debug__" : Str)) = false := by decide)
    (he : starEach (e :: es) X.env = (false, eval e X.env) :: starEach es X.env := by rfl) (hpl : (backTo pos (starEach es X.env)).any (·.1) = false := by rfl) : DE X cl (.Call (.Name x p) (e :: es) [] pos) (eCall g r) :=
  ⟨(pe_callB CallR.any' hg hm hv ha.p hn hdb he hpl).weak fun σ H Q h => callD_run hc h⟩
theorem de_callT {T : String} {x : Str} {p : Pos} {g : List D → List MO → Option (D × List MO)} (hc : CallD X cl (.type T) g) (hg : Gl X x) (hm : X.mg x = none) (hv : bootBuiltins x = some (.type T)) (ha : DA X cl (e :: es) r) (hn : x ≠ "__name__" := by decide) (hdb : (x == ("__debug__" : Str)) = false := by decide)
    (he : starEach (e :: es) X.env = (false, eval e X.env) :: starEach es X.env := by rfl) (hpl : (backTo pos (starEach es X.env)).any (·.1) = false := by rfl) : DE X cl (.Call (.Name x p) (e :: es) [] pos) (eCall g r) :=
  ⟨(pe_callTy CallR.any' hg hm hv ha.p hn hdb he hpl).weak fun σ H Q h => callD_run hc h⟩
/-- f(xs): one list or tuple, read -/
def CallQ (X : Cx) (cl : Nat → Addr) (f : Value) (g : SK × List D → List MO → Option (D × List MO)) : Prop :=
  ∀ ms F H μ a xs dq d μ' Q, HR (gm X cl) ms F H μ → SeqV X.K H a dq.1 xs → HasL (gm X cl) ms F xs dq.2 → g dq μ = some (d, μ') → Fin1 (gm X cl) ms F H d μ' Q → ∃ r, CallR X f r ∧ r [.ref a] H Q
def qThen (r : SF) {β : Type} (k : SK × List D → List SV → List MO → Option (β × List MO)) : List SV → List MO → Option (β × List MO) := fun δ μ => match r δ μ with
  | some (d, μ1) => k d δ μ1
  | none => none
theorem qThen_some {q : SF} {β : Type} {k : SK × List D → List SV → List MO → Option (β × List MO)} {δ : List SV} {μ : List MO} {x : β × List MO} (h : qThen q k δ μ = some x) : ∃ d μ1, q δ μ = some (d, μ1) ∧ k d δ μ1 = some x := by
  unfold qThen at h
  split at h
  · exact ⟨_, _, by assumption, h⟩
  · cases h
def eCallQ (g : SK × List D → List MO → Option (D × List MO)) (q : SF) : EF := qThen q fun ds _ μ => g ds μ
theorem callQ_run {f : Value} {q : SF} {g : SK × List D → List MO → Option (D × List MO)} (hc : CallQ X cl f g) {σ : L2.St} {H : Hp} {Q : VK} (h : tE (gm X cl) (eCallQ g q) σ H Q) : tCB (fun vs H Q => ∃ r, CallR X f r ∧ r vs H Q) (tCons (tQ (gm X cl) q) tNil) σ H Q := by
  obtain ⟨O, ms, F, δ, μ, d, μ', R, ev, k⟩ := h
  obtain ⟨dq, μ1, e1, ev⟩ := qThen_some ev
  show tQ (gm X cl) q σ H fun x H1 => ∃ r, CallR X f r ∧ r [x] H1 Q
  refine tQ.seq R e1 fun a xs H1 ms1 F1 R1 s1 q1 l1 => ?_
  exact hc ms1 F1 H1 μ1 a xs dq d μ' Q R1.hr q1 l1 ev fun v H' ms' F' r s q => k v H' ms' F' r (s1.trans' R1.hr s) q
theorem de_callQ {id : String} {x : Str} {p : Pos} {q : SF} {g : SK × List D → List MO → Option (D × List MO)} (hc : CallQ X cl (.builtin id) g) (hg : Gl X x) (hm : X.mg x = none) (hv : bootBuiltins x = some (.builtin id)) (ha : DQ X cl e q) (hn : x ≠ "__name__" := by decide) (hdb : (x == ("__debug__" : Str)) = false := by decide)
    (he : starEach [e] X.env = (false, eval e X.env) :: starEach [] X.env := by rfl) (hpl : (backTo pos (starEach [] X.env)).any (·.1) = false := by rfl) : DE X cl (.Call (.Name x p) [e] [] pos) (eCallQ g q) :=
  ⟨(pe_callB CallR.any' hg hm hv (pa_cons ha.p pa_nil he) hn hdb he hpl).weak fun σ H Q h => callQ_run hc h⟩
end
end G

set_option Elab.async false
set_option linter.all false
set_option autoImplicit false
set_option maxRecDepth 100000
set_option maxHeartbeats 2000000
namespace G
open PySem PySem.Spec L2

/-! ### statements -/
inductive Out where
  | nx (δ : List SV) (μ : List MO) | rt (d : D) (μ : List MO) | bk (δ : List SV) (μ : List MO) | ct (δ : List SV) (μ : List MO)
abbrev BF := List SV → List MO → Option Out
structure Ext (ms ms' : List Addr) (F F' : Hp) : Prop where
  new : ∃ new, ms' = ms ++ new
  fsub : Same F F'
theorem Ext.refl (ms : List Addr) (F : Hp) : Ext ms ms F F := ⟨⟨[], by simp⟩, Same.refl _⟩
theorem Ext.trans {m1 m2 m3 : List Addr} {F1 F2 F3 : Hp} (a : Ext m1 m2 F1 F2) (b : Ext m2 m3 F2 F3) : Ext m1 m3 F1 F3 := by
  obtain ⟨n1, e1⟩ := a.new
  obtain ⟨n2, e2⟩ := b.new
  exact ⟨⟨n1 ++ n2, by rw [e2, e1, List.append_assoc]⟩, a.fsub.trans b.fsub⟩
theorem Stp.ext {ms ms' : List Addr} {F F' H H' : Hp} (s : Stp ms ms' F F' H H') : Ext ms ms' F F' := ⟨let ⟨n, e, _⟩ := s.new; ⟨n, e⟩, s.fsub⟩
def EndOk (Γ : Gm) (O : Og) (ms : List Addr) (F : Hp) (D : Ends) : Out → Prop
  | .nx δ' μ' => ∀ σ' H' ms' F', SR Γ O ms' F' H' σ' δ' μ' → Ext ms ms' F F' → D.nx σ' H'
  | .bk δ' μ' => ∀ σ' H' ms' F', SR Γ O ms' F' H' σ' δ' μ' → Ext ms ms' F F' → D.bk σ' H'
  | .ct δ' μ' => ∀ σ' H' ms' F', SR Γ O ms' F' H' σ' δ' μ' → Ext ms ms' F F' → D.ct σ' H'
  | .rt d μ' => ∀ v H' ms' F', HR Γ ms' F' H' μ' → Stp O.ms ms' O.F F' O.H H' → Has Γ ms' F' v d → D.rt v H'
def tS (Γ : Gm) (f : BF) : TS := fun D σ H => ∃ O ms F δ μ o, SR Γ O ms F H σ δ μ ∧ f δ μ = some o ∧ EndOk Γ O ms F D o
theorem EndOk.step {Γ : Gm} {O : Og} {ms ms' : List Addr} {F F' : Hp} {D : Ends} {o : Out} (h : EndOk Γ O ms F D o) (e : Ext ms ms' F F') : EndOk Γ O ms' F' D o := by
  cases o with
  | nx δ μ => exact fun σ' H' m2 F2 R x => h σ' H' m2 F2 R (e.trans x)
  | bk δ μ => exact fun σ' H' m2 F2 R x => h σ' H' m2 F2 R (e.trans x)
  | ct δ μ => exact fun σ' H' m2 F2 R x => h σ' H' m2 F2 R (e.trans x)
  | rt d μ => exact h
structure DS (X : Cx) (cl : Nat → Addr) (s : Stmt) (f : BF) : Prop where
  p : PS X s (tS (gm X cl) f)
structure DB (X : Cx) (cl : Nat → Addr) (s : List Stmt) (f : BF) : Prop where
  p : PSs X s (tS (gm X cl) f)
theorem _root_.L2.PS.weak {X : Cx} {s : Stmt} {t t' : TS} (h : PS X s t) (k : ∀ D σ H, t' D σ H → t D σ H) : PS X s t' := ⟨fun pins st σ H D I q => h.run pins st σ H D I (k D σ H q)⟩
theorem _root_.L2.PSs.weak {X : Cx} {s : List Stmt} {t t' : TS} (h : PSs X s t) (k : ∀ D σ H, t' D σ H → t D σ H) : PSs X s t' := ⟨fun pins st σ H D I q => h.run pins st σ H D I (k D σ H q)⟩
section
variable {Γ : Gm} {O : Og} {ms : List Addr} {F H : Hp} {σ : L2.St} {δ : List SV} {μ : List MO}
theorem SR.set (R : SR Γ O ms F H σ δ μ) {v : V} {d : D} (q : Has Γ ms F v d) (i : Nat) : SR Γ O ms F H (σ.set i (some v)) (δ.set i (.d d)) μ := by
  refine ⟨R.hr, ⟨by simp [R.er.len], fun j sv e => ?_, fun j k a ds es e1 e2 f1 f2 => ?_⟩, R.st⟩
  · by_cases hj : i = j
    · subst hj
      have hi : i < δ.length := by
        have := (List.getElem?_eq_some_iff.mp e).1
        simpa using this
      rw [List.getElem?_set_self hi] at e; cases e
      rw [List.getElem?_set_self (by rw [R.er.len]; exact hi)]
      exact ⟨v, rfl, q⟩
    · rw [List.getElem?_set_ne hj] at e
      rw [List.getElem?_set_ne hj]
      exact R.er.ok j sv e
  · have n1 : i ≠ j := fun z => by
      subst z
      have hi : i < δ.length := by
        have := (List.getElem?_eq_some_iff.mp e1).1
        simpa using this
      rw [List.getElem?_set_self hi] at e1; cases e1
    have n2 : i ≠ k := fun z => by
      subst z
      have hi : i < δ.length := by
        have := (List.getElem?_eq_some_iff.mp e2).1
        simpa using this
      rw [List.getElem?_set_self hi] at e2; cases e2
    rw [List.getElem?_set_ne n1] at e1 f1
    rw [List.getElem?_set_ne n2] at e2 f2
    exact R.er.inj j k a ds es e1 e2 f1 f2
/-- a name is forgotten -/
theorem SR.drop (R : SR Γ O ms F H σ δ μ) (i : Nat) (u : Option V) : SR Γ O ms F H (σ.set i u) (δ.set i .no) μ := by
  refine ⟨R.hr, ⟨by simp [R.er.len], fun j sv e => ?_, fun j k a ds es e1 e2 f1 f2 => ?_⟩, R.st⟩
  · by_cases hj : i = j
    · subst hj
      have hi : i < δ.length := by
        have := (List.getElem?_eq_some_iff.mp e).1
        simpa using this
      rw [List.getElem?_set_self hi] at e; cases e
      trivial
    · rw [List.getElem?_set_ne hj] at e
      rw [List.getElem?_set_ne hj]
      exact R.er.ok j sv e
  · have n1 : i ≠ j := fun z => by
      subst z
      have hi : i < δ.length := by
        have := (List.getElem?_eq_some_iff.mp e1).1
        simpa using this
      rw [List.getElem?_set_self hi] at e1; cases e1
    have n2 : i ≠ k := fun z => by
      subst z
      have hi : i < δ.length := by
        have := (List.getElem?_eq_some_iff.mp e2).1
        simpa using this
      rw [List.getElem?_set_self hi] at e2; cases e2
    rw [List.getElem?_set_ne n1] at e1 f1
    rw [List.getElem?_set_ne n2] at e2 f2
    exact R.er.inj j k a ds es e1 e2 f1 f2
/-- a new list becomes a name's own -/
theorem SR.own (R : SR Γ O ms F H σ δ μ) {p : Addr} {vs : List V} {ds : List D} (hp : H p = some (.lst vs)) (q : HasL Γ ms F vs ds) (hF : F p = none) (hm : p ∉ ms) (h0 : O.H p = none) (hnew : ∀ (j : Nat) (es : List D), δ[j]? = some (.own es) → σ[j]? ≠ some (some (.ref p))) (i : Nat) :
    SR Γ O ms F H (σ.set i (some (.ref p))) (δ.set i (.own ds)) μ := by
  refine ⟨R.hr, ⟨by simp [R.er.len], fun j sv e => ?_, fun j k a ds' es e1 e2 f1 f2 => ?_⟩, R.st⟩
  · by_cases hj : i = j
    · subst hj
      have hi : i < δ.length := by
        have := (List.getElem?_eq_some_iff.mp e).1
        simpa using this
      rw [List.getElem?_set_self hi] at e; cases e
      rw [List.getElem?_set_self (by rw [R.er.len]; exact hi)]
      exact ⟨p, vs, rfl, hp, q, hF, hm, h0⟩
    · rw [List.getElem?_set_ne hj] at e
      rw [List.getElem?_set_ne hj]
      exact R.er.ok j sv e
  · have at_i : ∀ (j : Nat) (es : List D), i = j → (δ.set i (SV.own ds))[j]? = some (.own es) → (σ.set i (some (V.ref p)))[j]? = some (some (.ref a)) → a = p := fun j es z e f => by
      subst z
      have hi : i < σ.length := by
        have := (List.getElem?_eq_some_iff.mp f).1
        simpa using this
      rw [List.getElem?_set_self hi] at f; cases f; rfl
    by_cases n1 : i = j
    · by_cases n2 : i = k
      · omega
      · have := at_i j _ n1 e1 f1
        subst this
        rw [List.getElem?_set_ne n2] at e2 f2
        exact absurd f2 (hnew k _ e2)
    · by_cases n2 : i = k
      · have := at_i k _ n2 e2 f2
        subst this
        rw [List.getElem?_set_ne n1] at e1 f1
        exact absurd f1 (hnew j _ e1)
      · rw [List.getElem?_set_ne n1] at e1 f1
        rw [List.getElem?_set_ne n2] at e2 f2
        exact R.er.inj j k a _ _ e1 e2 f1 f2
/-- an own list changes -/
theorem SR.ownSet (R : SR Γ O ms F H σ δ μ) {i : Nat} {a : Addr} {ds es : List D} {vs ws : List V} (hd : δ[i]? = some (.own ds)) (hs : σ[i]? = some (some (.ref a))) (ha : H a = some (.lst vs)) (q : HasL Γ ms F ws es) :
    SR Γ O ms F (upd H a (.lst ws)) σ (δ.set i (.own es)) μ := by
  obtain ⟨a', xs', e1, h1, l1, hF, hm, h0⟩ := R.er.ok i _ hd
  rw [hs] at e1; cases e1
  have keep : ∀ b, b ≠ a → upd H a (.lst ws) b = H b := fun b hb => upd_ne hb
  have hr : HR Γ ms F (upd H a (.lst ws)) μ := by
    refine ⟨fun b u e => ?_, R.hr.out, R.hr.len, R.hr.nd, fun k u e => ?_⟩
    · rw [keep b (fun z => by rw [z, hF] at e; cases e)]; exact R.hr.sub b u e
    · obtain ⟨b, eb, m⟩ := R.hr.obj k u e
      have hb : b ≠ a := fun z => hm (z ▸ List.mem_of_getElem? eb)
      have m' := m.mono (new := []) (H' := upd H a (.lst ws)) (Same.refl F) (fun o q => by rw [keep b hb]; exact q)
      rw [List.append_nil] at m'
      exact ⟨b, eb, m'⟩
  refine ⟨hr, ⟨by simp [R.er.len], fun j sv e => ?_, fun j k c ds' es' e1 e2 f1 f2 => ?_⟩, ⟨R.st.new, fun b o e hb => ?_, R.st.fsub, R.st.fnew⟩⟩
  · by_cases hj : i = j
    · subst hj
      have hi : i < δ.length := (List.getElem?_eq_some_iff.mp hd).1
      rw [List.getElem?_set_self hi] at e; cases e
      exact ⟨a, ws, hs, upd_same, q, hF, hm, h0⟩
    · rw [List.getElem?_set_ne hj] at e
      have o := R.er.ok j sv e
      cases sv with
      | no => trivial
      | d x => exact o
      | own zs =>
        obtain ⟨c, xs, ec, hc, lc, r⟩ := o
        have hne : c ≠ a := fun z => by subst z; exact hj (R.er.inj i j c _ _ hd e hs ec)
        exact ⟨c, xs, ec, by rw [keep c hne]; exact hc, lc, r⟩
  · have own_at : ∀ (j : Nat) (es' : List D), (δ.set i (SV.own es))[j]? = some (.own es') → ∃ es2, δ[j]? = some (.own es2) := fun j es' e => by
      by_cases hj : i = j
      · subst hj; exact ⟨_, hd⟩
      · rw [List.getElem?_set_ne hj] at e; exact ⟨_, e⟩
    obtain ⟨x1, y1⟩ := own_at j _ e1
    obtain ⟨x2, y2⟩ := own_at k _ e2
    exact R.er.inj j k c _ _ y1 y2 f1 f2
  · have hne : b ≠ a := fun z => by rw [z, h0] at e; cases e
    rw [keep b hne]; exact R.st.keep b o e hb
/-- an own list is frozen -/
theorem SR.ownFreeze (R : SR Γ O ms F H σ δ μ) {i : Nat} {ds : List D} (hd : δ[i]? = some (.own ds)) : ∃ F', SR Γ O ms F' H σ (δ.set i (.d (.lst ds))) μ ∧ Same F F' := by
  obtain ⟨a, xs, e1, h1, l1, hF, hm, h0⟩ := R.er.ok i _ hd
  have sF : Same F (upd F a (.lst xs)) := fun b u e => by rw [upd_ne (ne_of_none e hF)]; exact e
  refine ⟨upd F a (.lst xs), ⟨R.hr.freeze h1 hm hF, ⟨by simp [R.er.len], fun j sv e => ?_, fun j k c ds' es' e1 e2 f1 f2 => ?_⟩, ⟨R.st.new, R.st.keep, R.st.fsub.trans sF, fun b e hn => ?_⟩⟩, sF⟩
  · by_cases hj : i = j
    · subst hj
      have hi : i < δ.length := (List.getElem?_eq_some_iff.mp hd).1
      rw [List.getElem?_set_self hi] at e; cases e
      have q2 := l1.mono (new := []) sF
      rw [List.append_nil] at q2
      exact ⟨_, e1, a, xs, rfl, upd_same, q2⟩
    · rw [List.getElem?_set_ne hj] at e
      have o := R.er.ok j sv e
      cases sv with
      | no => trivial
      | d x =>
        obtain ⟨u, eu, q⟩ := o
        have q2 := q.mono (new := []) sF
        rw [List.append_nil] at q2
        exact ⟨u, eu, q2⟩
      | own zs =>
        obtain ⟨c, xs', ec, hc, lc, r1, r2, r3⟩ := o
        have hne : c ≠ a := fun z => by subst z; exact hj (R.er.inj i j c _ _ hd e e1 ec)
        have q2 := lc.mono (new := []) sF
        rw [List.append_nil] at q2
        exact ⟨c, xs', ec, hc, q2, by rw [upd_ne hne]; exact r1, r2, r3⟩
  · have n : ∀ (j : Nat) (es' : List D), (δ.set i (SV.d (.lst ds)))[j]? = some (.own es') → δ[j]? = some (.own es') := fun j es' e => by
      by_cases hj : i = j
      · subst hj
        have hi : i < δ.length := (List.getElem?_eq_some_iff.mp hd).1
        rw [List.getElem?_set_self hi] at e; cases e
      · rw [List.getElem?_set_ne hj] at e; exact e
    exact R.er.inj j k c _ _ (n j _ e1) (n k _ e2) f1 f2
  · have hne : b ≠ a := fun z => hn (by rw [z]; exact h0)
    rw [upd_ne hne]; exact R.st.fnew b e hn
theorem SR.old0 (R : SR Γ O ms F H σ δ μ) {p : Addr} (h : H p = none) : O.H p = none := R.st.old R.hr p h
theorem SR.notOwn (R : SR Γ O ms F H σ δ μ) {p : Addr} (h : H p = none) (j : Nat) (es : List D) (e : δ[j]? = some (.own es)) : σ[j]? ≠ some (some (.ref p)) := fun z => by
  obtain ⟨a, xs, e1, h1, _⟩ := R.er.ok j _ e
  rw [z] at e1; cases e1
  rw [h] at h1; cases h1
end
section
variable {X : Cx} {cl : Nat → Addr} {e a b c : Expr} {es : List Expr} {fe fa fb : EF} {pos : Pos} {r : AF} {n : NF} {st : Stmt} {sts : List Stmt} {f g : BF}
def bNil : BF := fun δ μ => some (.nx δ μ)
theorem db_nil : DB X cl [] bNil := ⟨pss_nil.weak fun D σ H ⟨O, ms, F, δ, μ, o, R, ev, k⟩ => by cases ev; exact k σ H ms F R (Ext.refl _ _)⟩
def bThen (f g : BF) : BF := fun δ μ => match f δ μ with
  | some (.nx δ1 μ1) => g δ1 μ1
  | o => o
theorem db_one (h : DS X cl st f) : DB X cl [st] f := ⟨pss_one h.p⟩
theorem db_cons (h1 : DS X cl st f) (h2 : DB X cl sts g) : DB X cl (st :: sts) (bThen f g) := ⟨(pss_cons h1.p h2.p).weak fun D σ H ⟨O, ms, F, δ, μ, o, R, ev, k⟩ => by
  unfold bThen at ev
  split at ev
  · rename_i δ1 μ1 e1
    exact ⟨O, ms, F, δ, μ, _, R, e1, fun σ' H' ms' F' R' x => ⟨O, ms', F', δ1, μ1, o, R', ev, k.step x⟩⟩
  · rename_i o' hno
    refine ⟨O, ms, F, δ, μ, o, R, ev, ?_⟩
    cases o with
    | nx δ1 μ1 => exact absurd ev (hno δ1 μ1)
    | rt d μ1 => exact k
    | bk d μ1 => exact k
    | ct d μ1 => exact k⟩
theorem ds_pass : DS X cl (.Pass pos) bNil := ⟨ps_pass.weak fun D σ H ⟨O, ms, F, δ, μ, o, R, ev, k⟩ => by cases ev; exact k σ H ms F R (Ext.refl _ _)⟩
def bBrk : BF := fun δ μ => some (.bk δ μ)
def bCnt : BF := fun δ μ => some (.ct δ μ)
theorem ds_brk : DS X cl (.Break pos) bBrk := ⟨ps_break.weak fun D σ H ⟨O, ms, F, δ, μ, o, R, ev, k⟩ => by cases ev; exact k σ H ms F R (Ext.refl _ _)⟩
theorem ds_cnt : DS X cl (.Continue pos) bCnt := ⟨ps_continue.weak fun D σ H ⟨O, ms, F, δ, μ, o, R, ev, k⟩ => by cases ev; exact k σ H ms F R (Ext.refl _ _)⟩
/-- a statement that isn't reached -/
def bNever : BF := fun _ _ => none
theorem ds_never : DS X cl st bNever := ⟨ps_never.weak fun D σ H ⟨O, ms, F, δ, μ, o, R, ev, k⟩ => by cases ev⟩
theorem db_never : DB X cl sts bNever := ⟨pss_never.weak fun D σ H ⟨O, ms, F, δ, μ, o, R, ev, k⟩ => by cases ev⟩
def bExpr (f : EF) : BF := fun δ μ => match f δ μ with
  | some (_, μ1) => some (.nx δ μ1)
  | none => none
theorem ds_expr (h : DE X cl e fe) (hs : swapsWith e none pos.line X.env = pure false := by rfl) : DS X cl (.Expr e pos) (bExpr fe) := ⟨(ps_expr h.p hs).weak fun D σ H ⟨O, ms, F, δ, μ, o, R, ev, k⟩ => by
  unfold bExpr at ev
  split at ev
  · rename_i d μ1 e1
    cases ev
    exact tE.seq R e1 fun v H1 ms1 F1 R1 s1 q1 => k σ H1 ms1 F1 R1 s1.ext
  · cases ev⟩
def bRet (f : EF) : BF := fun δ μ => match f δ μ with
  | some (d, μ1) => some (.rt d μ1)
  | none => none
theorem ds_ret (h : DE X cl e fe) : DS X cl (.Return (some e) pos) (bRet fe) := ⟨(ps_ret h.p).weak fun D σ H ⟨O, ms, F, δ, μ, o, R, ev, k⟩ => by
  unfold bRet at ev
  split at ev
  · rename_i d μ1 e1
    cases ev
    exact tE.seq R e1 fun v H1 ms1 F1 R1 s1 q1 => k v H1 ms1 F1 R1.hr R1.st q1
  · cases ev⟩
def bRetN : BF := fun _ μ => some (.rt .non μ)
theorem ds_retN : DS X cl (.Return none pos) bRetN := ⟨ps_retN.weak fun D σ H ⟨O, ms, F, δ, μ, o, R, ev, k⟩ => by cases ev; exact k .non H ms F R.hr R.st rfl⟩
def bSet (i : Nat) (f : EF) : BF := fun δ μ => match f δ μ with
  | some (d, μ1) => some (.nx (δ.set i (.d d)) μ1)
  | none => none
theorem ds_set {i : Nat} {x : Str} {pos' : Pos} (hN : X.N.Nodup) (hi : X.N[i]? = some x) (hx : Loc X.env.scope x) (h : DE X cl e fe) (hs : swapsWith e (some (.Name x pos')) pos.line X.env = pure false := by rfl) (hf : X.fn x = true ∨ X.env.scope.names.lookup x = some .local := by first | exact .inl rfl | exact .inr rfl | assumption) :
    DS X cl (.Assign [.Name x pos'] e pos) (bSet i fe) := ⟨(ps_set hN hi hx h.p hs hf).weak fun D σ H ⟨O, ms, F, δ, μ, o, R, ev, k⟩ => by
  unfold bSet at ev
  split at ev
  · rename_i d μ1 e1
    cases ev
    exact tE.seq R e1 fun v H1 ms1 F1 R1 s1 q1 => k _ H1 ms1 F1 (R1.set q1 i) s1.ext
  · cases ev⟩
/-- x = [..], x's own list -/
def bOwn (i : Nat) (f : NF) : BF := fun δ μ => match f δ μ with
  | some (d, μ1) => some (.nx (δ.set i (.own d)) μ1)
  | none => none
theorem ds_own {i : Nat} {x : Str} {pos' : Pos} (hN : X.N.Nodup) (hi : X.N[i]? = some x) (hx : Loc X.env.scope x) (h : DN X cl e n) (hs : swapsWith e (some (.Name x pos')) pos.line X.env = pure false := by rfl) (hf : X.fn x = true ∨ X.env.scope.names.lookup x = some .local := by first | exact .inl rfl | exact .inr rfl | assumption) :
    DS X cl (.Assign [.Name x pos'] e pos) (bOwn i n) := ⟨(ps_set hN hi hx h.p hs hf).weak fun D σ H ⟨O, ms, F, δ, μ, o, R, ev, k⟩ => by
  unfold bOwn at ev
  split at ev
  · rename_i d μ1 e1
    cases ev
    refine ⟨O, ms, F, δ, μ, d, _, R, e1, fun vs H1 ms1 F1 p r1 s1 q1 hp h0 hm hF => ?_⟩
    exact k _ H1 ms1 F1 ((R.step r1 s1).own hp q1 hF hm (R.old0 h0) (fun j es e => R.notOwn h0 j es e) i) s1.ext
  · cases ev⟩
/-- ahead of a statement an own list is frozen -/
def bFrz (i : Nat) (f : BF) : BF := fun δ μ => match δ[i]? with
  | some (.own xs) => f (δ.set i (.d (.lst xs))) μ
  | _ => none
theorem ds_frz (i : Nat) (h : DS X cl st f) : DS X cl st (bFrz i f) := ⟨h.p.weak fun D σ H ⟨O, ms, F, δ, μ, o, R, ev, k⟩ => by
  unfold bFrz at ev
  split at ev
  · rename_i xs hd
    obtain ⟨F', R', sF⟩ := R.ownFreeze hd
    exact ⟨O, ms, F', _, μ, o, R', ev, k.step ⟨⟨[], by simp⟩, sF⟩⟩
  · cases ev⟩
theorem db_frz (i : Nat) (h : DB X cl sts f) : DB X cl sts (bFrz i f) := ⟨h.p.weak fun D σ H ⟨O, ms, F, δ, μ, o, R, ev, k⟩ => by
  unfold bFrz at ev
  split at ev
  · rename_i xs hd
    obtain ⟨F', R', sF⟩ := R.ownFreeze hd
    exact ⟨O, ms, F', _, μ, o, R', ev, k.step ⟨⟨[], by simp⟩, sF⟩⟩
  · cases ev⟩
def bIf (t : TF) (f g : BF) : BF := fun δ μ => match t δ μ with
  | some (c, μ1) => if c = true then f δ μ1 else g δ μ1
  | none => none
theorem ds_if {c : Expr} {ta : TF} {sa sb : List Stmt} (hc : DT X cl c ta) (ha : DB X cl sa f) (hb : DB X cl sb g) : DS X cl (.If c sa sb pos) (bIf ta f g) := ⟨(ps_if hc.p ha.p hb.p).weak fun D σ H ⟨O, ms, F, δ, μ, o, R, ev, k⟩ => by
  unfold bIf at ev
  split at ev
  · rename_i c1 μ1 e1
    refine tT.seq R e1 fun H1 ms1 F1 R1 s1 => ?_
    cases c1 with
    | true => exact ⟨O, ms1, F1, δ, μ1, o, R1, ev, k.step s1.ext⟩
    | false => exact ⟨O, ms1, F1, δ, μ1, o, R1, ev, k.step s1.ext⟩
  · cases ev⟩
/-- x.append(e), x's own list -/
def bApp (i : Nat) (f : EF) : BF := fun δ μ => match f δ μ with
  | some (d, μ1) => match δ[i]? with
    | some (.own xs) => if xs.length < 1000000 then some (.nx (δ.set i (.own (xs ++ [d]))) μ1) else none
    | _ => none
  | none => none
theorem ds_app {i : Nat} {x : Str} {p1 p2 : Pos} (hx : PE X (.Name x p1) (tVar i)) (h : DE X cl e fe) (he : starEach (e :: []) X.env = (false, eval e X.env) :: starEach [] X.env := by rfl) (hpl : (backTo p2 (starEach [] X.env)).any (·.1) = false := by rfl) {apos : Pos}
    (hs : swapsWith (.Call (.Attribute (.Name x p1) "append" apos) [e] [] p2) none pos.line X.env = pure false := by rfl) (hb : PE X (.Call (.Attribute (.Name x p1) "append" apos) [e] [] p2) (tBM X.K "list" rAppend (tVar i) (tCons (tE (gm X cl) fe) tNil)) := by assumption) :
    DS X cl (.Expr (.Call (.Attribute (.Name x p1) "append" apos) [e] [] p2) pos) (bApp i fe) := ⟨(ps_expr hb hs).weak fun D σ H ⟨O, ms, F, δ, μ, o, R, ev, k⟩ => by
  unfold bApp at ev
  split at ev
  · rename_i d μ1 e1
    split at ev
    · rename_i xs hd
      split at ev
      · rename_i hz
        cases ev
        obtain ⟨a, vs, ea, ha, hl, _⟩ := R.er.ok i _ hd
        refine ⟨_, ea, .inl ⟨rfl, _, .inl (.inl ha)⟩, ?_⟩
        refine tE.seq R e1 fun v H1 ms1 F1 R1 s1 q1 => ?_
        obtain ⟨a', vs1, ea', ha1, hl1, hr'⟩ := R1.er.ok i _ hd
        rw [ea] at ea'; cases ea'
        refine ⟨a, vs1, v, rfl, rfl, ha1, ?_, k σ _ ms1 F1 (R1.ownSet hd ea ha1 (hl1.append (HasL.one q1))) s1.ext⟩
        rw [hl1.length, sizeLine_eq]; omega
      · cases ev
    · cases ev
  · cases ev⟩
end
end G

set_option Elab.async false
set_option linter.all false
set_option autoImplicit false
set_option maxRecDepth 100000
set_option maxHeartbeats 2000000
namespace G
open PySem PySem.Spec L2

/-! ### targets -/
abbrev GF := D → List SV → Option (List SV)
abbrev GFs := List D → List SV → Option (List SV)
def tG (Γ : Gm) (g : GF) (ix : List Nat) : TG := fun v σ H Q => ∃ O ms F δ μ d δ', SR Γ O ms F H σ δ μ ∧ Has Γ ms F v d ∧ g d δ = some δ' ∧ ∀ σ', SR Γ O ms F H σ' δ' μ → σ'.length = σ.length → (∀ j, j ∉ ix → σ'[j]? = σ[j]?) → Q σ' H
def tGs (Γ : Gm) (g : GFs) (ix : List Nat) : TGs := fun v σ H Q => ∃ O ms F δ μ d δ', SR Γ O ms F H σ δ μ ∧ HasL Γ ms F v d ∧ g d δ = some δ' ∧ ∀ σ', SR Γ O ms F H σ' δ' μ → σ'.length = σ.length → (∀ j, j ∉ ix → σ'[j]? = σ[j]?) → Q σ' H
structure DG (X : Cx) (cl : Nat → Addr) (e : Expr) (g : GF) (ix : List Nat) : Prop where
  p : PG X e (tG (gm X cl) g ix)
structure DGs (X : Cx) (cl : Nat → Addr) (e : List Expr) (g : GFs) (ix : List Nat) : Prop where
  p : PGs X e (tGs (gm X cl) g ix)
theorem _root_.L2.PG.weak {X : Cx} {e : Expr} {t t' : TG} (h : PG X e t) (k : ∀ v σ H Q, t' v σ H Q → t v σ H Q) : PG X e t' := ⟨fun pins s σ H v u Q I r q => h.run pins s σ H v u Q I r (k v σ H Q q)⟩
theorem _root_.L2.PGs.weak {X : Cx} {e : List Expr} {t t' : TGs} (h : PGs X e t) (k : ∀ v σ H Q, t' v σ H Q → t v σ H Q) : PGs X e t' := ⟨fun pins s σ H v u Q I r q => h.run pins s σ H v u Q I r (k v σ H Q q)⟩
section
variable {X : Cx} {cl : Nat → Addr} {e : Expr} {es : List Expr} {g : GF} {gs : GFs} {pos : Pos} {ix iy : List Nat}
def nmG (i : Nat) : GF := fun d δ => some (δ.set i (.d d))
theorem dg_name {i : Nat} {x : Str} (hN : X.N.Nodup) (hi : X.N[i]? = some x) (hx : Loc X.env.scope x) (hf : X.fn x = true ∨ X.env.scope.names.lookup x = some .local := by first | exact .inl rfl | exact .inr rfl | assumption) : DG X cl (.Name x pos) (nmG i) [i] :=
  ⟨(pg_name hN hi hx hf).weak fun v σ H Q ⟨O, ms, F, δ, μ, d, δ', R, q, ev, k⟩ => by cases ev; exact k _ (R.set q i) (by simp) (fun j hj => List.getElem?_set_ne (by simp at hj; omega))⟩
def nilG : GFs := fun ds δ => match ds with
  | [] => some δ
  | _ => none
def consG (g : GF) (r : GFs) : GFs := fun ds δ => match ds with
  | d :: t => match g d δ with
    | some δ1 => r t δ1
    | none => none
  | [] => none
def tupG (n : Nat) (r : GFs) : GF := fun d δ => match d with
  | .tup ds => if ds.length = n then r ds δ else none
  | _ => none
theorem dgs_nil : DGs X cl [] nilG [] := ⟨pgs_nil.weak fun v σ H Q ⟨O, ms, F, δ, μ, d, δ', R, q, ev, k⟩ => by
  cases d with
  | nil => cases ev; cases q; exact ⟨rfl, k σ R rfl fun _ _ => rfl⟩
  | cons _ _ => cases ev⟩
theorem dgs_cons (h1 : DG X cl e g ix) (h2 : DGs X cl es gs iy) (hs : (assignEach (e :: es) X.env).map (·.2) = assign e X.env :: (assignEach es X.env).map (·.2) := by rfl) : DGs X cl (e :: es) (consG g gs) (ix ++ iy) := ⟨(pgs_cons h1.p h2.p hs).weak fun v σ H Q ⟨O, ms, F, δ, μ, d, δ', R, q, ev, k⟩ => by
  cases d with
  | nil => cases ev
  | cons d ds =>
    obtain ⟨w, ws, rfl, q1, q2⟩ := q
    unfold consG at ev
    dsimp only at ev
    split at ev
    · rename_i δ1 e1
      exact ⟨w, ws, rfl, O, ms, F, δ, μ, d, δ1, R, q1, e1, fun σ' R' l' a' => ⟨O, ms, F, δ1, μ, ds, δ', R', q2, ev, fun σ2 R2 l2 a2 => k σ2 R2 (l2.trans l') fun j hj => (a2 j fun z => hj (List.mem_append_right _ z)).trans (a' j fun z => hj (List.mem_append_left _ z))⟩⟩
    · cases ev⟩
theorem dg_tup {k : Nat} {n : Nat} (hc : X.calm = true) (h : DGs X cl es gs ix) (hn : (assignEach es X.env).length = n := by rfl) (hst : (assignEach es X.env).findIdx? (·.1) = none := by rfl) : DG X cl (.Tuple es k pos) (tupG n gs) ix :=
  ⟨(pg_tup hc h.p hn hst).weak fun v σ H Q ⟨O, ms, F, δ, μ, d, δ', R, q, ev, k⟩ => by
  unfold tupG at ev
  split at ev
  · split at ev
    · rename_i ds hl
      obtain ⟨a, xs, rfl, hs, l⟩ := q
      exact ⟨a, xs, rfl, (Tp.same R.hr.sub hs).sq, by rw [l.length]; exact hl, O, ms, F, δ, μ, ds, δ', R, l, ev, k⟩
    · cases ev
  · cases ev⟩
end

/-! ### what a loop walks -/
structure Yld (Γ : Gm) (J : It) (ds : List D) (ms0 : List Addr) (F0 : Hp) : Prop where
  go : ∀ ms F H μ i, HR Γ ms F H μ → Ext ms0 ms F0 F → i < ds.length → J.go i H
  stop : ∀ ms F H μ i, HR Γ ms F H μ → Ext ms0 ms F0 F → ds.length ≤ i → J.stop i H
  yld : ∀ ms F H μ i d x H', HR Γ ms F H μ → Ext ms0 ms F0 F → ds[i]? = some d → J.yld i H x H' → ∃ ms' F', HR Γ ms' F' H' μ ∧ Stp ms ms' F F' H H' ∧ Has Γ ms' F' x d
abbrev IF := List SV → List MO → Option (List D × List MO)
def tI (Γ : Gm) (f : IF) : TI := fun σ H R => ∃ O ms F δ μ ds μ1, SR Γ O ms F H σ δ μ ∧ f δ μ = some (ds, μ1) ∧
  ∀ J H1 ms1 F1, HR Γ ms1 F1 H1 μ1 → Stp ms ms1 F F1 H H1 → Yld Γ J ds ms1 F1 → R J H1
structure DI (X : Cx) (cl : Nat → Addr) (tg e : Expr) (f : IF) : Prop where
  p : PI X tg e (tI (gm X cl) f)
theorem _root_.L2.PI.weak {X : Cx} {tg e : Expr} {t t' : TI} (h : PI X tg e t) (k : ∀ σ H R, t' σ H R → t σ H R) : PI X tg e t' := ⟨fun pins s σ H R I q => h.run pins s σ H R I (k σ H R q)⟩
theorem Has.ext {Γ : Gm} {ms ms' : List Addr} {F F' : Hp} {v : V} {d : D} (h : Has Γ ms F v d) (e : Ext ms ms' F F') : Has Γ ms' F' v d := by
  obtain ⟨n, rfl⟩ := e.new
  exact h.mono e.fsub
theorem HasL.ext {Γ : Gm} {ms ms' : List Addr} {F F' : Hp} {v : List V} {d : List D} (h : HasL Γ ms F v d) (e : Ext ms ms' F F') : HasL Γ ms' F' v d := by
  obtain ⟨n, rfl⟩ := e.new
  exact h.mono e.fsub
theorem HasL.bound {Γ : Gm} {ms : List Addr} {F : Hp} {v : List V} {d : List D} (h : HasL Γ ms F v d) {i : Nat} (hi : i < d.length) : ∃ x, v[i]? = some x := ⟨v[i]'(by rw [h.length]; exact hi), List.getElem?_eq_getElem _⟩
theorem yld_list {Γ : Gm} {ms0 : List Addr} {F0 : Hp} {a : Addr} {xs : List V} {ds : List D} (hs : F0 a = some (.lst xs)) (hl : HasL Γ ms0 F0 xs ds) : Yld Γ (Itl Γ.K a) ds ms0 F0 where
  go := fun ms F H μ i r e hi => let ⟨x, hx⟩ := hl.bound hi; ⟨xs, x, SqL.of (r.sub _ _ (e.fsub _ _ hs)), hx⟩
  stop := fun ms F H μ i r e hi => ⟨xs, SqL.of (r.sub _ _ (e.fsub _ _ hs)), by rw [hl.length]; exact hi⟩
  yld := fun ms F H μ i d x H' r e hd y => by
    obtain ⟨rfl, y⟩ := y
    obtain ⟨v, hv, q⟩ := hl.get hd
    have := y xs (SqL.of (r.sub _ _ (e.fsub _ _ hs)))
    rw [hv] at this; cases this
    exact ⟨ms, F, r, Stp.refl _ _ _, q.ext e⟩
theorem yld_tup {Γ : Gm} {ms0 : List Addr} {F0 : Hp} {a : Addr} {xs : List V} {ds : List D} (hs : Tp Γ.K F0 a xs) (hl : HasL Γ ms0 F0 xs ds) : Yld Γ (Itt Γ.K a) ds ms0 F0 where
  go := fun ms F H μ i r e hi => let ⟨x, hx⟩ := hl.bound hi; ⟨xs, x, (Tp.same r.sub (Tp.same e.fsub hs)).sq, hx⟩
  stop := fun ms F H μ i r e hi => ⟨xs, (Tp.same r.sub (Tp.same e.fsub hs)).sq, by rw [hl.length]; exact hi⟩
  yld := fun ms F H μ i d x H' r e hd y => by
    obtain ⟨rfl, y⟩ := y
    obtain ⟨v, hv, q⟩ := hl.get hd
    have := y xs ((Tp.same r.sub (Tp.same e.fsub hs)).sq)
    rw [hv] at this; cases this
    exact ⟨ms, F, r, Stp.refl _ _ _, q.ext e⟩
def rangeD (lo : Int) (n : Nat) : List D := (List.range n).map fun i => .int (lo + (i : Nat))
theorem rangeD_length (lo : Int) (n : Nat) : (rangeD lo n).length = n := by simp [rangeD]
theorem rangeD_get {lo : Int} {n i : Nat} {d : D} (h : (rangeD lo n)[i]? = some d) : d = .int (lo + (i : Nat)) := by
  unfold rangeD at h
  rw [List.getElem?_map] at h
  cases e : (List.range n)[i]? with
  | none => rw [e] at h; cases h
  | some j =>
    rw [e] at h
    have hi := (List.getElem?_eq_some_iff.mp e)
    obtain ⟨h1, h2⟩ := hi
    simp at h2
    subst h2
    cases h; rfl
theorem yld_range {Γ : Gm} {ms0 : List Addr} {F0 : Hp} (lo : Int) (n : Nat) : Yld Γ (Itr lo n) (rangeD lo n) ms0 F0 where
  go := fun ms F H μ i r e hi => by rw [rangeD_length] at hi; exact hi
  stop := fun ms F H μ i r e hi => by rw [rangeD_length] at hi; exact hi
  yld := fun ms F H μ i d x H' r e hd y => by
    obtain ⟨rfl, rfl⟩ := y
    rw [rangeD_get hd]
    exact ⟨ms, F, r, Stp.refl _ _ _, rfl⟩
def signsD (x : Str) : List D := x.cps.toList.map fun c => .str ⟨#[c]⟩
theorem yld_str {Γ : Gm} {ms0 : List Addr} {F0 : Hp} (x : Str) : Yld Γ (Its x) (signsD x) ms0 F0 where
  go := fun ms F H μ i r e hi => by
    show i < x.cps.size
    simpa [signsD] using hi
  stop := fun ms F H μ i r e hi => by
    show x.cps.size ≤ i
    simpa [signsD] using hi
  yld := fun ms F H μ i d x' H' r e hd y => by
    obtain ⟨rfl, c, hc, rfl⟩ := y
    unfold signsD at hd
    rw [List.getElem?_map, Array.getElem?_toList, hc] at hd
    cases hd
    exact ⟨ms, F, r, Stp.refl _ _ _, rfl⟩
def enumD (ds : List D) : List D := ds.mapIdx fun i d => .tup [.int (i : Nat), d]
theorem enumD_get {ds : List D} {i : Nat} {d : D} (h : (enumD ds)[i]? = some d) : ∃ x, ds[i]? = some x ∧ d = .tup [.int (i : Nat), x] := by
  unfold enumD at h
  rw [List.getElem?_mapIdx] at h
  cases e : ds[i]? with
  | none => rw [e] at h; cases h
  | some x => rw [e] at h; cases h; exact ⟨x, rfl, rfl⟩
theorem yld_enum {Γ : Gm} {ms0 : List Addr} {F0 : Hp} {a : Addr} {xs : List V} {ds : List D} (hs : F0 a = some (.lst xs)) (hl : HasL Γ ms0 F0 xs ds) : Yld Γ (Ite Γ.K a) (enumD ds) ms0 F0 where
  go := fun ms F H μ i r e hi => let ⟨x, hx⟩ := hl.bound (by simpa [enumD] using hi); ⟨xs, x, SqL.of (r.sub _ _ (e.fsub _ _ hs)), hx⟩
  stop := fun ms F H μ i r e hi => ⟨xs, SqL.of (r.sub _ _ (e.fsub _ _ hs)), by rw [hl.length]; simpa [enumD] using hi⟩
  yld := fun ms F H μ i d x' H' r e hd y => by
    obtain ⟨T, x, rfl, hT, rfl, y⟩ := y
    obtain ⟨dx, hx, rfl⟩ := enumD_get hd
    obtain ⟨v, hv, q⟩ := hl.get hx
    have := y xs (SqL.of (r.sub _ _ (e.fsub _ _ hs)))
    rw [hv] at this; cases this
    obtain ⟨r', s⟩ := r.alloc hT (.tup [.int (i : Nat), x])
    exact ⟨ms, _, r', s, T, _, rfl, Tp.of upd_same, _, _, rfl, rfl, _, _, rfl, (q.ext e).step s, rfl⟩
def zipD (as bs : List D) : List D := (as.zip bs).map fun p => .tup [p.1, p.2]
theorem zipD_get {as bs : List D} {i : Nat} {d : D} (h : (zipD as bs)[i]? = some d) : ∃ x y, as[i]? = some x ∧ bs[i]? = some y ∧ d = .tup [x, y] := by
  unfold zipD at h
  rw [List.getElem?_map] at h
  cases e : (as.zip bs)[i]? with
  | none => rw [e] at h; cases h
  | some p =>
    rw [e] at h; cases h
    rw [List.getElem?_zip_eq_some] at e
    exact ⟨p.1, p.2, e.1, e.2, rfl⟩
theorem yld_zip {Γ : Gm} {ms0 : List Addr} {F0 : Hp} {a b : Addr} {xs ys : List V} {ds es : List D} (hs : F0 a = some (.lst xs)) (hl : HasL Γ ms0 F0 xs ds) (ht : F0 b = some (.lst ys)) (hm : HasL Γ ms0 F0 ys es) : Yld Γ (Itz Γ.K a b) (zipD ds es) ms0 F0 where
  go := fun ms F H μ i r e hi => by
    have hi' : i < ds.length ∧ i < es.length := by simp [zipD] at hi; omega
    obtain ⟨x, hx⟩ := hl.bound hi'.1
    obtain ⟨y, hy⟩ := hm.bound hi'.2
    exact ⟨xs, ys, x, y, SqL.of (r.sub _ _ (e.fsub _ _ hs)), SqL.of (r.sub _ _ (e.fsub _ _ ht)), hx, hy⟩
  stop := fun ms F H μ i r e hi => ⟨xs, ys, SqL.of (r.sub _ _ (e.fsub _ _ hs)), SqL.of (r.sub _ _ (e.fsub _ _ ht)), by rw [hl.length, hm.length]; simp [zipD] at hi; omega⟩
  yld := fun ms F H μ i d x' H' r e hd y => by
    obtain ⟨T, x, z, rfl, hT, rfl, y1, y2⟩ := y
    obtain ⟨dx, dy, hx, hy, rfl⟩ := zipD_get hd
    obtain ⟨v, hv, q⟩ := hl.get hx
    obtain ⟨w, hw, q'⟩ := hm.get hy
    have := y1 xs (SqL.of (r.sub _ _ (e.fsub _ _ hs)))
    rw [hv] at this; cases this
    have := y2 ys (SqL.of (r.sub _ _ (e.fsub _ _ ht)))
    rw [hw] at this; cases this
    obtain ⟨r', s⟩ := r.alloc hT (.tup [x, z])
    exact ⟨ms, _, r', s, T, _, rfl, Tp.of upd_same, _, _, rfl, (q.ext e).step s, _, _, rfl, (q'.ext e).step s, rfl⟩
section
variable {X : Cx} {cl : Nat → Addr} {tg e a b c : Expr} {es : List Expr} {fe fa fb : EF} {pos : Pos} {r : AF} {n : NF} {st : Stmt} {sts : List Stmt} {f g : BF} {ix : List Nat}
def iL (f : EF) : IF := eThen f fun d _ μ => match d with
  | .lst ds => some (ds, μ)
  | _ => none
def iT (f : EF) : IF := eThen f fun d _ μ => match d with
  | .tup ds => some (ds, μ)
  | _ => none
def iS (f : EF) : IF := eThen f fun d _ μ => match d with
  | .str x => some (signsD x, μ)
  | _ => none
theorem di_list (h : DE X cl e fe) : DI X cl tg e (iL fe) := ⟨(pi_list h.p).weak fun σ H R ⟨O, ms, F, δ, μ, ds, μ', S, ev, k⟩ => by
  obtain ⟨d1, μ1, e1, ev⟩ := eThen_some ev
  refine tE.seq S e1 fun v H1 ms1 F1 R1 s1 q1 => ?_
  split at ev
  · cases ev
    obtain ⟨a, xs, rfl, hs, hl⟩ := q1
    exact ⟨a, rfl, ⟨xs, SqL.of (R1.hr.sub _ _ hs)⟩, k _ H1 ms1 F1 R1.hr s1 (yld_list (Γ := gm X cl) hs hl)⟩
  · cases ev⟩
theorem di_tup (h : DE X cl e fe) : DI X cl tg e (iT fe) := ⟨(pi_tup h.p).weak fun σ H R ⟨O, ms, F, δ, μ, ds, μ', S, ev, k⟩ => by
  obtain ⟨d1, μ1, e1, ev⟩ := eThen_some ev
  refine tE.seq S e1 fun v H1 ms1 F1 R1 s1 q1 => ?_
  split at ev
  · cases ev
    obtain ⟨a, xs, rfl, hs, hl⟩ := q1
    exact ⟨a, rfl, ⟨xs, (Tp.same R1.hr.sub hs).sq⟩, k _ H1 ms1 F1 R1.hr s1 (yld_tup (Γ := gm X cl) hs hl)⟩
  · cases ev⟩
theorem di_str (h : DE X cl e fe) : DI X cl tg e (iS fe) := ⟨(pi_str h.p).weak fun σ H R ⟨O, ms, F, δ, μ, ds, μ', S, ev, k⟩ => by
  obtain ⟨d1, μ1, e1, ev⟩ := eThen_some ev
  refine tE.seq S e1 fun v H1 ms1 F1 R1 s1 q1 => ?_
  split at ev
  · cases ev
    exact ⟨_, q1, k _ H1 ms1 F1 R1.hr s1 (yld_str _)⟩
  · cases ev⟩
def iR1 (r : AF) : IF := aThen r fun ds _ μ => match ds with
  | [.int n] => if -(2 ^ 62) ≤ n ∧ n < 2 ^ 62 then some (rangeD 0 n.toNat, μ) else none
  | _ => none
def iR2 (r : AF) : IF := aThen r fun ds _ μ => match ds with
  | [.int m, .int n] => if (-(2 ^ 62) ≤ m ∧ m < 2 ^ 62) ∧ (-(2 ^ 62) ≤ n ∧ n < 2 ^ 62) then some (rangeD m (n - m).toNat, μ) else none
  | _ => none
theorem HasL.one' {Γ : Gm} {ms : List Addr} {F : Hp} {vs : List V} {d : D} (h : HasL Γ ms F vs [d]) : ∃ v, vs = [v] ∧ Has Γ ms F v d := by
  obtain ⟨v, ws, rfl, h1, h2⟩ := h
  cases h2
  exact ⟨v, rfl, h1⟩
theorem HasL.two' {Γ : Gm} {ms : List Addr} {F : Hp} {vs : List V} {d e : D} (h : HasL Γ ms F vs [d, e]) : ∃ v w, vs = [v, w] ∧ Has Γ ms F v d ∧ Has Γ ms F w e := by
  obtain ⟨v, ws, rfl, h1, h2⟩ := h
  obtain ⟨w, rfl, h3⟩ := h2.one'
  exact ⟨v, w, rfl, h1, h3⟩
theorem di_range1 {p : Pos} (hg : Gl X "range") (hm : X.mg "range" = none) (ha : DA X cl [a] r) (hs : starEach [a] X.env = [(false, eval a X.env)] := by rfl) : DI X cl tg (.Call (.Name "range" p) [a] [] pos) (iR1 r) := ⟨(pi_range1 hg hm ha.p hs).weak fun σ H R ⟨O, ms, F, δ, μ, ds, μ', S, ev, k⟩ => by
  obtain ⟨d1, μ1, e1, ev⟩ := aThen_some ev
  refine tA.seq S e1 fun v H1 ms1 F1 R1 s1 q1 => ?_
  split at ev
  · split at ev
    · rename_i hz
      cases ev
      obtain ⟨v, rfl, hv⟩ := q1.one'
      exact ⟨_, by rw [hv], hz.1, hz.2, k _ H1 ms1 F1 R1.hr s1 (yld_range _ _)⟩
    · cases ev
  · cases ev⟩
theorem di_range2 {p : Pos} (hg : Gl X "range") (hm : X.mg "range" = none) (ha : DA X cl [a, b] r) (hs : starEach [a, b] X.env = [(false, eval a X.env), (false, eval b X.env)] := by rfl) (hs2 : starEach [b] X.env = [(false, eval b X.env)] := by rfl) : DI X cl tg (.Call (.Name "range" p) [a, b] [] pos) (iR2 r) := ⟨(pi_range2 hg hm ha.p hs hs2).weak fun σ H R ⟨O, ms, F, δ, μ, ds, μ', S, ev, k⟩ => by
  obtain ⟨d1, μ1, e1, ev⟩ := aThen_some ev
  refine tA.seq S e1 fun v H1 ms1 F1 R1 s1 q1 => ?_
  split at ev
  · split at ev
    · rename_i hz
      cases ev
      obtain ⟨v, w, rfl, hv, hw⟩ := q1.two'
      exact ⟨_, _, by rw [hv, hw], ⟨hz.1.1, hz.1.2, hz.2.1, hz.2.2⟩, k _ H1 ms1 F1 R1.hr s1 (yld_range _ _)⟩
    · cases ev
  · cases ev⟩
def iE (r : AF) : IF := aThen r fun ds _ μ => match ds with
  | [.lst xs] => some (enumD xs, μ)
  | _ => none
def iZ (r : AF) : IF := aThen r fun ds _ μ => match ds with
  | [.lst xs, .lst ys] => some (zipD xs ys, μ)
  | _ => none
theorem di_enum {p tpos : Pos} {elts : List Expr} {kk : Nat} (hg : Gl X "enumerate") (hm : X.mg "enumerate" = none) (ha : DA X cl [e] r) (hs : starEach [e] X.env = [(false, eval e X.env)] := by rfl) : DI X cl (.Tuple elts kk tpos) (.Call (.Name "enumerate" p) [e] [] pos) (iE r) := ⟨(pi_enum hg hm ha.p hs).weak fun σ H R ⟨O, ms, F, δ, μ, ds, μ', S, ev, k⟩ => by
  obtain ⟨d1, μ1, e1, ev⟩ := aThen_some ev
  refine tA.seq S e1 fun v H1 ms1 F1 R1 s1 q1 => ?_
  split at ev
  · cases ev
    obtain ⟨v, rfl, a, xs, rfl, hs, hl⟩ := q1.one'
    exact ⟨a, xs, rfl, SqL.of (R1.hr.sub _ _ hs), k _ H1 ms1 F1 R1.hr s1 (yld_enum (Γ := gm X cl) hs hl)⟩
  · cases ev⟩
theorem di_zip {p tpos : Pos} {elts : List Expr} {kk : Nat} (hg : Gl X "zip") (hm : X.mg "zip" = none) (ha : DA X cl [a, b] r) (hs : starEach [a, b] X.env = (false, eval a X.env) :: starEach [b] X.env := by rfl) (hpl : (backTo pos (starEach [b] X.env)).any (·.1) = false := by rfl) : DI X cl (.Tuple elts kk tpos) (.Call (.Name "zip" p) [a, b] [] pos) (iZ r) := ⟨(pi_zip hg hm ha.p hs hpl).weak fun σ H R ⟨O, ms, F, δ, μ, ds, μ', S, ev, k⟩ => by
  obtain ⟨d1, μ1, e1, ev⟩ := aThen_some ev
  refine tA.seq S e1 fun v H1 ms1 F1 R1 s1 q1 => ?_
  split at ev
  · cases ev
    obtain ⟨v, w, rfl, ⟨a, xs, rfl, hs, hl⟩, b', ys, rfl, ht, hm'⟩ := q1.two'
    exact ⟨a, b', xs, ys, rfl, SqL.of (R1.hr.sub _ _ hs), SqL.of (R1.hr.sub _ _ ht), k _ H1 ms1 F1 R1.hr s1 (yld_zip (Γ := gm X cl) hs hl ht hm')⟩
  · cases ev⟩

/-! ### for -/
def forLoop (g : GF) (body : BF) : List D → List SV → List MO → Option Out
  | [], δ, μ => some (.nx δ μ)
  | d :: ds, δ, μ => match g d δ with
    | none => none
    | some δ1 => match body δ1 μ with
      | some (.nx δ2 μ2) => forLoop g body ds δ2 μ2
      | some (.ct δ2 μ2) => forLoop g body ds δ2 μ2
      | some (.bk δ2 μ2) => some (.nx δ2 μ2)
      | some (.rt d μ2) => some (.rt d μ2)
      | none => none
def bFor (i : IF) (g : GF) (body : BF) : BF := fun δ μ => match i δ μ with
  | some (ds, μ1) => forLoop g body ds δ μ1
  | none => none
theorem ds_for {iter : Expr} {body : List Stmt} {fi : IF} {tgt : GF} {bd : BF} (hp : PassesOwn (model X.prog X.w) X.A X.env X.xe) (hc : X.calm = true) (hi : DI X cl tg iter fi) (hg : DG X cl tg tgt ix) (hb : DB X cl body bd)
    (hs : ∀ x, foldedSetIterable iter X.env x = pure x := by intro _; rfl) : DS X cl (.For tg iter body [] pos) (bFor fi tgt bd) := ⟨(ps_for hp hc hi.p hg.p hb.p hs).weak fun D σ H ⟨O, ms, F, δ, μ, o, R, ev, k⟩ => by
  unfold bFor at ev
  split at ev
  · rename_i ds μ1 e1
    refine ⟨O, ms, F, δ, μ, ds, μ1, R, e1, fun J H1 ms1 F1 r1 s1 Y => ?_⟩
    let P : Nat → L2.St → Hp → Prop := fun i σ H => ∃ ms F δ μ, SR (gm X cl) O ms F H σ δ μ ∧ Ext ms1 ms F1 F ∧ forLoop tgt bd (ds.drop i) δ μ = some o
    have k1 := k.step s1.ext
    refine ⟨fun i m σ H => m = ds.length - i ∧ i ≤ ds.length ∧ P i σ H, ⟨_, rfl, Nat.zero_le _, ms1, F1, δ, μ1, R.step r1 s1, Ext.refl _ _, by simpa using ev⟩, ?_⟩
    rintro i m σ2 H2 ⟨rfl, hi, ms2, F2, δ2, μ2, R2, x2, ev2⟩
    by_cases hlt : i < ds.length
    · have hd : ds[i]? = some ds[i] := List.getElem?_eq_getElem hlt
      rw [List.drop_eq_getElem_cons hlt] at ev2
      unfold forLoop at ev2
      refine .inr ⟨Y.go ms2 F2 H2 μ2 i R2.hr x2 hlt, P (i + 1), fun σ' H' p' => ⟨_, by omega, rfl, hlt, p'⟩, fun x H' y => ?_⟩
      obtain ⟨ms3, F3, r3, s3, q3⟩ := Y.yld ms2 F2 H2 μ2 i _ x H' R2.hr x2 hd y
      split at ev2
      · cases ev2
      · rename_i δ3 eg
        refine ⟨O, ms3, F3, δ2, μ2, _, δ3, R2.step r3 s3, q3, eg, fun σ4 R4 _ _ => ?_⟩
        have x3 : Ext ms1 ms3 F1 F3 := x2.trans s3.ext
        split at ev2
        · rename_i δ5 μ5 eb
          exact ⟨O, ms3, F3, δ3, μ2, _, R4, eb, fun σ' H' m F' R' x => ⟨m, F', _, _, R', x3.trans x, ev2⟩⟩
        · rename_i δ5 μ5 eb
          exact ⟨O, ms3, F3, δ3, μ2, _, R4, eb, fun σ' H' m F' R' x => ⟨m, F', _, _, R', x3.trans x, ev2⟩⟩
        · rename_i δ5 μ5 eb
          cases ev2
          exact ⟨O, ms3, F3, δ3, μ2, _, R4, eb, fun σ' H' m F' R' x => k1 σ' H' m F' R' (x3.trans x)⟩
        · rename_i d5 μ5 eb
          cases ev2
          exact ⟨O, ms3, F3, δ3, μ2, _, R4, eb, k1⟩
        · cases ev2
    · have : i = ds.length := by omega
      subst this
      rw [List.drop_length] at ev2
      cases ev2
      exact .inl ⟨Y.stop ms2 F2 H2 μ2 _ R2.hr x2 (Nat.le_refl _), k1 σ2 H2 ms2 F2 R2 x2⟩
  · cases ev⟩
/-! ### while -/
def whileLoop (t : TF) (body : BF) : Nat → BF
  | 0 => fun _ _ => none
  | n + 1 => fun δ μ => match t δ μ with
    | none => none
    | some (false, μ1) => some (.nx δ μ1)
    | some (true, μ1) => match body δ μ1 with
      | some (.nx δ2 μ2) => whileLoop t body n δ2 μ2
      | some (.ct δ2 μ2) => whileLoop t body n δ2 μ2
      | some (.bk δ2 μ2) => some (.nx δ2 μ2)
      | some (.rt d μ2) => some (.rt d μ2)
      | none => none
theorem ds_while {c : Expr} {body : List Stmt} {tc : TF} {bd : BF} (fuel : Nat) (hp : PassesOwn (model X.prog X.w) X.A X.env X.xe) (hc : DT X cl c tc) (hb : DB X cl body bd) : DS X cl (.While c body [] pos) (whileLoop tc bd fuel) := ⟨(ps_while hp hc.p hb.p).weak fun D σ H ⟨O, ms, F, δ, μ, o, R, ev, k⟩ => by
  let P : Nat → L2.St → Hp → Prop := fun m σ H => ∃ ms2 F2 δ μ, SR (gm X cl) O ms2 F2 H σ δ μ ∧ Ext ms ms2 F F2 ∧ whileLoop tc bd m δ μ = some o
  refine ⟨P, ⟨fuel, ms, F, δ, μ, R, Ext.refl _ _, ev⟩, ?_⟩
  rintro m σ2 H2 ⟨ms2, F2, δ2, μ2, R2, x2, ev2⟩
  cases m with
  | zero => cases ev2
  | succ m =>
    unfold whileLoop at ev2
    split at ev2
    · cases ev2
    · rename_i μ3 et
      cases ev2
      refine tT.seq R2 et fun H3 ms3 F3 R3 s3 => ?_
      exact k σ2 H3 ms3 F3 R3 (x2.trans s3.ext)
    · rename_i μ3 et
      refine tT.seq R2 et fun H3 ms3 F3 R3 s3 => ?_
      have x3 : Ext ms ms3 F F3 := x2.trans s3.ext
      refine ⟨P m, fun σ' H' p => ⟨m, Nat.lt_succ_self _, p⟩, ?_⟩
      split at ev2
      · rename_i δ5 μ5 eb
        exact ⟨O, ms3, F3, δ2, μ3, _, R3, eb, fun σ' H' m' F' R' x => ⟨m', F', _, _, R', x3.trans x, ev2⟩⟩
      · rename_i δ5 μ5 eb
        exact ⟨O, ms3, F3, δ2, μ3, _, R3, eb, fun σ' H' m' F' R' x => ⟨m', F', _, _, R', x3.trans x, ev2⟩⟩
      · rename_i δ5 μ5 eb
        cases ev2
        exact ⟨O, ms3, F3, δ2, μ3, _, R3, eb, fun σ' H' m' F' R' x => k σ' H' m' F' R' (x3.trans x)⟩
      · rename_i d5 μ5 eb
        cases ev2
        exact ⟨O, ms3, F3, δ2, μ3, _, R3, eb, k⟩
      · cases ev2⟩
/-- a, b = e (e a tuple) -/
def bAsg (f : EF) (g : GF) : BF := fun δ μ => match f δ μ with
  | some (d, μ1) => match g d δ with
    | some δ1 => some (.nx δ1 μ1)
    | none => none
  | none => none
theorem ds_asg {tg e : Expr} {tgt : GF} (he : DE X cl e fe) (hg : DG X cl tg tgt ix) (hs : swapsWithSole [tg] e pos.line X.env = pure false := by rfl) (hw : swappedStores [tg] e X.env = pure none := by rfl) (h1 : (assignEach [tg] X.env).map (·.2) = [assign tg X.env] := by rfl) : DS X cl (.Assign [tg] e pos) (bAsg fe tgt) := ⟨(ps_asg he.p hg.p hs hw h1).weak fun D σ H ⟨O, ms, F, δ, μ, o, R, ev, k⟩ => by
  unfold bAsg at ev
  split at ev
  · rename_i d μ1 e1
    split at ev
    · rename_i δ1 eg
      cases ev
      refine tE.seq R e1 fun v H1 ms1 F1 R1 s1 q1 => ?_
      exact ⟨O, ms1, F1, δ, μ1, d, δ1, R1, q1, eg, fun σ' R' _ _ => k σ' H1 ms1 F1 R' s1.ext⟩
    · cases ev
  · cases ev⟩
/-- a, b = e1, e2 -/
def bPar (i j : Nat) (r : AF) : BF := fun δ μ => match r δ μ with
  | some ([x, y], μ1) => some (.nx ((δ.set i (.d x)).set j (.d y)) μ1)
  | _ => none
theorem ds_par {i j : Nat} {x y : Str} {px py pt : Pos} {kt k2 pt2} (hc : X.calm = true) (hN : X.N.Nodup) (hi : X.N[i]? = some x) (hj : X.N[j]? = some y) (hij : i ≠ j)
    (hx : X.env.scope.names.lookup x = some .local) (hy : X.env.scope.names.lookup y = some .local) (ha : DA X cl [a, b] r)
    (hw : swappedStores [.Tuple [.Name x px, .Name y py] kt pt] (.Tuple [a, b] k2 pt2) X.env = pure (some [x, y]))
    (hs : swapsWithSole [.Tuple [.Name x px, .Name y py] kt pt] (.Tuple [a, b] k2 pt2) pos.line X.env = pure false := by rfl) :
    DS X cl (.Assign [.Tuple [.Name x px, .Name y py] kt pt] (.Tuple [a, b] k2 pt2) pos) (bPar i j r) := ⟨(ps_par hc hN hi hj hij hx hy ha.p hw hs).weak fun D σ H ⟨O, ms, F, δ, μ, o, R, ev, k⟩ => by
  unfold bPar at ev
  split at ev
  · rename_i d1 d2 μ1 e1
    cases ev
    refine tA.seq R e1 fun vs H1 ms1 F1 R1 s1 q1 => ?_
    obtain ⟨v, w, rfl, hv, hw⟩ := q1.two'
    exact ⟨v, w, rfl, k _ H1 ms1 F1 ((R1.set hv i).set hw j) s1.ext⟩
  · cases ev⟩
end
end G

set_option Elab.async false
set_option linter.all false
set_option autoImplicit false
set_option maxRecDepth 100000
set_option maxHeartbeats 2000000
namespace G
open PySem PySem.Spec PySem.Calls L2

/-! ### list comprehensions -/
def wipeD (δ : List SV) : List Nat → List SV
  | [] => δ
  | v :: vs => (wipeD δ vs).set v .no
section
variable {Γ : Gm} {O : Og} {ms : List Addr} {F H : Hp} {σ : L2.St} {δ : List SV} {μ : List MO}
theorem SR.wipe (R : SR Γ O ms F H σ δ μ) : ∀ vs : List Nat, SR Γ O ms F H (L2.wipe σ vs) (wipeD δ vs) μ
  | [] => R
  | v :: vs => (SR.wipe R vs).drop v none
theorem wipe_in {σ : L2.St} {i : Nat} (hi : i < σ.length) : ∀ {vs : List Nat}, i ∈ vs → (L2.wipe σ vs)[i]? = some none
  | [], h => nomatch h
  | v :: vs, h => by
    unfold L2.wipe
    by_cases hv : v = i
    · subst hv
      rw [List.getElem?_set_self (by rw [wipe_length]; exact hi)]
    · rw [List.getElem?_set_ne hv]
      rcases List.mem_cons.mp h with z | z
      · exact absurd z.symm hv
      · exact wipe_in hi z
theorem wipe_eq {σ σ' : L2.St} {vs ix : List Nat} (hl : σ'.length = (L2.wipe σ vs).length) (ha : ∀ j, j ∉ ix → σ'[j]? = (L2.wipe σ vs)[j]?) (hx : ∀ j ∈ ix, j ∈ vs) : L2.wipe σ' vs = L2.wipe σ vs := by
  rw [wipe_length] at hl
  apply List.ext_getElem?
  intro j
  by_cases hj : j ∈ vs
  · by_cases hlt : j < σ.length
    · rw [wipe_in hlt hj, wipe_in (by omega) hj]
    · rw [List.getElem?_eq_none (by rw [wipe_length]; omega), List.getElem?_eq_none (by rw [wipe_length]; omega)]
  · rw [wipe_out hj, wipe_out hj, ha j (fun z => hj (hx j z)), wipe_out hj]
theorem HR.other (h : HR Γ ms F H μ) {p : Addr} (hm : p ∉ ms) (hF : F p = none) (o : HO) : HR Γ ms F (upd H p o) μ := by
  refine ⟨fun b u e => ?_, h.out, h.len, h.nd, fun k u e => ?_⟩
  · have hne : b ≠ p := fun z => by rw [z, hF] at e; cases e
    rw [upd_ne hne]; exact h.sub b u e
  · obtain ⟨a, ea, m⟩ := h.obj k u e
    have hne : a ≠ p := fun z => hm (by rw [← z]; exact List.mem_of_getElem? ea)
    have m' := m.mono (new := []) (H' := upd H p o) (Same.refl F) (fun o' q => by rw [upd_ne hne]; exact q)
    rw [List.append_nil] at m'
    exact ⟨a, ea, m'⟩
end
def lcLoop (g : GF) (tt : TF) (te : EF) (δ : List SV) : List D → List MO → Option (List D × List MO)
  | [], μ => some ([], μ)
  | d :: ds, μ => match g d δ with
    | none => none
    | some δ1 => match tt δ1 μ with
      | none => none
      | some (false, μ1) => lcLoop g tt te δ ds μ1
      | some (true, μ1) => match te δ1 μ1 with
        | none => none
        | some (y, μ2) => match lcLoop g tt te δ ds μ2 with
          | some (ys, μ3) => some (y :: ys, μ3)
          | none => none
def nLc (i : IF) (g : GF) (tt : TF) (te : EF) (vs : List Nat) : NF := fun δ μ => match i δ μ with
  | some (ds, μ1) => if ds.length ≤ 1000000 then lcLoop g tt te (wipeD δ vs) ds μ1 else none
  | none => none
structure DTs (X : Cx) (cl : Nat → Addr) (es : List Expr) (f : TF) : Prop where
  p : PTs X es (tT (gm X cl) f)
theorem _root_.L2.PTs.weak {X : Cx} {es : List Expr} {t t' : TT} (h : PTs X es t) (k : ∀ σ H Q, t' σ H Q → t σ H Q) : PTs X es t' := ⟨fun pins s σ H Q I q => h.run pins s σ H Q I (k σ H Q q)⟩
def tYesD : TF := fun _ μ => some (true, μ)
theorem dts_nil {X : Cx} {cl : Nat → Addr} : DTs X cl [] tYesD := ⟨pts_nil.weak fun σ H Q ⟨O, ms, F, δ, μ, d, μ', R, ev, k⟩ => by cases ev; exact k H ms F R.hr (Stp.refl _ _ _)⟩
theorem dts_one {X : Cx} {cl : Nat → Addr} {c : Expr} {t : TF} (h : DT X cl c t) : DTs X cl [c] t := ⟨pts_one h.p⟩
section
variable {X : Cx} {cl : Nat → Addr}
theorem lc_run {fi : IF} {g : GF} {tt : TF} {te : EF} {ix vs : List Nat} {Γ : Gm} {σ : L2.St} {H : Hp} {Q : VK} (hix : ∀ j ∈ ix, j ∈ vs) (h : tN Γ (nLc fi g tt te vs) σ H Q) : tLc (tI Γ fi) (tG Γ g ix) (tT Γ tt) (tE Γ te) vs σ H Q := by
  obtain ⟨O, ms, F, δ, μ, dz, μ', R, ev, k⟩ := h
  unfold nLc at ev
  split at ev
  · rename_i ds μ1 e1
    split at ev
    · rename_i hz
      refine ⟨O, ms, F, δ, μ, ds, μ1, R, e1, fun J H1 ms1 F1 r1 s1 Y D0 hD0 => ?_⟩
      have R1 := R.step r1 s1
      let P : Nat → Hp → Prop := fun i H => ∃ ms F μ acc accV ys, HR Γ ms F H μ ∧ Stp ms1 ms F1 F H1 H ∧ H D0 = some (.lst accV) ∧ HasL Γ ms F accV acc ∧ D0 ∉ ms ∧ F D0 = none ∧ acc.length ≤ i ∧ lcLoop g tt te (wipeD δ vs) (ds.drop i) μ = some (ys, μ') ∧ acc ++ ys = dz
      obtain ⟨r0, s0⟩ := r1.extra hD0 (.lst [])
      refine ⟨fun i m H => m = ds.length - i ∧ i ≤ ds.length ∧ P i H, ⟨_, rfl, Nat.zero_le _, ms1, F1, μ1, [], [], dz, r0, s0, upd_same, rfl, (r1.fresh_not hD0).1, (r1.fresh_not hD0).2, Nat.le_refl _, by simpa using ev, rfl⟩, ?_⟩
      rintro i m H2 ⟨rfl, hi, ms2, F2, μ2, acc, accV, ys, r2, s2, hD2, hl2, hm2, hF2, hai, ev2, et⟩
      by_cases hlt : i < ds.length
      · have hd : ds[i]? = some ds[i] := List.getElem?_eq_getElem hlt
        rw [List.drop_eq_getElem_cons hlt] at ev2
        unfold lcLoop at ev2
        refine .inr ⟨Y.go ms2 F2 H2 μ2 i r2 s2.ext hlt, P (i + 1), fun H' p' => ⟨_, by omega, rfl, hlt, p'⟩, fun x H' y => ?_⟩
        obtain ⟨ms3, F3, r3, s3, q3⟩ := Y.yld ms2 F2 H2 μ2 i _ x H' r2 s2.ext hd y
        split at ev2
        · cases ev2
        · rename_i δ3 eg
          have s13 := s2.trans' r2 s3
          have R3 := (R1.step r3 s13).wipe vs
          have hD3 : H' D0 = some (.lst accV) := s3.keep D0 _ hD2 hm2
          have notin : ∀ {msa msb : List Addr} {Fa Fb Ha Hb : Hp}, Stp msa msb Fa Fb Ha Hb → D0 ∉ msa → Ha D0 = some (.lst accV) → D0 ∉ msb := fun {msa msb Fa Fb Ha Hb} s hn hD z => by
            obtain ⟨new, e, fr⟩ := s.new
            rw [e] at z
            rcases List.mem_append.mp z with z | z
            · exact hn z
            · rw [fr D0 z] at hD; cases hD
          have hm3 := notin s3 hm2 hD2
          have hF3 : F3 D0 = none := s3.fnew D0 hF2 (by rw [hD2]; exact fun q => nomatch q)
          refine ⟨O, ms3, F3, _, μ2, _, δ3, R3, q3, eg, fun σ4 R4 l4 a4 => ⟨wipe_eq l4 a4 hix, ?_⟩⟩
          split at ev2
          · cases ev2
          · rename_i μ5 etst
            refine tT.seq R4 etst fun H5 ms5 F5 R5 s5 => ?_
            refine iteF ?_
            exact ⟨ms5, F5, _, acc, accV, ys, R5.hr, s13.trans' r3 s5, s5.keep D0 _ hD3 hm3, (hl2.step s3).step s5, notin s5 hm3 hD3, s5.fnew D0 hF3 (by rw [hD3]; exact fun q => nomatch q), by omega, ev2, et⟩
          · rename_i μ5 etst
            refine tT.seq R4 etst fun H5 ms5 F5 R5 s5 => ?_
            refine iteT ?_
            have hD5 := s5.keep D0 _ hD3 hm3
            have hm5 := notin s5 hm3 hD3
            have hF5 : F5 D0 = none := s5.fnew D0 hF3 (by rw [hD3]; exact fun q => nomatch q)
            split at ev2
            · cases ev2
            · rename_i y μ6 ee
              refine tE.seq R5 ee fun v H6 ms6 F6 R6 s6 q6 => ?_
              split at ev2
              · rename_i ys' μ7 el
                cases ev2
                have hD6 := s6.keep D0 _ hD5 hm5
                have hm6 := notin s6 hm5 hD5
                have hF6 : F6 D0 = none := s6.fnew D0 hF5 (by rw [hD5]; exact fun q => nomatch q)
                have s16 : Stp ms1 ms6 F1 F6 H1 H6 := (s13.trans' r3 s5).trans' R5.hr s6
                have hacc : HasL Γ ms6 F6 accV acc := ((hl2.step s3).step s5).step s6
                refine ⟨accV, hD6, by rw [hacc.length, sizeLine_eq]; omega, ms6, F6, _, acc ++ [y], accV ++ [v], ys', R6.hr.other hm6 hF6 _, ⟨s16.new, fun b o e hn => ?_, s16.fsub, s16.fnew⟩, upd_same, hacc.append (HasL.one q6), hm6, hF6, by simp; omega, el, by rw [← et]; simp⟩
                have hne : b ≠ D0 := fun z => by rw [z, hD0] at e; cases e
                rw [upd_ne hne]; exact s16.keep b o e hn
              · cases ev2
      · have : i = ds.length := by omega
        subst this
        rw [List.drop_length] at ev2
        cases ev2
        have et' : acc = dz := by rw [← et]; simp
        subst et'
        refine .inl ⟨Y.stop ms2 F2 H2 _ _ r2 s2.ext (Nat.le_refl _), k accV H2 ms2 F2 D0 r2 (s1.trans' r1 s2) hl2 hD2 (s1.old r1 D0 hD0) hm2 hF2⟩
    · cases ev
  · cases ev
theorem dn_lc {elt tg iter : Expr} {ifs : List Expr} {scope : Scope} {own : List (Str × Nat)} {pos : Pos} {fi : IF} {g : GF} {tt : TF} {te : EF} {ix : List Nat} (hc : X.calm = true) (hN : X.N.Nodup) (hi : DI X cl tg iter fi) (ok : BlkOk X.N X.env.scope scope own)
    (hg : ∀ (s : Shared) (H : Hp) (C : Addr) (cls : List (Str × Addr)) (fp : List Addr), DG (X.blk s H scope (compEnvC scope cls C X.env) fp) cl tg g ix) (ht : ∀ (s : Shared) (H : Hp) (C : Addr) (cls : List (Str × Addr)) (fp : List Addr), DTs (X.blk s H scope (compEnvC scope cls C X.env) fp) cl ifs tt)
    (he : ∀ (s : Shared) (H : Hp) (C : Addr) (cls : List (Str × Addr)) (fp : List Addr), DE (X.blk s H scope (compEnvC scope cls C X.env) fp) cl elt te) (hix : ∀ j ∈ ix, j ∈ own.map (·.2) := by decide) (hs : ∀ x, foldedSetIterable iter X.env x = pure x := by intro _; rfl) :
    DN X cl (.ListComp elt [⟨tg, iter, ifs, 0⟩] scope pos) (nLc fi g tt te (own.map (·.2))) := ⟨(pe_lc hc hN hi.p ok (g := tG (gm X cl) g ix) (tt := tT (gm X cl) tt) (te := tE (gm X cl) te) (fun s H C cls fp => (hg s H C cls fp).p) (fun s H C cls fp => (ht s H C cls fp).p) (fun s H C cls fp => (he s H C cls fp).p) hs).weak fun σ H Q h => lc_run hix h⟩
/-- name = [..] on one line -/
theorem bSet_frz {Γ : Gm} {i : Nat} {n : NF} {D : Ends} {σ : L2.St} {H : Hp} (h : tS Γ (bSet i (eFrz n)) D σ H) : tN Γ n σ H fun x H1 => D.nx (σ.set i (some x)) H1 := by
  obtain ⟨O, ms, F, δ, μ, o, R, ev, k⟩ := h
  unfold bSet eFrz at ev
  cases en : n δ μ with
  | none => rw [en] at ev; cases ev
  | some q =>
    obtain ⟨ds, μ1⟩ := q
    rw [en] at ev
    cases ev
    refine ⟨O, ms, F, δ, μ, ds, μ1, R, en, FinN.of1 fun v H1 ms1 F1 r1 s1 q1 => ?_⟩
    exact k _ H1 ms1 F1 ((R.step r1 s1).set q1 i) s1.ext
theorem bOwn_run {Γ : Gm} {i : Nat} {n : NF} {D : Ends} {σ : L2.St} {H : Hp} (h : tS Γ (bOwn i n) D σ H) : tN Γ n σ H fun x H1 => D.nx (σ.set i (some x)) H1 := by
  obtain ⟨O, ms, F, δ, μ, o, R, ev, k⟩ := h
  unfold bOwn at ev
  split at ev
  · rename_i d μ1 e1
    cases ev
    refine ⟨O, ms, F, δ, μ, d, _, R, e1, fun vs H1 ms1 F1 p r1 s1 q1 hp h0 hm hF => ?_⟩
    exact k _ H1 ms1 F1 ((R.step r1 s1).own hp q1 hF hm (R.old0 h0) (fun j es e => R.notOwn h0 j es e) i) s1.ext
  · cases ev
section
variable {i : Nat} {y : Str} {py : Pos} {elt tg iter : Expr} {ifs : List Expr} {scope : Scope} {own : List (Str × Nat)} {pos spos : Pos} {fi : IF} {g : GF} {tt : TF} {te : EF} {ix : List Nat}
theorem ds_lc (hc : X.calm = true) (hN : X.N.Nodup) (hy : X.N[i]? = some y) (hyl : X.env.scope.names.lookup y = some .local) (hsw : swapsWith (.ListComp elt [⟨tg, iter, ifs, 0⟩] scope pos) (some (.Name y py)) spos.line X.env = pure true) (hi : DI X cl tg iter fi) (ok : BlkOk X.N X.env.scope scope own)
    (hg : ∀ (s : Shared) (H : Hp) (C : Addr) (cls : List (Str × Addr)) (fp : List Addr), DG (X.blk s H scope (compEnvC scope cls C X.env) fp) cl tg g ix) (ht : ∀ (s : Shared) (H : Hp) (C : Addr) (cls : List (Str × Addr)) (fp : List Addr), DTs (X.blk s H scope (compEnvC scope cls C X.env) fp) cl ifs tt)
    (he : ∀ (s : Shared) (H : Hp) (C : Addr) (cls : List (Str × Addr)) (fp : List Addr), DE (X.blk s H scope (compEnvC scope cls C X.env) fp) cl elt te) (hix : ∀ j ∈ ix, j ∈ own.map (·.2) := by decide) (hs : ∀ x, foldedSetIterable iter X.env x = pure x := by intro _; rfl) :
    DS X cl (.Assign [.Name y py] (.ListComp elt [⟨tg, iter, ifs, 0⟩] scope pos) spos) (bSet i (eFrz (nLc fi g tt te (own.map (·.2))))) :=
  ⟨(ps_setLc hc hN hy hyl hsw hi.p ok (g := tG (gm X cl) g ix) (tt := tT (gm X cl) tt) (te := tE (gm X cl) te) (fun s H C cls fp => (hg s H C cls fp).p) (fun s H C cls fp => (ht s H C cls fp).p) (fun s H C cls fp => (he s H C cls fp).p) hs).weak fun D σ H h => lc_run hix (bSet_frz h)⟩
theorem ds_lcO (hc : X.calm = true) (hN : X.N.Nodup) (hy : X.N[i]? = some y) (hyl : X.env.scope.names.lookup y = some .local) (hsw : swapsWith (.ListComp elt [⟨tg, iter, ifs, 0⟩] scope pos) (some (.Name y py)) spos.line X.env = pure true) (hi : DI X cl tg iter fi) (ok : BlkOk X.N X.env.scope scope own)
    (hg : ∀ (s : Shared) (H : Hp) (C : Addr) (cls : List (Str × Addr)) (fp : List Addr), DG (X.blk s H scope (compEnvC scope cls C X.env) fp) cl tg g ix) (ht : ∀ (s : Shared) (H : Hp) (C : Addr) (cls : List (Str × Addr)) (fp : List Addr), DTs (X.blk s H scope (compEnvC scope cls C X.env) fp) cl ifs tt)
    (he : ∀ (s : Shared) (H : Hp) (C : Addr) (cls : List (Str × Addr)) (fp : List Addr), DE (X.blk s H scope (compEnvC scope cls C X.env) fp) cl elt te) (hix : ∀ j ∈ ix, j ∈ own.map (·.2) := by decide) (hs : ∀ x, foldedSetIterable iter X.env x = pure x := by intro _; rfl) :
    DS X cl (.Assign [.Name y py] (.ListComp elt [⟨tg, iter, ifs, 0⟩] scope pos) spos) (bOwn i (nLc fi g tt te (own.map (·.2)))) :=
  ⟨(ps_setLc hc hN hy hyl hsw hi.p ok (g := tG (gm X cl) g ix) (tt := tT (gm X cl) tt) (te := tE (gm X cl) te) (fun s H C cls fp => (hg s H C cls fp).p) (fun s H C cls fp => (ht s H C cls fp).p) (fun s H C cls fp => (he s H C cls fp).p) hs).weak fun D σ H h => lc_run hix (bOwn_run h)⟩
end
end

/-! ### defs -/
abbrev FF := List D → List MO → Option (D × List MO)
def spF (Γ : Gm) (n : Nat) (fn : FF) : Sp := fun vs H Q E => ∃ ms F ds μ d μ', HR Γ ms F H μ ∧ HasL Γ ms F vs ds ∧ ds.length = n ∧ fn ds μ = some (d, μ') ∧ Fin1 Γ ms F H d μ' Q
def startD (n : Nat) (ds : List D) : List SV := ds.map SV.d ++ List.replicate (n - ds.length) SV.no
def runB (n : Nat) (body : BF) : FF := fun ds μ => match body (startD n ds) μ with
  | some (.nx _ μ') => some (.non, μ')
  | some (.rt d μ') => some (d, μ')
  | _ => none
theorem SR.start {Γ : Gm} {ms : List Addr} {F H : Hp} {vs : List V} {ds : List D} {μ : List MO} {N : List Str} (r : HR Γ ms F H μ) (q : HasL Γ ms F vs ds) : SR Γ ⟨ms, F, H⟩ ms F H (L2.start N vs) (startD N.length ds) μ := by
  refine ⟨r, ⟨by simp [L2.start, startD, q.length], fun i sv e => ?_, fun i j a xs ys e1 e2 f1 f2 => ?_⟩, Stp.refl _ _ _⟩
  · unfold startD at e
    by_cases hi : i < ds.length
    · rw [List.getElem?_append_left (by simpa using hi), List.getElem?_map, List.getElem?_eq_getElem hi] at e
      cases e
      obtain ⟨v, hv, h⟩ := q.get (List.getElem?_eq_getElem hi)
      refine ⟨v, ?_, h⟩
      unfold L2.start
      rw [List.getElem?_append_left (by simp [q.length]; exact hi), List.getElem?_map, hv]
      rfl
    · rw [List.getElem?_append_right (by simpa using Nat.le_of_not_lt hi)] at e
      have := List.mem_of_getElem? e
      rw [List.mem_replicate] at this
      rw [this.2]; trivial
  · exfalso
    unfold startD at e1
    by_cases hi : i < ds.length
    · rw [List.getElem?_append_left (by simpa using hi), List.getElem?_map, List.getElem?_eq_getElem hi] at e1
      cases e1
    · rw [List.getElem?_append_right (by simpa using Nat.le_of_not_lt hi)] at e1
      have := List.mem_of_getElem? e1
      rw [List.mem_replicate] at this
      cases this.2
/-- a def, called where no repr is under way -/
structure FnG (P : Program) (w : World) (K : PySem.W.Frag) (mg : Str → Option Value) (base : Heap) (k : Nat) (f : Addr) (fd : FuncData) (n : Nat) (ps : List Str) (sp : Sp) : Prop where
  len : ∀ vs H Q E, sp vs H Q E → vs.length = n
  pl : ps.length = n
  go : ∀ {A : Around} {outer : List Env} {s : Shared} {H : Hp} {args : Args} {us : List Value} {vs : List V} {Q : VK}, A.guards = some [] → Room k A → Env0 P w K mg base A outer s H →
    BindsTo s fd args (ps.zip us) → Vals vs us → sp vs H Q E0 → codeAny (model P w) A (.call (.ref f) args) (CR CX0 outer P w H s Q E0) s
section
variable {P : Program} {w : World} {K : PySem.W.Frag} {mg : Str → Option Value} {base : Heap} {cl : Nat → Addr}
theorem fnG_of {x qual : Str} {st : Stmt} {f : Addr} {fd : FuncData} {N ps : List Str} {k n : Nat} {sp : Sp} (F : Fun K x qual st f fd) (S : FnScope N ps (defScope st)) (hn : ps.length = n)
    (len : ∀ vs H Q E, sp vs H Q E → vs.length = n)
    (body : ∀ (cdv : Value) (A : Around) (outer : List Env) (s : Shared) (H : Hp) (vs : List V) (Q : VK), (A.deeper (PyProof.Rows.envOfC qual (defScope st) s.heap.objs.size f cdv)).guards = some [] →
      Room k (A.deeper (PyProof.Rows.envOfC qual (defScope st) s.heap.objs.size f cdv)) → sp vs H Q E0 →
      ∃ t, PSs (cxOf CX0 P w K mg base N qual (defScope st) f cdv A outer s H E0).nox (defBody st) t ∧ t { nx := fun _ H' => Q .non H', rt := Q } (L2.start N vs) H) : FnG P w K mg base (k + 1) f fd n ps sp := by
  obtain ⟨oc, od, kV, doc, pm, an, cdv, ct, osl, rfl, lk, hcd⟩ := F.ex
  refine ⟨len, hn, ?_⟩
  intro A outer s H args us vs Q hg hr e0 hb rv hsp
  have hl : vs.length = ps.length := (len _ _ _ _ hsp).trans hn.symm
  have old : ∀ b o, base.get? b = some o → s.heap.get? b = some o := fun b o e => (e0.bs b o e).1
  have kin := e0.mod.kin.keeps old
  have kinds : ∀ y ∈ ps.zip us, (defScope st).names.lookup y.1 = some .local ∨
      ((defScope st).names.lookup y.1 = some .cell ∧ ((cellsFrom (s.heap.objs.size + 1) (defScope st).names []).lookup y.1).isSome = true) := by
    rintro ⟨z, v⟩ hy
    rcases S.par z (List.of_mem_zip hy).1 with c | c
    · exact Or.inl c
    · exact Or.inr ⟨c, PySem.W.cellsFrom_some _ _ _ (Or.inl c)⟩
  refine codeAny_call_function hr.depth (kin _ _ lk) rfl S.co S.gen rfl
    (PySem.W.codeRec_of kin hcd) (hb _ _ _ _ ?_)
  refine wpAny_newFunctionEnv_cells S.kind kinds fun env he s1 ic => ?_
  subst he
  refine ⟨(e0.mod.nolimit.keeps old).keeps ic.toInCall.keep, codeAny_func ?_⟩
  obtain ⟨t, ht, hq⟩ := body cdv A outer s H vs Q hg (hr.deeper _) hsp
  have inv := inv_start (CX := CX0) (E := E0) S hr.hd e0 hl rv ic
  refine wpAny_mono (ht.nox.run [] s1 _ H _ inv hq) (fun fl s' hs => ?_) fun _ _ hs => hs
  cases fl with
  | next => obtain ⟨σ', H', J, q⟩ := hs; exact ⟨V.non, H', J.os, J.bare, J.base, J.hok, rfl, q⟩
  | ret u => obtain ⟨v, σ', H', J, r, q⟩ := hs; exact ⟨v, H', J.os, J.bare, J.base, J.hok, r, q⟩
  | brk => obtain ⟨_, _, _, q⟩ := hs; exact q.elim
  | cont => obtain ⟨_, _, _, q⟩ := hs; exact q.elim
theorem fn_ok {x qual : Str} {st : Stmt} {f : Addr} {fd : FuncData} {N ps : List Str} {k n : Nat} {body : BF} (F : Fun K x qual st f fd) (S : FnScope N ps (defScope st)) (hn : ps.length = n)
    (hB : ∀ (cdv : Value) (A : Around) (outer : List Env) (s : Shared) (H : Hp), (A.deeper (PyProof.Rows.envOfC qual (defScope st) s.heap.objs.size f cdv)).guards = some [] → Room k (A.deeper (PyProof.Rows.envOfC qual (defScope st) s.heap.objs.size f cdv)) →
      DB (cxOf CX0 P w K mg base N qual (defScope st) f cdv A outer s H E0).nox cl (defBody st) body) : FnG P w K mg base (k + 1) f fd n ps (spF ⟨K, cl⟩ n (runB N.length body)) := by
  refine fnG_of F S hn (fun vs H Q E h => ?_) fun cdv A outer s H vs Q hg hr h => ⟨tS ⟨K, cl⟩ body, ?_, ?_⟩
  · obtain ⟨ms, F, ds, μ, d, μ', r, q, hl, _⟩ := h
    rw [q.length]; exact hl
  · exact (hB cdv A outer s H hg hr).p
  · obtain ⟨ms, F, ds, μ, d, μ', r, q, hl, ev, k⟩ := h
    unfold runB at ev
    split at ev
    · rename_i δ' μ2 e
      cases ev
      exact ⟨⟨ms, F, H⟩, ms, F, _, μ, _, SR.start r q, e, fun σ' H' ms' F' R' x => k .non H' ms' F' R'.hr R'.st rfl⟩
    · rename_i d' μ2 e
      cases ev
      exact ⟨⟨ms, F, H⟩, ms, F, _, μ, _, SR.start r q, e, fun v H' ms' F' r' s' q' => k v H' ms' F' r' s' q'⟩
    · cases ev
end
section
variable {X : Cx} {cl : Nat → Addr} {e : Expr} {es : List Expr} {pos p : Pos} {r : AF} {k n : Nat} {f : Addr} {fd : FuncData} {ps : List Str} {fn : FF} {dvs : List V} {ds : List Value} {dds : List D} {x : Str}
theorem runG {sp : Sp} {pins : List (Addr × Obj)} {σ : L2.St} {H : Hp} {s : Shared} {Q : VK} {us : List Value} {vs : List V} (Gf : FnG X.prog X.w X.K X.mg X.base k f fd n ps sp) (hgd : X.A.guards = some []) (hr : Room k X.A)
    (hb : Binds X.K fd ps ds) (hd : Vals dvs ds) (I : Inv X pins σ H s) (rv : Vals vs us) (h : sp (vs ++ dvs) H Q E0) : wpAny (model X.prog X.w) X.A (call (.ref f) us) (EP X pins σ Q) X.xe s := by
  have rr : Vals (vs ++ dvs) (us ++ ds) := rv.append hd
  have hl : (us ++ ds).length = ps.length := by rw [← rr.length, Gf.pl]; exact Gf.len _ _ _ _ h
  refine wpAny_call (codeAny_mono (Gf.go hgd hr I.env0 (hb s us I.kIn hl) rr h) fun z s' hq => ?_)
  cases z with
  | error _ => exact (show False from hq).elim
  | ok fl =>
    cases fl with
    | ret u => exact I.after hq
    | next => exact (show False from hq).elim
    | brk => exact (show False from hq).elim
    | cont => exact (show False from hq).elim
def eFn (fn : FF) (dds : List D) (r : AF) : EF := aThen r fun xs _ μ => fn (xs ++ dds) μ
theorem pe_callG {sp : Sp} {t : TA} (Gf : FnG X.prog X.w X.K X.mg X.base k f fd n ps sp) (hgd : X.A.guards = some []) (hr : Room k X.A) (hg : Gl X x) (hm : X.mg x = some (.ref f)) (hk : PySem.W.keepIn X.K (.ref f) = true) (hb : Binds X.K fd ps ds) (hd : Vals dvs ds)
    (ha : PA X (e :: es) t) (hdb : (x == ("__debug__" : Str)) = false := by decide) (he : starEach (e :: es) X.env = (false, eval e X.env) :: starEach es X.env := by rfl) (hpl : (backTo pos (starEach es X.env)).any (·.1) = false := by rfl) :
    PE X (.Call (.Name x p) (e :: es) [] pos) (tCall sp dvs E0 t) := by
  constructor
  intro pins s σ H Q I h
  refine wpAny_Call_Name_kw (ld_glob I hg hm ?_ hdb)
  refine PySem.W.callWith_K (h₀ := X.base) I.ok.mod.kin hk ?_ he hpl
  refine thn (ha.run pos pins s σ H _ I h) ?_
  rintro us s1 ⟨vs, H1, I1, rv, q⟩
  exact ⟨I1.kIn, runG Gf hgd hr hb hd I1 rv q⟩
theorem de_call (Gf : FnG X.prog X.w X.K X.mg X.base k f fd n ps (spF (gm X cl) n fn)) (hgd : X.A.guards = some []) (hr : Room k X.A) (hg : Gl X x) (hm : X.mg x = some (.ref f)) (hk : PySem.W.keepIn X.K (.ref f) = true) (hb : Binds X.K fd ps ds) (hd : Vals dvs ds) (hdd : ∀ ms F, HasL (gm X cl) ms F dvs dds)
    (hn : (e :: es).length + dds.length = n)
    (ha : DA X cl (e :: es) r) (hra : ∀ δ μ xs μ1, r δ μ = some (xs, μ1) → xs.length = (e :: es).length) (hdb : (x == ("__debug__" : Str)) = false := by decide) (he : starEach (e :: es) X.env = (false, eval e X.env) :: starEach es X.env := by rfl) (hpl : (backTo pos (starEach es X.env)).any (·.1) = false := by rfl) :
    DE X cl (.Call (.Name x p) (e :: es) [] pos) (eFn fn dds r) := ⟨(pe_callG Gf hgd hr hg hm hk hb hd ha.p hdb he hpl).weak fun σ H Q ⟨O, ms, F, δ, μ, d, μ', R, ev, k⟩ => by
  obtain ⟨xs, μ1, e1, ev⟩ := aThen_some ev
  refine tA.seq R e1 fun vs H1 ms1 F1 R1 s1 q1 => ?_
  exact ⟨ms1, F1, xs ++ dds, μ1, d, μ', R1.hr, q1.append (hdd ms1 F1), by rw [List.length_append, hra _ _ _ _ e1]; exact hn, ev, fun v H' ms' F' r s q => k v H' ms' F' r (s1.trans' R1.hr s) q⟩⟩
end
theorem aNil_len : ∀ δ μ xs μ1, aNil δ μ = some (xs, μ1) → xs.length = 0 := fun δ μ xs μ1 h => by cases h; rfl
theorem aCons_len {f : EF} {r : AF} {n : Nat} (hr : ∀ δ μ xs μ1, r δ μ = some (xs, μ1) → xs.length = n) : ∀ δ μ xs μ1, aCons f r δ μ = some (xs, μ1) → xs.length = n + 1 := fun δ μ xs μ1 h => by
  obtain ⟨d, μ2, e1, h⟩ := eThen_some h
  split at h
  · rename_i ys μ3 e2
    cases h
    simp [hr _ _ _ _ e2]
  · cases h
end G

set_option Elab.async false
set_option linter.all false
set_option autoImplicit false
set_option maxRecDepth 100000
set_option maxHeartbeats 2000000
namespace G
open PySem PySem.Spec L2

section
variable {X : Cx} {cl : Nat → Addr}
/-! ### data as the library's own -/
def toPyL (f : D → Option PyData) : List D → Option (List PyData)
  | [] => some []
  | d :: ds => match f d, toPyL f ds with
    | some p, some ps => some (p :: ps)
    | _, _ => none
def toPy (μ : List MO) : Nat → D → Option PyData
  | 0, _ => none
  | n + 1, d => match d with
    | .non => some .none
    | .bl b => some (.bool b)
    | .int i => some (.int i)
    | .str x => some (.str x)
    | .lst ds => (toPyL (toPy μ n) ds).map .list
    | .tup ds => (toPyL (toPy μ n) ds).map .tuple
    | .mut k => match μ[k]? with
      | some (.lst ds) => (toPyL (toPy μ n) ds).map .list
      | _ => none
    | _ => none
theorem dpAll_of {Γ : Gm} {ms : List Addr} {F H : Hp} {f : D → Option PyData} (h : ∀ v d p, f d = some p → Has Γ ms F v d → Dp Γ.K H v p) : ∀ {vs : List V} {ds : List D} {ps : List PyData}, toPyL f ds = some ps → HasL Γ ms F vs ds → DpAll Γ.K H vs ps
  | vs, [], ps, e, q => by cases e; cases q; exact .nil
  | vs, d :: ds, ps, e, ⟨w, ws, hv, q1, q2⟩ => by
    subst hv
    unfold toPyL at e
    split at e
    · rename_i p ps' e1 e2
      cases e
      exact .cons (h w d p e1 q1) (dpAll_of h e2 q2)
    · cases e
theorem dp_of {Γ : Gm} {ms : List Addr} {F H : Hp} {μ : List MO} (r : HR Γ ms F H μ) : ∀ (n : Nat) (v : V) (d : D) (p : PyData), toPy μ n d = some p → Has Γ ms F v d → Dp Γ.K H v p
  | 0, _, _, _, e, _ => by cases e
  | n + 1, v, d, p, e, q => by
    unfold toPy at e
    cases d with
    | non => cases e; rw [show v = .non from q]; exact .non
    | bl b => cases e; rw [show v = .bl b from q]; exact .bl b
    | int b => cases e; rw [show v = .int b from q]; exact .int b
    | str b => cases e; rw [show v = .str b from q]; exact .str b
    | ty _ => cases e
    | dct _ _ => cases e
    | ins _ _ _ => cases e
    | scr _ => cases e
    | exc _ _ _ _ => cases e
    | lst ds =>
      dsimp only at e
      cases e1 : toPyL (toPy μ n) ds with
      | none => rw [e1] at e; cases e
      | some ps =>
        rw [e1] at e; cases e
        obtain ⟨a, xs, rfl, hs, hl⟩ := q
        exact .lst (SqL.of (r.sub _ _ hs)) (dpAll_of (dp_of r n) e1 hl)
    | tup ds =>
      dsimp only at e
      cases e1 : toPyL (toPy μ n) ds with
      | none => rw [e1] at e; cases e
      | some ps =>
        rw [e1] at e; cases e
        obtain ⟨a, xs, rfl, hs, hl⟩ := q
        exact .tup (Tp.same r.sub hs).sq (dpAll_of (dp_of r n) e1 hl)
    | «mut» k =>
      dsimp only at e
      split at e
      · rename_i ds hk
        cases e1 : toPyL (toPy μ n) ds with
        | none => rw [e1] at e; cases e
        | some ps =>
          rw [e1] at e; cases e
          obtain ⟨a, rfl, hm⟩ := q
          obtain ⟨a', ha', xs, hx, hl⟩ := r.obj _ _ hk
          rw [hm] at ha'; cases ha'
          exact .lst (SqL.of hx) (dpAll_of (dp_of r n) e1 hl)
      · cases e
/-- how deep data is looked at -/
abbrev DEEP : Nat := 16
def shp (p : PyData) : Bool := SeqAt.shaped p
/-! ### operators -/
abbrev G2 := D → D → List MO → Option (D × List MO)
theorem Fin1.imm {Γ : Gm} {ms : List Addr} {F H : Hp} {d : D} {μ : List MO} {Q : VK} (k : Fin1 Γ ms F H d μ Q) (r : HR Γ ms F H μ) {v : V} (h : Has Γ ms F v d) : Q v H := k v H ms F r (Stp.refl _ _ _) h
theorem op_addB : OpR X (binaryOp .Add) (fun x y H Q => ∃ (b : Bool) (j : Int), x = .bl b ∧ y = .int j ∧ Q (.int ((if b = true then (1 : Int) else 0) + j)) H) := by
  intro pins s σ H x y v u Q I rx ry h
  obtain ⟨b, j, rfl, rfl, q⟩ := h
  cases rx
  obtain ⟨t, rfl⟩ := ry
  exact PySem.IntBool.add_bool_int ⟨.int _, H, I.tok _, ⟨_, rfl⟩, q⟩
def addD : G2 := fun x y μ => match x, y with
  | .int i, .int j => some (.int (i + j), μ)
  | .bl b, .int j => some (.int ((if b = true then (1 : Int) else 0) + j), μ)
  | .str a, .str b => if a.length + b.length ≤ 1000000 then some (.str (a ++ b), μ) else none
  | .lst a, .lst b => if a.length + b.length ≤ 1000000 then some (.lst (a ++ b), μ) else none
  | _, _ => none
theorem opd_add : OpD X cl (binaryOp .Add) addD := by
  intro ms F H μ x y dx dy d μ' Q r hx hy ev k
  unfold addD at ev
  split at ev
  · cases ev; exact ⟨_, op_add, _, _, hx, hy, k.imm r rfl⟩
  · cases ev; exact ⟨_, op_addB, _, _, hx, hy, k.imm r rfl⟩
  · split at ev
    · rename_i hz; cases ev; exact ⟨_, op_add_str, _, _, hx, hy, million hz, k.imm r rfl⟩
    · cases ev
  · split at ev
    · rename_i hz
      cases ev
      obtain ⟨a, xs, rfl, ha, la⟩ := hx
      obtain ⟨b, ys, rfl, hb, lb⟩ := hy
      exact ⟨_, op_cat, a, b, xs, ys, rfl, rfl, r.sub _ _ ha, r.sub _ _ hb, by rw [la.length, lb.length]; exact million hz, fun p hp => k.lst r (la.append lb) hp⟩
    · cases ev
  · cases ev
def subD : G2 := fun x y μ => match x, y with
  | .int i, .int j => some (.int (i - j), μ)
  | _, _ => none
theorem opd_sub : OpD X cl (binaryOp .Sub) subD := by
  intro ms F H μ x y dx dy d μ' Q r hx hy ev k
  unfold subD at ev
  split at ev
  · cases ev; exact ⟨_, op_sub, _, _, hx, hy, k.imm r rfl⟩
  · cases ev
def mulD : G2 := fun x y μ => match x, y with
  | .int i, .int j => if i.natAbs.log2 + j.natAbs.log2 < 1000000 then some (.int (i * j), μ) else none
  | _, _ => none
theorem opd_mul : OpD X cl (binaryOp .Mult) mulD := by
  intro ms F H μ x y dx dy d μ' Q r hx hy ev k
  unfold mulD at ev
  split at ev
  · split at ev
    · rename_i hz; cases ev; exact ⟨_, op_mulW, _, _, hx, hy, hz, k.imm r rfl⟩
    · cases ev
  · cases ev
def fdivD : G2 := fun x y μ => match x, y with
  | .int i, .int j => if 0 < j ∧ j.natAbs.log2 < 9000 then some (.int (i / j), μ) else none
  | _, _ => none
theorem opd_fdiv : OpD X cl (binaryOp .FloorDiv) fdivD := by
  intro ms F H μ x y dx dy d μ' Q r hx hy ev k
  unfold fdivD at ev
  split at ev
  · split at ev
    · rename_i hz; cases ev; exact ⟨_, op_fdivW, _, _, hx, hy, hz, k.imm r rfl⟩
    · cases ev
  · cases ev
def modD : G2 := fun x y μ => match x, y with
  | .int i, .int j => if 0 < j then some (.int (i % j), μ) else none
  | _, _ => none
theorem opd_mod : OpD X cl (binaryOp .Mod) modD := by
  intro ms F H μ x y dx dy d μ' Q r hx hy ev k
  unfold modD at ev
  split at ev
  · split at ev
    · rename_i hz; cases ev; exact ⟨_, op_mod, _, _, hx, hy, hz, k.imm r rfl⟩
    · cases ev
  · cases ev
def powD : G2 := fun x y μ => match x, y with
  | .int i, .int j => if 0 ≤ j ∧ j ≤ 1000000 ∧ i.natAbs < 2 ^ 64 then some (.int (i ^ j.toNat), μ) else none
  | _, _ => none
theorem opd_pow : OpD X cl (binaryOp .Pow) powD := by
  intro ms F H μ x y dx dy d μ' Q r hx hy ev k
  unfold powD at ev
  split at ev
  · split at ev
    · rename_i hz; cases ev; exact ⟨_, op_pow, _, _, hx, hy, hz, k.imm r rfl⟩
    · cases ev
  · cases ev
/-- comparisons of order -/
def ltD : G2 := fun x y μ => match x, y with
  | .int i, .int j => some (.bl (decide (i < j)), μ)
  | .str a, .str b => some (.bl (decide (a.cps.toList < b.cps.toList)), μ)
  | _, _ => none
theorem opd_lt : OpD X cl (compareOp .Lt) ltD := by
  intro ms F H μ x y dx dy d μ' Q r hx hy ev k
  unfold ltD at ev
  split at ev
  · cases ev; exact ⟨_, op_lt, _, _, hx, hy, k.imm r rfl⟩
  · cases ev; exact ⟨_, op_lt_str, _, _, hx, hy, k.imm r rfl⟩
  · cases ev
def leD : G2 := fun x y μ => match x, y with
  | .int i, .int j => some (.bl (decide (i ≤ j)), μ)
  | .str a, .str b => some (.bl (!decide (b.cps.toList < a.cps.toList)), μ)
  | _, _ => none
theorem opd_le : OpD X cl (compareOp .LtE) leD := by
  intro ms F H μ x y dx dy d μ' Q r hx hy ev k
  unfold leD at ev
  split at ev
  · cases ev; exact ⟨_, op_le, _, _, hx, hy, k.imm r rfl⟩
  · cases ev; exact ⟨_, op_le_str, _, _, hx, hy, k.imm r rfl⟩
  · cases ev
def gtD : G2 := fun x y μ => match x, y with
  | .int i, .int j => some (.bl (decide (j < i)), μ)
  | _, _ => none
theorem opd_gt : OpD X cl (compareOp .Gt) gtD := by
  intro ms F H μ x y dx dy d μ' Q r hx hy ev k
  unfold gtD at ev
  split at ev
  · cases ev; exact ⟨_, op_gt, _, _, hx, hy, k.imm r rfl⟩
  · cases ev
def geD : G2 := fun x y μ => match x, y with
  | .int i, .int j => some (.bl (decide (j ≤ i)), μ)
  | _, _ => none
theorem opd_ge : OpD X cl (compareOp .GtE) geD := by
  intro ms F H μ x y dx dy d μ' Q r hx hy ev k
  unfold geD at ev
  split at ev
  · cases ev; exact ⟨_, op_ge, _, _, hx, hy, k.imm r rfl⟩
  · cases ev
/-- == and != -/
def eqP (x y : D) (μ : List MO) : Option Bool := match toPy μ DEEP x, toPy μ DEEP y with
  | some p, some q => if shp p = true ∧ shp q = true then some (PyData.eqv p q) else none
  | _, _ => none
def eqD : G2 := fun x y μ => match x, y with
  | .str a, .str b => some (.bl (decide (a = b)), μ)
  | x, y => match eqP x y μ with
    | some b => some (.bl b, μ)
    | none => none
def neD : G2 := fun x y μ => match x, y with
  | .str a, .str b => some (.bl (!decide (a = b)), μ)
  | x, y => match eqP x y μ with
    | some b => some (.bl (!b), μ)
    | none => none
theorem eqP_some {x y : D} {μ : List MO} {b : Bool} (h : eqP x y μ = some b) : ∃ p q, toPy μ DEEP x = some p ∧ toPy μ DEEP y = some q ∧ SeqAt.shaped p = true ∧ SeqAt.shaped q = true ∧ b = PyData.eqv p q := by
  unfold eqP at h
  split at h
  · rename_i p q e1 e2
    split at h
    · rename_i hz; cases h; exact ⟨p, q, e1, e2, hz.1, hz.2, rfl⟩
    · cases h
  · cases h
theorem opd_eq (hu : X.A.units + 64 < cLine) : OpD X cl (compareOp .Eq) eqD := by
  intro ms F H μ x y dx dy d μ' Q r hx hy ev k
  unfold eqD at ev
  split at ev
  · rename_i a b
    cases ev
    obtain rfl : x = .str a := hx
    obtain rfl : y = .str b := hy
    exact ⟨_, op_eq, rfl, by simpa using k.imm r (v := .bl _) rfl⟩
  · split at ev
    · rename_i b hb
      cases ev
      obtain ⟨p, q, e1, e2, s1, s2, rfl⟩ := eqP_some hb
      exact ⟨_, op_eqD hu, p, q, dp_of r _ _ _ _ e1 hx, dp_of r _ _ _ _ e2 hy, s1, s2, k.imm r rfl⟩
    · cases ev
theorem opd_ne (hu : X.A.units + 64 < cLine) : OpD X cl (compareOp .NotEq) neD := by
  intro ms F H μ x y dx dy d μ' Q r hx hy ev k
  unfold neD at ev
  split at ev
  · rename_i a b
    cases ev
    obtain rfl : x = .str a := hx
    obtain rfl : y = .str b := hy
    exact ⟨_, op_ne, rfl, by simpa using k.imm r (v := .bl _) rfl⟩
  · split at ev
    · rename_i b hb
      cases ev
      obtain ⟨p, q, e1, e2, s1, s2, rfl⟩ := eqP_some hb
      exact ⟨_, op_neD hu, p, q, dp_of r _ _ _ _ e1 hx, dp_of r _ _ _ _ e2 hy, s1, s2, k.imm r rfl⟩
    · cases ev
/-- one sign in a text; in a list or a tuple -/
def inP (x y : D) (μ : List MO) : Option Bool := match y with
  | .str z => match x with
    | .str w => match w.cps.toList with
      | [c] => some (decide (c ∈ z.cps.toList))
      | _ => none
    | _ => none
  | y => match toPy μ DEEP x, toPy μ DEEP y with
    | some p, some (.list ps) => if shp p = true ∧ shp (.list ps) = true then some (ps.any fun z => PyData.eqv z p) else none
    | _, _ => none
def inD : G2 := fun x y μ => match inP x y μ with
  | some b => some (.bl b, μ)
  | none => none
def ninD : G2 := fun x y μ => match inP x y μ with
  | some b => some (.bl (!b), μ)
  | none => none
theorem one_sign {w : Str} {c : Nat} (h : w.cps.toList = [c]) : w = ⟨#[c]⟩ := by
  obtain ⟨a⟩ := w
  have : a = #[c] := by
    apply Array.ext'
    simpa using h
  rw [this]
theorem inP_some {X : Cx} (hu : X.A.units + 65 < cLine) {ms : List Addr} {F H : Hp} {μ : List MO} {x y : V} {dx dy : D} {b : Bool} (r : HR (gm X cl) ms F H μ) (hx : Has (gm X cl) ms F x dx) (hy : Has (gm X cl) ms F y dy) (h : inP dx dy μ = some b) (Q : VK) :
    (Q (.bl b) H → ∃ r, OpR X (compareOp .In) r ∧ r x y H Q) ∧ (Q (.bl (!b)) H → ∃ r, OpR X (compareOp .NotIn) r ∧ r x y H Q) := by
  unfold inP at h
  split at h
  · split at h
    · split at h
      · rename_i c hc
        cases h
        rw [one_sign hc] at hx
        exact ⟨fun q => ⟨_, op_in_sign, c, _, hx, hy, q⟩, fun q => ⟨_, op_notIn_sign, c, _, hx, hy, q⟩⟩
      · cases h
    · cases h
  · split at h
    · rename_i p ps e1 e2
      split at h
      · rename_i hz
        cases h
        exact ⟨fun q => ⟨_, op_inD hu, p, ps, dp_of r _ _ _ _ e1 hx, dp_of r _ _ _ _ e2 hy, hz.1, hz.2, q⟩, fun q => ⟨_, op_notInD hu, p, ps, dp_of r _ _ _ _ e1 hx, dp_of r _ _ _ _ e2 hy, hz.1, hz.2, q⟩⟩
      · cases h
    · cases h
theorem opd_in (hu : X.A.units + 65 < cLine) : OpD X cl (compareOp .In) inD := by
  intro ms F H μ x y dx dy d μ' Q r hx hy ev k
  unfold inD at ev
  split at ev
  · rename_i b hb; cases ev; exact (inP_some hu r hx hy hb Q).1 (k.imm r rfl)
  · cases ev
theorem opd_nin (hu : X.A.units + 65 < cLine) : OpD X cl (compareOp .NotIn) ninD := by
  intro ms F H μ x y dx dy d μ' Q r hx hy ev k
  unfold ninD at ev
  split at ev
  · rename_i b hb; cases ev; exact (inP_some hu r hx hy hb Q).2 (k.imm r rfl)
  · cases ev
/-- is None -/
def isND : G2 := fun x y μ => match y with
  | .non => some (.bl (match x with | .non => true | _ => false), μ)
  | _ => none
/-! ### a chain of two comparisons -/
variable {a b c e : Expr} {fa fb fc : EF} {pos : Pos}
def eChain (g g' : G2) (fa fb fc : EF) : EF := eThen fa fun x => eThen fb fun y δ μ => match g x y μ with
  | some (.bl true, μ1) => eThen fc (fun z _ μ => g' y z μ) δ μ1
  | some (.bl false, μ1) => some (.bl false, μ1)
  | _ => none
end
end G

set_option Elab.async false
set_option linter.all false
set_option autoImplicit false
set_option maxRecDepth 100000
set_option maxHeartbeats 2000000
namespace G
open PySem PySem.Spec PySem.Calls L2
section
variable {X : Cx} {cl : Nat → Addr} {a b c e o i : Expr} {es : List Expr} {fe fa fb fc fo fi : EF} {pos p p1 p2 apos : Pos} {r : AF}
/-! ### chains -/
theorem chain_run {op op' : Value → Value → Sem Value} {g g' : G2} (ho : OpD X cl op g) (ho' : OpD X cl op' g') {σ : L2.St} {H : Hp} {Q : VK} (h : tE (gm X cl) (eChain g g' fa fb fc) σ H Q) :
    tChain (fun x y H Q => ∃ r, OpR X op r ∧ r x y H Q) (fun x y H Q => ∃ r, OpR X op' r ∧ r x y H Q) (tE (gm X cl) fa) (tE (gm X cl) fb) (tE (gm X cl) fc) σ H Q := by
  obtain ⟨O, ms, F, δ, μ, d, μ', R, ev, k⟩ := h
  obtain ⟨dx, μ1, e1, ev⟩ := eThen_some ev
  obtain ⟨dy, μ2, e2, ev⟩ := eThen_some ev
  refine tE.seq R e1 fun x H1 ms1 F1 R1 s1 q1 => tE.seq R1 e2 fun y H2 ms2 F2 R2 s2 q2 => ?_
  have s12 := s1.trans' R1.hr s2
  split at ev
  · rename_i μ3 eg
    refine ho ms2 F2 H2 μ2 x y dx dy _ μ3 _ R2.hr (q1.step s2) q2 eg fun v H3 ms3 F3 r3 s3 q3 => ⟨true, q3, ?_⟩
    rw [if_pos rfl]
    obtain ⟨dz, μ4, e4, ev⟩ := eThen_some ev
    have R3 := R2.step r3 s3
    refine tE.seq R3 e4 fun z H4 ms4 F4 R4 s4 q4 => ?_
    exact ho' ms4 F4 H4 μ4 y z dy dz d μ' Q R4.hr ((q2.step s3).step s4) q4 ev fun v H' ms' F' r s q => k v H' ms' F' r (((s12.trans' R2.hr s3).trans' r3 s4).trans' R4.hr s) q
  · rename_i μ3 eg
    cases ev
    refine ho ms2 F2 H2 μ2 x y dx dy _ _ _ R2.hr (q1.step s2) q2 eg fun v H3 ms3 F3 r3 s3 q3 => ⟨false, q3, ?_⟩
    rw [if_neg Bool.false_ne_true]
    exact k _ H3 ms3 F3 r3 (s12.trans' R2.hr s3) rfl
  · cases ev
theorem de_chain {op op' : CmpOp} {g g' : G2} (ho : OpD X cl (compareOp op) g) (ho' : OpD X cl (compareOp op') g') (ha : DE X cl a fa) (hb : DE X cl b fb) (hc : DE X cl c fc) (hm : lastMarks [op, op'] [b, c] = false := by with_unfolding_all rfl) :
    DE X cl (.Compare a [op, op'] [b, c] pos) (eChain g g' fa fb fc) := ⟨(pe_chain OpR.any OpR.any ha.p hb.p hc.p hm).weak fun σ H Q h => chain_run ho ho' h⟩
theorem dt_chain {op op' : CmpOp} {g g' : G2} (ho : OpD X cl (compareOp op) g) (ho' : OpD X cl (compareOp op') g') (ha : DE X cl a fa) (hb : DE X cl b fb) (hc : DE X cl c fc) (hm : lastMarks [op, op'] [b, c] = false := by with_unfolding_all rfl) :
    DT X cl (.Compare a [op, op'] [b, c] pos) (asB (eChain g g' fa fb fc)) := ⟨(pt_chain OpR.any OpR.any ha.p hb.p hc.p hm).weak fun σ H Q ⟨O, ms, F, δ, μ, d, μ', R, ev, k⟩ => 
    chain_run ho ho' ⟨O, ms, F, δ, μ, .bl d, μ', R, asB_some ev, fun v H' ms' F' r s q => ⟨d, q, k H' ms' F' r s⟩⟩⟩
/-! ### is None -/
def isNone : D → Bool
  | .non => true
  | _ => false
theorem has_non {Γ : Gm} {ms : List Addr} {F : Hp} {v : V} : ∀ {d : D}, Has Γ ms F v d → decide (v = .non) = isNone d
  | .non, h => by rw [show v = .non from h]; rfl
  | .bl b, h => by rw [show v = .bl b from h]; rfl
  | .int b, h => by rw [show v = .int b from h]; rfl
  | .str b, h => by rw [show v = .str b from h]; rfl
  | .ty b, h => by rw [show v = .ty b from h]; rfl
  | .lst _, ⟨_, _, h, _⟩ => by rw [h]; rfl
  | .tup _, ⟨_, _, h, _⟩ => by rw [h]; rfl
  | .dct _ _, ⟨_, _, h, _⟩ => by rw [h]; rfl
  | .ins _ _ _, ⟨_, _, _, h, _⟩ => by rw [h]; rfl
  | .mut _, ⟨_, h, _⟩ => by rw [h]; rfl
  | .scr _, ⟨_, h, _⟩ => by rw [h]; rfl
  | .exc _ _ _ _, ⟨_, _, _, _, h, _⟩ => by rw [h]; rfl
def eIsN (f : EF) : EF := eThen f fun d _ μ => some (.bl (isNone d), μ)
def eNotN (f : EF) : EF := eThen f fun d _ μ => some (.bl (!isNone d), μ)
theorem de_isN {j p'} (ha : DE X cl a fa) : DE X cl (.Compare a [.Is] [.Constant .none j p'] pos) (eIsN fa) := ⟨(pe_cmp (pc_isN ha.p)).weak fun σ H Q ⟨O, ms, F, δ, μ, d, μ', R, ev, k⟩ => by
  obtain ⟨d1, μ1, e1, ev⟩ := eThen_some ev
  cases ev
  refine tE.seq R e1 fun v H1 ms1 F1 R1 s1 q1 => ?_
  have := has_non q1
  rw [this]
  exact k _ H1 ms1 F1 R1.hr s1 rfl⟩
theorem de_notN {j p'} (ha : DE X cl a fa) : DE X cl (.Compare a [.IsNot] [.Constant .none j p'] pos) (eNotN fa) := ⟨(pe_cmp (pc_notN ha.p)).weak fun σ H Q ⟨O, ms, F, δ, μ, d, μ', R, ev, k⟩ => by
  obtain ⟨d1, μ1, e1, ev⟩ := eThen_some ev
  cases ev
  refine tE.seq R e1 fun v H1 ms1 F1 R1 s1 q1 => ?_
  have := has_non q1
  rw [this]
  exact k _ H1 ms1 F1 R1.hr s1 rfl⟩
/-! ### a test by truth -/
def truD (μ : List MO) : D → Option Bool
  | .non => some false
  | .bl b => some b
  | .int i => some (i != 0)
  | .str x => if x.length ≤ 1000000 then some ((x.length : Int) != 0) else none
  | .lst xs => some (!xs.isEmpty)
  | .tup xs => some (!xs.isEmpty)
  | .dct ks xs => some (!ks.isEmpty)
  | .mut k => match μ[k]? with
    | some (.lst xs) => some (!xs.isEmpty)
    | some (.dct ks xs) => some (!ks.isEmpty)
    | _ => none
  | _ => none
theorem HasL.isE {Γ : Gm} {ms : List Addr} {F : Hp} {vs : List V} {ds : List D} (h : HasL Γ ms F vs ds) : vs.isEmpty = ds.isEmpty := by
  cases ds with
  | nil => cases h; rfl
  | cons _ _ => obtain ⟨_, _, rfl, _⟩ := h; rfl
theorem zip_isE {α β : Type} {ks : List α} {xs : List β} (h : ks.length = xs.length) : (ks.zip xs).isEmpty = ks.isEmpty := by
  cases ks with
  | nil => rfl
  | cons _ _ => cases xs with
    | nil => simp at h
    | cons _ _ => rfl
theorem truD_ok {Γ : Gm} {ms : List Addr} {F H : Hp} {μ : List MO} {v : V} {d : D} {b : Bool} (r : HR Γ ms F H μ) (h : Has Γ ms F v d) (e : truD μ d = some b) : TruV Γ.K v H b := by
  unfold truD at e
  split at e
  · cases e; rw [show v = .non from h]; exact rfl
  · cases e; rw [show v = .bl b from h]; exact rfl
  · cases e; rename_i i; rw [show v = .int i from h]; exact rfl
  · split at e
    · rename_i x hz; cases e; rw [show v = .str x from h]; exact ⟨million hz, rfl⟩
    · cases e
  · cases e; obtain ⟨a, xs, rfl, hs, hl⟩ := h; exact .inl ⟨xs, SqL.of (r.sub _ _ hs), by rw [hl.isE]⟩
  · cases e; obtain ⟨a, xs, rfl, hs, hl⟩ := h; exact .inr (.inl ⟨xs, (Tp.same r.sub hs).sq, by rw [hl.isE]⟩)
  · cases e; obtain ⟨a, xs, rfl, hs, hn, hl⟩ := h; exact .inr (.inr ⟨_, r.sub _ _ hs, by rw [zip_isE hn]⟩)
  · split at e
    · rename_i k xs hk
      cases e
      obtain ⟨a, rfl, hm⟩ := h
      obtain ⟨a', ha', ys, hx, hl⟩ := r.obj _ _ hk
      rw [hm] at ha'; cases ha'
      exact .inl ⟨ys, SqL.of hx, by rw [hl.isE]⟩
    · rename_i k ks xs hk
      cases e
      obtain ⟨a, rfl, hm⟩ := h
      obtain ⟨a', ha', ys, hx, hn, hl⟩ := r.obj _ _ hk
      rw [hm] at ha'; cases ha'
      exact .inr (.inr ⟨_, hx, by rw [zip_isE hn]⟩)
    · cases e
  · cases e
def tTru (f : EF) : TF := eThen f fun d _ μ => match truD μ d with
  | some b => some (b, μ)
  | none => none
theorem dt_tru (h : DE X cl a fa) (he : ∀ whole, isTrue a X.env whole = (do let v ← whole; standAt a.pos; holding [v] (truthy v)) := by intro _; rfl) : DT X cl a (tTru fa) := ⟨(pt_truth h.p he).weak fun σ H Q ⟨O, ms, F, δ, μ, d, μ', R, ev, k⟩ => by
  obtain ⟨d1, μ1, e1, ev⟩ := eThen_some ev
  refine tE.seq R e1 fun v H1 ms1 F1 R1 s1 q1 => ?_
  split at ev
  · rename_i b hb; cases ev; exact ⟨_, truD_ok R1.hr q1 hb, k H1 ms1 F1 R1.hr s1⟩
  · cases ev⟩
/-! ### subscripts -/
theorem _root_.L2.IxR.any : IxR X (fun x y H Q => ∃ r, IxR X r ∧ r x y H Q) := by
  intro value slice pins s σ H x y v u Q I rx ry ⟨r, ho, h⟩ hs
  exact ho value slice pins s σ H x y v u Q I rx ry h hs
def ixD : G2 := fun x y μ => match y with
  | .int j => match x with
    | .str z => if z.length ≤ 1000000 then match atI z.cps.toList j with
      | some c => some (.str ⟨#[c]⟩, μ)
      | none => none else none
    | .scr ns => match atI ns j with
      | some n => some (.int n, μ)
      | none => none
    | x => match seqD μ x with
      | some (_, ds) => match atI ds j with
        | some d => some (d, μ)
        | none => none
      | none => none
  | _ => none
theorem HasL.atI {Γ : Gm} {ms : List Addr} {F : Hp} {vs : List V} {ds : List D} {j : Int} {d : D} (h : HasL Γ ms F vs ds) (e : L2.atI ds j = some d) : ∃ v, L2.atI vs j = some v ∧ Has Γ ms F v d := by
  unfold L2.atI at e ⊢
  rw [h.length]
  cases e1 : ixN ds.length j with
  | none => rw [e1] at e; cases e
  | some m =>
    rw [e1] at e
    exact h.get (i := m) e
theorem ixD_ok {ms : List Addr} {F H : Hp} {μ : List MO} {x y : V} {dx dy d : D} {μ' : List MO} {Q : VK} (r : HR (gm X cl) ms F H μ) (hx : Has (gm X cl) ms F x dx) (hy : Has (gm X cl) ms F y dy) (ev : ixD dx dy μ = some (d, μ')) (k : Fin1 (gm X cl) ms F H d μ' Q) : ∃ r, IxR X r ∧ r x y H Q := by
  unfold ixD at ev
  split at ev
  · rename_i j
    split at ev
    · split at ev
      · rename_i z hz
        split at ev
        · rename_i c hc
          cases ev
          exact ⟨_, ix_str, z, j, c, hx, hy, million hz, hc, k.imm r rfl⟩
        · cases ev
      · cases ev
    · split at ev
      · rename_i ns _ n hn
        cases ev
        obtain ⟨a, rfl, hs⟩ := hx
        refine ⟨_, ix_list, a, _, j, .int n, rfl, hy, hs.imp (fun h => ?_) (fun h => h), ?_, k.imm r rfl⟩
        · rcases h with h | ⟨o, h⟩
          · exact .inl (r.sub _ _ h)
          · exact .inr ⟨o, r.sub _ _ h⟩
        · unfold L2.atI at hn ⊢
          rw [List.length_map]
          cases e1 : ixN ns.length j with
          | none => rw [e1] at hn; cases hn
          | some m =>
            rw [e1] at hn
            have hn' : ns[m]? = some n := hn
            show (ns.map V.int)[m]? = some (V.int n)
            rw [List.getElem?_map, hn']; rfl
      · cases ev
    · split at ev
      · rename_i sk ds hq
        split at ev
        · rename_i d' hd
          cases ev
          obtain ⟨a, xs, rfl, hs, hl⟩ := seqD_ok r hx hq
          obtain ⟨v, hv, q⟩ := hl.atI hd
          cases sk with
          | l => exact ⟨_, ix_list, a, xs, j, v, rfl, hy, SqL.of hs, hv, k.imm r q⟩
          | t => exact ⟨_, ix_tup, a, xs, j, v, rfl, hy, hs.sq, hv, k.imm r q⟩
        · cases ev
      · cases ev
  · cases ev
theorem de_ix (ha : DE X cl a fa) (hb : DE X cl b fb) (hs : PlainIx b) : DE X cl (.Subscript a b pos) (eBin ixD fa fb) := ⟨(pe_ix IxR.any ha.p hb.p hs).weak fun σ H Q ⟨O, ms, F, δ, μ, d, μ', R, ev, k⟩ => by
  obtain ⟨dx, μ1, e1, ev⟩ := eThen_some ev
  obtain ⟨dy, μ2, e2, ev⟩ := eThen_some ev
  refine tE.seq R e1 fun x H1 ms1 F1 R1 s1 q1 => tE.seq R1 e2 fun y H2 ms2 F2 R2 s2 q2 => ?_
  exact ixD_ok R2.hr (q1.step s2) q2 ev (k.step R2.hr (s1.trans' R1.hr s2))⟩
/-- x[i], x's own list -/
def eIxO (i : Nat) (f : EF) : EF := fun δ μ => match f δ μ with
  | some (.int j, μ1) => match δ[i]? with
    | some (.own xs) => match atI xs j with
      | some d => some (d, μ1)
      | none => none
    | _ => none
  | _ => none
theorem de_ixO {i : Nat} (ha : PE X a (tVar i)) (hb : DE X cl b fb) (hs : PlainIx b) : DE X cl (.Subscript a b pos) (eIxO i fb) := ⟨(pe_ix ix_list ha hb.p hs).weak fun σ H Q ⟨O, ms, F, δ, μ, d, μ', R, ev, k⟩ => by
  unfold eIxO at ev
  split at ev
  · rename_i j μ1 e1
    split at ev
    · rename_i xs hd
      split at ev
      · rename_i d' ed
        cases ev
        obtain ⟨a', vs, ea, ha', hl, _⟩ := R.er.ok i _ hd
        refine ⟨_, ea, ?_⟩
        refine tE.seq R e1 fun y H1 ms1 F1 R1 s1 q1 => ?_
        obtain ⟨a2, vs2, ea2, ha2, hl2, _⟩ := R1.er.ok i _ hd
        rw [ea] at ea2; cases ea2
        obtain ⟨v, hv, q⟩ := hl2.atI ed
        exact ⟨a', vs2, j, v, rfl, q1, SqL.of ha2, hv, k v H1 ms1 F1 R1.hr s1 q⟩
      · cases ev
    · cases ev
  · cases ev⟩
/-! ### slices -/
abbrev PF := List SV → List MO → Option (Option Int × List MO)
def tP (Γ : Gm) (f : PF) : TO := fun σ H Q => ∃ O ms F δ μ d μ', SR Γ O ms F H σ δ μ ∧ f δ μ = some (d, μ') ∧ ∀ H' ms' F', HR Γ ms' F' H' μ' → Stp ms ms' F F' H H' → Q d H'
structure DP (X : Cx) (cl : Nat → Addr) (e : Option Expr) (f : PF) : Prop where
  p : PO X e (tP (gm X cl) f)
theorem _root_.L2.PO.weak {X : Cx} {e : Option Expr} {t t' : TO} (h : PO X e t) (k : ∀ σ H Q, t' σ H Q → t σ H Q) : PO X e t' := ⟨fun pins s σ H Q I q => h.run pins s σ H Q I (k σ H Q q)⟩
def pNo : PF := fun _ μ => some (none, μ)
def pSo (f : EF) : PF := eThen f fun d _ μ => match d with
  | .int i => some (some i, μ)
  | _ => none
theorem dp_no : DP X cl none pNo := ⟨po_none.weak fun σ H Q ⟨O, ms, F, δ, μ, d, μ', R, ev, k⟩ => by cases ev; exact k H ms F R.hr (Stp.refl _ _ _)⟩
theorem dp_so (h : DE X cl e fe) : DP X cl (some e) (pSo fe) := ⟨(po_some h.p).weak fun σ H Q ⟨O, ms, F, δ, μ, d, μ', R, ev, k⟩ => by
  obtain ⟨d1, μ1, e1, ev⟩ := eThen_some ev
  refine tE.seq R e1 fun v H1 ms1 F1 R1 s1 q1 => ?_
  split at ev
  · cases ev; exact ⟨_, q1, k H1 ms1 F1 R1.hr s1⟩
  · cases ev⟩
theorem tP.seq {f : PF} {Γ : Gm} {O : Og} {ms : List Addr} {F H : Hp} {σ : L2.St} {δ : List SV} {μ μ1 : List MO} {d : Option Int} {Q : Option Int → Hp → Prop} (R : SR Γ O ms F H σ δ μ) (e : f δ μ = some (d, μ1))
    (k : ∀ H1 ms1 F1, SR Γ O ms1 F1 H1 σ δ μ1 → Stp ms ms1 F F1 H H1 → Q d H1) : tP Γ f σ H Q := ⟨O, ms, F, δ, μ, d, μ1, R, e, fun H1 ms1 F1 r s => k H1 ms1 F1 (R.step r s) s⟩
def cutL (xs : List D) (lo hi : Option Int) : List D := (xs.drop (HT.sIx xs.length 0 lo)).take (HT.sIx xs.length xs.length hi - HT.sIx xs.length 0 lo)
/-- a text's slice -/
def eSlS (f : EF) (lo hi : PF) : EF := eThen f fun x δ μ => match x with
  | .str z => if z.length ≤ 1000000 then match lo δ μ with
    | some (l, μ1) => match hi δ μ1 with
      | some (h, μ2) => some (.str (cutS z l h), μ2)
      | none => none
    | none => none else none
  | _ => none
theorem de_slS {lo hi : Option Expr} {fl fh : PF} (ha : DE X cl a fa) (hl : DP X cl lo fl) (hh : DP X cl hi fh) : DE X cl (.Subscript a (.Slice lo hi none p2) pos) (eSlS fa fl fh) := ⟨(pe_slice sl_str ha.p hl.p hh.p).weak fun σ H Q ⟨O, ms, F, δ, μ, d, μ', R, ev, k⟩ => by
  obtain ⟨d1, μ1, e1, ev⟩ := eThen_some ev
  refine tE.seq R e1 fun v H1 ms1 F1 R1 s1 q1 => ?_
  split at ev
  · split at ev
    · rename_i z hz
      split at ev
      · rename_i l μ2 el
        split at ev
        · rename_i h μ3 eh
          cases ev
          refine tP.seq R1 el fun H2 ms2 F2 R2 s2 => tP.seq R2 eh fun H3 ms3 F3 R3 s3 => ?_
          exact ⟨z, q1, million hz, k _ H3 ms3 F3 R3.hr ((s1.trans' R1.hr s2).trans' R2.hr s3) rfl⟩
        · cases ev
      · cases ev
    · cases ev
  · cases ev⟩
theorem HasL.cut {Γ : Gm} {ms : List Addr} {F : Hp} {vs : List V} {ds : List D} (h : HasL Γ ms F vs ds) (lo hi : Option Int) : HasL Γ ms F (cutV vs lo hi) (cutL ds lo hi) := by
  unfold cutV cutL
  rw [h.length]
  exact (h.drop _).take _
/-- a list's slice: a new list -/
def nSl (f : EF) (lo hi : PF) : NF := eThen f fun x δ μ => match lo δ μ with
  | some (l, μ1) => match hi δ μ1 with
    | some (h, μ2) => match seqD μ2 x with
      | some (.l, ds) => some (cutL ds l h, μ2)
      | _ => none
    | none => none
  | none => none
theorem dn_sl {lo hi : Option Expr} {fl fh : PF} (ha : DE X cl a fa) (hl : DP X cl lo fl) (hh : DP X cl hi fh) : DN X cl (.Subscript a (.Slice lo hi none p2) pos) (nSl fa fl fh) := ⟨(pe_slice sl_list ha.p hl.p hh.p).weak fun σ H Q ⟨O, ms, F, δ, μ, d, μ', R, ev, k⟩ => by
  obtain ⟨d1, μ1, e1, ev⟩ := eThen_some ev
  refine tE.seq R e1 fun v H1 ms1 F1 R1 s1 q1 => ?_
  split at ev
  · rename_i l μ2 el
    split at ev
    · rename_i h μ3 eh
      split at ev
      · rename_i ds hq
        cases ev
        refine tP.seq R1 el fun H2 ms2 F2 R2 s2 => tP.seq R2 eh fun H3 ms3 F3 R3 s3 => ?_
        obtain ⟨a', xs, rfl, hs, hl'⟩ := seqD_ok R3.hr ((q1.step s2).step s3) hq
        have s13 := (s1.trans' R1.hr s2).trans' R2.hr s3
        exact ⟨a', xs, rfl, SqL.of hs, fun p hp => (k.step' R3.hr s13).here R3.hr (hl'.cut l h) hp⟩
      · cases ev
    · cases ev
  · cases ev⟩
end
end G

set_option Elab.async false
set_option linter.all false
set_option autoImplicit false
set_option maxRecDepth 100000
set_option maxHeartbeats 2000000
namespace G
open PySem PySem.Spec PySem.Calls L2
section
variable {X : Cx} {cl : Nat → Addr} {a b c e o i : Expr} {es : List Expr} {fe fa fb fc fo fi : EF} {pos p p1 p2 apos : Pos} {r : AF}
abbrev G1 := List D → List MO → Option (D × List MO)
/-! ### len -/
def lenD : G1 := fun ds μ => match ds with
  | [x] => match x with
    | .str z => if z.length ≤ 1000000 then some (.int z.length, μ) else none
    | .scr ns => some (.int ns.length, μ)
    | x => match seqD μ x with
      | some (_, xs) => some (.int xs.length, μ)
      | none => none
  | _ => none
theorem cd_len : CallD X cl (.builtin "len") lenD := by
  intro ms F H μ vs ds d μ' Q r hv ev k
  unfold lenD at ev
  split at ev
  · rename_i x
    obtain ⟨v, rfl, h⟩ := hv.one'
    split at ev
    · split at ev
      · rename_i z hz; cases ev; exact ⟨_, call_len_str, z, by rw [show v = .str z from h], million hz, k.imm r rfl⟩
      · cases ev
    · rename_i ns
      cases ev
      obtain ⟨a, rfl, hs⟩ := h
      refine ⟨_, call_len_seq, a, _, rfl, .inl (hs.imp (fun h => ?_) fun h => h), by rw [List.length_map]; exact k.imm r rfl⟩
      rcases h with h | ⟨o, h⟩
      · exact .inl (r.sub _ _ h)
      · exact .inr ⟨o, r.sub _ _ h⟩
    · split at ev
      · rename_i sk xs hq
        cases ev
        obtain ⟨a, ys, rfl, hs, hl⟩ := seqD_ok r h hq
        exact ⟨_, call_len_seq, a, ys, rfl, hs.or, by rw [hl.length]; exact k.imm r rfl⟩
      · cases ev
  · cases ev
def lenQ : SK × List D → List MO → Option (D × List MO) := fun dq μ => some (.int dq.2.length, μ)
theorem cq_len : CallQ X cl (.builtin "len") lenQ := by
  intro ms F H μ a xs dq d μ' Q r hs hl ev k
  cases ev
  exact ⟨_, call_len_seq, a, xs, rfl, hs.or, by rw [hl.length]; exact k.imm r rfl⟩
/-! ### numbers -/
def maxD : G1 := fun ds μ => match ds with
  | [.int i, .int j] => some (.int (if j > i then j else i), μ)
  | _ => none
theorem cd_max (hc : X.calm = true) : CallD X cl (.builtin "max") maxD := by
  intro ms F H μ vs ds d μ' Q r hv ev k
  unfold maxD at ev
  split at ev
  · cases ev; obtain ⟨v, w, rfl, h1, h2⟩ := hv.two'; exact ⟨_, call_max2 hc, _, _, by rw [h1, h2], k.imm r rfl⟩
  · cases ev
def minD : G1 := fun ds μ => match ds with
  | [.int i, .int j] => some (.int (if j < i then j else i), μ)
  | _ => none
theorem cd_min (hc : X.calm = true) : CallD X cl (.builtin "min") minD := by
  intro ms F H μ vs ds d μ' Q r hv ev k
  unfold minD at ev
  split at ev
  · cases ev; obtain ⟨v, w, rfl, h1, h2⟩ := hv.two'; exact ⟨_, call_min2 hc, _, _, by rw [h1, h2], k.imm r rfl⟩
  · cases ev
def absD : G1 := fun ds μ => match ds with
  | [.int i] => some (.int (if i < 0 then -i else i), μ)
  | _ => none
theorem cd_abs : CallD X cl (.builtin "abs") absD := by
  intro ms F H μ vs ds d μ' Q r hv ev k
  unfold absD at ev
  split at ev
  · cases ev; obtain ⟨v, rfl, h⟩ := hv.one'; exact ⟨_, call_abs, _, by rw [h], k.imm r rfl⟩
  · cases ev
def intD : G1 := fun ds μ => match ds with
  | [.int i] => some (.int i, μ)
  | [.bl b] => some (.int (if b then 1 else 0), μ)
  | _ => none
theorem cd_int : CallD X cl (.type "int") intD := by
  intro ms F H μ vs ds d μ' Q r hv ev k
  unfold intD at ev
  split at ev
  · cases ev; obtain ⟨v, rfl, h⟩ := hv.one'; exact ⟨_, call_int1, .inl ⟨_, by rw [h], k.imm r rfl⟩⟩
  · cases ev; obtain ⟨v, rfl, h⟩ := hv.one'; exact ⟨_, call_int1, .inr ⟨_, by rw [h], k.imm r rfl⟩⟩
  · cases ev
def strD : G1 := fun ds μ => match ds with
  | [.int i] => if i.natAbs.log2 < 1920 then some (.str (toString i), μ) else none
  | _ => none
theorem cd_str : CallD X cl (.type "str") strD := by
  intro ms F H μ vs ds d μ' Q r hv ev k
  unfold strD at ev
  split at ev
  · split at ev
    · rename_i i hz; cases ev; obtain ⟨v, rfl, h⟩ := hv.one'; exact ⟨_, call_str_int, _, by rw [h], hz, k.imm r rfl⟩
    · cases ev
  · cases ev
def ordD : G1 := fun ds μ => match ds with
  | [.str x] => if x.length = 1 then some (.int (x.cps.getD 0 0 : Nat), μ) else none
  | _ => none
theorem cd_ord : CallD X cl (.builtin "ord") ordD := by
  intro ms F H μ vs ds d μ' Q r hv ev k
  unfold ordD at ev
  split at ev
  · split at ev
    · rename_i i hz; cases ev; obtain ⟨v, rfl, h⟩ := hv.one'; exact ⟨_, call_ord, _, by rw [h], hz, k.imm r rfl⟩
    · cases ev
  · cases ev
/-! ### all, any of truths -/
def blsD : List D → Option (List Bool)
  | [] => some []
  | .bl b :: ds => match blsD ds with
    | some bs => some (b :: bs)
    | none => none
  | _ => none
theorem blsD_ok {Γ : Gm} {ms : List Addr} {F : Hp} : ∀ {ds : List D} {bs : List Bool} {vs : List V}, blsD ds = some bs → HasL Γ ms F vs ds → vs = bs.map V.bl
  | [], bs, vs, e, h => by cases e; cases h; rfl
  | d :: ds, bs, vs, e, ⟨w, ws, hv, h1, h2⟩ => by
    subst hv
    cases d with
    | bl b =>
      unfold blsD at e
      split at e
      · rename_i bs' e'
        cases e
        rw [show w = .bl b from h1, blsD_ok e' h2]; rfl
      · cases e
    | _ => cases e
def allD : G1 := fun ds μ => match ds with
  | [.lst xs] => match blsD xs with
    | some bs => some (.bl (bs.all id), μ)
    | none => none
  | _ => none
theorem cd_all (hc : X.calm = true) : CallD X cl (.builtin "all") allD := by
  intro ms F H μ vs ds d μ' Q r hv ev k
  unfold allD at ev
  split at ev
  · split at ev
    · rename_i xs bs hb
      cases ev
      obtain ⟨v, rfl, a, ys, rfl, hs, hl⟩ := hv.one'
      exact ⟨_, cr_all hc, a, bs, rfl, by rw [← blsD_ok hb hl]; exact SqL.of (r.sub _ _ hs), k.imm r rfl⟩
    · cases ev
  · cases ev
def anyD : G1 := fun ds μ => match ds with
  | [.lst xs] => match blsD xs with
    | some bs => some (.bl (bs.any id), μ)
    | none => none
  | _ => none
theorem cd_any (hc : X.calm = true) : CallD X cl (.builtin "any") anyD := by
  intro ms F H μ vs ds d μ' Q r hv ev k
  unfold anyD at ev
  split at ev
  · split at ev
    · rename_i xs bs hb
      cases ev
      obtain ⟨v, rfl, a, ys, rfl, hs, hl⟩ := hv.one'
      exact ⟨_, cr_any hc, a, bs, rfl, by rw [← blsD_ok hb hl]; exact SqL.of (r.sub _ _ hs), k.imm r rfl⟩
    · cases ev
  · cases ev
/-! ### isinstance by built-in types -/
def typeD (μ : List MO) : D → Option String
  | .non => some "NoneType"
  | .bl _ => some "bool"
  | .int _ => some "int"
  | .str _ => some "str"
  | .lst _ => some "list"
  | .tup _ => some "tuple"
  | .dct _ _ => some "dict"
  | .mut k => match μ[k]? with
    | some (.lst _) => some "list"
    | some (.dct _ _) => some "dict"
    | _ => none
  | _ => none
theorem typeD_ok {Γ : Gm} {ms : List Addr} {F H : Hp} {μ : List MO} {v : V} {d : D} {n : String} (r : HR Γ ms F H μ) (h : Has Γ ms F v d) (e : typeD μ d = some n) : TyX Γ.K H v (.type n) := by
  unfold typeD at e
  split at e
  · cases e; rw [show v = .non from h]; exact .base .non
  · cases e; rename_i b; rw [show v = .bl b from h]; exact .base (.bl b)
  · cases e; rename_i b; rw [show v = .int b from h]; exact .base (.int b)
  · cases e; rename_i b; rw [show v = .str b from h]; exact .base (.str b)
  · cases e; obtain ⟨a, xs, rfl, hs, hl⟩ := h; exact .base (.lst (r.sub _ _ hs))
  · cases e; obtain ⟨a, xs, rfl, hs, hl⟩ := h
    rcases hs with hs | ⟨o, its, n, hk, hc, _⟩
    · exact .base (.tup (r.sub _ _ hs))
    · exact .kTuple hk hc
  · cases e; obtain ⟨a, xs, rfl, hs, hn, hl⟩ := h; exact .base (.dK (r.sub _ _ hs))
  · split at e
    · rename_i k xs hk
      cases e
      obtain ⟨a, rfl, hm⟩ := h
      obtain ⟨a', ha', ys, hx, hl⟩ := r.obj _ _ hk
      rw [hm] at ha'; cases ha'
      exact .base (.lst hx)
    · rename_i k ks xs hk
      cases e
      obtain ⟨a, rfl, hm⟩ := h
      obtain ⟨a', ha', ys, hx, hn, hl⟩ := r.obj _ _ hk
      rw [hm] at ha'; cases ha'
      exact .base (.dK hx)
    · cases e
  · cases e
def isiAny (n : String) : List D → Option Bool
  | [] => some false
  | .ty T :: r => match kitB n T with
    | some true => some true
    | some false => isiAny n r
    | none => none
  | _ => none
def isiD : G1 := fun ds μ => match ds with
  | [x, .ty T] => match typeD μ x with
    | some n => match kitB n T with
      | some b => some (.bl b, μ)
      | none => none
    | none => none
  | [x, .tup ts] => match typeD μ x with
    | some n => match isiAny n ts with
      | some b => some (.bl b, μ)
      | none => none
    | none => none
  | _ => none
end
end G

set_option Elab.async false
set_option linter.all false
set_option autoImplicit false
set_option maxRecDepth 100000
set_option maxHeartbeats 2000000
namespace G
open PySem PySem.Spec PySem.Calls L2
section
variable {X : Cx} {cl : Nat → Addr} {a b c e o i : Expr} {es : List Expr} {fe fa fb fc fo fi : EF} {pos p p1 p2 apos cpos : Pos} {r : AF}
def tysD : List D → Option (List String)
  | [] => some []
  | .ty T :: ds => match tysD ds with
    | some Ts => some (T :: Ts)
    | none => none
  | _ => none
theorem tysD_ok {Γ : Gm} {ms : List Addr} {F : Hp} : ∀ {ds : List D} {Ts : List String} {vs : List V}, tysD ds = some Ts → HasL Γ ms F vs ds → vs = Ts.map V.ty
  | [], bs, vs, e, h => by cases e; cases h; rfl
  | d :: ds, bs, vs, e, ⟨w, ws, hv, h1, h2⟩ => by
    subst hv
    cases d with
    | ty b =>
      unfold tysD at e
      split at e
      · rename_i bs' e'
        cases e
        rw [show w = .ty b from h1, tysD_ok e' h2]; rfl
      · cases e
    | _ => cases e
def kitAnyB (n : String) : List String → Option Bool
  | [] => some false
  | T :: r => match kitB n T with
    | some true => some true
    | some false => kitAnyB n r
    | none => none
theorem kitAnyB_ok {K : PySem.W.Frag} {n : String} : ∀ {Ts : List String} {b : Bool}, kitAnyB n Ts = some b → PySem.W.kitAny K (.type n) (Ts.map Value.type) = some b
  | [], b, h => by cases h; rfl
  | T :: Ts, b, h => by
    unfold kitAnyB at h
    show PySem.W.kitAny K (.type n) (Value.type T :: Ts.map Value.type) = some b
    unfold PySem.W.kitAny
    split at h
    · rename_i hk; cases h; rw [kit_ty hk]
    · rename_i hk; rw [kit_ty hk]; exact kitAnyB_ok h
    · cases h
theorem pairTy : ∀ Ts : List String, Paired ClsV (Ts.map V.ty) (Ts.map Value.type)
  | [] => .nil
  | T :: Ts => .cons (.ty T) (pairTy Ts)
def isiP (μ : List MO) (x t : D) : Option Bool := match typeD μ x with
  | none => none
  | some n => match t with
    | .ty T => kitB n T
    | .tup ts => match tysD ts with
      | some Ts => kitAnyB n Ts
      | none => none
    | _ => none
def isiG : G1 := fun ds μ => match ds with
  | [x, t] => match isiP μ x t with
    | some b => some (.bl b, μ)
    | none => none
  | _ => none
theorem cd_isi (noK : ∀ (a : Addr) (xs : List V) (H : Hp), True) : CallD X cl (.builtin "isinstance") isiG := by
  intro ms F H μ vs ds d μ' Q r hv ev k
  unfold isiG at ev
  split at ev
  · rename_i x t
    split at ev
    · rename_i b hb
      cases ev
      obtain ⟨v, w, rfl, hx, ht⟩ := hv.two'
      unfold isiP at hb
      split at hb
      · cases hb
      · rename_i n hn
        have ty := typeD_ok r hx hn
        split at hb
        · rename_i T
          rw [show w = .ty T from ht]
          exact ⟨_, call_isi, v, .ty T, .type n, .type T, b, rfl, .ty T, ty, kit_ty hb, k.imm r rfl⟩
        · rename_i ts
          split at hb
          · rename_i Ts hT
            obtain ⟨tp, xs, rfl, hs, hl⟩ := ht
            have e := tysD_ok hT hl
            subst e
            rcases hs with hs | ⟨ob, its, m, hk, hc, hd, hz, rv⟩
            · exact ⟨_, call_isiT, v, tp, _, .type n, _, b, rfl, r.sub _ _ hs, pairTy Ts, ty, kitAnyB_ok hb, k.imm r rfl⟩
            · have e2 := ClsV.all (pairTy Ts) rv
              obtain ⟨oc, od, dt, sl⟩ := ob
              dsimp only at hc hd
              subst hc; subst hd
              refine ⟨_, call_isiK, v, tp, od, Ts.map Value.type, m, sl, .type n, b, rfl, ?_, ty, kitAnyB_ok hb, k.imm r rfl⟩
              rw [hk, ← e2]
          · cases hb
        · cases hb
    · cases ev
  · cases ev
/-! ### methods of built-in values -/
def tyB (T : String) (μ : List MO) : D → Bool
  | .str _ => T == "str"
  | .lst _ => T == "list"
  | .dct _ _ => T == "dict"
  | .mut k => match μ[k]? with
    | some (.lst _) => T == "list"
    | some (.dct _ _) => T == "dict"
    | _ => false
  | _ => false
theorem tyB_ok {Γ : Gm} {ms : List Addr} {F H : Hp} {μ : List MO} {v : V} {d : D} {T : String} (r : HR Γ ms F H μ) (h : Has Γ ms F v d) (e : tyB T μ d = true) : tyV Γ.K T v H := by
  unfold tyB at e
  split at e
  · rename_i x; rw [show v = .str x from h]; exact (beq_iff_eq.mp e)
  · obtain ⟨a, xs, rfl, hs, hl⟩ := h; exact .inl ⟨beq_iff_eq.mp e, xs, SqL.of (r.sub _ _ hs)⟩
  · obtain ⟨a, xs, rfl, hs, hn, hl⟩ := h; exact .inr (.inr (.inl ⟨beq_iff_eq.mp e, .inl ⟨_, r.sub _ _ hs⟩⟩))
  · obtain ⟨a, rfl, hm⟩ := h
    split at e
    · rename_i xs hk
      obtain ⟨a', ha', ys, hx, hl⟩ := r.obj _ _ hk
      rw [hm] at ha'; cases ha'
      exact .inl ⟨beq_iff_eq.mp e, ys, SqL.of hx⟩
    · rename_i ks xs hk
      obtain ⟨a', ha', ys, hx, hn, hl⟩ := r.obj _ _ hk
      rw [hm] at ha'; cases ha'
      exact .inr (.inr (.inl ⟨beq_iff_eq.mp e, .inl ⟨_, hx⟩⟩))
    · cases e
  · cases e
theorem _root_.L2.MtR.any' {id : String} : MtR X id (fun x vs H Q => ∃ r, MtR X id r ∧ r x vs H Q) := by
  intro pins s σ H x vs v us Q I rx rv ⟨rr, ho, h⟩
  exact ho pins s σ H x vs v us Q I rx rv h
def MtD (X : Cx) (cl : Nat → Addr) (id : String) (g : D → G1) : Prop :=
  ∀ ms F H μ x vs dx ds d μ' Q, HR (gm X cl) ms F H μ → Has (gm X cl) ms F x dx → HasL (gm X cl) ms F vs ds → g dx ds μ = some (d, μ') → Fin1 (gm X cl) ms F H d μ' Q → ∃ r, MtR X id r ∧ r x vs H Q
def eMt (T : String) (g : D → G1) (fo : EF) (r : AF) : EF := eThen fo fun x δ μ => if tyB T μ x = true then aThen r (fun ds _ μ => g x ds μ) δ μ else none
theorem de_bm {name : Str} {T id : String} {g : D → G1} (pa : PlainAttrs T) (slot : Slot T name id) (hty : typeOf (.builtin id) = pure (.type "method_descriptor")) (hm : MtD X cl id g) (ho : DE X cl o fo) (ha : DA X cl (e :: es) r)
    (hbase : attributeBase o name X.env (eval o X.env) = eval o X.env := by rfl)
    (hfew : ((backTo cpos (starEach (e :: es) X.env)).all (fun x => !x.1) && (backToKw cpos (keywordEach [] X.env)).all (fun x => x.1.isSome)
      && decide ((e :: es).length + ([] : List Keyword).length + (if ([] : List Keyword).isEmpty then 0 else 1) < 30)) = true := by rfl)
    (hline : (apos.endLine == cpos.line) = true := by rfl) (hs : starEach (e :: es) X.env = (false, eval e X.env) :: starEach es X.env := by rfl) (hplain : (backTo cpos (starEach es X.env)).any (·.1) = false := by rfl) :
    DE X cl (.Call (.Attribute o name apos) (e :: es) [] cpos) (eMt T g fo r) := ⟨(pe_bm pa slot hty MtR.any' ho.p ha.p hbase hfew hline hs hplain).weak fun σ H Q ⟨O, ms, F, δ, μ, d, μ', R, ev, k⟩ => by
  obtain ⟨dx, μ1, e1, ev⟩ := eThen_some ev
  split at ev
  · rename_i ht
    refine tE.seq R e1 fun x H1 ms1 F1 R1 s1 q1 => ⟨tyB_ok R1.hr q1 ht, ?_⟩
    obtain ⟨ds, μ2, e2, ev⟩ := aThen_some ev
    refine tA.seq R1 e2 fun vs H2 ms2 F2 R2 s2 q2 => ?_
    exact hm ms2 F2 H2 μ2 x vs dx ds d μ' Q R2.hr (q1.step s2) q2 ev (k.step R2.hr (s1.trans' R1.hr s2))
  · cases ev⟩
theorem de_bm0 {name : Str} {T id : String} {g : D → G1} (pa : PlainAttrs T) (slot : Slot T name id) (hty : typeOf (.builtin id) = pure (.type "method_descriptor")) (hm : MtD X cl id g) (ho : DE X cl o fo)
    (hbase : attributeBase o name X.env (eval o X.env) = eval o X.env := by rfl) (hline : (apos.endLine == cpos.line) = true := by rfl) : DE X cl (.Call (.Attribute o name apos) [] [] cpos) (eMt T g fo aNil) := ⟨(pe_bm0 pa slot hty MtR.any' ho.p hbase hline).weak fun σ H Q ⟨O, ms, F, δ, μ, d, μ', R, ev, k⟩ => by
  obtain ⟨dx, μ1, e1, ev⟩ := eThen_some ev
  split at ev
  · rename_i ht
    refine tE.seq R e1 fun x H1 ms1 F1 R1 s1 q1 => ⟨tyB_ok R1.hr q1 ht, ?_⟩
    exact hm ms1 F1 H1 μ1 x [] dx [] d μ' Q R1.hr q1 rfl ev (k.step R1.hr s1)
  · cases ev⟩
def strsD : List D → Option (List Str)
  | [] => some []
  | .str T :: ds => match strsD ds with
    | some Ts => some (T :: Ts)
    | none => none
  | _ => none
theorem strsD_ok {Γ : Gm} {ms : List Addr} {F : Hp} : ∀ {ds : List D} {Ts : List Str} {vs : List V}, strsD ds = some Ts → HasL Γ ms F vs ds → vs = Ts.map V.str
  | [], bs, vs, e, h => by cases e; cases h; rfl
  | d :: ds, bs, vs, e, ⟨w, ws, hv, h1, h2⟩ => by
    subst hv
    cases d with
    | str b =>
      unfold strsD at e
      split at e
      · rename_i bs' e'
        cases e
        rw [show w = .str b from h1, strsD_ok e' h2]; rfl
      · cases e
    | _ => cases e
def joinD : D → G1 := fun x ds μ => match x, ds with
  | .str s, [y] => match seqD μ y with
    | some (_, ys) => match strsD ys with
      | some zs => if (zs.map (·.length)).sum + zs.length * s.length ≤ 1000000 then some (.str (Txt.join s zs), μ) else none
      | none => none
    | none => none
  | _, _ => none
theorem md_join : MtD X cl "str.join" joinD := by
  intro ms F H μ x vs dx ds d μ' Q r hx hv ev k
  unfold joinD at ev
  split at ev
  · rename_i s y
    split at ev
    · rename_i sk ys hq
      split at ev
      · rename_i zs hz
        split at ev
        · rename_i hl
          cases ev
          obtain ⟨v, rfl, hy⟩ := hv.one'
          obtain ⟨a, xs, rfl, hs, hl'⟩ := seqD_ok r hy hq
          have e := strsD_ok hz hl'
          subst e
          exact ⟨_, mt_join, s, a, zs, hx, rfl, hs.or, by omega, k.imm r rfl⟩
        · cases ev
      · cases ev
    · cases ev
  · cases ev
theorem mut_lst {Γ : Gm} {ms : List Addr} {F H : Hp} {μ : List MO} {k : Nat} {v : V} {xs : List D} (r : HR Γ ms F H μ) (h : Has Γ ms F v (.mut k)) (e : μ[k]? = some (.lst xs)) : ∃ a vs, v = .ref a ∧ ms[k]? = some a ∧ H a = some (.lst vs) ∧ HasL Γ ms F vs xs := by
  obtain ⟨a, rfl, hm⟩ := h
  obtain ⟨a', ha', ys, hx, hl⟩ := r.obj _ _ e
  rw [hm] at ha'; cases ha'
  exact ⟨a, ys, rfl, hm, hx, hl⟩
theorem Fin1.wr {Γ : Gm} {ms : List Addr} {F H : Hp} {d : D} {μ : List MO} {Q : VK} {k : Nat} {a : Addr} {vs : List V} {xs : List D} (kk : Fin1 Γ ms F H d (μ.set k (.lst xs)) Q) (r : HR Γ ms F H μ) (ha : ms[k]? = some a) (hl : HasL Γ ms F vs xs) {v : V} (h : Has Γ ms F v d) : Q v (upd H a (.lst vs)) := by
  obtain ⟨r', s⟩ := r.write ha (u := .lst xs) (o := .lst vs) ⟨vs, upd_same, hl⟩
  exact kk v _ ms F r' s h
def appendD : D → G1 := fun x ds μ => match x, ds with
  | .mut k, [d] => match μ[k]? with
    | some (.lst xs) => if xs.length < 1000000 then some (.non, μ.set k (.lst (xs ++ [d]))) else none
    | _ => none
  | _, _ => none
theorem md_append : MtD X cl "list.append" appendD := by
  intro ms F H μ x vs dx ds d μ' Q r hx hv ev k
  unfold appendD at ev
  split at ev
  · rename_i j dd
    split at ev
    · rename_i xs hk
      split at ev
      · rename_i hz
        cases ev
        obtain ⟨v, rfl, hy⟩ := hv.one'
        obtain ⟨a, ws, rfl, hm, ha, hl⟩ := mut_lst r hx hk
        exact ⟨_, mt_append, a, ws, v, rfl, rfl, ha, by rw [hl.length, sizeLine_eq]; omega, k.wr r hm (hl.append (HasL.one hy)) rfl⟩
      · cases ev
    · cases ev
  · cases ev
def reverseD : D → G1 := fun x ds μ => match x, ds with
  | .mut k, [] => match μ[k]? with
    | some (.lst xs) => some (.non, μ.set k (.lst xs.reverse))
    | _ => none
  | _, _ => none
theorem md_reverse : MtD X cl "list.reverse" reverseD := by
  intro ms F H μ x vs dx ds d μ' Q r hx hv ev k
  unfold reverseD at ev
  split at ev
  · split at ev
    · rename_i xs hk
      cases ev
      cases hv
      obtain ⟨a, ws, rfl, hm, ha, hl⟩ := mut_lst r hx hk
      exact ⟨_, mt_reverse, a, ws, rfl, rfl, ha, k.wr r hm hl.rev rfl⟩
    · cases ev
  · cases ev
def clearD : D → G1 := fun x ds μ => match x, ds with
  | .mut k, [] => match μ[k]? with
    | some (.lst xs) => some (.non, μ.set k (.lst []))
    | _ => none
  | _, _ => none
theorem md_clear : MtD X cl "list.clear" clearD := by
  intro ms F H μ x vs dx ds d μ' Q r hx hv ev k
  unfold clearD at ev
  split at ev
  · split at ev
    · rename_i xs hk
      cases ev
      cases hv
      obtain ⟨a, ws, rfl, hm, ha, hl⟩ := mut_lst r hx hk
      exact ⟨_, mt_clear, a, ws, rfl, rfl, ha, k.wr r hm rfl rfl⟩
    · cases ev
  · cases ev
/-! ### o[i] = e -/
def bSt (fe fo fi : EF) : BF := fun δ μ => match fe δ μ with
  | some (d, μ1) => match fo δ μ1 with
    | some (.mut k, μ2) => match fi δ μ2 with
      | some (.int j, μ3) => match μ3[k]? with
        | some (.lst xs) => match ixN xs.length j with
          | some m => some (.nx δ (μ3.set k (.lst (xs.set m d))))
          | none => none
        | _ => none
      | _ => none
    | _ => none
  | none => none
theorem ds_st {sp : Pos} (he : DE X cl e fe) (ho : DE X cl o fo) (hi : DE X cl i fi) (hs : swapsWithSole [.Subscript o i sp] e pos.line X.env = pure false := by rfl) (hw : swappedStores [.Subscript o i sp] e X.env = pure none := by rfl) (h1 : (assignEach [.Subscript o i sp] X.env).map (·.2) = [assign (.Subscript o i sp) X.env] := by rfl)
    (hg : PG X (.Subscript o i sp) (gSub (tE (gm X cl) fo) (tE (gm X cl) fi) rSetL)) :
    DS X cl (.Assign [.Subscript o i sp] e pos) (bSt fe fo fi) := ⟨(ps_asg he.p hg hs hw h1).weak fun D σ H ⟨O, ms, F, δ, μ, oo, R, ev, k⟩ => by
  unfold bSt at ev
  split at ev
  · rename_i d μ1 e1
    split at ev
    · rename_i kk μ2 e2
      split at ev
      · rename_i j μ3 e3
        split at ev
        · rename_i xs hk
          split at ev
          · rename_i m hm
            cases ev
            refine tE.seq R e1 fun v H1 ms1 F1 R1 s1 q1 => tE.seq R1 e2 fun ov H2 ms2 F2 R2 s2 q2 => tE.seq R2 e3 fun iv H3 ms3 F3 R3 s3 q3 => ?_
            obtain ⟨a, ws, rfl, hma, ha, hl⟩ := mut_lst R3.hr (q2.step s3) hk
            refine ⟨a, ws, j, m, rfl, q3, ha, by rw [hl.length]; exact hm, ?_⟩
            obtain ⟨r', s⟩ := R3.hr.write hma (u := .lst (xs.set m d)) (o := .lst (ws.set m v)) ⟨_, upd_same, HasL.set ((q1.step s2).step s3) m hl⟩
            exact k σ _ ms3 F3 (R3.step r' s) (((s1.trans' R1.hr s2).trans' R2.hr s3).ext)
          · cases ev
        · cases ev
      · cases ev
    · cases ev
  · cases ev⟩
end
end G

set_option Elab.async false
set_option linter.all false
set_option autoImplicit false
set_option maxRecDepth 100000
set_option maxHeartbeats 2000000
namespace G
open PySem PySem.Spec PySem.Calls L2
/-- the heap at the law's call: the script alone, frozen -/
def scrH (a : Addr) (vs : List Value) (ns : List Int) : Hp := fun b => if b = a then some (.frz { cls := .type "list", data := .seq vs.toArray } (.lst (ns.map V.int))) else none
theorem scrH_only (a : Addr) (vs : List Value) (ns : List Int) (b : Addr) : scrH a vs ns b = none ∨ ∃ o xs, scrH a vs ns b = some (.frz o (.lst xs)) := by
  unfold scrH
  split
  · exact Or.inr ⟨_, _, rfl⟩
  · exact Or.inl rfl
/-- the call, over an abstract heap that tracks the script at most -/
theorem call_over {P : Program} {w : World} {K : PySem.W.Frag} {mg mb : Str → Option Value} {k : Nat} {fa a : Addr} {fd : FuncData} {x : Str} {sp : Sp} {s : Shared} {vs : List Value} {H : Hp}
    (kin : K.In s.heap) (gns : s.heap.Ns mainGlobals mg) (bns : s.heap.Ns builtinsNs mb) (boot : ∀ x : Str, x ≠ "__name__" → mb x = bootBuiltins x) (lim : s.heap.NoLimit) (nog : s.gens = #[])
    (scr : s.heap.get? a = some { cls := .type "list", data := .seq vs.toArray }) (room : Room k callerA) (hok : HOk P w H s.heap)
    (onlyF : ∀ b, H b = none ∨ ∃ o xs, H b = some (.frz o (.lst xs))) (onlyA : ∀ b, H b ≠ none → b = a) (kfree : H a ≠ none → K.lookup a = none)
    (F : ∀ base : Heap, K.In base → base.Ns mainGlobals mg → FnG P w K mg base k fa fd 1 [x] sp) (hb : ∀ (s : Shared) (u : Value), BindsTo s fd ⟨[u], []⟩ [(x, u)])
    (hsp : sp [.ref a] H (fun v _ => v = .bl true) E0) :
    codeAny (model P w) callerA (.call (.ref fa) ⟨[.ref a], []⟩) (fun r s' => r = .ok (.ret (.bool true)) ∧ OldK s.heap s'.heap ∧ s'.os = s.os ∧ PyProof.Rows.AllBare s'.gens) s := by
  have low : ∀ {b : Addr} {o : Obj}, s.heap.get? b = some o → H b = none → (hidT s.heap H).get? b = some o := fun {b o} e n => hidT_get e n
  have untr : ∀ b, (∀ o, s.heap.get? b = some o → ∀ es ep, o.data = .dict es ep → H b = none) := fun b o e es ep d => by
    cases q : H b with
    | none => rfl
    | some u =>
      obtain rfl := onlyA b (by rw [q]; exact fun z => nomatch z)
      rw [scr] at e
      cases e
      exact absurd d (fun z => nomatch z)
  have nsl : ∀ {b : Addr} {m : Str → Option Value}, s.heap.Ns b m → (hidT s.heap H).Ns b m := by
    rintro b m ⟨o, es, ep, e, d, r⟩
    exact ⟨o, es, ep, low e (untr b o e es ep d), d, r⟩
  have kb : K.In (hidT s.heap H) := by
    intro b o e
    refine low (kin b o e) ?_
    cases q : H b with
    | none => rfl
    | some u =>
      obtain rfl := onlyA b (by rw [q]; exact fun z => nomatch z)
      rw [kfree (by rw [q]; exact fun z => nomatch z)] at e
      exact nomatch e
  obtain ⟨mc, l1, l2⟩ := lim
  have modl : Mod K mg (hidT s.heap H) := ⟨kb, nsl gns, ⟨mb, nsl bns, boot⟩, ⟨mc, nsl l1, l2⟩⟩
  have env : Env0 P w K mg (hidT s.heap H) callerA [] s H :=
    ⟨rfl, modl, fun b o e => of_hidT e, Nat.le_of_eq (hidT_size _ _), trivial, fun b hm => absurd (show b ∈ ([] : List Addr) from hm) (by simp), hok, .of_eq nog⟩
  refine codeAny_mono ((F _ kb (nsl gns)).go (us := [.ref a]) (vs := [V.ref a]) rfl room env (hb s (.ref a)) (.cons rfl .nil) hsp) fun r s' h => ?_
  cases r with
  | error _ => exact (show False from h).elim
  | ok fl =>
    cases fl with
    | next => exact (show False from h).elim
    | brk => exact (show False from h).elim
    | cont => exact (show False from h).elim
    | ret u =>
      obtain ⟨v, H', os, bare, un, hok', rv, q⟩ := h
      subst q
      obtain rfl : u = Value.bool true := rv
      refine ⟨rfl, .of_keep fun b o e => ?_, os, bare⟩
      rcases onlyF b with z | ⟨ob, xs, z⟩
      · exact un.keep b o e z (fun m => by cases m) (fun m => by cases m)
      · obtain ⟨e1, _⟩ := hok b _ z
        obtain ⟨e2, _⟩ := hok' b _ (un.frzs b ob _ z)
        rw [e] at e1
        cases e1
        exact e2
/-- what a law's def promises: over a script it hands back True -/
def spLawD (K : PySem.W.Frag) (cl : Nat → Addr) (fn : FF) : Sp := spF ⟨K, cl⟩ 1 fn
theorem law_end {l : PySem.W.OpenLaw} {k : Nat} {q : Program} {loose : List Str} {XP : (Str → Option Value) → Heap → Prop} {YP : World → Heap → Prop} {d : DefRec} {K : Params → PySem.W.Frag} {x : Str} {fn : FF}
    (hn : l.most = some 63) (hdf : d.params.defaults = []) (room : Room k callerA) (hY : ∀ (w : World) (h : Heap), YP w h → (K w.params).In h)
    (F : ∀ (w : World) (mg : Str → Option Value) (fa : Addr) (h : Heap), (K w.params).In h → h.Ns mainGlobals mg → mg d.name = some (.ref fa) →
      ∃ (fd : FuncData) (cl : Nat → Addr), (∀ (s : Shared) (u : Value), BindsTo s fd ⟨[u], []⟩ [(x, u)]) ∧
        ∀ base : Heap, (K w.params).In base → base.Ns mainGlobals mg → FnG l.prog w (K w.params) mg base k fa fd 1 [x] (spF ⟨K w.params, cl⟩ 1 fn))
    (good : ∀ ns : List Int, ns.length ≤ 63 → (∀ z ∈ ns, Builtin.Int.intBits z ≤ 1048576) → ∃ μ, fn [.scr ns] [] = some (.bl true, μ)) :
    PySem.W.WalkO q loose XP YP l.row.toRowW d [] (fun f vs => PySem.call f vs) := by
  refine Att.attach_callB hn hdf ?_
  intro w s₀ s mg mb fa o pm cd doc a vs ns G Y ho hd hcd hmg hobj hints hlen hbits hg
  have kin := hY w _ Y
  obtain ⟨fd, cl, hb, hF⟩ := F w mg fa _ kin G.T.g hmg
  have rv := vals_ints hints
  have sz : ns.length ≤ sizeLine := Nat.le_trans hlen (by rw [sizeLine_eq]; decide)
  have sp : ∀ H : Hp, SqL (K w.params) H a (ns.map V.int) → spF ⟨K w.params, cl⟩ 1 fn [.ref a] H (fun v _ => v = .bl true) E0 := fun H hs => by
    obtain ⟨μ, e⟩ := good ns hlen hbits
    exact ⟨[], H, [.scr ns], [], _, μ, ⟨Same.refl _, fun _ h => (by cases h), rfl, .nil, fun _ _ h => by simp at h⟩, ⟨_, _, rfl, ⟨a, rfl, hs⟩, rfl⟩, rfl, e, fun v H' ms' F' _ _ h => h⟩
  cases hk : (K w.params).lookup a with
  | some o2 =>
    have e := kin a o2 hk
    rw [hobj] at e
    cases e
    exact call_over (H := fun _ => none) kin G.T.g G.T.b G.T.builtins G.T.nolimit hg hobj room (fun b u z => nomatch z) (fun _ => .inl rfl) (fun b z => absurd rfl z) (fun z => absurd rfl z) hF hb
      (sp _ (.inr ⟨_, _, _, hk, rfl, rfl, rfl, by rw [List.size_toArray, hints.length]; exact sz, by simpa using rv⟩))
  | none =>
    refine call_over (H := scrH a vs ns) kin G.T.g G.T.b G.T.builtins G.T.nolimit hg hobj room ?_ (scrH_only a vs ns) ?_ (fun _ => hk) hF hb (sp _ (.inl (.inr ⟨_, if_pos rfl⟩)))
    · intro b u z
      unfold scrH at z
      split at z
      · rename_i hba
        subst hba
        cases z
        exact ⟨hobj, by rw [List.length_map]; exact sz, vs, _, rv, hobj⟩
      · cases z
    · intro b z
      unfold scrH at z
      split at z
      · assumption
      · exact absurd rfl z
end G

set_option Elab.async false
set_option linter.all false
set_option autoImplicit false
set_option maxRecDepth 100000
set_option maxHeartbeats 2000000
namespace G
open PySem PySem.Spec PySem.Calls L2
section
variable {X : Cx} {cl : Nat → Addr} {a b c e o i : Expr} {es : List Expr} {fe fa fb fc fo fi : EF} {pos p p1 p2 apos cpos : Pos} {r : AF}
theorem de_gint {x : Str} {v : Int} (hg : Gl X x) (h : ∃ t, X.mg x = some (.int v t)) (hd : (x == ("__debug__" : Str)) = false := by decide) : DE X cl (.Name x pos) (eC (.int v)) := by
  obtain ⟨t, h⟩ := h
  exact de_c (v := .int v) (pe_glob hg h ⟨_, rfl⟩ hd) fun _ _ => rfl
theorem de_gstr {x : Str} {v : Str} (hg : Gl X x) (h : ∃ t, X.mg x = some (.str v t)) (hd : (x == ("__debug__" : Str)) = false := by decide) : DE X cl (.Name x pos) (eC (.str v)) := by
  obtain ⟨t, h⟩ := h
  exact de_c (v := .str v) (pe_glob hg h ⟨_, rfl⟩ hd) fun _ _ => rfl
def eNeg (f : EF) : EF := eThen f fun d _ μ => match d with
  | .int i => some (.int (-i), μ)
  | _ => none
theorem de_neg (h : DE X cl a fa) : DE X cl (.UnaryOp .USub a pos) (eNeg fa) := ⟨(pe_un un_neg h.p).weak fun σ H Q ⟨O, ms, F, δ, μ, d, μ', R, ev, k⟩ => by
  obtain ⟨d1, μ1, e1, ev⟩ := eThen_some ev
  refine tE.seq R e1 fun v H1 ms1 F1 R1 s1 q1 => ?_
  split at ev
  · cases ev; exact ⟨_, q1, k _ H1 ms1 F1 R1.hr s1 rfl⟩
  · cases ev⟩
/-- a comparison with None, as a test -/
theorem dt_isN {j p'} (ha : DE X cl a fa) : DT X cl (.Compare a [.Is] [.Constant .none j p'] pos) (asB (eIsN fa)) := ⟨(pt_cmp (pc_isN ha.p)).weak fun σ H Q ⟨O, ms, F, δ, μ, d, μ', R, ev, k⟩ => by
  obtain ⟨d1, μ1, e1, ev⟩ := eThen_some (asB_some ev)
  cases ev
  refine tE.seq R e1 fun v H1 ms1 F1 R1 s1 q1 => ?_
  have := has_non q1
  refine ⟨_, rfl, ?_⟩
  rw [this]
  exact k H1 ms1 F1 R1.hr s1⟩
theorem dt_notN {j p'} (ha : DE X cl a fa) : DT X cl (.Compare a [.IsNot] [.Constant .none j p'] pos) (asB (eNotN fa)) := ⟨(pt_cmp (pc_notN ha.p)).weak fun σ H Q ⟨O, ms, F, δ, μ, d, μ', R, ev, k⟩ => by
  obtain ⟨d1, μ1, e1, ev⟩ := eThen_some (asB_some ev)
  cases ev
  refine tE.seq R e1 fun v H1 ms1 F1 R1 s1 q1 => ?_
  have := has_non q1
  refine ⟨_, rfl, ?_⟩
  rw [this]
  exact k H1 ms1 F1 R1.hr s1⟩
theorem _root_.L2.Room.un65 {k : Nat} {A : Around} (r : Room k A) : A.units + 65 < cLine := by have := r.un; omega
end
/-- a def of the text, with its promise -/
structure HasF (P : Program) (w : World) (K : PySem.W.Frag) (mg : Str → Option Value) (base : Heap) (cl : Nat → Addr) (k : Nat) (x : Str) (n : Nat) (ps : List Str) (fn : FF) where
  f : Addr
  fd : FuncData
  ok : FnG P w K mg base k f fd n ps (spF ⟨K, cl⟩ n fn)
  mg : mg x = some (.ref f)
  kp : PySem.W.keepIn K (.ref f) = true
  bd : Binds K fd ps []
end G

set_option Elab.async false
set_option linter.all false
set_option autoImplicit false
set_option maxRecDepth 100000
set_option maxHeartbeats 2000000
namespace G
open PySem PySem.Spec PySem.Calls L2
/-! ### an exception as a value: its args at t, its own dict -/
section
open PySem.W PyProof.Rows
variable {prog : Program} {w : World} {A : Around} {E : Value → Shared → Prop} {s : Shared} {K : Frag} {x C : Addr} {ox od : Obj}
/-- exc.__class__, whatever its own dict holds -/
theorem exc_cls {Q : Option Value → Shared → Prop} (T : ExcC K C) (X : K.In s.heap) (I : InstAt s.heap x ox C (some od)) (h : Q (some (.ref C)) { s with toks := s.toks + 1 }) : wpAny (model prog w) A (getAttr? (.ref x) "__class__") Q E s := by
  have isome : (clsIn K C).isSome := by
    obtain ⟨cd, hc, _⟩ := any_some T.hd
    rw [hc]
    rfl
  have found : findObj K C (some od) "__class__" = some (.bind (.builtin "getset_descriptor.__get__") (.builtin "object.__class__")) := findObj_data isome T.ha T.hn T.ht
  obtain ⟨hp, g, d, t, os⟩ := s
  have ty := I.type (M := model prog w)
  have look1 := looks_findIn (M := model prog w) X T.hg
  have look2 := looks_findIn (M := model prog w) X T.hk
  have look3 := looks_find (M := model prog w) X I found
  have base : Looks (model prog w) hp (isInstance (.ref x) (.type "BaseException")) true := ty.andThen (looks_subIn X T.hs)
  have unlike : (Value.builtin "BaseException.__getattribute__" == Value.builtin "object.__getattribute__") = false := by decide +kernel
  have first : (onTheHeap (Value.ref C) && Value.builtin "BaseException.__getattribute__" == Value.builtin "object.__getattribute__") = false := by
    rw [unlike]
    rfl
  unfold getAttr? getAttrBy? getAttrBy
  refine wpAny_bind (wpAny_mkText (wpAny_bind (wpAny_attempt (wpAny_holding ?_))))
  refine wpAny_bind (ty.at (wpAny_bind (look1.at ?_)))
  dsimp only
  rw [first, if_neg Bool.false_ne_true]
  unfold getAttrByItsOwn hookBefore
  refine wpAny_bind ?_
  rw [if_pos (show onTheHeap (Value.ref C) = true from rfl)]
  refine look2.at (wpAny_bind (wpAny_attempt (wpAny_holding ?_)))
  unfold callGetattribute
  rw [show (false && onTheHeap (Value.builtin "BaseException.__getattribute__")) = false from rfl, if_neg Bool.false_ne_true]
  unfold boundAndCalled
  rw [PySem.F.excAttr_ValueError.ga.bind (.ref x)]
  refine wpAny_bind (wpAny_pure ?_)
  show wpAny _ _ (call (.builtin "BaseException.__getattribute__") [.ref x, .str "__class__" t]) _ _ _
  refine wpAny_call ?_
  refine codeAny_call_builtin PySem.F.excAttr_ValueError.ga.plain PySem.F.entry_bexc_ga ?_
  refine @check_slot (model prog w) _ _ ⟨hp, g, d, t + 1, os⟩ "BaseException.__getattribute__" "BaseException" "__getattribute__" (.ref x)
    [.str "__class__" t] [] _ (by decide +kernel) (by decide +kernel) base (PySem.F.args_bexc_ga (.ref x) (.str "__class__" t)) ?_
  unfold Builtin.«object.__getattribute__»
  refine wpAny_bind (wpAny_of_eq (a := ((Value.ref x : Value), [Value.str "__class__" t])) ?_ ?_)
  · first | rfl | (simp only [slotArgs]; rfl)
  refine wpAny_bind (wpAny_pure (wpAny_bind (ty.at ?_)))
  refine wpAny_bind (look3.at ?_)
  show wpAny _ _ (holding [Value.builtin "object.__class__"] (call (.builtin "getset_descriptor.__get__") [.builtin "object.__class__", .ref x, .ref C]) >>= ret) _ _ _
  refine wpAny_bind (wpAny_holding (wpAny_call ?_))
  refine class_get (s := ⟨hp, g, d, t + 1, os⟩) (ox := ox) (od := some od) X I T.hm ?_
  refine wpAny_pure ?_
  show wpAny _ _ (handedOut (.ref C)) _ _ _
  rw [handedOut_of (v := .ref C) rfl]
  first
    | exact wpAny_pure (wpAny_pure h)
    | exact wpAny_pure h
    | exact wpAny_pure (wpAny_bind (wpAny_pure (wpAny_pure h)))
theorem exc_head {h : Heap} {M : Model} (T : ExcC K C) (X : K.In h) : Looks M h (isType (.ref C)) true := by
  obtain ⟨cd, hc, _⟩ := any_some T.hd
  unfold clsIn at hc
  split at hc
  · rename_i c' d' cd' sl' lk
    intro A' Q' E' s' old q
    unfold isType loadHead
    exact wpAny_bind (wpAny_loadPart (old _ _ (X _ _ lk)) (wpAny_pure q))
  · cases hc
theorem kitx_exc (T : ExcC K C) : KitX K (.ref x) (.ref C) fun h => ∃ ox od, InstAt h x ox C (some od) where
  ty := fun _ _ _ ⟨_, _, I⟩ => I.type
  it := fun M h X _ => exc_head T X
  ne := fun h tp dd its n sl X htp => by
    obtain ⟨cd, hc, _⟩ := any_some T.hd
    cases hb : (Value.ref C == Value.ref tp) with
    | false => rfl
    | true =>
      obtain rfl : C = tp := Value.ref.inj (beq_iff_eq.mp hb)
      unfold clsIn at hc
      split at hc
      · rename_i c' d' cd' sl' lk
        have both := (X _ _ lk).symm.trans htp
        cases both
      · cases hc
  ca := fun X ⟨_, _, I⟩ k => exc_cls T X I k
end
/-- the exception at a, with its dict at dx -/
def ExcAt (Γ : Gm) (F : Hp) (C : Nat) (a dx t : Addr) (fs : List (Str × V)) : Prop := F a = some (exoT a (Γ.cl C) (some dx) t) ∧ F dx = some (exd dx fs)
theorem instAt_exc {P : Program} {w : World} {H : Hp} {h : Heap} {a C dx t : Addr} {fs : List (Str × V)} (hok : HOk P w H h) (e : H a = some (exoT a C (some dx) t)) (ed : H dx = some (exd dx fs)) : ∃ ox od, PySem.W.InstAt h a ox C (some od) := by
  have h1 := exoT_at hok e
  obtain ⟨od, h2⟩ := (hok dx _ ed).2.1
  exact ⟨_, od, h1, rfl, rfl, h2⟩
/-- isinstance(exc, T), (T1, T2) -/
def rIsX (K : PySem.W.Frag) : List V → Hp → VK → Prop := fun xs H Q => ∃ (a C dx t : Addr) (fs : List (Str × V)) (c : V) (u : Value) (b : Bool), xs = [.ref a, c] ∧ H a = some (exoT a C (some dx) t) ∧ H dx = some (exd dx fs) ∧ ExcC K C ∧ ClsV c u ∧ PySem.W.kitOne K (.ref C) u = some b ∧ Q (.bl b) H
theorem call_isX {X : Cx} : CallR X (.builtin "isinstance") (rIsX X.K) := by
  intro pins s σ H xs us Q I r h
  obtain ⟨a, C, dx, t, fs, c, u, b, rfl, ha, hd, T, k, e, q⟩ := h
  obtain ⟨u1, u2, rfl, r1, r2⟩ := vals2 r
  obtain rfl := k.eq r2
  obtain rfl : u1 = Value.ref a := r1
  obtain ⟨ox, od, J⟩ := instAt_exc I.hok ha hd
  exact PySem.W.kia_one (kitx_exc T) I.kIn ⟨ox, od, J⟩ e (fun z => nomatch z) fun tk => ⟨.bl b, H, I.tok tk, rfl, q⟩
end G

set_option Elab.async false
set_option linter.all false
set_option autoImplicit false
set_option maxRecDepth 100000
set_option maxHeartbeats 2000000
namespace G
open PySem PySem.Spec PySem.Calls L2
/-! ### C.m(..), C an own class, m a def of it -/
structure CFn (K : PySem.W.Frag) (C : Addr) (m : Str) (f : Addr) : Prop where
  ga : PySem.W.specialIn K (.ref C) "__getattribute__" = some (some (.builtin "type.__getattribute__"))
  rd : PySem.W.readsIn K C (.type "type") = true
  fc : PySem.W.findCls K (.ref C) (.type "type") m = some (.val (.ref f))
  kp : PySem.W.keepIn K (.ref f) = true
section
variable {X : Cx} {o e : Expr} {es : List Expr} {to te : TE} {t : TA} {m : Str} {pos apos p : Pos} {k n : Nat} {C f : Addr} {fd : FuncData} {ps : List Str} {sp : Sp}
theorem pe_clsfn {pl : Sem Bool} (ho : PE X o to) (c : CFn X.K C m f) (Gf : FnG X.prog X.w X.K X.mg X.base k f fd n ps sp) (hgd : X.A.guards = some []) (hr : Room k X.A) (hb : Binds X.K fd ps []) (ha : PA X (e :: es) t)
    (hst : starEach (e :: es) X.env = (false, eval e X.env) :: starEach es X.env := by rfl) (hpl : (backTo pos (starEach es X.env)).any (·.1) = false := by rfl)
    (ht : eval (.Call (.Attribute o m apos) (e :: es) [] pos) X.env = (do
      let ov ← eval o X.env
      standAt apos.atName
      let (f, first) ← holding [ov] (getMethod ov m pl)
      callWith pos f first (backTo pos (starEach (e :: es) X.env)) (backToKw pos (keywordEach [] X.env))) := by rfl) :
    PE X (.Call (.Attribute o m apos) (e :: es) [] pos) (fun σ H Q => to σ H fun x H1 => x = .ref C ∧ t σ H1 fun vs H2 => sp vs H2 Q E0) := by
  constructor
  intro pins s σ H Q I h
  refine PySem.W.methodCall_KW (pl := pl) (thn (ho.run pins s σ H _ I h) ?_) ht
  rintro u s1 ⟨x, H1, I1, rx, rfl, q⟩
  obtain rfl : u = Value.ref C := rx
  refine PySem.W.method_cls I1.kIn c.ga (PySem.W.cls_value I1.kIn c.rd c.fc rfl ?_)
  refine PySem.W.callWith_K (first := []) (h₀ := X.base) I1.ok.mod.kin c.kp (thn (ha.run pos pins _ σ H1 _ (I1.tok _) q) ?_) hst hpl
  rintro us s2 ⟨vs, H2, I2, r, q2⟩
  exact ⟨I2.kIn, runG (dvs := []) (ds := []) Gf hgd hr hb .nil I2 r (by rw [List.append_nil]; exact q2)⟩
end
/-! ### ValueError.__init__(exc, ..): its args are laid anew, and told -/
section
open PySem.W PyProof.Rows PySem.HandSPX
variable {prog : Program} {w : World} {A : Around} {R : Result → Shared → Prop} {hp : Heap} {g : Array GenState} {d : Drawn} {tk : Nat} {os : OsState}
theorem init_args {B newId initId : String} {bmB bm bs : List Value} {C N nm q : _} {hdct : Bool} {sn sub ab col dd k0 k1 k2 k3 k5 : _} (F : ExcBaseFacts B newId initId bmB) (hT : ∀ X : String, bm.contains (.type X) = bmB.contains (.type X)) {e t0 : Addr} {rest : List Value}
    (hC : hp.get? C = some (excClassObj nm q C N bs bm hdct sn sub ab col dd k0 k1 k2 k3 k5 newId)) (he : hp.get? e = some (excO C t0)) (hrest : rest.length ≤ sizeLine)
    (after : ∀ h', (∀ b o, b ≠ e → (hp.push (kdv_tup rest)).get? b = some o → h'.get? b = some o) → h'.get? e = some (excO C hp.objs.size) → R (.ok (.ret .none)) ⟨h', g, d, tk, os⟩) :
    codeAny (model prog w) A (.call (.builtin initId) ⟨.ref e :: rest, []⟩) R ⟨hp, g, d, tk, os⟩ := by
  refine codeAny_call_builtin F.init.plain F.initEntry ?_
  refine check_init_own F hT hC he rfl ?_
  wp_walk
  refine after _ (fun b o hb ho => ?_) ?_
  · rw [Heap.get?_update_other _ _ (Ne.symm hb)]
    exact ho
  · rw [Heap.get?_update_self _ (Heap.get?_push_of_some _ he) rfl]
    rfl
end
section
variable {X : Cx} {pins : List (Addr × Obj)} {σ : L2.St} {H : Hp} {s : Shared} {a C dx t0 : Addr} {f : Str} {y : V} {u : Value} {fs : List (Str × V)} {E : Value → Shared → Prop} {A : Around}
theorem veinit_ok {us : List Value} {ws : List V} {Q : Value → Shared → Prop} (T : OexC X.K C) (I : Inv X pins σ H s) (e : H a = some (exoT a C none t0)) (rv : Vals ws us) (hl : us.length ≤ sizeLine)
    (h : ∀ t s', H t = none → Inv X pins σ (upd (upd H t (.tup ws)) a (exoT a C none t)) s' → Q .none s') :
    wpAny (model X.prog X.w) A (call (.builtin "ValueError.__init__") (.ref a :: us)) Q E s := by
  obtain ⟨nm, q, N, bs, bm, sn, sub, ab, col, dd, k0, k1, k2, k3, k5, hC, hbm⟩ := T.cls
  have ho := exoT_at I.hok e
  obtain ⟨hp, g, d, tk, os⟩ := s
  refine wpAny_call (init_args PySem.F.excBase_ValueError (fun Y => PySem.HandSPX.refsVE_contains Y bm hbm) (I.kIn _ _ hC) ho hl fun h' k hx => ?_)
  have fresh : H hp.objs.size = none := I.hok.fresh (Nat.le_refl _)
  have wl : ws.length ≤ sizeLine := by rw [rv.length]; exact hl
  have J := I.laid (t' := tk) (a := hp.objs.size) (o := .tup ws) (h' := hp.push (PySem.W.kdv_tup us)) (fun b o q => Heap.get?_push_of_some _ q) (Nat.le_refl _) ⟨wl, us, rv, ⟨_, Heap.get?_push_size _ rfl, rfl, _, rfl⟩⟩
  have ne : a ≠ hp.objs.size := ne_of_none e fresh
  have ha : upd H hp.objs.size (.tup ws) a = some (exoT a C none t0) := by rw [upd_ne ne]; exact e
  have J2 := J.write (t' := tk) (x := a) (e := a) (o := exoT a C none hp.objs.size) (h' := h') (by rw [ha]; exact True.intro) (.inl rfl) k ⟨_, hx⟩ (exoT_ok hx)
  exact h _ _ fresh J2
/-- exc.f = y, the first one -/
theorem excset_ok {Q : Unit → Shared → Prop} (T : OexC X.K C) (I : Inv X pins σ H s) (e : H a = some (exoT a C none t0)) (hno : PySem.W.findIn X.K (.ref C) f = some none) (ry : RelV y u)
    (h : ∀ dx s', H dx = none → dx ≠ a → Inv X pins σ (upd (upd H dx (exd dx [(f, y)])) a (exoT a C (some dx) t0)) s' → Q () s') : wpAny (model X.prog X.w) A (setAttr (.ref a) f u) Q E s := by
  obtain ⟨nm, q, N, bs, bm, sn, sub, ab, col, dd, k0, k1, k2, k3, k5, hC, hbm⟩ := T.cls
  have look : PySem.W.clsIn X.K C = some { name := nm, bases := bs, mro := .ref C :: bm, ns := N, qualname := q, hasDict := true, slotNames := sn, subclasses := sub, abstract := ab, collection := col, hasDel := false } := by
    unfold PySem.W.clsIn
    rw [hC] <;> rfl
  have ho := exoT_at I.hok e
  obtain ⟨hp, g, d, tk, os⟩ := s
  refine PySem.W.set_plain I.kIn (ox := excObj C none t0) (od := none) ⟨ho, rfl, rfl, trivial⟩ T.sa ?_
  refine PySem.HandSPX.exc_osa I.kIn ho look (show PySem.HandSPX.refsVE (.ref C :: bm) = true from hbm) rfl hno ?_
  intro h' tk' dx keep dn dne hx hn
  have fresh : H dx = none := I.hok.fresh dn
  have young : ∀ {b : Addr} {ob : Obj}, hp.get? b = some ob → b ≠ dx := fun {b ob} z => Nat.ne_of_lt (Nat.lt_of_lt_of_le (Heap.lt_size z) dn)
  have other : ∀ {b : Addr}, H b = none → b ≠ a := fun {b} z w => by
    rw [w, e] at z
    exact nomatch z
  have notIt : ∀ {b : Addr} {o : HO}, H b = some o → (∀ φ, o ≠ .ext φ) → b ≠ a := fun {b o} z w v => by
    subst v
    rw [e] at z
    exact w _ (Option.some.inj z).symm
  have same : ∀ {b : Addr}, b ≠ a → b ≠ dx → upd (upd H dx (exd dx [(f, y)])) a (exoT a C (some dx) t0) b = H b := fun {b} z w => by rw [upd_ne z, upd_ne w]
  have un : Un X.fs [] H (upd (upd H dx (exd dx [(f, y)])) a (exoT a C (some dx) t0)) hp h' := by
    refine ⟨fun b ob z n _ _ => keep b ob (other n) z, fun b ob z n _ _ => ⟨ob.slots, keep b ob (other n) z⟩, fun b ob z n _ => ?_, fun b ob z _ => ?_, fun b xs z => ?_, fun b ob v z => ?_, fun b ps z => ⟨#[], ?_⟩⟩
    · rw [same (other n) (young z)]
      exact n
    · by_cases hb : b = a
      · subst hb
        exact ⟨_, hx⟩
      · exact ⟨ob, keep b ob hb z⟩
    · rw [same (notIt z fun φ w => nomatch w) (ne_of_none z fresh)]
      exact z
    · rw [same (notIt z fun φ w => nomatch w) (ne_of_none z fresh)]
      exact z
    · rw [same (notIt z fun φ w => nomatch w) (ne_of_none z fresh), z]
      simp
  refine h dx _ fresh dne (I.un (t' := tk') un ?_)
  intro b o z
  by_cases hb : b = a
  · subst hb
    rw [upd_same] at z
    cases z
    exact exoT_ok hx
  · rw [upd_ne hb] at z
    by_cases hd : b = dx
    · subst hd
      rw [upd_same] at z
      cases z
      exact exd_ok hn (relO_put (fs := []) ry fun _ => True.intro)
    · rw [upd_ne hd] at z
      have ownNe : ∀ {c : Addr}, H c = some (.own b) → c ≠ a := fun {c} w => notIt w fun φ v => nomatch v
      refine (I.hok b o z).stay (fun c v hc w => keep c v ?_ w) (fun c hc => ?_) fun c xs hc => ?_
      · rcases hc with rfl | hc
        · exact hb
        · exact ownNe hc
      · rw [same (ownNe hc) (ne_of_none hc fresh)]
        exact hc
      · rw [same (notIt hc fun φ v => nomatch v) (ne_of_none hc fresh)]
        exact hc
end
/-! ### the readings of the two __init__ -/
def tVeT (K : PySem.W.Frag) (ta : TA) : TE := fun σ H Q => ta σ H fun vs H1 => ∃ (a C t0 : Addr) (ws : List V), vs = .ref a :: ws ∧ ws.length ≤ 1000 ∧ OexC K C ∧ H1 a = some (exoT a C none t0) ∧ ∀ t, H1 t = none → Q .non (upd (upd H1 t (.tup ws)) a (exoT a C none t))
def tSetX (K : PySem.W.Frag) (f : Str) (to te : TE) : TS := fun D σ H => te σ H fun y H1 => to σ H1 fun x H2 => ∃ a C t0 : Addr, x = .ref a ∧ OexC K C ∧ PySem.W.findIn K (.ref C) f = some none ∧ H2 a = some (exoT a C none t0) ∧
  ∀ dx, H2 dx = none → dx ≠ a → D.nx σ (upd (upd H2 dx (exd dx [(f, y)])) a (exoT a C (some dx) t0))
section
variable {X : Cx} {o e : Expr} {es : List Expr} {to te : TE} {ta : TA} {f : Str} {p p' p1 p2 pos : Pos}
theorem pe_veT {pl : Sem Bool} (hg : Gl X "ValueError") (hm : X.mg "ValueError" = none) (vV : PySem.W.findCls X.K (.type "ValueError") (.type "type") "__init__" = some (.val (.builtin "ValueError.__init__"))) (ha : PA X (e :: es) ta)
    (hc : eval (.Call (.Attribute (.Name "ValueError" p1) "__init__" p2) (e :: es) [] pos) X.env = (do
      let ov ← eval (.Name "ValueError" p1) X.env
      standAt p2.atName
      let (f, first) ← holding [ov] (getMethod ov "__init__" pl)
      callWith pos f first (backTo pos (starEach (e :: es) X.env)) (backToKw pos (keywordEach [] X.env))) := by rfl)
    (he : starEach (e :: es) X.env = (false, eval e X.env) :: starEach es X.env := by rfl) (hpl : (backTo pos (starEach es X.env)).any (·.1) = false := by rfl) :
    PE X (.Call (.Attribute (.Name "ValueError" p1) "__init__" p2) (e :: es) [] pos) (tVeT X.K ta) := by
  constructor
  intro pins s σ H Q I h
  refine PySem.W.methodCall_KW (ld_blt I hg hm PyProof.Rows.Boot.«ValueError» ?_ (by decide) (by decide)) hc
  obtain ⟨m, fr⟩ := I.fr
  refine PySem.W.method_type fr I.ok.mod.kin PySem.OEX.typ_VE (by decide +kernel) vV (by decide +kernel) ?_
  refine PyProof.Rows.callWith_method1 (thn (ha.run pos pins _ σ H _ (I.tok _) h) ?_) he hpl
  rintro us s1 ⟨vs, H1, I1, r1, a, C, t0, ws, rfl, hl, T, ea, q⟩
  cases r1 with
  | @cons _ u0 _ ur ra rw' =>
    obtain rfl : u0 = Value.ref a := ra
    refine veinit_ok T I1 ea rw' (by rw [← rw'.length, sizeLine_eq]; omega) fun t s' ht J => ?_
    exact ⟨.non, _, J, rfl, q t ht⟩
theorem ps_setX (ho : PE X o to) (he : PE X e te) (hs : swapsWith e (some (.Attribute o f p')) pos.line X.env = pure false := by rfl) : PS X (.Assign [.Attribute o f p'] e pos) (tSetX X.K f to te) := by
  constructor
  intro pins s σ H D I h
  refine plainObj_wpAny_Assign_Attribute (thn (he.run pins s σ H _ I h) ?_) hs
  rintro v s1 ⟨y, H1, I1, r1, q1⟩
  refine thn (ho.run pins s1 σ H1 _ I1 q1) ?_
  rintro u s2 ⟨x, H2, I2, r2, a, C, t0, rfl, T, hno, ea, q⟩
  obtain rfl : u = Value.ref a := r2
  exact excset_ok T I2 ea hno r1 fun dx s' n ne J => ⟨σ, _, J, q dx n ne⟩
end
end G

set_option Elab.async false
set_option linter.all false
set_option autoImplicit false
set_option maxRecDepth 100000
set_option maxHeartbeats 2000000
namespace G
open PySem PySem.Spec PySem.Calls L2
theorem make_guards {A : Around} {C : Addr} {us : List Value} {kw : List (Str × Value)} (h : A.guards = some []) : (A.under (.builtin "type.__call__" ⟨.ref C :: us, kw⟩)).guards = some [] := by
  have q : (Code.builtin "type.__call__" ⟨.ref C :: us, kw⟩).isGuard = false := by
    show guardIds.contains "type.__call__" = false
    decide +kernel
  simp [Around.under, Code.guards, q, pushGuards, h]
/-- what __init__(self, f) of an own exception does, its args being the one text msg -/
def spX (C : Addr) (f : Str) (msg : Str) : Sp := fun vs H Q _ => ∃ (a : Addr) (y : V) (t0 : Addr), vs = [.ref a, y] ∧ H a = some (exoT a C none t0) ∧
  ∀ t dx, H t = none → H dx = none → t ≠ dx → Q .non (upd (upd (upd H t (.tup [.str msg])) dx (exd dx [(f, y)])) a (exoT a C (some dx) t))
section
variable {X : Cx} {e : Expr} {ta : TA} {f x : Str} {msg : Str} {p pos : Pos} {C fI : Addr} {k : Nat} {fd : FuncData} {ps : List Str}
def tExc (C : Addr) (f msg : Str) (ta : TA) : TE := fun σ H Q => ta σ H fun vs H1 => ∃ y, vs = [y] ∧ ∀ a t dx, H1 a = none → H1 t = none → H1 dx = none → t ≠ a → dx ≠ a → t ≠ dx →
  Q (.ref a) (upd (upd (upd H1 t (.tup [.str msg])) dx (exd dx [(f, y)])) a (exoT a C (some dx) t))
theorem pe_exc (T : OexC X.K C) (iC : PySem.W.findIn X.K (.ref C) "__init__" = some (some (.ref fI))) (tI : PySem.W.typeIn X.K (.ref fI) = some (.type "function"))
    (Gf : FnG X.prog X.w X.K X.mg X.base k fI fd 2 ps (spX C f msg)) (hgd : X.A.guards = some []) (hr : Room (k + 1) X.A) (hb : Binds X.K fd ps []) (hg : Gl X x) (hm : X.mg x = some (.ref C)) (ha : PA X [e] ta)
    (hdb : (x == ("__debug__" : Str)) = false := by decide) (he : starEach (e :: []) X.env = (false, eval e X.env) :: starEach [] X.env := by rfl) (hpl : (backTo pos (starEach [] X.env)).any (·.1) = false := by rfl) :
    PE X (.Call (.Name x p) [e] [] pos) (tExc C f msg ta) := by
  constructor
  intro pins s σ H Q I h
  obtain ⟨nm, q, N, bs, bm, sn, sub, ab, col, dd, k0, k1, k2, k3, k5, hC, hbm⟩ := T.cls
  refine wpAny_Call_Name_kw (ld_glob I hg hm ?_ hdb)
  refine PySem.W.callWith_K (h₀ := X.base) I.ok.mod.kin T.kC (thn (ha.run pos pins s σ H _ I h) ?_) he hpl
  rintro us s1 ⟨vs, H1, I1, r1, y, rfl, q1⟩
  refine ⟨I1.kIn, ?_⟩
  show wpAny _ _ (call (.ref C) us) _ _ _
  obtain ⟨hp, g, dr, tk, os⟩ := s1
  obtain ⟨u, rfl, ry⟩ := vals1 r1
  have f1 : H1 (hp.objs.size + 1) = none := I1.hok.fresh (Nat.le_succ _)
  have keep : ∀ b o, hp.get? b = some o → ((hp.push (PySem.W.kdv_tup [u])).push (PySem.HandSPX.excO C hp.objs.size)).get? b = some o :=
    fun b o z => Heap.get?_push_of_some _ (Heap.get?_push_of_some _ z)
  have it : ((hp.push (PySem.W.kdv_tup [u])).push (PySem.HandSPX.excO C hp.objs.size)).get? (hp.objs.size + 1) = some (excObj C none hp.objs.size) := by heap_get
  have I2 := I1.laid (t' := tk) (a := hp.objs.size + 1) (o := exoT (hp.objs.size + 1) C none hp.objs.size) (h' := (hp.push (PySem.W.kdv_tup [u])).push (PySem.HandSPX.excO C hp.objs.size)) keep (Nat.le_succ _) (exoT_ok it)
  have spq : spX C f msg [.ref (hp.objs.size + 1), y] (upd H1 (hp.objs.size + 1) (exoT (hp.objs.size + 1) C none hp.objs.size)) (fun v H2 => v = .non ∧ Q (.ref (hp.objs.size + 1)) H2) E0 := by
    refine ⟨_, _, _, rfl, upd_same, fun t dx ht hdx ne => ⟨rfl, ?_⟩⟩
    have nt : t ≠ hp.objs.size + 1 := fun z => by rw [z, upd_same] at ht; exact nomatch ht
    have nd : dx ≠ hp.objs.size + 1 := fun z => by rw [z, upd_same] at hdx; exact nomatch hdx
    rw [upd_ne nt] at ht
    rw [upd_ne nd] at hdx
    have z := q1 (hp.objs.size + 1) t dx f1 ht hdx nt nd ne
    have eq : upd (upd (upd (upd H1 (hp.objs.size + 1) (exoT (hp.objs.size + 1) C none hp.objs.size)) t (.tup [.str msg])) dx (exd dx [(f, y)])) (hp.objs.size + 1) (exoT (hp.objs.size + 1) C (some dx) t) =
        upd (upd (upd H1 t (.tup [.str msg])) dx (exd dx [(f, y)])) (hp.objs.size + 1) (exoT (hp.objs.size + 1) C (some dx) t) := by
      funext b
      by_cases h1 : b = hp.objs.size + 1
      · rw [h1, upd_same, upd_same]
      · rw [upd_ne h1, upd_ne h1]
        unfold upd
        simp only [h1, if_false]
    rw [eq]
    exact z
  have r2 : Vals [V.ref (hp.objs.size + 1), y] [Value.ref (hp.objs.size + 1), u] := .cons rfl (.cons ry .nil)
  have one : [u].length ≤ sizeLine := by rw [sizeLine_eq]; exact (by decide : 1 ≤ 16777216)
  refine wpAny_call (PySem.HandSPX.call_own PySem.F.excBase_ValueError (fun Y => PySem.HandSPX.refsVE_contains Y bm hbm) (I1.kIn _ _ hC) (PySem.W.looks_findIn I1.kIn iC) (fun self => PySem.W.bind_fn I1.kIn self tI) one ?_)
  have bnd := hb ⟨(hp.push (PySem.W.kdv_tup [u])).push (PySem.HandSPX.excO C hp.objs.size), g, dr, tk, os⟩ [Value.ref (hp.objs.size + 1), u] I2.kIn (by rw [Gf.pl]; rfl)
  rw [List.append_nil] at bnd
  refine codeAny_mono (Gf.go (make_guards hgd) (hr.make C [u] []) (I2.env0.make C [u] []) bnd r2 spq) ?_
  intro r s' hq
  cases r with
  | error _ => exact (show False from hq).elim
  | ok fl =>
    cases fl with
    | ret v =>
      obtain ⟨w, H2, I3, rv, rfl, q3⟩ := I2.after hq
      exact ⟨rv, ⟨V.ref (hp.objs.size + 1), H2, I3, rfl, q3⟩⟩
    | next => exact (show False from hq).elim
    | brk => exact (show False from hq).elim
    | cont => exact (show False from hq).elim
end
end G

set_option Elab.async false
set_option linter.all false
set_option autoImplicit false
set_option maxRecDepth 100000
set_option maxHeartbeats 2000000
namespace G
open PySem PySem.Spec PySem.Calls
open Builtin Builtin.Str Builtin.BaseException Builtin.Exceptions
/-! ### repr of an own exception with one text -/
/-- the last part of the class's name -/
def exN (nm : Str) : Str := Str.ofString ((nm.toString.cutAt '.').getLastD "")
def exShown (nm m : Str) : Str := exN nm ++ Str.ofString "(" ++ reprText m ++ Str.ofString ")"
section
variable {prog : Program} {w : World} {A : Around} {E : Value → Shared → Prop} {s : Shared} {K : PySem.W.Frag} {C e t0 : Addr} {m : Str} {tk : Tok} {oC : Obj} {cd : ClassData}
theorem nameWhole_C {Q : String → Shared → Prop} {M : Model} (x : PySem.ExcC K C e t0 s.heap) (hC : s.heap.get? C = some oC) (hd : oC.data = .cls cd) (q : Q cd.name.toString s) : wpAny M A (typeNameOfWhole (.ref e)) Q E s := by
  unfold typeNameOfWhole shownTypeOf
  refine wpAny_bind (wpAny_bind (x.LT.here ?_))
  rw [if_neg (show ¬ ((Value.ref C == Value.type "builtin_function_or_method") = true) from fun z => nomatch (beq_iff_eq.mp z))]
  refine wpAny_pure ?_
  show wpAny M A (do return (← classData C).name.toString) Q E s
  unfold classData
  refine wpAny_bind (wpAny_bind (wpAny_load hC ?_))
  rw [hd]
  exact wpAny_pure (wpAny_pure q)
theorem bexcReprAt_C (b : Nat) {Q : Fin → Shared → Prop} (x : PySem.ExcC K C e t0 s.heap) (ht : s.heap.TupAt t0 [.str m tk]) (hC : s.heap.get? C = some oC) (hd : oC.data = .cls cd)
    (hq : Q (.done (.ret (.str (exShown cd.name m) (s.toks + 1)))) { s with toks := s.toks + 1 + 1 }) (hsz : b + (exShown cd.name m).length ≤ sizeLine) : wpAny (model prog w) A (Builtin.bexcReprAt b ⟨[.ref e], []⟩) Q E s := by
  have e1 : b + (Str.ofString ((cd.name.toString.cutAt '.').getLastD "") ++ Str.ofString "(" ++ reprText m ++ Str.ofString ")").length ≤ sizeLine := hsz
  have hsz2 : (Str.ofString ((cd.name.toString.cutAt '.').getLastD "") ++ Str.ofString "(" ++ reprText m ++ Str.ofString ")").length ≤ sizeLine := Nat.le_trans (Nat.le_add_left _ b) e1
  have eP : (Str.ofString "(").length = 1 := by rw [ofString_length]; rfl
  rw [strLen_append, strLen_append, strLen_append, eP] at e1
  have hsz1 : (reprText m).length ≤ sizeLine := by omega
  have hpile : b + ((Str.ofString ((cd.name.toString.cutAt '.').getLastD "")).length + 1) ≤ sizeLine := by omega
  unfold Builtin.bexcReprAt
  repeat (first | with_reducible refine nameWhole_C x hC hd ?_ | with_reducible refine PySem.bexcArgs_C x ht ?_ | rw [pyReprUnder_leaf (v := .str m tk) hpile (by intro a; nofun)] | with_reducible refine wpAny_pyRepr_str ?_ | wp_step)
  exact hq
theorem reprK_exc {h₀ : Heap} {o : Obj} {vs : Array Value} (X : K.In h₀) (ho : h₀.get? e = some o) (hc : o.cls = .ref C) (hv : o.data = .fields vs) (h0 : vs[0]? = some (.ref t0)) (ht : h₀.TupAt t0 [.str m tk]) (hC : h₀.get? C = some oC) (hd : oC.data = .cls cd)
    (hs : PySem.W.findIn K (.ref C) "__repr__" = some (some (.builtin "BaseException.__repr__"))) (hB : PySem.W.subIn K (.ref C) (.type "BaseException") = some true) (as : List Addr) (d : Nat) : ReprK prog w as h₀ d (.ref e) (exShown cd.name m) := by
  intro base hsz A g E s Q hg hcl hu hk hQ
  have Xs : K.In s.heap := fun b ob z => hk _ _ (X b ob z)
  have x : PySem.ExcC K C e t0 s.heap := ⟨Xs, o, vs, hk _ _ ho, hc, hv, h0⟩
  have ht' : s.heap.TupAt t0 [.str m tk] := by
    obtain ⟨ot, k, h1, h2⟩ := ht
    exact ⟨ot, k, hk _ _ h1, h2⟩
  have hf : PySem.W.Looks (model prog w) s.heap (typeLookup (.ref C) "__repr__") (some (.builtin "BaseException.__repr__")) := PySem.W.looks_findIn Xs hs
  refine wpAny_pyReprUnder_ref (by omega) ?_
  unfold pyReprObjUnder pyReprObjBy
  refine wpAny_bind (wpAny_cRoomFor (by omega) ?_)
  refine wpAny_bind ?_
  unfold specialOf
  refine wpAny_bind (x.LT.here (hf.here ?_))
  simp only [callSpecialIfBoundBy?, bindSpecialIfBound?]
  refine wpAny_bind (wpAny_holding (wpAny_bind (wpAny_bind ?_)))
  unfold specialOf
  refine wpAny_bind (x.LT.here (hf.here ?_))
  simp only [F.excStr_ValueError.repr.bind]
  have tw : reprUnder? (.builtin "BaseException.__repr__") = some (.builtin "BaseException.__repr__.under") := rfl
  have fin : wpAny (model prog w) A (call (.builtin "BaseException.__repr__.under") [.ref e, rawInt base]) (fun v s' => wpAny (model prog w) A (do if ← isInstance v (.type "str") then pure v else raiseError "TypeError" s!"__repr__ returned non-string (type {← typeNameOf v})") (fun v s' => ∃ y u, v = .str y u ∧ Q y s') E s') E s := by
    refine wpAny_call (codeAny_call_builtin F.plain_bexc_repr_under F.entry_bexc_repr_under ?_)
    rw [F.check_bexc_repr_under]
    refine wpAny_pure ?_
    rw [show Builtin.«BaseException.__repr__.under» ⟨[.ref e, rawInt base], []⟩ = (do checkBuiltinCall "BaseException.__repr__" ⟨[.ref e], []⟩; Builtin.bexcReprAt base ⟨[.ref e], []⟩) from reprTwin_eq _ _ _ _]
    refine wpAny_bind (@PySem.W.check_slot (model prog w) _ _ _ "BaseException.__repr__" "BaseException" "__repr__" (.ref e) [] [] _ (by decide +kernel) (by decide +kernel) (x.LI hB) (F.args_bexc_repr _) ?_)
    refine bexcReprAt_C base x ht' (hk _ _ hC) hd ?_ hsz
    show wpAny _ _ _ _ _ _
    refine wpAny_bind (wpAny_isInstance (T := "str") (b := true) rfl isSubtype_str_str (wpAny_pure ⟨_, _, rfl, ?_⟩))
    exact hQ s.heap _ fun _ _ z => z
  have fin2 : wpAny (model prog w) A ((match reprUnder? (.builtin "BaseException.__repr__"), [Value.ref e] with
      | some twin, [self] => call twin [self, rawInt base]
      | _, _ => call (.builtin "BaseException.__repr__") ([Value.ref e] ++ [])) >>= fun v => pure (some v)) (fun r s' => wpAny (model prog w) A (match r with
      | some r => (do if ← isInstance r (.type "str") then pure r else raiseError "TypeError" s!"__repr__ returned non-string (type {← typeNameOf r})")
      | none => unsupported "repr:special-get-raises") (fun v s' => ∃ y u, v = .str y u ∧ Q y s') E s') E s := by
    rw [tw]
    exact wpAny_bind (wpAny_mono fin (fun v s' h' => wpAny_pure h') fun _ _ h' => h')
  refine wpAny_bind (wpAny_askSetting (wpAny_ite ?_))
  split
  · exact wpAny_bind (wpAny_pure (wpAny_pure fin2))
  · exact wpAny_tryCatch (wpAny_bind (wpAny_pure (wpAny_pure fin2)))
end
end G

set_option Elab.async false
set_option linter.all false
set_option autoImplicit false
set_option maxRecDepth 100000
set_option maxHeartbeats 2000000
namespace G
open PySem PySem.Spec PySem.Calls L2
/-- the class's own name, and that it is told by BaseException's repr -/
structure RxC (K : PySem.W.Frag) (C : Addr) (nm : Str) : Prop where
  lk : ∃ o cd, K.lookup C = some o ∧ o.data = .cls cd ∧ cd.name = nm
  rp : PySem.W.findIn K (.ref C) "__repr__" = some (some (.builtin "BaseException.__repr__"))
  ex : PySem.W.subIn K (.ref C) (.type "BaseException") = some true
/-- the text of a value that stands for itself -/
def lfT : V → Option Str
  | .non => some (PyData.shown .none)
  | .bl b => some (PyData.shown (.bool b))
  | .int i => if i.natAbs.log2 < 1920 then some (PyData.shown (.int i)) else none
  | .str x => some (PyData.shown (.str x))
  | _ => none
def enT : List (Key × V) → Option (List Str)
  | [] => some []
  | kv :: r => match lfT (kV kv.1), lfT kv.2, enT r with
    | some a, some b, some ts => some ((a ++ ": " ++ b) :: ts)
    | _, _, _ => none
inductive ShI (K : PySem.W.Frag) (H : Hp) : V → Str → Prop
  | data {v : V} {p : PyData} : Dp K H v p → p.showable = true → p.hasDict = false → p.depth ≤ 60 → ShI K H v p.shown
  | exc {a C dx t : Addr} {m nm : Str} : H a = some (exoT a C (some dx) t) → H t = some (.tup [.str m]) → RxC K C nm → ShI K H (.ref a) (exShown nm m)
  | dct {a : Addr} {kvs : List (Key × V)} {ts : List Str} : H a = some (.dK kvs) → enT kvs = some ts → ShI K H (.ref a) (dictText ts)
inductive ShL (K : PySem.W.Frag) (H : Hp) : List V → List Str → Prop
  | nil : ShL K H [] []
  | cons {v : V} {t : Str} {vs : List V} {ts : List Str} : ShI K H v t → ShL K H vs ts → ShL K H (v :: vs) (t :: ts)
/-- what is known of an address that repr walks through, below the value u -/
def Below (h : Heap) (u : Value) (b : Addr) : Prop := (∃ p q as bs, Reads h u q as ∧ Reads h (.ref b) p bs ∧ p.depth ≤ q.depth) ∨ ∃ o, h.get? b = some o ∧ o.cls ≠ .type "list"
section
variable {X : Cx} {pins : List (Addr × Obj)} {σ : L2.St} {H : Hp} {s : Shared}
theorem lf_reprK {v : V} {u : Value} {t : Str} (e : lfT v = some t) (r : RelV v u) (hz : t.length ≤ sizeLine) (h₀ : Heap) (as : List Addr) (d : Nat) : ReprK X.prog X.w as h₀ d u t := by
  cases v with
  | non => cases e; cases r; exact .of_is (by simp only [PyData.shown]; exact ReprIs.none) _ _ _
  | bl b => cases e; cases r; exact .of_is (by simp only [PyData.shown]; exact ReprIs.bool b) _ _ _
  | int i =>
    dsimp only [lfT] at e
    split at e
    · rename_i hi
      cases e
      obtain ⟨tk, rfl⟩ := r
      exact .of_is (by simp only [PyData.shown]; exact ReprIs.int tk hi) _ _ _
    · cases e
  | str x =>
    cases e
    obtain ⟨tk, rfl⟩ := r
    exact .of_is (by simp only [PyData.shown]; exact ReprIs.str x tk (by simpa only [PyData.shown] using hz)) _ _ _
  | _ => cases e
theorem dictText_mem {ps : List Str} {p : Str} (h : p ∈ ps) : p.length ≤ (dictText ps).length := dictText_mem_le h
theorem en_reprK {h₀ : Heap} (as : List Addr) (d : Nat) : ∀ {kvs : List (Key × V)} {vs : List (Key × Value)} {es : List DictEntry} {ts : List Str}, enT kvs = some ts → KV kvs vs → Pairs (mixKind X.prog X.w) es vs → (∀ t ∈ ts, t.length ≤ sizeLine) → ReprEntriesK X.prog X.w as h₀ d es ts
  | [], _, es, ts, e, r, q, _ => by
    cases e
    cases r
    cases q
    exact .nil
  | kv :: kvs, _, es, ts, e, r, q, hz => by
    cases r with
    | @cons _ p _ ps h1 r =>
      cases q with
      | @cons en _ es' _ hk hv q =>
        unfold enT at e
        split at e
        · rename_i a b ts' e1 e2 e3
          cases e
          obtain ⟨hk1, hr⟩ := h1
          have lz := hz _ (List.mem_cons_self ..)
          rw [strLen_append, strLen_append] at lz
          have rk : RelV (kV kv.1) en.key := by
            rw [hk1]
            rcases keyIs_shape (k := p.1) (v := en.key) hk with ⟨i, t, e1, e2⟩ | ⟨x, t, e1, e2⟩
            · rw [e1, e2]; exact ⟨t, rfl⟩
            · rw [e1, e2]; exact ⟨t, rfl⟩
          exact .cons (lf_reprK e1 rk (by omega) _ _ _) (lf_reprK e2 (by rw [hv]; exact hr) (by omega) _ _ _) (en_reprK as d e3 r q fun t ht => hz t (List.mem_cons_of_mem _ ht))
        · cases e
theorem sh_reprK {v : V} {u : Value} {t : Str} (I : Inv X pins σ H s) (e : ShI X.K H v t) (r : RelV v u) (hz : t.length ≤ sizeLine) : ∃ bs n, n ≤ 60 ∧ (∀ b ∈ bs, Below s.heap u b) ∧ ReprK X.prog X.w bs s.heap n u t := by
  cases e with
  | @data _ p hd hs hn hz6 =>
    obtain ⟨as, rd⟩ := Dp.reads I p v u hd r
    obtain ⟨bs, hb, k⟩ := ReprK.of_reads (prog := X.prog) (w := X.w) rd hs (PyData.noDict_hsm hn) hz
    refine ⟨bs, p.depth, hz6, fun b hm => ?_, k⟩
    obtain ⟨d', as', r', hd'⟩ := hb b hm
    exact .inl ⟨d', p, _, _, rd, r', hd'⟩
  | @exc a C dx t m nm ha ht R =>
    obtain rfl : u = Value.ref a := r
    have ho := exoT_at I.hok ha
    obtain ⟨o, cd, lk, hcd, rfl⟩ := R.lk
    obtain ⟨its, rv, ⟨ot, hto, hc, n, hd⟩, _⟩ := I.tuple (.inl (.inl ht))
    obtain ⟨u1, rfl, tk, rfl⟩ := vals1 rv
    exact ⟨[], 0, by omega, fun b hb => by simp at hb, reprK_exc (K := X.K) I.kIn ho rfl rfl rfl ⟨ot, n, hto, hc, hd⟩ (I.kIn _ _ lk) hcd R.rp R.ex [] 0⟩
  | @dct a kvs ts ha et =>
    obtain rfl : u = Value.ref a := r
    obtain ⟨_, hsys, vs, rk, o, es, ep, ho, hx, hd, hK, hP, _⟩ := dk_of I.hok ha
    refine ⟨[a], 1, by omega, fun b hb => ?_, ReprK.dict ho hx.1 hd hsys (by simp) (en_reprK [] 0 et rk hP fun t ht => Nat.le_trans (dictText_mem ht) hz)⟩
    simp at hb
    subst hb
    exact .inr ⟨o, ho, by rw [hx.1]; decide⟩
end
end G

set_option Elab.async false
set_option linter.all false
set_option autoImplicit false
set_option maxRecDepth 100000
set_option maxHeartbeats 2000000
namespace G
open PySem PySem.Spec PySem.Calls L2
section
variable {X : Cx} {pins : List (Addr × Obj)} {σ : L2.St} {H : Hp} {s : Shared}
theorem shL_reprK (I : Inv X pins σ H s) : ∀ {vs : List V} {us : List Value} {ts : List Str}, ShL X.K H vs ts → Vals vs us → (∀ t ∈ ts, t.length ≤ sizeLine) →
    ∃ bs n, n ≤ 60 ∧ (∀ b ∈ bs, ∃ (i : Nat) (u : Value), us[i]? = some u ∧ Below s.heap u b) ∧ ReprAllK X.prog X.w bs s.heap n us ts
  | _, _, _, .nil, r, _ => by
    cases r
    exact ⟨[], 0, by omega, fun b hb => by simp at hb, .nil⟩
  | _, _, _, .cons h hl, r, hz => by
    cases r with
    | @cons _ u _ us r1 r2 =>
      obtain ⟨b1, n1, z1, k1, q1⟩ := sh_reprK I h r1 (hz _ (List.mem_cons_self ..))
      obtain ⟨b2, n2, z2, k2, q2⟩ := shL_reprK I hl r2 fun t ht => hz t (List.mem_cons_of_mem _ ht)
      refine ⟨b1 ++ b2, max n1 n2, by omega, fun b hb => ?_, .cons ((q1.more fun b hb => List.mem_append_left _ hb).level_le (Nat.le_max_left _ _)) (q2.more_le (fun b hb => List.mem_append_right _ hb) (Nat.le_max_right _ _))⟩
      rcases List.mem_append.mp hb with hb | hb
      · exact ⟨0, u, rfl, k1 b hb⟩
      · obtain ⟨i, u', e, q⟩ := k2 b hb
        exact ⟨i + 1, u', by simpa using e, q⟩
theorem ShL.len {K : PySem.W.Frag} {H : Hp} : ∀ {vs : List V} {ts : List Str}, ShL K H vs ts → ts.length = vs.length
  | _, _, .nil => rfl
  | _, _, .cons _ h => by simp [h.len]
theorem readsAll_at {h : Heap} : ∀ {us : List Value} {ps : List PyData} {as : List Addr} {i : Nat} {u : Value}, ReadsAll h us ps as → us[i]? = some u → ∃ p bs, Reads h u p bs ∧ p.depth ≤ PyData.depthAll ps
  | _, _, _, i, u, .nil, e => by simp at e
  | _, _, _, 0, u, .cons (d := d) (ds := ds) r rs, e => by
    simp at e; subst e
    exact ⟨d, _, r, by simp only [PyData.depthAll]; exact Nat.le_max_left _ _⟩
  | _, _, _, i + 1, u, .cons (d := d) (ds := ds) r rs, e => by
    obtain ⟨p, bs, q, z⟩ := readsAll_at (i := i) rs (by simpa using e)
    exact ⟨p, bs, q, Nat.le_trans z (by simp only [PyData.depthAll]; exact Nat.le_max_right _ _)⟩
/-- a list's own address isn't below it -/
theorem below_ne {h : Heap} {a : Addr} {o : Obj} {us : List Value} {n i : Nat} {u : Value} {b : Addr} (ho : h.get? a = some o) (hc : o.cls = .type "list") (hd : o.data = .seq us.toArray n) (e : us[i]? = some u) (q : Below h u b) : b ≠ a := by
  intro z
  subst z
  rcases q with ⟨p, q, as, bs, r1, r2, hdp⟩ | ⟨o', ho', hn⟩
  · cases r2 with
    | @list _ o2 vs2 n2 xs as2 h1 h2 h3 h4 =>
      rw [ho] at h1; cases h1
      rw [hd] at h3; cases h3
      obtain ⟨p', bs', r', hz⟩ := readsAll_at h4 (show us.toArray.toList[i]? = some u by simpa using e)
      obtain ⟨e1, _⟩ := PyProof.Rows.reads_det (fun _ _ e _ => e) r1 r'
      rw [e1] at hz
      simp only [PyData.depth] at hdp
      omega
    | @tuple _ o2 vs2 n2 xs as2 h1 h2 h3 h4 =>
      rw [ho] at h1; cases h1
      rw [hc] at h2; injection h2 with z; exact absurd z (by decide)
    | @dict _ o2 es n2 kvs as2 bs2 h1 h2 h3 h4 h5 =>
      rw [ho] at h1; cases h1
      rw [hc] at h2; injection h2 with z; exact absurd z (by decide)
  · rw [ho] at ho'; cases ho'
    exact hn hc
def rRepr (K : PySem.W.Frag) : List V → Hp → VK → Prop := fun xs H Q => ∃ v t, xs = [v] ∧ t.length ≤ sizeLine ∧ Q (.str t) H ∧
  ((∃ p, Dp K H v p ∧ p.showable = true ∧ p.hasDict = false ∧ p.depth ≤ 60 ∧ t = p.shown) ∨ ∃ a y vs ts, v = .ref a ∧ SqL K H a (y :: vs) ∧ ShL K H (y :: vs) ts ∧ t = listText ts)
theorem call_repr (hgd : X.A.guards = some []) (hu : X.A.units + 64 < cLine) : CallR X (.builtin "repr") (rRepr X.K) := by
  intro pins s σ H xs us Q I r h
  obtain ⟨v, t, rfl, hz, q, h⟩ := h
  obtain ⟨u, rfl, ru⟩ := vals1 r
  have back : ∀ {h' : Heap} {tk' : Nat} {z : Tok}, (∀ b o, s.heap.get? b = some o → h'.get? b = some o) → EP X pins σ Q (.str t z) { s with heap := h', toks := tk' } := fun k => ⟨.str t, H, I.kept k, ⟨_, rfl⟩, q⟩
  have back0 : ∀ {z : Tok}, EP X pins σ Q (.str t z) { s with toks := s.toks + 1 } := fun {z} => ⟨.str t, H, I.tok _, ⟨_, rfl⟩, q⟩
  rcases h with ⟨p, hd, hs, hn, hz6, rfl⟩ | ⟨a, y, vs, ts, rfl, hl, hsh, rfl⟩
  · obtain ⟨as, rd⟩ := Dp.reads I p v u hd ru
    cases rd with
    | none => exact PySem.P.repr_of_none (by simpa only [PyData.shown] using back0)
    | bool b => exact PySem.P.repr_of_bool (by simpa only [PyData.shown] using back0)
    | int i tk => exact PySem.P.repr_of_int (by simpa [PyData.showable] using hs) (by simpa only [PyData.shown] using back0)
    | str x tk => exact PySem.P.repr_of_str (by simpa only [PyData.shown] using back0) (by simpa only [PyData.shown] using hz)
    | list h1 h2 h3 h4 => exact repr_of_reads' (Reads.list h1 h2 h3 h4) hs (PyData.noDict_hsm hn) hgd (by omega) (fun _ _ e => e) (fun h' z tk k => back k) hz
    | tuple h1 h2 h3 h4 => exact repr_of_reads' (Reads.tuple h1 h2 h3 h4) hs (PyData.noDict_hsm hn) hgd (by omega) (fun _ _ e => e) (fun h' z tk k => back k) hz
    | dict h1 h2 h3 h4 h5 => exact repr_of_reads' (Reads.dict h1 h2 h3 h4 h5) hs (PyData.noDict_hsm hn) hgd (by omega) (fun _ _ e => e) (fun h' z tk k => back k) hz
  · obtain rfl : u = Value.ref a := ru
    obtain ⟨its, rv, ⟨o, n, ho, hc, _, hd⟩, _⟩ := I.list hl
    obtain ⟨bs, m, hm, hb, hk⟩ := shL_reprK I hsh rv fun t ht => Nat.le_trans (listText_mem_le ht) hz
    cases rv with
    | @cons _ x _ l r1 r2 =>
      have hna : a ∉ bs := fun z => by
        obtain ⟨i, u, e, q⟩ := hb a z
        exact below_ne ho hc hd e q rfl
      refine call_repr_slot (by omega) ⟨o, ho, hc⟩ F.slot_list_repr.toG (call_list_reprK (as := bs) (h₀ := s.heap) (d := m) ho hc hd hna (by simpa using hk.length_eq) (fun i y e => hk.item i y (by simpa using e)) hgd (fun b _ => Clear.nil b) (by show X.A.units + 1 + (m + 1) < cLine; omega) (fun _ _ e => e) (fun h' z tk k => ⟨_, _, rfl, back k⟩) hz)
end
/-! ### repr, by data -/
def lfD : D → Option Str
  | .non => some (PyData.shown .none)
  | .bl b => some (PyData.shown (.bool b))
  | .int i => if i.natAbs.log2 < 1920 then some (PyData.shown (.int i)) else none
  | .str x => some (PyData.shown (.str x))
  | _ => none
def enD : List Key → List D → Option (List Str)
  | [], [] => some []
  | k :: ks, d :: ds => match lfT (kV k), lfD d, enD ks ds with
    | some a, some b, some ts => some ((a ++ ": " ++ b) :: ts)
    | _, _, _ => none
  | _, _ => none
def okP (p : PyData) : Bool := p.showable && !p.hasDict && decide (p.depth ≤ 60)
def dtD (μ : List MO) (d : D) : Option Str := match toPy μ DEEP d with
  | some p => if okP p = true then some p.shown else none
  | none => none
def itD (nm : Nat → Option Str) (μ : List MO) : D → Option Str
  | .exc C f m d => (nm C).map fun n => exShown n m
  | .dct ks ds => (enD ks ds).map dictText
  | d => dtD μ d
def itL (nm : Nat → Option Str) (μ : List MO) : List D → Option (List Str)
  | [] => some []
  | d :: ds => match itD nm μ d, itL nm μ ds with
    | some t, some ts => some (t :: ts)
    | _, _ => none
def tx (nm : Nat → Option Str) (μ : List MO) (d : D) : Option Str := match toPy μ DEEP d with
  | some p => if okP p = true then some p.shown else none
  | none => match d with
    | .lst (d :: ds) => (itL nm μ (d :: ds)).map listText
    | _ => none
def reprD (nm : Nat → Option Str) : List D → List MO → Option (D × List MO)
  | [d], μ => match tx nm μ d with
    | some t => if t.length ≤ 1000000 then some (.str t, μ) else none
    | none => none
  | _, _ => none
section
variable {X : Cx} {cl : Nat → Addr} {nm : Nat → Option Str}
theorem lf_has {Γ : Gm} {ms : List Addr} {F : Hp} {v : V} : ∀ {d : D} {t : Str}, lfD d = some t → Has Γ ms F v d → lfT v = some t
  | .non, t, e, h => by rw [show v = .non from h]; exact e
  | .bl b, t, e, h => by rw [show v = .bl b from h]; exact e
  | .int b, t, e, h => by rw [show v = .int b from h]; exact e
  | .str b, t, e, h => by rw [show v = .str b from h]; exact e
theorem en_has {Γ : Gm} {ms : List Addr} {F : Hp} : ∀ {ks : List Key} {vs : List V} {ds : List D} {ts : List Str}, enD ks ds = some ts → HasL Γ ms F vs ds → enT (ks.zip vs) = some ts
  | [], _, [], ts, e, h => by
    cases e; cases h; rfl
  | k :: ks, _, d :: ds, ts, e, ⟨w, ws, hv, h1, h2⟩ => by
    subst hv
    unfold enD at e
    split at e
    · rename_i a b ts' e1 e2 e3
      cases e
      show enT ((k, w) :: ks.zip ws) = _
      unfold enT
      rw [e1, lf_has e2 h1, en_has e3 h2]
    · cases e
  | [], _, d :: ds, ts, e, _ => by cases e
  | k :: ks, _, [], ts, e, _ => by cases e
theorem it_has {ms : List Addr} {F H : Hp} {μ : List MO} (hn : ∀ C n, nm C = some n → RxC X.K (cl C) n) (r : HR (gm X cl) ms F H μ) {v : V} {d : D} {t : Str} (e : itD nm μ d = some t) (h : Has (gm X cl) ms F v d) : ShI X.K H v t := by
  have data : ∀ {d : D}, Has (gm X cl) ms F v d → dtD μ d = some t → ShI X.K H v t := fun {d} h e => by
    unfold dtD at e
    split at e
    · rename_i p hp
      split at e
      · rename_i ok
        cases e
        simp only [okP, Bool.and_eq_true, Bool.not_eq_true', decide_eq_true_eq] at ok
        exact .data (dp_of r DEEP v d p hp h) ok.1.1 ok.1.2 ok.2
      · cases e
    · cases e
  cases d with
  | exc C f m d =>
    obtain ⟨n, e1, rfl⟩ := Option.map_eq_some_iff.mp e
    obtain ⟨a, tt, dx, y, rfl, h1, h2, h3, h4⟩ := h
    exact .exc (r.sub _ _ h1) (r.sub _ _ h2) (hn C n e1)
  | dct ks ds =>
    obtain ⟨ts, e1, rfl⟩ := Option.map_eq_some_iff.mp e
    obtain ⟨a, xs, rfl, h1, h2, h3⟩ := h
    exact .dct (r.sub _ _ h1) (en_has e1 h3)
  | _ => exact data h e
theorem itL_has {ms : List Addr} {F H : Hp} {μ : List MO} (hn : ∀ C n, nm C = some n → RxC X.K (cl C) n) (r : HR (gm X cl) ms F H μ) : ∀ {vs : List V} {ds : List D} {ts : List Str}, itL nm μ ds = some ts → HasL (gm X cl) ms F vs ds → ShL X.K H vs ts
  | _, [], ts, e, h => by cases e; cases h; exact .nil
  | _, d :: ds, ts, e, ⟨w, ws, hv, h1, h2⟩ => by
    subst hv
    unfold itL at e
    split at e
    · rename_i t ts' e1 e2
      cases e
      exact .cons (it_has hn r e1 h1) (itL_has hn r e2 h2)
    · cases e
theorem cd_repr (hn : ∀ C n, nm C = some n → RxC X.K (cl C) n) (hgd : X.A.guards = some []) (hu : X.A.units + 64 < cLine) : CallD X cl (.builtin "repr") (reprD nm) := by
  intro ms F H μ vs ds d μ' Q r hv ev k
  unfold reprD at ev
  split at ev
  · rename_i d0
    obtain ⟨v, rfl, h⟩ := hv.one'
    split at ev
    · rename_i t et
      split at ev
      · rename_i hz
        cases ev
        refine ⟨_, call_repr hgd hu, v, t, rfl, million hz, k.imm r rfl, ?_⟩
        unfold tx at et
        split at et
        · rename_i p hp
          split at et
          · rename_i ok
            cases et
            simp only [okP, Bool.and_eq_true, Bool.not_eq_true', decide_eq_true_eq] at ok
            exact .inl ⟨p, dp_of r DEEP v d0 p hp h, ok.1.1, ok.1.2, ok.2, rfl⟩
          · cases et
        · split at et
          · obtain ⟨ts, e1, rfl⟩ := Option.map_eq_some_iff.mp et
            obtain ⟨a, xs, rfl, hs, hl⟩ := h
            have q := itL_has hn r e1 hl
            obtain ⟨y, ys, rfl, _, _⟩ := hl
            exact .inr ⟨a, y, ys, ts, rfl, SqL.of (r.sub _ _ hs), q, rfl⟩
          · cases et
      · cases ev
    · cases ev
  · cases ev
end
end G

set_option Elab.async false
set_option linter.all false
set_option autoImplicit false
set_option maxRecDepth 100000
set_option maxHeartbeats 2000000
namespace G
open PySem PySem.Spec PySem.Calls L2
section
variable {P : Program} {w : World} {K : PySem.W.Frag} {mg : Str → Option Value} {base : Heap} {cl : Nat → Addr}
/-! ### the two __init__ -/
/-- the base's: the exception's args are the one text -/
def spV (K : PySem.W.Frag) : Sp := fun vs H Q _ => ∃ (a C t0 : Addr) (m : Str), vs = [.ref a, .str m] ∧ OexC K C ∧ H a = some (exoT a C none t0) ∧ ∀ t, H t = none → Q .non (upd (upd H t (.tup [.str m])) a (exoT a C none t))
abbrev tVe (K : PySem.W.Frag) : TE := tVeT K (tCons (tVar 0) (tCons (tVar 1) tNil))
theorem initV_ok {x qual : Str} {st : Stmt} {f : Addr} {fd : FuncData} {N ps : List Str} (F : Fun K x qual st f fd) (S : FnScope N ps (defScope st)) (hn : ps.length = 2) (hN : N.length = 2)
    (hB : ∀ (cdv : Value) (A : Around) (outer : List Env) (s : Shared) (H : Hp), PSs (cxOf CX0 P w K mg base N qual (defScope st) f cdv A outer s H E0).nox (defBody st) (tDrop (tVe K))) : FnG P w K mg base 1 f fd 2 ps (spV K) := by
  refine fnG_of F S hn (fun vs H Q E h => by obtain ⟨_, _, _, _, rfl, _⟩ := h; rfl) fun cdv A outer s H vs Q hg hr h => ⟨_, hB cdv A outer s H, ?_⟩
  obtain ⟨a, C, t0, m, rfl, T, ha, q⟩ := h
  have e : L2.start N [V.ref a, .str m] = [some (.ref a), some (.str m)] := by unfold L2.start; rw [hN]; rfl
  rw [e]
  refine ⟨.ref a, rfl, .str m, rfl, ?_⟩
  exact ⟨a, C, t0, [.str m], rfl, (show 1 ≤ 1000 by decide), T, ha, fun t ht => q t ht⟩
abbrev tIx (K : PySem.W.Frag) (CB : Addr) (msg f : Str) : TS := tSeq (tDrop (fun σ H Q => tC (.ref CB) σ H fun x H1 => x = .ref CB ∧ tCons (tVar 0) (tCons (tC (.str msg)) tNil) σ H1 fun vs H2 => spV K vs H2 Q E0)) (tSetX K f (tVar 0) (tVar 1))
theorem initX_ok {x qual msg fl : Str} {st : Stmt} {f CB C : Addr} {fd : FuncData} {N ps : List Str} {k : Nat} (F : Fun K x qual st f fd) (S : FnScope N ps (defScope st)) (hn : ps.length = 2) (hN : N.length = 2) (T : OexC K C) (hno : PySem.W.findIn K (.ref C) fl = some none)
    (hB : ∀ (cdv : Value) (A : Around) (outer : List Env) (s : Shared) (H : Hp), (A.deeper (PyProof.Rows.envOfC qual (defScope st) s.heap.objs.size f cdv)).guards = some [] → Room k (A.deeper (PyProof.Rows.envOfC qual (defScope st) s.heap.objs.size f cdv)) →
      PSs (cxOf CX0 P w K mg base N qual (defScope st) f cdv A outer s H E0).nox (defBody st) (tIx K CB msg fl)) : FnG P w K mg base (k + 1) f fd 2 ps (spX C fl msg) := by
  refine fnG_of F S hn (fun vs H Q E h => by obtain ⟨_, _, _, rfl, _⟩ := h; rfl) fun cdv A outer s H vs Q hg hr h => ⟨_, hB cdv A outer s H hg hr, ?_⟩
  obtain ⟨a, y, t0, rfl, ha, q⟩ := h
  have e : L2.start N [V.ref a, y] = [some (.ref a), some y] := by unfold L2.start; rw [hN]; rfl
  rw [e]
  refine ⟨rfl, .ref a, rfl, a, C, t0, msg, rfl, T, ha, fun t ht => ?_⟩
  refine ⟨y, rfl, .ref a, rfl, a, C, t, rfl, T, hno, upd_same, fun dx hdx hne => ?_⟩
  have nd : dx ≠ t := fun z => by
    subst z
    rw [upd_ne hne, upd_same] at hdx
    exact nomatch hdx
  have hdx' : H dx = none := by
    rw [upd_ne hne, upd_ne nd] at hdx
    exact hdx
  have z := q t dx ht hdx' (Ne.symm nd)
  have eq : upd (upd (upd (upd H t (.tup [.str msg])) a (exoT a C none t)) dx (exd dx [(fl, y)])) a (exoT a C (some dx) t) = upd (upd (upd H t (.tup [.str msg])) dx (exd dx [(fl, y)])) a (exoT a C (some dx) t) := by
    funext b
    by_cases h1 : b = a
    · rw [h1, upd_same, upd_same]
    · rw [upd_ne h1, upd_ne h1]
      unfold upd
      simp only [h1, if_false]
  rw [eq]
  exact z
end
section
variable {X : Cx} {cl : Nat → Addr} {e : Expr} {es : List Expr} {r : AF} {pos : Pos}
/-! ### C(e) as data -/
def eExc (C : Nat) (f msg : Str) (r : AF) : EF := fun δ μ => match r δ μ with
  | some ([d], μ1) => some (.exc C f msg d, μ1)
  | _ => none
theorem de_exc {C : Nat} {f msg : Str} (h : PE X e (tExc (cl C) f msg (tA (gm X cl) r))) : DE X cl e (eExc C f msg r) := ⟨h.weak fun σ H Q ⟨O, ms, F, δ, μ, d, μ', R, ev, k⟩ => by
  unfold eExc at ev
  split at ev
  · rename_i d0 μ1 e1
    cases ev
    refine ⟨O, ms, F, δ, μ, [d0], _, R, e1, fun vs H1 ms1 F1 r1 s1 q1 => ?_⟩
    obtain ⟨y, rfl, hy⟩ := q1.one'
    refine ⟨y, rfl, fun a t dx ha ht hdx nt nd ntd => ?_⟩
    obtain ⟨r2, s2⟩ := r1.alloc ht (.tup [.str msg])
    have hdx2 : upd H1 t (.tup [.str msg]) dx = none := by rw [upd_ne (Ne.symm ntd)]; exact hdx
    obtain ⟨r3, s3⟩ := r2.alloc hdx2 (exd dx [(f, y)])
    have ha3 : upd (upd H1 t (.tup [.str msg])) dx (exd dx [(f, y)]) a = none := by rw [upd_ne (Ne.symm nd), upd_ne (Ne.symm nt)]; exact ha
    obtain ⟨r4, s4⟩ := r3.alloc ha3 (exoT a (cl C) (some dx) t)
    have sall := ((s1.trans' r1 s2).trans' r2 s3).trans' r3 s4
    refine k _ _ ms1 _ r4 sall ⟨a, t, dx, y, rfl, upd_same, ?_, ?_, ?_⟩
    · rw [upd_ne nt, upd_ne ntd, upd_same]
    · rw [upd_ne nd, upd_same]
    · exact ((hy.step s2).step s3).step s4
  · cases ev⟩
/-! ### dict displays, of at most one pair -/
def eDct0 : EF := fun _ μ => some (.dct [] [], μ)
theorem de_dct0 : DE X cl (.Dict [] [] pos) eDct0 := ⟨pe_dnewK.weak fun σ H Q ⟨O, ms, F, δ, μ, d, μ', R, ev, k⟩ => by
  cases ev
  intro p hp
  obtain ⟨r', s'⟩ := R.hr.alloc hp (.dK [])
  exact k _ _ ms _ r' s' ⟨p, [], rfl, upd_same, rfl, rfl⟩⟩
def eDct1 (x : Str) (d : D) : EF := fun _ μ => some (.dct [.inr x] [d], μ)
theorem de_dct1 {x : Str} {j : _} {p : Pos} {v : V} {d : D} (h : PE X e (tC v)) (hv : ∀ ms F, Has (gm X cl) ms F v d) : DE X cl (.Dict [some (.Constant (.str x) j p)] [e] pos) (eDct1 x d) :=
  ⟨(pe_disp (pps_cons pe_str h pps_nil) rfl rfl (fun z => nomatch z) (show 1 ≤ 15 by decide)).weak fun σ H Q ⟨O, ms, F, δ, μ, d', μ', R, ev, k⟩ => by
  cases ev
  intro p hp
  refine ⟨upd_same, [(.inr x, v)], rfl, (show 1 ≤ 15 by decide), ?_⟩
  obtain ⟨r', s'⟩ := R.hr.alloc hp (.dK [(.inr x, v)])
  have eq : upd (upd H p (.dK [])) p (.dK (mergeK [] [(Sum.inr x, v)])) = upd H p (.dK [(.inr x, v)]) := by
    funext b
    unfold upd
    by_cases hb : b = p
    · rw [if_pos hb, if_pos hb]; rfl
    · rw [if_neg hb, if_neg hb, if_neg hb]
  rw [eq]
  exact k _ _ ms _ r' s' ⟨p, [v], rfl, upd_same, rfl, v, [], rfl, hv _ _, rfl⟩⟩
/-! ### isinstance, of own exceptions too -/
def isiH (kit : Nat → String → Option Bool) : G1 := fun ds μ => match ds with
  | [.exc C _ _ _, .ty T] => (kit C T).map fun b => (.bl b, μ)
  | _ => isiG ds μ
theorem cd_isiH {kit : Nat → String → Option Bool} (hk : ∀ C T b, kit C T = some b → L2.ExcC X.K (cl C) ∧ PySem.W.kitOne X.K (.ref (cl C)) (.type T) = some b) : CallD X cl (.builtin "isinstance") (isiH kit) := by
  intro ms F H μ vs ds d μ' Q r hv ev k
  unfold isiH at ev
  split at ev
  · rename_i C f m d0 T
    obtain ⟨b, eb, e⟩ := Option.map_eq_some_iff.mp ev
    cases e
    obtain ⟨v, c, rfl, hx, ht⟩ := hv.two'
    obtain ⟨a, t, dx, y, rfl, h1, h2, h3, h4⟩ := hx
    rw [show c = .ty T from ht]
    obtain ⟨E1, E2⟩ := hk C T b eb
    exact ⟨_, call_isX, a, cl C, dx, t, _, .ty T, .type T, b, rfl, r.sub _ _ h1, r.sub _ _ h3, E1, .ty T, E2, k.imm r rfl⟩
  · exact cd_isi (fun _ _ _ => trivial) ms F H μ vs ds d μ' Q r hv ev k
end
end G

set_option Elab.async false
set_option linter.all false
set_option autoImplicit false
set_option maxRecDepth 100000
set_option maxHeartbeats 2000000
namespace G
open PySem PySem.Spec PySem.Calls L2
/-- an own exception with one field, behind PeerError's __init__ -/
structure HasX (P : Program) (w : World) (K : PySem.W.Frag) (mg : Str → Option Value) (base : Heap) (cl : Nat → Addr) (C : Nat) (x fl msg : Str) where
  f : Addr
  fd : FuncData
  oex : OexC K (cl C)
  ini : PySem.W.findIn K (.ref (cl C)) "__init__" = some (some (.ref f))
  ti : PySem.W.typeIn K (.ref f) = some (.type "function")
  ps : List Str
  ok : FnG P w K mg base 2 f fd 2 ps (spX (cl C) fl msg)
  bd : Binds K fd ps []
  mg : mg x = some (.ref (cl C))
section
variable {X : Cx} {cl : Nat → Addr} {e : Expr} {r : AF} {pos p : Pos} {x fl msg : Str} {C : Nat}
theorem de_excX (T : HasX X.prog X.w X.K X.mg X.base cl C x fl msg) (hgd : X.A.guards = some []) (hr : Room 3 X.A) (hg : Gl X x) (ha : DA X cl [e] r)
    (hdb : (x == ("__debug__" : Str)) = false := by decide) (he : starEach (e :: []) X.env = (false, eval e X.env) :: starEach [] X.env := by rfl) (hpl : (backTo pos (starEach [] X.env)).any (·.1) = false := by rfl) :
    DE X cl (.Call (.Name x p) [e] [] pos) (eExc C fl msg r) := de_exc (pe_exc T.oex T.ini T.ti T.ok hgd hr T.bd hg T.mg ha.p hdb he hpl)
end
end G

set_option Elab.async false
set_option linter.all false
set_option autoImplicit false
set_option maxRecDepth 100000
set_option maxHeartbeats 4000000
namespace Law
open PySem PySem.Spec PySem.Calls L2 G
def top (i : Nat) : Stmt := PySem.Challenge.pw_peersmeet_k01_kinds_of_any_thing.main.body.getD i (.Pass ⟨0, 0, 0, 0⟩)
/-- the own exceptions that stand as data -/
def exNm : Nat → Option Str
  | 0 => some "NoName"
  | 1 => some "NoPlace"
  | _ => none
def exKit : Nat → String → Option Bool := fun C T => if C < 2 ∧ T ∈ ["int", "bool", "str"] then some false else none
/-- what the top holds -/
structure Txt (K : PySem.W.Frag) (mg : Str → Option Value) (cl : Nat → Addr) : Prop where
  x_nm : ∀ C n, exNm C = some n → RxC K (cl C) n
  x_kit : ∀ C T b, exKit C T = some b → L2.ExcC K (cl C) ∧ PySem.W.kitOne K (.ref (cl C)) (.type T) = some b
  n_all : mg "all" = none
  n_bool : mg "bool" = none
  n_int : mg "int" = none
  n_isinstance : mg "isinstance" = none
  n_len : mg "len" = none
  n_max : mg "max" = none
  n_min : mg "min" = none
  n_ord : mg "ord" = none
  n_range : mg "range" = none
  n_repr : mg "repr" = none
  n_str : mg "str" = none
  c_MOST_LETTERS : ∃ t, mg "MOST_LETTERS" = some (.int 8 t)
  c_MOST_SIGNS : ∃ t, mg "MOST_SIGNS" = some (.int 60 t)
  c_PERCENT : ∃ t, mg "PERCENT" = some (.int 37 t)
  c_RING : ∃ t, mg "RING" = some (.int 256 t)
section
variable {P : Program} {w : World} {K : PySem.W.Frag} {mg : Str → Option Value} {base : Heap} {cl : Nat → Addr}


abbrev s_is_number : Stmt := top 10
abbrev N_is_number : List Str := ["thing"]
theorem sc_is_number : FnScope N_is_number ["thing"] (defScope s_is_number) := ⟨rfl, rfl, rfl, by decide +kernel, rfl, by decide +kernel, by decide +kernel⟩
def b_is_number : BF := bRet (eAndV (eCall (isiH exKit) (aCons (eVar 0) (aCons (eC (.ty "int")) (aNil)))) (eNotV (eCall (isiH exKit) (aCons (eVar 0) (aCons (eC (.ty "bool")) (aNil))))))
def f_is_number : FF := runB 1 b_is_number
theorem ok_is_number (T : Txt K mg cl)  {f : Addr} {fd : FuncData} (F : Fun K "is_number" "is_number" s_is_number f fd) : FnG P w K mg base 1 f fd 1 ["thing"] (spF ⟨K, cl⟩ 1 f_is_number) := by
  have nd := sc_is_number.nd
  exact fn_ok F sc_is_number rfl fun cdv A outer s H hgd hr => (db_one (ds_ret (de_and (de_callB (cd_isiH T.x_kit) rfl T.n_isinstance (by decide +kernel) (da_cons (de_var (pv 0)) (da_cons (de_c (v := .ty "int") (pe_bltn rfl T.n_int (by decide +kernel) rfl) fun _ _ => rfl) da_nil))) (de_one (de_not (de_callB (cd_isiH T.x_kit) rfl T.n_isinstance (by decide +kernel) (da_cons (de_var (pv 0)) (da_cons (de_c (v := .ty "bool") (pe_bltn rfl T.n_bool (by decide +kernel) rfl) fun _ _ => rfl) da_nil))))))))

abbrev s_is_name : Stmt := top 12
abbrev N_is_name : List Str := ["thing", "sign"]
theorem sc_is_name : FnScope N_is_name ["thing"] (defScope s_is_name) := ⟨rfl, rfl, rfl, by decide +kernel, rfl, by decide +kernel, by decide +kernel⟩
def b_is_name : BF := bThen (bIf (tfOr (tfNot (asB (eCall (isiH exKit) (aCons (eVar 0) (aCons (eC (.ty "str")) (aNil)))))) (tfNot (asB (eChain leD leD (eC (.int 1)) (eCall lenD (aCons (eVar 0) (aNil))) (eC (.int 8)))))) (bRet (eC (.bl false))) (bNil)) (bRet (eCall allD (aCons (eFrz (nLc (iS (eVar 0)) (nmG 1) (tYesD) (eChain leD leD (eC (.str "a")) (eVar 1) (eC (.str "z"))) [1])) (aNil))))
def f_is_name : FF := runB 2 b_is_name
theorem ok_is_name (T : Txt K mg cl)  {f : Addr} {fd : FuncData} (F : Fun K "is_name" "is_name" s_is_name f fd) : FnG P w K mg base 1 f fd 1 ["thing"] (spF ⟨K, cl⟩ 1 f_is_name) := by
  have nd := sc_is_name.nd
  exact fn_ok F sc_is_name rfl fun cdv A outer s H hgd hr => (db_cons (ds_if (dt_w (dw_or (dt_not (dt_val (de_callB (cd_isiH T.x_kit) rfl T.n_isinstance (by decide +kernel) (da_cons (de_var (pv 0)) (da_cons (de_c (v := .ty "str") (pe_bltn rfl T.n_str (by decide +kernel) rfl) fun _ _ => rfl) da_nil))))) (dw_or1 (dt_not (dt_chain opd_le opd_le de_int (de_callB cd_len rfl T.n_len (by decide +kernel) (da_cons (de_var (pv 0)) da_nil)) (de_gint rfl T.c_MOST_LETTERS)))))) (db_one (ds_ret de_bl)) db_nil) (db_one (ds_ret (de_callB (cd_all rfl) rfl T.n_all (by decide +kernel) (da_cons (de_frz (dn_lc (own := [("sign", 1)]) rfl nd (di_str (de_var (pv 0))) (blkOk_by (N := N_is_name) (sc := defScope s_is_name) (by decide +kernel)) (fun _ _ _ _ _ => (dg_name (i := 1) nd rfl (.inl rfl))) (fun _ _ _ _ _ => dts_nil) (fun _ _ _ _ _ => (de_chain opd_le opd_le de_str (de_var (pv 1)) de_str)))) da_nil)))))

abbrev s_is_text : Stmt := top 13
abbrev N_is_text : List Str := ["thing", "sign"]
theorem sc_is_text : FnScope N_is_text ["thing"] (defScope s_is_text) := ⟨rfl, rfl, rfl, by decide +kernel, rfl, by decide +kernel, by decide +kernel⟩
def b_is_text : BF := bThen (bIf (tfOr (tfNot (asB (eCall (isiH exKit) (aCons (eVar 0) (aCons (eC (.ty "str")) (aNil)))))) (asB (eBin gtD (eCall lenD (aCons (eVar 0) (aNil))) (eC (.int 60))))) (bRet (eC (.bl false))) (bNil)) (bRet (eCall allD (aCons (eFrz (nLc (iS (eVar 0)) (nmG 1) (tYesD) (eAndV (eChain leD leD (eC (.str " ")) (eVar 1) (eC (.str "~"))) (eBin neD (eCall ordD (aCons (eVar 1) (aNil))) (eC (.int 37)))) [1])) (aNil))))
def f_is_text : FF := runB 2 b_is_text
theorem ok_is_text (T : Txt K mg cl)  {f : Addr} {fd : FuncData} (F : Fun K "is_text" "is_text" s_is_text f fd) : FnG P w K mg base 1 f fd 1 ["thing"] (spF ⟨K, cl⟩ 1 f_is_text) := by
  have nd := sc_is_text.nd
  exact fn_ok F sc_is_text rfl fun cdv A outer s H hgd hr => (db_cons (ds_if (dt_w (dw_or (dt_not (dt_val (de_callB (cd_isiH T.x_kit) rfl T.n_isinstance (by decide +kernel) (da_cons (de_var (pv 0)) (da_cons (de_c (v := .ty "str") (pe_bltn rfl T.n_str (by decide +kernel) rfl) fun _ _ => rfl) da_nil))))) (dw_or1 (dt_cmp opd_gt (de_callB cd_len rfl T.n_len (by decide +kernel) (da_cons (de_var (pv 0)) da_nil)) (de_gint rfl T.c_MOST_SIGNS))))) (db_one (ds_ret de_bl)) db_nil) (db_one (ds_ret (de_callB (cd_all rfl) rfl T.n_all (by decide +kernel) (da_cons (de_frz (dn_lc (own := [("sign", 1)]) rfl nd (di_str (de_var (pv 0))) (blkOk_by (N := N_is_text) (sc := defScope s_is_text) (by decide +kernel)) (fun _ _ _ _ _ => (dg_name (i := 1) nd rfl (.inl rfl))) (fun _ _ _ _ _ => dts_nil) (fun _ _ _ _ _ => (de_and (de_chain opd_le opd_le de_str (de_var (pv 1)) de_str) (de_one (de_cmp (opd_ne hr.units) (de_callB cd_ord rfl T.n_ord (by decide +kernel) (da_cons (de_var (pv 1)) da_nil)) (de_gint rfl T.c_PERCENT))))))) da_nil)))))

abbrev s__law_cell : Stmt := top 17
abbrev N__law_cell : List Str := ["script", "k"]
theorem sc__law_cell : FnScope N__law_cell ["script", "k"] (defScope s__law_cell) := ⟨rfl, rfl, rfl, by decide +kernel, rfl, by decide +kernel, by decide +kernel⟩
def b__law_cell : BF := bThen (bIf (asB (eBin ltD (eVar 1) (eCall lenD (aCons (eVar 0) (aNil))))) (bRet (eBin ixD (eVar 0) (eVar 1))) (bNil)) (bRet (eBin addD (eBin mulD (eC (.int 7919)) (eVar 1)) (eC (.int 41))))
def f__law_cell : FF := runB 2 b__law_cell
theorem ok__law_cell (T : Txt K mg cl)  {f : Addr} {fd : FuncData} (F : Fun K "_law_cell" "_law_cell" s__law_cell f fd) : FnG P w K mg base 1 f fd 2 ["script", "k"] (spF ⟨K, cl⟩ 2 f__law_cell) := by
  have nd := sc__law_cell.nd
  exact fn_ok F sc__law_cell rfl fun cdv A outer s H hgd hr => (db_cons (ds_if (dt_cmp opd_lt (de_var (pv 1)) (de_callB cd_len rfl T.n_len (by decide +kernel) (da_cons (de_var (pv 0)) da_nil))) (db_one (ds_ret (de_ix (de_var (pv 0)) (de_var (pv 1)) (fun _ _ => rfl)))) db_nil) (db_one (ds_ret (de_bin opd_add (de_bin opd_mul de_int (de_var (pv 1))) de_int))))

abbrev s__law_bag : Stmt := top 18
abbrev N__law_bag : List Str := ["cell"]
theorem sc__law_bag : FnScope N__law_bag ["cell"] (defScope s__law_bag) := ⟨rfl, rfl, rfl, by decide +kernel, rfl, by decide +kernel, by decide +kernel⟩
def b__law_bag : BF := bRet (eMut (nLst (aCons (eCall maxD (aCons (eC (.int 0)) (aCons (eBin subD (eVar 0) (eBin powD (eC (.int 10)) (eC (.int 18)))) (aNil)))) (aCons (eBin modD (eVar 0) (eC (.int 2147483629))) (aCons (eC (.int 0)) (aNil))))))
def f__law_bag : FF := runB 1 b__law_bag
theorem ok__law_bag (T : Txt K mg cl)  {f : Addr} {fd : FuncData} (F : Fun K "_law_bag" "_law_bag" s__law_bag f fd) : FnG P w K mg base 1 f fd 1 ["cell"] (spF ⟨K, cl⟩ 1 f__law_bag) := by
  have nd := sc__law_bag.nd
  exact fn_ok F sc__law_bag rfl fun cdv A outer s H hgd hr => (db_one (ds_ret (de_mut (dn_lst (da_cons (de_callB (cd_max rfl) rfl T.n_max (by decide +kernel) (da_cons de_int (da_cons (de_bin opd_sub (de_var (pv 0)) (de_bin opd_pow de_int de_int)) da_nil))) (da_cons (de_bin opd_mod (de_var (pv 0)) de_int) (da_cons de_int da_nil)))))))

abbrev s__law_take : Stmt := top 19
abbrev N__law_take : List Str := ["bag", "many", "number", "digit"]
theorem sc__law_take : FnScope N__law_take ["bag", "many"] (defScope s__law_take) := ⟨rfl, rfl, rfl, by decide +kernel, rfl, by decide +kernel, by decide +kernel⟩
def b__law_take : BF := bThen (bIf (asB (eBin gtD (eBin ixD (eVar 0) (eC (.int 0))) (eC (.int 0)))) (bThen (bSet 3 (eBin modD (eBin ixD (eVar 0) (eC (.int 0))) (eVar 1))) (bThen (bSt (eBin fdivD (eBin ixD (eVar 0) (eC (.int 0))) (eVar 1)) (eVar 0) (eC (.int 0))) (bRet (eVar 3)))) (bNil)) (bThen (bSt (eBin addD (eBin ixD (eVar 0) (eC (.int 2))) (eC (.int 1))) (eVar 0) (eC (.int 2))) (bThen (bSet 2 (eBin modD (eBin powD (eBin addD (eBin addD (eBin ixD (eVar 0) (eC (.int 1))) (eBin mulD (eC (.int 7919)) (eBin ixD (eVar 0) (eC (.int 2))))) (eC (.int 41))) (eC (.int 5))) (eC (.int 2147483647)))) (bThen (bSet 2 (eBin modD (eBin powD (eBin addD (eVar 2) (eBin mulD (eC (.int 104729)) (eBin ixD (eVar 0) (eC (.int 2))))) (eC (.int 3))) (eC (.int 2147483587)))) (bRet (eBin modD (eBin fdivD (eVar 2) (eC (.int 16))) (eVar 1))))))
def f__law_take : FF := runB 4 b__law_take
theorem ok__law_take (T : Txt K mg cl)  {f : Addr} {fd : FuncData} (F : Fun K "_law_take" "_law_take" s__law_take f fd) : FnG P w K mg base 1 f fd 2 ["bag", "many"] (spF ⟨K, cl⟩ 2 f__law_take) := by
  have nd := sc__law_take.nd
  exact fn_ok F sc__law_take rfl fun cdv A outer s H hgd hr => (db_cons (ds_if (dt_cmp opd_gt (de_ix (de_var (pv 0)) de_int (fun _ _ => rfl)) de_int) (db_cons (ds_set (i := 3) nd rfl (.inl rfl) (de_bin opd_mod (de_ix (de_var (pv 0)) de_int (fun _ _ => rfl)) (de_var (pv 1)))) (db_cons (let z1 := (de_var (pv 0)); let z2 := de_int; ds_st (de_bin opd_fdiv (de_ix (de_var (pv 0)) de_int (fun _ _ => rfl)) (de_var (pv 1))) z1 z2 rfl rfl rfl (pg_sub z1.p z2.p set_list)) (db_one (ds_ret (de_var (pv 3)))))) db_nil) (db_cons (let z1 := (de_var (pv 0)); let z2 := de_int; ds_st (de_bin opd_add (de_ix (de_var (pv 0)) de_int (fun _ _ => rfl)) de_int) z1 z2 rfl rfl rfl (pg_sub z1.p z2.p set_list)) (db_cons (ds_set (i := 2) nd rfl (.inl rfl) (de_bin opd_mod (de_bin opd_pow (de_bin opd_add (de_bin opd_add (de_ix (de_var (pv 0)) de_int (fun _ _ => rfl)) (de_bin opd_mul de_int (de_ix (de_var (pv 0)) de_int (fun _ _ => rfl)))) de_int) de_int) de_int)) (db_cons (ds_set (i := 2) nd rfl (.inl rfl) (de_bin opd_mod (de_bin opd_pow (de_bin opd_add (de_var (pv 2)) (de_bin opd_mul de_int (de_ix (de_var (pv 0)) de_int (fun _ _ => rfl)))) de_int) de_int)) (db_one (ds_ret (de_bin opd_mod (de_bin opd_fdiv (de_var (pv 2)) de_int) (de_var (pv 1)))))))))

abbrev s__law_whole : Stmt := top 20
abbrev N__law_whole : List Str := ["thing"]
theorem sc__law_whole : FnScope N__law_whole ["thing"] (defScope s__law_whole) := ⟨rfl, rfl, rfl, by decide +kernel, rfl, by decide +kernel, by decide +kernel⟩
def b__law_whole : BF := bRet (eAndV (eCall (isiH exKit) (aCons (eVar 0) (aCons (eC (.ty "int")) (aNil)))) (eNotV (eCall (isiH exKit) (aCons (eVar 0) (aCons (eC (.ty "bool")) (aNil))))))
def f__law_whole : FF := runB 1 b__law_whole
theorem ok__law_whole (T : Txt K mg cl)  {f : Addr} {fd : FuncData} (F : Fun K "_law_whole" "_law_whole" s__law_whole f fd) : FnG P w K mg base 1 f fd 1 ["thing"] (spF ⟨K, cl⟩ 1 f__law_whole) := by
  have nd := sc__law_whole.nd
  exact fn_ok F sc__law_whole rfl fun cdv A outer s H hgd hr => (db_one (ds_ret (de_and (de_callB (cd_isiH T.x_kit) rfl T.n_isinstance (by decide +kernel) (da_cons (de_var (pv 0)) (da_cons (de_c (v := .ty "int") (pe_bltn rfl T.n_int (by decide +kernel) rfl) fun _ _ => rfl) da_nil))) (de_one (de_not (de_callB (cd_isiH T.x_kit) rfl T.n_isinstance (by decide +kernel) (da_cons (de_var (pv 0)) (da_cons (de_c (v := .ty "bool") (pe_bltn rfl T.n_bool (by decide +kernel) rfl) fun _ _ => rfl) da_nil))))))))

abbrev s__law_is_name : Stmt := top 25
abbrev N__law_is_name : List Str := ["thing", "small", "sign"]
theorem sc__law_is_name : FnScope N__law_is_name ["thing"] (defScope s__law_is_name) := ⟨rfl, rfl, rfl, by decide +kernel, rfl, by decide +kernel, by decide +kernel⟩
def b__law_is_name : BF := bThen (bSet 1 (eC (.str "abcdefghijklmnopqrstuvwxyz"))) (bRet (eAndV (eCall (isiH exKit) (aCons (eVar 0) (aCons (eC (.ty "str")) (aNil)))) (eAndV (eChain ltD ltD (eC (.int 0)) (eCall lenD (aCons (eVar 0) (aNil))) (eC (.int 9))) (eBin eqD (eFrz (nLc (iS (eVar 0)) (nmG 2) (asB (eBin ninD (eVar 2) (eVar 1))) (eVar 2) [2])) (eFrz (nLst (aNil)))))))
def f__law_is_name : FF := runB 3 b__law_is_name
theorem ok__law_is_name (T : Txt K mg cl)  {f : Addr} {fd : FuncData} (F : Fun K "_law_is_name" "_law_is_name" s__law_is_name f fd) : FnG P w K mg base 1 f fd 1 ["thing"] (spF ⟨K, cl⟩ 1 f__law_is_name) := by
  have nd := sc__law_is_name.nd
  exact fn_ok F sc__law_is_name rfl fun cdv A outer s H hgd hr => (db_cons (ds_set (i := 1) nd rfl (.inr rfl) de_str) (db_one (ds_ret (de_and (de_callB (cd_isiH T.x_kit) rfl T.n_isinstance (by decide +kernel) (da_cons (de_var (pv 0)) (da_cons (de_c (v := .ty "str") (pe_bltn rfl T.n_str (by decide +kernel) rfl) fun _ _ => rfl) da_nil))) (de_and (de_chain opd_lt opd_lt de_int (de_callB cd_len rfl T.n_len (by decide +kernel) (da_cons (de_var (pv 0)) da_nil)) de_int) (de_one (de_cmp (opd_eq hr.units) (de_frz (dn_lc (own := [("sign", 2)]) rfl nd (di_str (de_var (pv 0))) (blkOk_by (N := N__law_is_name) (sc := defScope s__law_is_name) (by decide +kernel)) (fun _ _ _ _ _ => (dg_name (i := 2) nd rfl (.inl rfl))) (fun _ _ _ _ _ => (dts_one (dt_cmp (opd_nin hr.un65) (de_var (pv 2)) (de_var (pv 1))))) (fun _ _ _ _ _ => (de_var (pv 2))))) (de_frz (dn_lst da_nil)))))))))

abbrev s__law_is_text : Stmt := top 26
abbrev N__law_is_text : List Str := ["thing", "sign"]
theorem sc__law_is_text : FnScope N__law_is_text ["thing"] (defScope s__law_is_text) := ⟨rfl, rfl, rfl, by decide +kernel, rfl, by decide +kernel, by decide +kernel⟩
def b__law_is_text : BF := bThen (bIf (tfOr (tfNot (asB (eCall (isiH exKit) (aCons (eVar 0) (aCons (eC (.ty "str")) (aNil)))))) (asB (eBin gtD (eCall lenD (aCons (eVar 0) (aNil))) (eC (.int 60))))) (bRet (eC (.bl false))) (bNil)) (bRet (eBin eqD (eFrz (nLc (iS (eVar 0)) (nmG 1) (tfNot (asB (eChain leD leD (eC (.str " ")) (eVar 1) (eC (.str "~"))))) (eVar 1) [1])) (eFrz (nLst (aNil)))))
def f__law_is_text : FF := runB 2 b__law_is_text
theorem ok__law_is_text (T : Txt K mg cl)  {f : Addr} {fd : FuncData} (F : Fun K "_law_is_text" "_law_is_text" s__law_is_text f fd) : FnG P w K mg base 1 f fd 1 ["thing"] (spF ⟨K, cl⟩ 1 f__law_is_text) := by
  have nd := sc__law_is_text.nd
  exact fn_ok F sc__law_is_text rfl fun cdv A outer s H hgd hr => (db_cons (ds_if (dt_w (dw_or (dt_not (dt_val (de_callB (cd_isiH T.x_kit) rfl T.n_isinstance (by decide +kernel) (da_cons (de_var (pv 0)) (da_cons (de_c (v := .ty "str") (pe_bltn rfl T.n_str (by decide +kernel) rfl) fun _ _ => rfl) da_nil))))) (dw_or1 (dt_cmp opd_gt (de_callB cd_len rfl T.n_len (by decide +kernel) (da_cons (de_var (pv 0)) da_nil)) de_int)))) (db_one (ds_ret de_bl)) db_nil) (db_one (ds_ret (de_cmp (opd_eq hr.units) (de_frz (dn_lc (own := [("sign", 1)]) rfl nd (di_str (de_var (pv 0))) (blkOk_by (N := N__law_is_text) (sc := defScope s__law_is_text) (by decide +kernel)) (fun _ _ _ _ _ => (dg_name (i := 1) nd rfl (.inl rfl))) (fun _ _ _ _ _ => (dts_one (dt_not (dt_chain opd_le opd_le de_str (de_var (pv 1)) de_str)))) (fun _ _ _ _ _ => (de_var (pv 1))))) (de_frz (dn_lst da_nil))))))

abbrev s__law_is : Stmt := top 27
abbrev N__law_is : List Str := ["found", "due"]
theorem sc__law_is : FnScope N__law_is ["found", "due"] (defScope s__law_is) := ⟨rfl, rfl, rfl, by decide +kernel, rfl, by decide +kernel, by decide +kernel⟩
def b__law_is : BF := bRet (eAndV (eCall (isiH exKit) (aCons (eVar 0) (aCons (eC (.ty "bool")) (aNil)))) (eBin eqD (eVar 0) (eVar 1)))
def f__law_is : FF := runB 2 b__law_is
theorem ok__law_is (T : Txt K mg cl)  {f : Addr} {fd : FuncData} (F : Fun K "_law_is" "_law_is" s__law_is f fd) : FnG P w K mg base 1 f fd 2 ["found", "due"] (spF ⟨K, cl⟩ 2 f__law_is) := by
  have nd := sc__law_is.nd
  exact fn_ok F sc__law_is rfl fun cdv A outer s H hgd hr => (db_one (ds_ret (de_and (de_callB (cd_isiH T.x_kit) rfl T.n_isinstance (by decide +kernel) (da_cons (de_var (pv 0)) (da_cons (de_c (v := .ty "bool") (pe_bltn rfl T.n_bool (by decide +kernel) rfl) fun _ _ => rfl) da_nil))) (de_one (de_cmp (opd_eq hr.units) (de_var (pv 0)) (de_var (pv 1)))))))

abbrev s_is_place : Stmt := top 14
abbrev N_is_place : List Str := ["thing"]
theorem sc_is_place : FnScope N_is_place ["thing"] (defScope s_is_place) := ⟨rfl, rfl, rfl, by decide +kernel, rfl, by decide +kernel, by decide +kernel⟩
def b_is_place : BF := bRet (eAndV (eFn f_is_number [] (aCons (eVar 0) (aNil))) (eChain leD ltD (eC (.int 0)) (eVar 0) (eC (.int 256))))
def f_is_place : FF := runB 1 b_is_place
theorem ok_is_place (T : Txt K mg cl) (T_is_number : HasF P w K mg base cl 1 "is_number" 1 ["thing"] f_is_number) {f : Addr} {fd : FuncData} (F : Fun K "is_place" "is_place" s_is_place f fd) : FnG P w K mg base 2 f fd 1 ["thing"] (spF ⟨K, cl⟩ 1 f_is_place) := by
  have nd := sc_is_place.nd
  exact fn_ok F sc_is_place rfl fun cdv A outer s H hgd hr => (db_one (ds_ret (de_and (de_call T_is_number.ok hgd hr rfl T_is_number.mg T_is_number.kp T_is_number.bd .nil (fun _ _ => rfl) rfl (da_cons (de_var (pv 0)) da_nil) (aCons_len aNil_len)) (de_one (de_chain opd_le opd_lt de_int (de_var (pv 0)) (de_gint rfl T.c_RING))))))

abbrev s_need_number : Stmt := top 15
abbrev N_need_number : List Str := ["thing"]
theorem sc_need_number : FnScope N_need_number ["thing"] (defScope s_need_number) := ⟨rfl, rfl, rfl, by decide +kernel, rfl, by decide +kernel, by decide +kernel⟩
def b_need_number : BF := bIf (tfNot (asB (eFn f_is_number [] (aCons (eVar 0) (aNil))))) (bNever) (bNil)
def f_need_number : FF := runB 1 b_need_number
theorem ok_need_number (T : Txt K mg cl) (T_is_number : HasF P w K mg base cl 1 "is_number" 1 ["thing"] f_is_number) {f : Addr} {fd : FuncData} (F : Fun K "need_number" "need_number" s_need_number f fd) : FnG P w K mg base 2 f fd 1 ["thing"] (spF ⟨K, cl⟩ 1 f_need_number) := by
  have nd := sc_need_number.nd
  exact fn_ok F sc_need_number rfl fun cdv A outer s H hgd hr => (db_one (ds_if (dt_not (dt_val (de_call T_is_number.ok hgd hr rfl T_is_number.mg T_is_number.kp T_is_number.bd .nil (fun _ _ => rfl) rfl (da_cons (de_var (pv 0)) da_nil) (aCons_len aNil_len)))) (db_one ds_never) db_nil))

abbrev s__law_any : Stmt := top 21
abbrev N__law_any : List Str := ["bag", "some"]
theorem sc__law_any : FnScope N__law_any ["bag"] (defScope s__law_any) := ⟨rfl, rfl, rfl, by decide +kernel, rfl, by decide +kernel, by decide +kernel⟩
def b__law_any : BF := bThen (bSet 1 (eFrz (nLst (aCons (eC .non) (aCons (eC (.bl true)) (aCons (eC (.bl false)) (aCons (eBin subD (eC (.int 0)) (eC (.int 1))) (aCons (eBin powD (eC (.int 10)) (eC (.int 29))) (aCons (eC (.str "")) (aCons (eC (.str "no")) (aCons (eC (.str "a b")) (aCons (eFrz (nLst (aNil))) (aCons (eFrz (nLst (aCons (eC (.str "a")) (aNil)))) (aCons (eTup (aCons (eC (.str "a")) (aNil))) (aCons (eTup (aNil)) (aCons (eDct0) (aCons (eDct1 "a" (.int 1)) (aCons (eFrz (nLst (aCons (eFrz (nLst (aCons (eC (.int 1)) (aNil)))) (aNil)))) (aNil))))))))))))))))))) (bRet (eBin ixD (eVar 1) (eFn f__law_take [] (aCons (eVar 0) (aCons (eC (.int 15)) (aNil))))))
def f__law_any : FF := runB 2 b__law_any
theorem ok__law_any (T : Txt K mg cl) (T__law_take : HasF P w K mg base cl 1 "_law_take" 2 ["bag", "many"] f__law_take) {f : Addr} {fd : FuncData} (F : Fun K "_law_any" "_law_any" s__law_any f fd) : FnG P w K mg base 2 f fd 1 ["bag"] (spF ⟨K, cl⟩ 1 f__law_any) := by
  have nd := sc__law_any.nd
  exact fn_ok F sc__law_any rfl fun cdv A outer s H hgd hr => (db_cons (ds_set (i := 1) nd rfl (.inl rfl) (de_frz (dn_lst (da_cons de_non (da_cons de_bl (da_cons de_bl (da_cons (de_bin opd_sub de_int de_int) (da_cons (de_bin opd_pow de_int de_int) (da_cons de_str (da_cons de_str (da_cons de_str (da_cons (de_frz (dn_lst da_nil)) (da_cons (de_frz (dn_lst (da_cons de_str da_nil))) (da_cons (de_tup (da_cons de_str da_nil)) (da_cons (de_tup da_nil) (da_cons de_dct0 (da_cons (de_dct1 (v := .int 1) (d := .int 1) pe_int fun _ _ => rfl) (da_cons (de_frz (dn_lst (da_cons (de_frz (dn_lst (da_cons de_int da_nil))) da_nil))) da_nil)))))))))))))))))) (db_one (ds_ret (de_ix (de_var (pv 1)) (de_call T__law_take.ok hgd hr rfl T__law_take.mg T__law_take.kp T__law_take.bd .nil (fun _ _ => rfl) rfl (da_cons (de_var (pv 0)) (da_cons de_int da_nil)) (aCons_len (aCons_len aNil_len))) (fun _ _ => rfl)))))

abbrev s__law_number : Stmt := top 22
abbrev N__law_number : List Str := ["bag", "some"]
theorem sc__law_number : FnScope N__law_number ["bag"] (defScope s__law_number) := ⟨rfl, rfl, rfl, by decide +kernel, rfl, by decide +kernel, by decide +kernel⟩
def b__law_number : BF := bThen (bSet 1 (eFrz (nLst (aCons (eC (.int 0)) (aCons (eC (.int 255)) (aCons (eC (.int 256)) (aCons (eNeg (eC (.int 1))) (aCons (eFn f__law_take [] (aCons (eVar 0) (aCons (eBin subD (eBin powD (eC (.int 10)) (eC (.int 30))) (eC (.int 1))) (aNil)))) (aCons (eBin subD (eC (.int 1)) (eFn f__law_take [] (aCons (eVar 0) (aCons (eBin subD (eBin powD (eC (.int 10)) (eC (.int 30))) (eC (.int 1))) (aNil))))) (aCons (eBin subD (eFn f__law_take [] (aCons (eVar 0) (aCons (eC (.int 300)) (aNil)))) (eC (.int 20))) (aNil))))))))))) (bRet (eBin ixD (eVar 1) (eFn f__law_take [] (aCons (eVar 0) (aCons (eC (.int 7)) (aNil))))))
def f__law_number : FF := runB 2 b__law_number
theorem ok__law_number (T : Txt K mg cl) (T__law_take : HasF P w K mg base cl 1 "_law_take" 2 ["bag", "many"] f__law_take) {f : Addr} {fd : FuncData} (F : Fun K "_law_number" "_law_number" s__law_number f fd) : FnG P w K mg base 2 f fd 1 ["bag"] (spF ⟨K, cl⟩ 1 f__law_number) := by
  have nd := sc__law_number.nd
  exact fn_ok F sc__law_number rfl fun cdv A outer s H hgd hr => (db_cons (ds_set (i := 1) nd rfl (.inl rfl) (de_frz (dn_lst (da_cons de_int (da_cons de_int (da_cons de_int (da_cons (de_neg de_int) (da_cons (de_call T__law_take.ok hgd hr rfl T__law_take.mg T__law_take.kp T__law_take.bd .nil (fun _ _ => rfl) rfl (da_cons (de_var (pv 0)) (da_cons (de_bin opd_sub (de_bin opd_pow de_int de_int) de_int) da_nil)) (aCons_len (aCons_len aNil_len))) (da_cons (de_bin opd_sub de_int (de_call T__law_take.ok hgd hr rfl T__law_take.mg T__law_take.kp T__law_take.bd .nil (fun _ _ => rfl) rfl (da_cons (de_var (pv 0)) (da_cons (de_bin opd_sub (de_bin opd_pow de_int de_int) de_int) da_nil)) (aCons_len (aCons_len aNil_len)))) (da_cons (de_bin opd_sub (de_call T__law_take.ok hgd hr rfl T__law_take.mg T__law_take.kp T__law_take.bd .nil (fun _ _ => rfl) rfl (da_cons (de_var (pv 0)) (da_cons de_int da_nil)) (aCons_len (aCons_len aNil_len))) de_int) da_nil)))))))))) (db_one (ds_ret (de_ix (de_var (pv 1)) (de_call T__law_take.ok hgd hr rfl T__law_take.mg T__law_take.kp T__law_take.bd .nil (fun _ _ => rfl) rfl (da_cons (de_var (pv 0)) (da_cons de_int da_nil)) (aCons_len (aCons_len aNil_len))) (fun _ _ => rfl)))))

abbrev s__law_spoilt : Stmt := top 23
abbrev N__law_spoilt : List Str := ["bag", "text", "sign", "at", "way"]
theorem sc__law_spoilt : FnScope N__law_spoilt ["bag", "text"] (defScope s__law_spoilt) := ⟨rfl, rfl, rfl, by decide +kernel, rfl, by decide +kernel, by decide +kernel⟩
def b__law_spoilt : BF := bThen (bSet 2 (eBin ixD (eC (.str "abzAZ09 ~}_\n-{.!")) (eFn f__law_take [] (aCons (eVar 0) (aCons (eC (.int 16)) (aNil)))))) (bThen (bSet 3 (eFn f__law_take [] (aCons (eVar 0) (aCons (eBin addD (eCall lenD (aCons (eVar 1) (aNil))) (eC (.int 1))) (aNil))))) (bThen (bSet 4 (eFn f__law_take [] (aCons (eVar 0) (aCons (eC (.int 6)) (aNil))))) (bThen (bIf (asB (eBin eqD (eVar 4) (eC (.int 0)))) (bRet (eBin addD (eBin addD (eSlS (eVar 1) (pNo) (pSo (eVar 3))) (eVar 2)) (eSlS (eVar 1) (pSo (eVar 3)) (pNo)))) (bNil)) (bThen (bIf (asB (eBin eqD (eVar 4) (eC (.int 1)))) (bRet (eBin addD (eSlS (eVar 1) (pNo) (pSo (eVar 3))) (eSlS (eVar 1) (pSo (eBin addD (eVar 3) (eC (.int 1)))) (pNo)))) (bNil)) (bRet (eIf (asB (eBin eqD (eVar 4) (eC (.int 2)))) (eBin addD (eBin addD (eSlS (eVar 1) (pNo) (pSo (eVar 3))) (eVar 2)) (eSlS (eVar 1) (pSo (eBin addD (eVar 3) (eC (.int 1)))) (pNo))) (eVar 1)))))))
def f__law_spoilt : FF := runB 5 b__law_spoilt
theorem ok__law_spoilt (T : Txt K mg cl) (T__law_take : HasF P w K mg base cl 1 "_law_take" 2 ["bag", "many"] f__law_take) {f : Addr} {fd : FuncData} (F : Fun K "_law_spoilt" "_law_spoilt" s__law_spoilt f fd) : FnG P w K mg base 2 f fd 2 ["bag", "text"] (spF ⟨K, cl⟩ 2 f__law_spoilt) := by
  have nd := sc__law_spoilt.nd
  exact fn_ok F sc__law_spoilt rfl fun cdv A outer s H hgd hr => (db_cons (ds_set (i := 2) nd rfl (.inl rfl) (de_ix de_str (de_call T__law_take.ok hgd hr rfl T__law_take.mg T__law_take.kp T__law_take.bd .nil (fun _ _ => rfl) rfl (da_cons (de_var (pv 0)) (da_cons de_int da_nil)) (aCons_len (aCons_len aNil_len))) (fun _ _ => rfl))) (db_cons (ds_set (i := 3) nd rfl (.inl rfl) (de_call T__law_take.ok hgd hr rfl T__law_take.mg T__law_take.kp T__law_take.bd .nil (fun _ _ => rfl) rfl (da_cons (de_var (pv 0)) (da_cons (de_bin opd_add (de_callB cd_len rfl T.n_len (by decide +kernel) (da_cons (de_var (pv 1)) da_nil)) de_int) da_nil)) (aCons_len (aCons_len aNil_len)))) (db_cons (ds_set (i := 4) nd rfl (.inl rfl) (de_call T__law_take.ok hgd hr rfl T__law_take.mg T__law_take.kp T__law_take.bd .nil (fun _ _ => rfl) rfl (da_cons (de_var (pv 0)) (da_cons de_int da_nil)) (aCons_len (aCons_len aNil_len)))) (db_cons (ds_if (dt_cmp (opd_eq hr.units) (de_var (pv 4)) de_int) (db_one (ds_ret (de_bin opd_add (de_bin opd_add (de_slS (de_var (pv 1)) dp_no (dp_so (de_var (pv 3)))) (de_var (pv 2))) (de_slS (de_var (pv 1)) (dp_so (de_var (pv 3))) dp_no)))) db_nil) (db_cons (ds_if (dt_cmp (opd_eq hr.units) (de_var (pv 4)) de_int) (db_one (ds_ret (de_bin opd_add (de_slS (de_var (pv 1)) dp_no (dp_so (de_var (pv 3)))) (de_slS (de_var (pv 1)) (dp_so (de_bin opd_add (de_var (pv 3)) de_int)) dp_no)))) db_nil) (db_one (ds_ret (de_if (dt_cmp (opd_eq hr.units) (de_var (pv 4)) de_int) (de_bin opd_add (de_bin opd_add (de_slS (de_var (pv 1)) dp_no (dp_so (de_var (pv 3)))) (de_var (pv 2))) (de_slS (de_var (pv 1)) (dp_so (de_bin opd_add (de_var (pv 3)) de_int)) dp_no)) (de_var (pv 1))))))))))

abbrev s_is_whole : Stmt := top 11
abbrev N_is_whole : List Str := ["thing", "low", "high"]
theorem sc_is_whole : FnScope N_is_whole ["thing", "low", "high"] (defScope s_is_whole) := ⟨rfl, rfl, rfl, by decide +kernel, rfl, by decide +kernel, by decide +kernel⟩
def b_is_whole : BF := bThen (bExpr (eFn f_need_number [] (aCons (eVar 1) (aNil)))) (bThen (bExpr (eFn f_need_number [] (aCons (eVar 2) (aNil)))) (bRet (eAndV (eFn f_is_number [] (aCons (eVar 0) (aNil))) (eChain leD leD (eVar 1) (eVar 0) (eVar 2)))))
def f_is_whole : FF := runB 3 b_is_whole
theorem ok_is_whole (T : Txt K mg cl) (T_is_number : HasF P w K mg base cl 1 "is_number" 1 ["thing"] f_is_number) (T_need_number : HasF P w K mg base cl 2 "need_number" 1 ["thing"] f_need_number) {f : Addr} {fd : FuncData} (F : Fun K "is_whole" "is_whole" s_is_whole f fd) : FnG P w K mg base 3 f fd 3 ["thing", "low", "high"] (spF ⟨K, cl⟩ 3 f_is_whole) := by
  have nd := sc_is_whole.nd
  exact fn_ok F sc_is_whole rfl fun cdv A outer s H hgd hr => (db_cons (ds_expr (de_call T_need_number.ok hgd hr rfl T_need_number.mg T_need_number.kp T_need_number.bd .nil (fun _ _ => rfl) rfl (da_cons (de_var (pv 1)) da_nil) (aCons_len aNil_len))) (db_cons (ds_expr (de_call T_need_number.ok hgd hr rfl T_need_number.mg T_need_number.kp T_need_number.bd .nil (fun _ _ => rfl) rfl (da_cons (de_var (pv 2)) da_nil) (aCons_len aNil_len))) (db_one (ds_ret (de_and (de_call T_is_number.ok hgd (hr.mono (by decide)) rfl T_is_number.mg T_is_number.kp T_is_number.bd .nil (fun _ _ => rfl) rfl (da_cons (de_var (pv 0)) da_nil) (aCons_len aNil_len)) (de_one (de_chain opd_le opd_le (de_var (pv 1)) (de_var (pv 0)) (de_var (pv 2)))))))))

abbrev s__law_text : Stmt := top 24
abbrev N__law_text : List Str := ["bag", "small", "many", "signs", "k"]
theorem sc__law_text : FnScope N__law_text ["bag"] (defScope s__law_text) := ⟨rfl, rfl, rfl, by decide +kernel, rfl, by decide +kernel, by decide +kernel⟩
def b__law_text : BF := bThen (bSet 1 (eC (.str "abcdefghijklmnopqrstuvwxyz"))) (bThen (bIf (asB (eBin eqD (eFn f__law_take [] (aCons (eVar 0) (aCons (eC (.int 2)) (aNil)))) (eC (.int 0)))) (bRet (eFn f__law_spoilt [] (aCons (eVar 0) (aCons (eMt "str" joinD (eC (.str "")) (aCons (eFrz (nLc (iR1 (aCons (eBin addD (eC (.int 1)) (eFn f__law_take [] (aCons (eVar 0) (aCons (eC (.int 9)) (aNil))))) (aNil))) (nmG 4) (tYesD) (eBin ixD (eVar 1) (eFn f__law_take [] (aCons (eVar 0) (aCons (eC (.int 26)) (aNil))))) [4])) (aNil))) (aNil))))) (bNil)) (bThen (bSet 2 (eBin ixD (eFrz (nLst (aCons (eC (.int 0)) (aCons (eC (.int 1)) (aCons (eC (.int 59)) (aCons (eC (.int 60)) (aCons (eC (.int 61)) (aCons (eFn f__law_take [] (aCons (eVar 0) (aCons (eC (.int 62)) (aNil)))) (aNil))))))))) (eFn f__law_take [] (aCons (eVar 0) (aCons (eC (.int 6)) (aNil)))))) (bThen (bSet 3 (eC (.str " !\"#$&'()*+,-./0123456789:;<=>?@ABCDEFGHIJKLMNOPQRSTUVWXYZ[\\]^_`abcdefghijklmnopqrstuvwxyz{|}~"))) (bRet (eFn f__law_spoilt [] (aCons (eVar 0) (aCons (eMt "str" joinD (eC (.str "")) (aCons (eFrz (nLc (iR1 (aCons (eVar 2) (aNil))) (nmG 4) (tYesD) (eBin ixD (eVar 3) (eFn f__law_take [] (aCons (eVar 0) (aCons (eC (.int 94)) (aNil))))) [4])) (aNil))) (aNil))))))))
def f__law_text : FF := runB 5 b__law_text
theorem ok__law_text (T : Txt K mg cl) (T__law_spoilt : HasF P w K mg base cl 2 "_law_spoilt" 2 ["bag", "text"] f__law_spoilt) (T__law_take : HasF P w K mg base cl 1 "_law_take" 2 ["bag", "many"] f__law_take) {f : Addr} {fd : FuncData} (F : Fun K "_law_text" "_law_text" s__law_text f fd) : FnG P w K mg base 3 f fd 1 ["bag"] (spF ⟨K, cl⟩ 1 f__law_text) := by
  have nd := sc__law_text.nd
  exact fn_ok F sc__law_text rfl fun cdv A outer s H hgd hr => (db_cons (ds_set (i := 1) nd rfl (.inr rfl) de_str) (db_cons (ds_if (dt_cmp (opd_eq hr.units) (de_call T__law_take.ok hgd (hr.mono (by decide)) rfl T__law_take.mg T__law_take.kp T__law_take.bd .nil (fun _ _ => rfl) rfl (da_cons (de_var (pv 0)) (da_cons de_int da_nil)) (aCons_len (aCons_len aNil_len))) de_int) (db_one (ds_ret (de_call T__law_spoilt.ok hgd hr rfl T__law_spoilt.mg T__law_spoilt.kp T__law_spoilt.bd .nil (fun _ _ => rfl) rfl (da_cons (de_var (pv 0)) (da_cons (de_bm PySem.F.plainAttrs_str PySem.F.slot_str_join PySem.F.type_str_join md_join de_str (da_cons (de_frz (dn_lc (own := [("k", 4)]) rfl nd (di_range1 rfl T.n_range (da_cons (de_bin opd_add de_int (de_call T__law_take.ok hgd (hr.mono (by decide)) rfl T__law_take.mg T__law_take.kp T__law_take.bd .nil (fun _ _ => rfl) rfl (da_cons (de_var (pv 0)) (da_cons de_int da_nil)) (aCons_len (aCons_len aNil_len)))) da_nil)) (blkOk_by (N := N__law_text) (sc := defScope s__law_text) (by decide +kernel)) (fun _ _ _ _ _ => (dg_name (i := 4) nd rfl (.inl rfl))) (fun _ _ _ _ _ => dts_nil) (fun _ _ _ _ _ => (de_ix (de_var (pv 1)) (de_call T__law_take.ok hgd (hr.mono (by decide)) rfl T__law_take.mg T__law_take.kp T__law_take.bd .nil (fun _ _ => rfl) rfl (da_cons (de_var (pv 0)) (da_cons de_int da_nil)) (aCons_len (aCons_len aNil_len))) (fun _ _ => rfl))))) da_nil)) da_nil)) (aCons_len (aCons_len aNil_len))))) db_nil) (db_cons (ds_set (i := 2) nd rfl (.inl rfl) (de_ix (de_frz (dn_lst (da_cons de_int (da_cons de_int (da_cons de_int (da_cons de_int (da_cons de_int (da_cons (de_call T__law_take.ok hgd (hr.mono (by decide)) rfl T__law_take.mg T__law_take.kp T__law_take.bd .nil (fun _ _ => rfl) rfl (da_cons (de_var (pv 0)) (da_cons de_int da_nil)) (aCons_len (aCons_len aNil_len))) da_nil)))))))) (de_call T__law_take.ok hgd (hr.mono (by decide)) rfl T__law_take.mg T__law_take.kp T__law_take.bd .nil (fun _ _ => rfl) rfl (da_cons (de_var (pv 0)) (da_cons de_int da_nil)) (aCons_len (aCons_len aNil_len))) (fun _ _ => rfl))) (db_cons (ds_set (i := 3) nd rfl (.inr rfl) de_str) (db_one (ds_ret (de_call T__law_spoilt.ok hgd hr rfl T__law_spoilt.mg T__law_spoilt.kp T__law_spoilt.bd .nil (fun _ _ => rfl) rfl (da_cons (de_var (pv 0)) (da_cons (de_bm PySem.F.plainAttrs_str PySem.F.slot_str_join PySem.F.type_str_join md_join de_str (da_cons (de_frz (dn_lc (own := [("k", 4)]) rfl nd (di_range1 rfl T.n_range (da_cons (de_var (pv 2)) da_nil)) (blkOk_by (N := N__law_text) (sc := defScope s__law_text) (by decide +kernel)) (fun _ _ _ _ _ => (dg_name (i := 4) nd rfl (.inl rfl))) (fun _ _ _ _ _ => dts_nil) (fun _ _ _ _ _ => (de_ix (de_var (pv 3)) (de_call T__law_take.ok hgd (hr.mono (by decide)) rfl T__law_take.mg T__law_take.kp T__law_take.bd .nil (fun _ _ => rfl) rfl (da_cons (de_var (pv 0)) (da_cons de_int da_nil)) (aCons_len (aCons_len aNil_len))) (fun _ _ => rfl))))) da_nil)) da_nil)) (aCons_len (aCons_len aNil_len)))))))))

abbrev s__law_right : Stmt := top 28
abbrev N__law_right : List Str := ["bag", "odd", "number", "base", "low", "high", "due", "text", "kept", "turn", "one"]
theorem sc__law_right : FnScope N__law_right ["bag"] (defScope s__law_right) := ⟨rfl, rfl, rfl, by decide +kernel, rfl, by decide +kernel, by decide +kernel⟩
def b__law_right : BF := bThen (bSet 1 (eBin ixD (eFrz (nLst (aCons (eFn f__law_any [] (aCons (eVar 0) (aNil))) (aCons (eExc 0 "found" "no name" (aCons (eC (.str "a")) (aNil))) (aCons (eExc 1 "found" "no place" (aCons (eC (.int 7)) (aNil))) (aNil)))))) (eFn f__law_take [] (aCons (eVar 0) (aCons (eC (.int 3)) (aNil)))))) (bThen (bSet 2 (eBin ixD (eFrz (nLst (aCons (eFn f__law_number [] (aCons (eVar 0) (aNil))) (aCons (eVar 1) (aNil))))) (eCall intD (aCons (eBin eqD (eFn f__law_take [] (aCons (eVar 0) (aCons (eC (.int 5)) (aNil)))) (eC (.int 0))) (aNil))))) (bThen (bSet 3 (eIf (asB (eCall (isiH exKit) (aCons (eVar 2) (aCons (eC (.ty "int")) (aNil))))) (eVar 2) (eC (.int 0)))) (bThen (bSet 4 (eBin subD (eBin addD (eBin ixD (eFrz (nLst (aCons (eVar 3) (aCons (eFn f__law_number [] (aCons (eVar 0) (aNil))) (aNil))))) (eFn f__law_take [] (aCons (eVar 0) (aCons (eC (.int 2)) (aNil))))) (eFn f__law_take [] (aCons (eVar 0) (aCons (eC (.int 3)) (aNil))))) (eC (.int 1)))) (bThen (bSet 5 (eBin subD (eBin addD (eBin ixD (eFrz (nLst (aCons (eVar 3) (aCons (eFn f__law_number [] (aCons (eVar 0) (aNil))) (aNil))))) (eFn f__law_take [] (aCons (eVar 0) (aCons (eC (.int 2)) (aNil))))) (eFn f__law_take [] (aCons (eVar 0) (aCons (eC (.int 3)) (aNil))))) (eC (.int 1)))) (bThen (bSet 6 (eAndV (eFn f__law_whole [] (aCons (eVar 2) (aNil))) (eChain leD leD (eVar 4) (eVar 2) (eVar 5)))) (bThen (bSet 7 (eBin ixD (eFrz (nLst (aCons (eFn f__law_text [] (aCons (eVar 0) (aNil))) (aCons (eVar 1) (aNil))))) (eCall intD (aCons (eBin eqD (eFn f__law_take [] (aCons (eVar 0) (aCons (eC (.int 6)) (aNil)))) (eC (.int 0))) (aNil))))) (bThen (bSet 8 (eCall (reprD exNm) (aCons (eFrz (nLst (aCons (eVar 2) (aCons (eVar 7) (aNil))))) (aNil)))) (bThen (bFor (iR1 (aCons (eC (.int 2)) (aNil))) (nmG 9) (bThen (bIf (tfNot (asB (eFn f__law_is [] (aCons (eFn f_is_whole [] (aCons (eVar 2) (aCons (eVar 4) (aCons (eVar 5) (aNil))))) (aCons (eVar 6) (aNil)))))) (bRet (eC (.bl false))) (bNil)) (bFor (iL (eFrz (nLst (aCons (eVar 2) (aCons (eVar 7) (aCons (eVar 1) (aNil))))))) (nmG 10) (bThen (bIf (tfOr (tfNot (asB (eFn f__law_is [] (aCons (eFn f_is_name [] (aCons (eVar 10) (aNil))) (aCons (eFn f__law_is_name [] (aCons (eVar 10) (aNil))) (aNil)))))) (tfNot (asB (eFn f__law_is [] (aCons (eFn f_is_text [] (aCons (eVar 10) (aNil))) (aCons (eFn f__law_is_text [] (aCons (eVar 10) (aNil))) (aNil))))))) (bRet (eC (.bl false))) (bNil)) (bIf (tfNot (asB (eFn f__law_is [] (aCons (eFn f_is_place [] (aCons (eVar 10) (aNil))) (aCons (eAndV (eFn f__law_whole [] (aCons (eVar 10) (aNil))) (eChain leD leD (eC (.int 0)) (eVar 10) (eC (.int 255)))) (aNil)))))) (bRet (eC (.bl false))) (bNil)))))) (bRet (eBin eqD (eCall (reprD exNm) (aCons (eFrz (nLst (aCons (eVar 2) (aCons (eVar 7) (aNil))))) (aNil))) (eVar 8)))))))))))
def f__law_right : FF := runB 11 b__law_right
theorem ok__law_right (T : Txt K mg cl) (T__law_any : HasF P w K mg base cl 2 "_law_any" 1 ["bag"] f__law_any) (T__law_is : HasF P w K mg base cl 1 "_law_is" 2 ["found", "due"] f__law_is) (T__law_is_name : HasF P w K mg base cl 1 "_law_is_name" 1 ["thing"] f__law_is_name) (T__law_is_text : HasF P w K mg base cl 1 "_law_is_text" 1 ["thing"] f__law_is_text) (T__law_number : HasF P w K mg base cl 2 "_law_number" 1 ["bag"] f__law_number) (T__law_take : HasF P w K mg base cl 1 "_law_take" 2 ["bag", "many"] f__law_take) (T__law_text : HasF P w K mg base cl 3 "_law_text" 1 ["bag"] f__law_text) (T__law_whole : HasF P w K mg base cl 1 "_law_whole" 1 ["thing"] f__law_whole) (T_is_name : HasF P w K mg base cl 1 "is_name" 1 ["thing"] f_is_name) (T_is_place : HasF P w K mg base cl 2 "is_place" 1 ["thing"] f_is_place) (T_is_text : HasF P w K mg base cl 1 "is_text" 1 ["thing"] f_is_text) (T_is_whole : HasF P w K mg base cl 3 "is_whole" 3 ["thing", "low", "high"] f_is_whole) (T_NoName : HasX P w K mg base cl 0 "NoName" "found" "no name") (T_NoPlace : HasX P w K mg base cl 1 "NoPlace" "found" "no place") {f : Addr} {fd : FuncData} (F : Fun K "_law_right" "_law_right" s__law_right f fd) : FnG P w K mg base 4 f fd 1 ["bag"] (spF ⟨K, cl⟩ 1 f__law_right) := by
  have nd := sc__law_right.nd
  exact fn_ok F sc__law_right rfl fun cdv A outer s H hgd hr => (db_cons (ds_set (i := 1) nd rfl (.inl rfl) (de_ix (de_frz (dn_lst (da_cons (de_call T__law_any.ok hgd (hr.mono (by decide)) rfl T__law_any.mg T__law_any.kp T__law_any.bd .nil (fun _ _ => rfl) rfl (da_cons (de_var (pv 0)) da_nil) (aCons_len aNil_len)) (da_cons (de_excX T_NoName hgd hr rfl (da_cons de_str da_nil)) (da_cons (de_excX T_NoPlace hgd hr rfl (da_cons de_int da_nil)) da_nil))))) (de_call T__law_take.ok hgd (hr.mono (by decide)) rfl T__law_take.mg T__law_take.kp T__law_take.bd .nil (fun _ _ => rfl) rfl (da_cons (de_var (pv 0)) (da_cons de_int da_nil)) (aCons_len (aCons_len aNil_len))) (fun _ _ => rfl))) (db_cons (ds_set (i := 2) nd rfl (.inl rfl) (de_ix (de_frz (dn_lst (da_cons (de_call T__law_number.ok hgd (hr.mono (by decide)) rfl T__law_number.mg T__law_number.kp T__law_number.bd .nil (fun _ _ => rfl) rfl (da_cons (de_var (pv 0)) da_nil) (aCons_len aNil_len)) (da_cons (de_var (pv 1)) da_nil)))) (de_callT cd_int rfl T.n_int (by decide +kernel) (da_cons (de_cmp (opd_eq hr.units) (de_call T__law_take.ok hgd (hr.mono (by decide)) rfl T__law_take.mg T__law_take.kp T__law_take.bd .nil (fun _ _ => rfl) rfl (da_cons (de_var (pv 0)) (da_cons de_int da_nil)) (aCons_len (aCons_len aNil_len))) de_int) da_nil)) (fun _ _ => rfl))) (db_cons (ds_set (i := 3) nd rfl (.inl rfl) (de_if (dt_val (de_callB (cd_isiH T.x_kit) rfl T.n_isinstance (by decide +kernel) (da_cons (de_var (pv 2)) (da_cons (de_c (v := .ty "int") (pe_bltn rfl T.n_int (by decide +kernel) rfl) fun _ _ => rfl) da_nil)))) (de_var (pv 2)) de_int)) (db_cons (ds_set (i := 4) nd rfl (.inl rfl) (de_bin opd_sub (de_bin opd_add (de_ix (de_frz (dn_lst (da_cons (de_var (pv 3)) (da_cons (de_call T__law_number.ok hgd (hr.mono (by decide)) rfl T__law_number.mg T__law_number.kp T__law_number.bd .nil (fun _ _ => rfl) rfl (da_cons (de_var (pv 0)) da_nil) (aCons_len aNil_len)) da_nil)))) (de_call T__law_take.ok hgd (hr.mono (by decide)) rfl T__law_take.mg T__law_take.kp T__law_take.bd .nil (fun _ _ => rfl) rfl (da_cons (de_var (pv 0)) (da_cons de_int da_nil)) (aCons_len (aCons_len aNil_len))) (fun _ _ => rfl)) (de_call T__law_take.ok hgd (hr.mono (by decide)) rfl T__law_take.mg T__law_take.kp T__law_take.bd .nil (fun _ _ => rfl) rfl (da_cons (de_var (pv 0)) (da_cons de_int da_nil)) (aCons_len (aCons_len aNil_len)))) de_int)) (db_cons (ds_set (i := 5) nd rfl (.inl rfl) (de_bin opd_sub (de_bin opd_add (de_ix (de_frz (dn_lst (da_cons (de_var (pv 3)) (da_cons (de_call T__law_number.ok hgd (hr.mono (by decide)) rfl T__law_number.mg T__law_number.kp T__law_number.bd .nil (fun _ _ => rfl) rfl (da_cons (de_var (pv 0)) da_nil) (aCons_len aNil_len)) da_nil)))) (de_call T__law_take.ok hgd (hr.mono (by decide)) rfl T__law_take.mg T__law_take.kp T__law_take.bd .nil (fun _ _ => rfl) rfl (da_cons (de_var (pv 0)) (da_cons de_int da_nil)) (aCons_len (aCons_len aNil_len))) (fun _ _ => rfl)) (de_call T__law_take.ok hgd (hr.mono (by decide)) rfl T__law_take.mg T__law_take.kp T__law_take.bd .nil (fun _ _ => rfl) rfl (da_cons (de_var (pv 0)) (da_cons de_int da_nil)) (aCons_len (aCons_len aNil_len)))) de_int)) (db_cons (ds_set (i := 6) nd rfl (.inl rfl) (de_and (de_call T__law_whole.ok hgd (hr.mono (by decide)) rfl T__law_whole.mg T__law_whole.kp T__law_whole.bd .nil (fun _ _ => rfl) rfl (da_cons (de_var (pv 2)) da_nil) (aCons_len aNil_len)) (de_one (de_chain opd_le opd_le (de_var (pv 4)) (de_var (pv 2)) (de_var (pv 5)))))) (db_cons (ds_set (i := 7) nd rfl (.inl rfl) (de_ix (de_frz (dn_lst (da_cons (de_call T__law_text.ok hgd hr rfl T__law_text.mg T__law_text.kp T__law_text.bd .nil (fun _ _ => rfl) rfl (da_cons (de_var (pv 0)) da_nil) (aCons_len aNil_len)) (da_cons (de_var (pv 1)) da_nil)))) (de_callT cd_int rfl T.n_int (by decide +kernel) (da_cons (de_cmp (opd_eq hr.units) (de_call T__law_take.ok hgd (hr.mono (by decide)) rfl T__law_take.mg T__law_take.kp T__law_take.bd .nil (fun _ _ => rfl) rfl (da_cons (de_var (pv 0)) (da_cons de_int da_nil)) (aCons_len (aCons_len aNil_len))) de_int) da_nil)) (fun _ _ => rfl))) (db_cons (ds_set (i := 8) nd rfl (.inl rfl) (de_callB (cd_repr T.x_nm hgd hr.units) rfl T.n_repr (by decide +kernel) (da_cons (de_frz (dn_lst (da_cons (de_var (pv 2)) (da_cons (de_var (pv 7)) da_nil)))) da_nil))) (db_cons (ds_for PassesOwn.never rfl (di_range1 rfl T.n_range (da_cons de_int da_nil)) (dg_name (i := 9) nd rfl (.inl rfl)) (db_cons (ds_if (dt_not (dt_val (de_call T__law_is.ok hgd (hr.mono (by decide)) rfl T__law_is.mg T__law_is.kp T__law_is.bd .nil (fun _ _ => rfl) rfl (da_cons (de_call T_is_whole.ok hgd hr rfl T_is_whole.mg T_is_whole.kp T_is_whole.bd .nil (fun _ _ => rfl) rfl (da_cons (de_var (pv 2)) (da_cons (de_var (pv 4)) (da_cons (de_var (pv 5)) da_nil))) (aCons_len (aCons_len (aCons_len aNil_len)))) (da_cons (de_var (pv 6)) da_nil)) (aCons_len (aCons_len aNil_len))))) (db_one (ds_ret de_bl)) db_nil) (db_one (ds_for PassesOwn.never rfl (di_list (de_frz (dn_lst (da_cons (de_var (pv 2)) (da_cons (de_var (pv 7)) (da_cons (de_var (pv 1)) da_nil)))))) (dg_name (i := 10) nd rfl (.inl rfl)) (db_cons (ds_if (dt_w (dw_or (dt_not (dt_val (de_call T__law_is.ok hgd (hr.mono (by decide)) rfl T__law_is.mg T__law_is.kp T__law_is.bd .nil (fun _ _ => rfl) rfl (da_cons (de_call T_is_name.ok hgd (hr.mono (by decide)) rfl T_is_name.mg T_is_name.kp T_is_name.bd .nil (fun _ _ => rfl) rfl (da_cons (de_var (pv 10)) da_nil) (aCons_len aNil_len)) (da_cons (de_call T__law_is_name.ok hgd (hr.mono (by decide)) rfl T__law_is_name.mg T__law_is_name.kp T__law_is_name.bd .nil (fun _ _ => rfl) rfl (da_cons (de_var (pv 10)) da_nil) (aCons_len aNil_len)) da_nil)) (aCons_len (aCons_len aNil_len))))) (dw_or1 (dt_not (dt_val (de_call T__law_is.ok hgd (hr.mono (by decide)) rfl T__law_is.mg T__law_is.kp T__law_is.bd .nil (fun _ _ => rfl) rfl (da_cons (de_call T_is_text.ok hgd (hr.mono (by decide)) rfl T_is_text.mg T_is_text.kp T_is_text.bd .nil (fun _ _ => rfl) rfl (da_cons (de_var (pv 10)) da_nil) (aCons_len aNil_len)) (da_cons (de_call T__law_is_text.ok hgd (hr.mono (by decide)) rfl T__law_is_text.mg T__law_is_text.kp T__law_is_text.bd .nil (fun _ _ => rfl) rfl (da_cons (de_var (pv 10)) da_nil) (aCons_len aNil_len)) da_nil)) (aCons_len (aCons_len aNil_len)))))))) (db_one (ds_ret de_bl)) db_nil) (db_one (ds_if (dt_not (dt_val (de_call T__law_is.ok hgd (hr.mono (by decide)) rfl T__law_is.mg T__law_is.kp T__law_is.bd .nil (fun _ _ => rfl) rfl (da_cons (de_call T_is_place.ok hgd (hr.mono (by decide)) rfl T_is_place.mg T_is_place.kp T_is_place.bd .nil (fun _ _ => rfl) rfl (da_cons (de_var (pv 10)) da_nil) (aCons_len aNil_len)) (da_cons (de_and (de_call T__law_whole.ok hgd (hr.mono (by decide)) rfl T__law_whole.mg T__law_whole.kp T__law_whole.bd .nil (fun _ _ => rfl) rfl (da_cons (de_var (pv 10)) da_nil) (aCons_len aNil_len)) (de_one (de_chain opd_le opd_le de_int (de_var (pv 10)) de_int))) da_nil)) (aCons_len (aCons_len aNil_len))))) (db_one (ds_ret de_bl)) db_nil))))))) (db_one (ds_ret (de_cmp (opd_eq hr.units) (de_callB (cd_repr T.x_nm hgd hr.units) rfl T.n_repr (by decide +kernel) (da_cons (de_frz (dn_lst (da_cons (de_var (pv 2)) (da_cons (de_var (pv 7)) da_nil)))) da_nil)) (de_var (pv 8))))))))))))))

abbrev s_law : Stmt := top 29
abbrev N_law : List Str := ["script", "k"]
theorem sc_law : FnScope N_law ["script"] (defScope s_law) := ⟨rfl, rfl, rfl, by decide +kernel, rfl, by decide +kernel, by decide +kernel⟩
def b_law : BF := bThen (bFor (iR1 (aCons (eCall maxD (aCons (eC (.int 3)) (aCons (eCall minD (aCons (eC (.int 12)) (aCons (eCall lenD (aCons (eVar 0) (aNil))) (aNil)))) (aNil)))) (aNil))) (nmG 1) (bIf (tfNot (asB (eFn f__law_right [] (aCons (eFn f__law_bag [] (aCons (eFn f__law_cell [] (aCons (eVar 0) (aCons (eVar 1) (aNil)))) (aNil))) (aNil))))) (bRet (eC (.bl false))) (bNil))) (bRet (eC (.bl true)))
def f_law : FF := runB 2 b_law
theorem ok_law (T : Txt K mg cl) (T__law_bag : HasF P w K mg base cl 1 "_law_bag" 1 ["cell"] f__law_bag) (T__law_cell : HasF P w K mg base cl 1 "_law_cell" 2 ["script", "k"] f__law_cell) (T__law_right : HasF P w K mg base cl 4 "_law_right" 1 ["bag"] f__law_right) {f : Addr} {fd : FuncData} (F : Fun K "law" "law" s_law f fd) : FnG P w K mg base 5 f fd 1 ["script"] (spF ⟨K, cl⟩ 1 f_law) := by
  have nd := sc_law.nd
  exact fn_ok F sc_law rfl fun cdv A outer s H hgd hr => (db_cons (ds_for PassesOwn.never rfl (di_range1 rfl T.n_range (da_cons (de_callB (cd_max rfl) rfl T.n_max (by decide +kernel) (da_cons de_int (da_cons (de_callB (cd_min rfl) rfl T.n_min (by decide +kernel) (da_cons de_int (da_cons (de_callB cd_len rfl T.n_len (by decide +kernel) (da_cons (de_var (pv 0)) da_nil)) da_nil))) da_nil))) da_nil)) (dg_name (i := 1) nd rfl (.inl rfl)) (db_one (ds_if (dt_not (dt_val (de_call T__law_right.ok hgd hr rfl T__law_right.mg T__law_right.kp T__law_right.bd .nil (fun _ _ => rfl) rfl (da_cons (de_call T__law_bag.ok hgd (hr.mono (by decide)) rfl T__law_bag.mg T__law_bag.kp T__law_bag.bd .nil (fun _ _ => rfl) rfl (da_cons (de_call T__law_cell.ok hgd (hr.mono (by decide)) rfl T__law_cell.mg T__law_cell.kp T__law_cell.bd .nil (fun _ _ => rfl) rfl (da_cons (de_var (pv 0)) (da_cons (de_var (pv 1)) da_nil)) (aCons_len (aCons_len aNil_len))) da_nil) (aCons_len aNil_len)) da_nil) (aCons_len aNil_len)))) (db_one (ds_ret de_bl)) db_nil))) (db_one (ds_ret de_bl)))
end
end Law

set_option Elab.async false
set_option linter.all false
set_option autoImplicit false
set_option maxRecDepth 100000
set_option maxHeartbeats 4000000
namespace Law
open PySem PySem.Spec PySem.Calls L2 G
theorem kb_ii : kitB "int" "int" = some true := by decide +kernel
theorem kb_ib : kitB "int" "bool" = some false := by decide +kernel
/-- a bag, drawn from at most n times -/
def BagOk (n : Nat) (o : MO) : Prop := ∃ a b c : Int, o = .lst [.int a, .int b, .int c] ∧ 0 ≤ a ∧ 0 ≤ b ∧ b < 2147483648 ∧ 0 ≤ c ∧ c ≤ n
theorem take_ok {k n : Nat} {μ : List MO} {o : MO} {m : Int} (h : μ[k]? = some o) (hb : BagOk n o) (hm : 0 < m) (hm2 : m.natAbs.log2 < 9000) (hn : n ≤ 1000000) :
    ∃ (d : Int) (o' : MO), f__law_take [.mut k, .int m] μ = some (.int d, μ.set k o') ∧ 0 ≤ d ∧ d < m ∧ BagOk (n + 1) o' := by
  obtain ⟨a, b, c, rfl, ha, hb0, hb1, hc0, hc1⟩ := hb
  have hk : k < μ.length := (List.getElem?_eq_some_iff.mp h).1
  have i0 : ixN 3 0 = some 0 := by decide
  have i1 : ixN 3 1 = some 1 := by decide
  have i2 : ixN 3 2 = some 2 := by decide
  have ix : ∀ (j : Nat) (x y z : Int) (ν : List MO), ν[k]? = some (.lst [.int x, .int y, .int z]) → j < 3 → ixD (.mut k) (.int (j : Nat)) ν = some ([D.int x, D.int y, D.int z].getD j .non, ν) := by
    intro j x y z ν e hj
    have : j = 0 ∨ j = 1 ∨ j = 2 := by omega
    rcases this with rfl | rfl | rfl <;> simp [ixD, seqD, e, L2.atI, i0, i1, i2]
  by_cases hpos : 0 < a
  · refine ⟨a % m, .lst [.int (a / m), .int b, .int c], ?_, Int.emod_nonneg _ (by omega), Int.emod_lt_of_pos _ hm, ⟨_, _, _, rfl, Int.ediv_nonneg (by omega) (by omega), hb0, hb1, hc0, by omega⟩⟩
    have x0 := ix 0 a b c μ h (by decide)
    simp at x0
    simp [f__law_take, runB, b__law_take, bThen, bIf, asB, eBin, eThen, eVar, eC, startD, gtD, bSet, modD, fdivD, bSt, bRet, x0, hpos, hm, hm2, h, i0]
  · have x2 := ix 2 a b c μ h (by decide)
    have hs : (μ.set k (.lst [.int a, .int b, .int (c + 1)]))[k]? = some (.lst [.int a, .int b, .int (c + 1)]) := by rw [List.getElem?_set_self hk]
    have x2' := ix 2 a b (c + 1) _ hs (by decide)
    have x1' := ix 1 a b (c + 1) _ hs (by decide)
    have x0 := ix 0 a b c μ h (by decide)
    simp at x0 x2 x2' x1'
    have lg : ∀ (z : Int) (j : Nat), 0 < j → z.natAbs < 2 ^ j → z.natAbs.log2 < j := fun z j h0 h1 => PySem.Flt.log2_lt_of h0 h1
    have l1 : (7919 : Int).natAbs.log2 + (c + 1).natAbs.log2 < 1000000 := by
      have q1 := lg 7919 13 (by decide) (by decide)
      have q2 := lg (c + 1) 30 (by decide) (by omega)
      omega
    have l2 : (104729 : Int).natAbs.log2 + (c + 1).natAbs.log2 < 1000000 := by
      have q1 := lg 104729 17 (by decide) (by decide)
      have q2 := lg (c + 1) 30 (by decide) (by omega)
      omega
    have p1 : (b + 7919 * (c + 1) + 41).natAbs < 2 ^ 64 := by omega
    generalize e1 : (b + 7919 * (c + 1) + 41) ^ 5 % 2147483647 = t1
    have t1a : 0 ≤ t1 := by rw [← e1]; exact Int.emod_nonneg _ (by decide)
    have t1b : t1 < 2147483647 := by rw [← e1]; exact Int.emod_lt_of_pos _ (by decide)
    have p2 : (t1 + 104729 * (c + 1)).natAbs < 2 ^ 64 := by omega
    refine ⟨(t1 + 104729 * (c + 1)) ^ 3 % 2147483587 / 16 % m, .lst [.int a, .int b, .int (c + 1)], ?_, Int.emod_nonneg _ (by omega), Int.emod_lt_of_pos _ hm, ⟨_, _, _, rfl, ha, hb0, hb1, by omega, by omega⟩⟩
    have l3 : (16 : Int).natAbs.log2 < 9000 := by have := lg 16 5 (by decide) (by decide); omega
    simp only [show ((7919 : Int).natAbs) = 7919 from rfl, show ((104729 : Int).natAbs) = 104729 from rfl, show ((16 : Int).natAbs) = 16 from rfl, show (2 ^ 64 : Nat) = 18446744073709551616 from rfl] at l1 l2 l3 p1 p2
    simp [f__law_take, runB, b__law_take, bThen, bIf, asB, eBin, eThen, eVar, eC, startD, gtD, bSet, modD, fdivD, mulD, addD, powD, bSt, bRet, bNil, x0, x2, x2', x1', hpos, hm, hm2, h, i2, l1, l2, l3, p1, p2, e1]

/-! ### the values that are tried -/
def oddL : List D := [.non, .bl true, .bl false, .int (-1), .int (10 ^ 29), .str "", .str "no", .str "a b", .lst [], .lst [.str "a"], .tup [.str "a"], .tup [], .dct [] [], .dct [.inr "a"] [.int 1], .lst [.lst [.int 1]],
  .exc 0 "found" "no name" (.str "a"), .exc 1 "found" "no place" (.int 7)]
/-- a kind that is asked for here -/
def kd : D → Option String
  | .non => some "NoneType"
  | .bl _ => some "bool"
  | .int _ => some "int"
  | .str _ => some "str"
  | .lst _ => some "list"
  | .tup _ => some "tuple"
  | .dct _ _ => some "dict"
  | .exc C _ _ _ => if C < 2 then some "" else none
  | _ => none
def isInt : D → Bool
  | .int _ => true
  | _ => false
def isIB : D → Bool
  | .int _ => true
  | .bl _ => true
  | _ => false
def isBl : D → Bool
  | .bl _ => true
  | _ => false
def isSt : D → Bool
  | .str _ => true
  | _ => false
theorem kn : kitB "NoneType" "int" = some false ∧ kitB "NoneType" "bool" = some false ∧ kitB "NoneType" "str" = some false := by decide +kernel
theorem kb : kitB "bool" "int" = some true ∧ kitB "bool" "bool" = some true ∧ kitB "bool" "str" = some false := by decide +kernel
theorem ki : kitB "int" "int" = some true ∧ kitB "int" "bool" = some false ∧ kitB "int" "str" = some false := by decide +kernel
theorem ks : kitB "str" "int" = some false ∧ kitB "str" "bool" = some false ∧ kitB "str" "str" = some true := by decide +kernel
theorem kl : kitB "list" "int" = some false ∧ kitB "list" "bool" = some false ∧ kitB "list" "str" = some false := by decide +kernel
theorem kt : kitB "tuple" "int" = some false ∧ kitB "tuple" "bool" = some false ∧ kitB "tuple" "str" = some false := by decide +kernel
theorem kdd : kitB "dict" "int" = some false ∧ kitB "dict" "bool" = some false ∧ kitB "dict" "str" = some false := by decide +kernel
theorem isi_int {x : D} (h : (kd x).isSome = true) (μ : List MO) : isiH exKit [x, .ty "int"] μ = some (.bl (isIB x), μ) := by
  cases x <;> simp [kd] at h <;> simp [isiH, isiG, isiP, typeD, kn, kb, ki, ks, kl, kt, kdd, isIB, exKit, h]
theorem isi_bool {x : D} (h : (kd x).isSome = true) (μ : List MO) : isiH exKit [x, .ty "bool"] μ = some (.bl (isBl x), μ) := by
  cases x <;> simp [kd] at h <;> simp [isiH, isiG, isiP, typeD, kn, kb, ki, ks, kl, kt, kdd, isBl, exKit, h]
theorem isi_str {x : D} (h : (kd x).isSome = true) (μ : List MO) : isiH exKit [x, .ty "str"] μ = some (.bl (isSt x), μ) := by
  cases x <;> simp [kd] at h <;> simp [isiH, isiG, isiP, typeD, kn, kb, ki, ks, kl, kt, kdd, isSt, exKit, h]
theorem is_number_ok {x : D} (h : (kd x).isSome = true) (μ : List MO) : f_is_number [x] μ = some (.bl (isInt x), μ) := by
  have e1 := isi_int h μ
  have e2 := isi_bool h μ
  cases x <;> simp [kd] at h <;> simp [f_is_number, runB, b_is_number, bRet, eAndV, eNotV, eThen, eCall, aThen, aCons, aNil, eVar, eC, startD, e1, e2, isIB, isInt, isBl]
theorem law_whole_ok {x : D} (h : (kd x).isSome = true) (μ : List MO) : f__law_whole [x] μ = some (.bl (isInt x), μ) := by
  have e1 := isi_int h μ
  have e2 := isi_bool h μ
  cases x <;> simp [kd] at h <;> simp [f__law_whole, runB, b__law_whole, bRet, eAndV, eNotV, eThen, eCall, aThen, aCons, aNil, eVar, eC, startD, e1, e2, isIB, isInt, isBl]
def isPl : D → Bool
  | .int i => decide (0 ≤ i) && decide (i < 256)
  | _ => false
theorem is_place_ok {x : D} (h : (kd x).isSome = true) (μ : List MO) : f_is_place [x] μ = some (.bl (isPl x), μ) := by
  have e1 := is_number_ok h μ
  cases x with
  | int i => by_cases h0 : 0 ≤ i <;> simp [f_is_place, runB, b_is_place, bRet, eAndV, eThen, eFn, aThen, aCons, aNil, eVar, eC, startD, e1, isInt, eChain, leD, ltD, isPl, h0]
  | _ => simp [kd] at h <;> simp [f_is_place, runB, b_is_place, bRet, eAndV, eThen, eFn, aThen, aCons, aNil, eVar, eC, startD, e1, isInt, isPl]
def isWh (lo hi : Int) : D → Bool
  | .int i => decide (lo ≤ i) && decide (i ≤ hi)
  | _ => false
theorem need_ok (i : Int) (μ : List MO) : f_need_number [.int i] μ = some (.non, μ) := by
  have e1 := is_number_ok (x := .int i) rfl μ
  simp [f_need_number, runB, b_need_number, bIf, tfNot, tThen, asB, eFn, aThen, aCons, aNil, eVar, eThen, startD, e1, isInt, bNil]
theorem is_whole_ok {x : D} (h : (kd x).isSome = true) (lo hi : Int) (μ : List MO) : f_is_whole [x, .int lo, .int hi] μ = some (.bl (isWh lo hi x), μ) := by
  have e1 := is_number_ok h μ
  have e2 := need_ok lo μ
  have e3 := need_ok hi μ
  cases x with
  | int i => by_cases h0 : lo ≤ i <;> simp [f_is_whole, runB, b_is_whole, bThen, bExpr, bRet, eAndV, eThen, eFn, aThen, aCons, aNil, eVar, eC, startD, e1, e2, e3, isInt, eChain, leD, ltD, isWh, h0]
  | _ => simp [kd] at h <;> simp [f_is_whole, runB, b_is_whole, bThen, bExpr, bRet, eAndV, eThen, eFn, aThen, aCons, aNil, eVar, eC, startD, e1, e2, e3, isInt, isWh]
theorem eqv_bl (a b : Bool) : PyData.eqv (.bool a) (.bool b) = (a == b) := by cases a <;> cases b <;> decide +kernel
theorem law_is_ok (a : Bool) (μ : List MO) : f__law_is [.bl a, .bl a] μ = some (.bl true, μ) := by
  have e1 := isi_bool (x := .bl a) rfl μ
  cases a <;> simp [f__law_is, runB, b__law_is, bRet, eAndV, eThen, eCall, aThen, aCons, aNil, eVar, eC, startD, e1, isBl, eBin, eqD, eqP, toPy, shp, SeqAt.shaped, eqv_bl, PyData.canLay0, PyData.depth]
end Law

set_option Elab.async false
set_option linter.all false
set_option autoImplicit false
set_option maxRecDepth 100000
set_option maxHeartbeats 4000000
namespace Law
open PySem PySem.Spec PySem.Calls L2 G
/-! ### comprehensions -/
theorem lc_map {i : Nat} {te : EF} {δ : List SV} {μ : List MO} {h : D → D} : ∀ {ds : List D}, (∀ d ∈ ds, te (δ.set i (.d d)) μ = some (h d, μ)) → lcLoop (nmG i) tYesD te δ ds μ = some (ds.map h, μ)
  | [], _ => rfl
  | d :: ds, q => by
    have e := q d (List.mem_cons_self ..)
    have r := lc_map (ds := ds) fun x hx => q x (List.mem_cons_of_mem _ hx)
    unfold lcLoop
    simp only [nmG, tYesD, e]
    rw [show lcLoop (nmG i) tYesD te δ ds μ = some (ds.map h, μ) from r]
    rfl
theorem lc_filter {i : Nat} {tt : TF} {te : EF} {δ : List SV} {μ : List MO} {p : D → Bool} : ∀ {ds : List D}, (∀ d ∈ ds, tt (δ.set i (.d d)) μ = some (p d, μ)) → (∀ d ∈ ds, te (δ.set i (.d d)) μ = some (d, μ)) → lcLoop (nmG i) tt te δ ds μ = some (ds.filter p, μ)
  | [], _, _ => rfl
  | d :: ds, q, q' => by
    have e := q d (List.mem_cons_self ..)
    have e' := q' d (List.mem_cons_self ..)
    have r := lc_filter (ds := ds) (fun x hx => q x (List.mem_cons_of_mem _ hx)) (fun x hx => q' x (List.mem_cons_of_mem _ hx))
    unfold lcLoop
    simp only [nmG, e]
    cases hp : p d with
    | false =>
      simp only
      rw [show lcLoop (nmG i) tt te δ ds μ = _ from r, List.filter_cons_of_neg (by simp [hp])]
    | true =>
      simp only [e']
      rw [show lcLoop (nmG i) tt te δ ds μ = _ from r, List.filter_cons_of_pos hp]
/-! ### signs -/
abbrev sg (c : Nat) : D := .str ⟨#[c]⟩
theorem lt_one (a b : Nat) : (([a] : List Nat) < [b]) ↔ a < b := by
  rw [List.cons_lt_cons_iff]
  simp
theorem le_lo (c k : Nat) (x : Str) (hx : x.cps.toList = [k]) (μ : List MO) : leD (.str x) (sg c) μ = some (.bl (decide (k ≤ c)), μ) := by
  simp [leD, hx, lt_one, ← Nat.not_lt]
theorem le_hi (c k : Nat) (x : Str) (hx : x.cps.toList = [k]) (μ : List MO) : leD (sg c) (.str x) μ = some (.bl (decide (c ≤ k)), μ) := by
  simp [leD, hx, lt_one, ← Nat.not_lt]
theorem bls_map (p : Nat → Bool) : ∀ cs : List Nat, blsD (cs.map fun c => D.bl (p c)) = some (cs.map p)
  | [] => rfl
  | c :: cs => by
    show blsD (D.bl (p c) :: cs.map _) = _
    unfold blsD
    rw [bls_map p cs]
    rfl
theorem all_id (p : Nat → Bool) (cs : List Nat) : (cs.map p).all id = cs.all p := by induction cs <;> simp_all
/-- the signs are of the plain kind, none is a percent -/
def Gd (s : Str) : Prop := ∀ c ∈ s.cps.toList, c < 128 ∧ c ≠ 37
def inAZ (c : Nat) : Bool := decide (97 ≤ c) && decide (c ≤ 122)
def inSp (c : Nat) : Bool := decide (32 ≤ c) && decide (c ≤ 126)
def nameB (s : Str) : Bool := decide (1 ≤ s.length) && decide (s.length ≤ 8) && s.cps.toList.all inAZ
def textB (s : Str) : Bool := decide (s.length ≤ 60) && s.cps.toList.all inSp
theorem cps_len (s : Str) : s.cps.toList.length = s.length := by simp [Str.length]
theorem sa : ("a" : Str).cps.toList = [97] := by decide
theorem sz : ("z" : Str).cps.toList = [122] := by decide
theorem ss : (" " : Str).cps.toList = [32] := by decide
theorem st : ("~" : Str).cps.toList = [126] := by decide
theorem ch_name (c : Nat) (δ : List SV) (μ : List MO) (h : δ[1]? = some (.d (sg c))) : eChain leD leD (eC (.str "a")) (eVar 1) (eC (.str "z")) δ μ = some (.bl (inAZ c), μ) := by
  have e1 := le_lo c 97 "a" sa μ
  have e2 := le_hi c 122 "z" sz μ
  by_cases q : 97 ≤ c <;> simp [eChain, eThen, eC, eVar, h, e1, e2, inAZ, q]
theorem ch_text (c : Nat) (δ : List SV) (μ : List MO) (h : δ[1]? = some (.d (sg c))) : eChain leD leD (eC (.str " ")) (eVar 1) (eC (.str "~")) δ μ = some (.bl (inSp c), μ) := by
  have e1 := le_lo c 32 " " ss μ
  have e2 := le_hi c 126 "~" st μ
  by_cases q : 32 ≤ c <;> simp [eChain, eThen, eC, eVar, h, e1, e2, inSp, q]
/-- the reading of a sign by its number -/
def onS (p : Nat → Bool) : D → Bool
  | .str x => p (x.cps.getD 0 0)
  | _ => false
theorem onS_sg (p : Nat → Bool) (c : Nat) : onS p (sg c) = p c := rfl
theorem map_signs (p : Nat → Bool) (s : Str) : (signsD s).map (fun d => D.bl (onS p d)) = s.cps.toList.map fun c => D.bl (p c) := by
  unfold signsD
  rw [List.map_map]
  rfl
/-- a def that asks, hands back False, or else hands something back -/
theorem run_ask {n : Nat} {t : TF} {e : EF} {ds : List D} {μ μ1 μ2 : List MO} {b : Bool} {d : D} (ht : t (startD n ds) μ = some (b, μ1)) (he : b = false → e (startD n ds) μ1 = some (d, μ2)) (hb : b = true → d = .bl false ∧ μ2 = μ1) :
    runB n (bThen (bIf t (bRet (eC (.bl false))) bNil) (bRet e)) ds μ = some (d, μ2) := by
  cases b with
  | true =>
    obtain ⟨rfl, rfl⟩ := hb rfl
    simp [runB, bThen, bIf, ht, bRet, eC]
  | false =>
    simp [runB, bThen, bIf, ht, bRet, bNil, he rfl]
theorem run_ret {n : Nat} {e : EF} {ds : List D} {μ μ1 : List MO} {d : D} (he : e (startD n ds) μ = some (d, μ1)) : runB n (bRet e) ds μ = some (d, μ1) := by simp [runB, bRet, he]
theorem len_str (s : Str) (hl : s.length ≤ 100) (i : Nat) (δ : List SV) (μ : List MO) (h : δ[i]? = some (.d (.str s))) : eCall lenD (aCons (eVar i) aNil) δ μ = some (.int s.length, μ) := by
  simp [eCall, aThen, aCons, aNil, eVar, eThen, h, lenD, show s.length ≤ 1000000 by omega]
theorem isi_at (i : Nat) (T : String) (x : D) (b : Bool) (δ : List SV) (μ : List MO) (h : δ[i]? = some (.d x)) (e : isiH exKit [x, .ty T] μ = some (.bl b, μ)) : eCall (isiH exKit) (aCons (eVar i) (aCons (eC (.ty T)) aNil)) δ μ = some (.bl b, μ) := by
  simp [eCall, aThen, aCons, aNil, eVar, eC, eThen, h, e]
theorem asB_eq {f : EF} {δ : List SV} {μ μ1 : List MO} {b : Bool} (h : f δ μ = some (.bl b, μ1)) : asB f δ μ = some (b, μ1) := by simp [asB, h]
theorem not_eq {f : TF} {δ : List SV} {μ μ1 : List MO} {b : Bool} (h : f δ μ = some (b, μ1)) : tfNot f δ μ = some (!b, μ1) := by simp [tfNot, tThen, h]
theorem or_eq {f g : TF} {δ : List SV} {μ μ1 : List MO} {a b : Bool} (h : f δ μ = some (a, μ1)) (h2 : a = false → g δ μ1 = some (b, μ1)) : tfOr f g δ μ = some (a || b, μ1) := by
  cases a with
  | true => simp [tfOr, tThen, h]
  | false => simp [tfOr, tThen, h, h2 rfl]
theorem and_eq {f g : EF} {δ : List SV} {μ μ1 : List MO} {a b : Bool} (h : f δ μ = some (.bl a, μ1)) (h2 : a = true → g δ μ1 = some (.bl b, μ1)) : eAndV f g δ μ = some (.bl (a && b), μ1) := by
  cases a with
  | false => simp [eAndV, eThen, h]
  | true => simp [eAndV, eThen, h, h2 rfl]
theorem ch_le (a b c : Int) {fa fb fc : EF} {δ : List SV} {μ : List MO} (h1 : fa δ μ = some (.int a, μ)) (h2 : fb δ μ = some (.int b, μ)) (h3 : fc δ μ = some (.int c, μ)) : eChain leD leD fa fb fc δ μ = some (.bl (decide (a ≤ b) && decide (b ≤ c)), μ) := by
  by_cases q : a ≤ b <;> simp [eChain, eThen, h1, h2, h3, leD, q]
theorem ch_lt (a b c : Int) {fa fb fc : EF} {δ : List SV} {μ : List MO} (h1 : fa δ μ = some (.int a, μ)) (h2 : fb δ μ = some (.int b, μ)) (h3 : fc δ μ = some (.int c, μ)) : eChain ltD ltD fa fb fc δ μ = some (.bl (decide (a < b) && decide (b < c)), μ) := by
  by_cases q : a < b <;> simp [eChain, eThen, h1, h2, h3, ltD, q]
theorem signs_len (s : Str) : (signsD s).length = s.length := by simp [signsD, Str.length]
theorem all_eq {n : NF} {xs : List D} {bs : List Bool} {δ : List SV} {μ : List MO} (h : n δ μ = some (xs, μ)) (hb : blsD xs = some bs) : eCall allD (aCons (eFrz n) aNil) δ μ = some (.bl (bs.all id), μ) := by
  simp [eCall, aThen, aCons, aNil, eThen, eFrz, h, allD, hb]
theorem lc_str {i j : Nat} {p : Nat → Bool} {te : EF} {s : Str} {δ : List SV} {μ : List MO} (h : δ[i]? = some (.d (.str s))) (hl : s.length ≤ 100) (hj : j < δ.length) (q : ∀ (c : Nat) (δ' : List SV), δ'[j]? = some (.d (sg c)) → te δ' μ = some (.bl (p c), μ)) :
    nLc (iS (eVar i)) (nmG j) tYesD te [j] δ μ = some (s.cps.toList.map (fun c => D.bl (p c)), μ) := by
  have lc : lcLoop (nmG j) tYesD te (wipeD δ [j]) (signsD s) μ = some ((signsD s).map (fun d => D.bl (onS p d)), μ) := by
    refine lc_map fun d hd => ?_
    obtain ⟨c, hc, rfl⟩ := List.mem_map.mp hd
    refine q c _ ?_
    simp [wipeD, hj]
  rw [map_signs] at lc
  simp [nLc, iS, eThen, eVar, h, signs_len, show s.length ≤ 1000000 by omega, lc]
theorem dec_nat (a b : Nat) : decide ((a : Int) ≤ (b : Int)) = decide (a ≤ b) := by simp
theorem is_name_str (s : Str) (hl : s.length ≤ 100) (μ : List MO) : f_is_name [.str s] μ = some (.bl (nameB s), μ) := by
  have d0 : (startD 2 [.str s])[0]? = some (.d (.str s)) := rfl
  have e1 := isi_at 0 "str" _ _ _ μ d0 (isi_str (x := .str s) rfl μ)
  have e2 := ch_le 1 s.length 8 (fa := eC (.int 1)) (fc := eC (.int 8)) (δ := startD 2 [.str s]) (μ := μ) rfl (len_str s hl 0 _ μ d0) rfl
  refine run_ask (or_eq (not_eq (asB_eq e1)) fun _ => not_eq (asB_eq e2)) (fun hb => ?_) fun hb => ?_
  · refine (all_eq (lc_str (p := inAZ) d0 hl (by simp [startD]) fun c δ' h => ch_name c δ' μ h) (bls_map inAZ _)).trans ?_
    rw [all_id]
    have : decide ((1 : Int) ≤ s.length) && decide ((s.length : Int) ≤ 8) = true := by simpa [isSt] using hb
    have h1 : 1 ≤ s.length ∧ s.length ≤ 8 := by simp at this; omega
    simp [nameB, h1]
  · have : ¬ (1 ≤ s.length ∧ s.length ≤ 8) := by
      simp [isSt] at hb
      omega
    refine ⟨?_, rfl⟩
    have z : (decide (1 ≤ s.length) && decide (s.length ≤ 8)) = false := by
      rw [← Bool.not_eq_true, Bool.and_eq_true, decide_eq_true_eq, decide_eq_true_eq]
      exact this
    simp only [nameB, z, Bool.false_and]
theorem is_name_no {x : D} (h : (kd x).isSome = true) (hx : isSt x = false) (μ : List MO) : f_is_name [x] μ = some (.bl false, μ) := by
  have e1 := isi_at 0 "str" x _ (startD 2 [x]) μ rfl (isi_str h μ)
  rw [hx] at e1
  exact run_ask (or_eq (b := true) (not_eq (asB_eq e1)) fun z => nomatch z) (fun z => nomatch z) fun _ => ⟨rfl, rfl⟩
theorem ord_at (c i : Nat) (δ : List SV) (μ : List MO) (h : δ[i]? = some (.d (sg c))) : eBin neD (eCall ordD (aCons (eVar i) aNil)) (eC (.int 37)) δ μ = some (.bl (decide (c ≠ 37)), μ) := by
  by_cases q : c = 37 <;> simp [eBin, eThen, eCall, aThen, aCons, aNil, eVar, eC, h, ordD, Str.length, neD, eqP, toPy, shp, SeqAt.shaped, PyData.canLay0, PyData.depth, PyData.eqv, q] <;> omega
theorem is_text_str (s : Str) (hl : s.length ≤ 100) (μ : List MO) : f_is_text [.str s] μ = some (.bl (decide (s.length ≤ 60) && s.cps.toList.all fun c => inSp c && decide (c ≠ 37)), μ) := by
  have d0 : (startD 2 [.str s])[0]? = some (.d (.str s)) := rfl
  have e1 := isi_at 0 "str" _ _ _ μ d0 (isi_str (x := .str s) rfl μ)
  have e2 : eBin gtD (eCall lenD (aCons (eVar 0) aNil)) (eC (.int 60)) (startD 2 [.str s]) μ = some (.bl (decide ((60 : Int) < s.length)), μ) := by
    simp [eBin, eThen, len_str s hl 0 _ μ d0, eC, gtD]
  refine run_ask (or_eq (not_eq (asB_eq e1)) fun _ => asB_eq e2) (fun hb => ?_) fun hb => ?_
  · refine (all_eq (lc_str (p := fun c => inSp c && decide (c ≠ 37)) d0 hl (by simp [startD]) fun c δ' h => and_eq (ch_text c δ' μ h) fun _ => ord_at c 1 δ' μ h) (bls_map _ _)).trans ?_
    rw [all_id]
    have h1 : s.length ≤ 60 := by
      simp [isSt] at hb
      omega
    simp [h1]
  · have h1 : ¬ s.length ≤ 60 := by
      simp [isSt] at hb
      omega
    exact ⟨by simp [h1], rfl⟩
theorem is_text_no {x : D} (h : (kd x).isSome = true) (hx : isSt x = false) (μ : List MO) : f_is_text [x] μ = some (.bl false, μ) := by
  have e1 := isi_at 0 "str" x _ (startD 2 [x]) μ rfl (isi_str h μ)
  rw [hx] at e1
  exact run_ask (or_eq (b := true) (not_eq (asB_eq e1)) fun z => nomatch z) (fun z => nomatch z) fun _ => ⟨rfl, rfl⟩
theorem run_set {n i : Nat} {f e : EF} {ds : List D} {μ μ1 μ2 : List MO} {x d : D} (hf : f (startD n ds) μ = some (x, μ1)) (he : e ((startD n ds).set i (.d x)) μ1 = some (d, μ2)) : runB n (bThen (bSet i f) (bRet e)) ds μ = some (d, μ2) := by
  simp [runB, bThen, bSet, hf, bRet, he]
theorem lc_flt {i j : Nat} {p : Nat → Bool} {tt : TF} {s : Str} {δ : List SV} {μ : List MO} (h : δ[i]? = some (.d (.str s))) (hl : s.length ≤ 100) (hj : j < δ.length) (hi : i ≠ j) (q : ∀ (c : Nat) (δ' : List SV), δ'[j]? = some (.d (sg c)) → (∀ m, m ≠ j → δ'[m]? = δ[m]?) → tt δ' μ = some (p c, μ)) :
    nLc (iS (eVar i)) (nmG j) tt (eVar j) [j] δ μ = some ((s.cps.toList.filter p).map sg, μ) := by
  have lc : lcLoop (nmG j) tt (eVar j) (wipeD δ [j]) (signsD s) μ = some ((signsD s).filter (onS p), μ) := by
    refine lc_filter (fun d hd => ?_) fun d hd => ?_
    · obtain ⟨c, hc, rfl⟩ := List.mem_map.mp hd
      refine q c _ (by simp [wipeD, hj]) fun m hm => ?_
      rw [List.getElem?_set_ne (Ne.symm hm)]
      simp [wipeD, List.getElem?_set_ne (Ne.symm hm)]
    · obtain ⟨c, hc, rfl⟩ := List.mem_map.mp hd
      simp [eVar, wipeD, hj]
  have fm : (signsD s).filter (onS p) = (s.cps.toList.filter p).map sg := by
    unfold signsD
    rw [List.filter_map]
    rfl
  rw [fm] at lc
  simp [nLc, iS, eThen, eVar, h, signs_len, show s.length ≤ 1000000 by omega, lc]
theorem toPyL_sg (μ : List MO) (n : Nat) : ∀ cs : List Nat, toPyL (toPy μ (n + 1)) (cs.map sg) = some (cs.map fun c => PyData.str ⟨#[c]⟩)
  | [] => rfl
  | c :: cs => by
    show toPyL _ (sg c :: cs.map sg) = _
    unfold toPyL
    rw [toPyL_sg μ n cs]
    rfl
theorem canL_sg : ∀ cs : List Nat, (∀ c ∈ cs, c < 128) → PyData.canLayAll0 (cs.map fun c => PyData.str ⟨#[c]⟩) = true
  | [], _ => rfl
  | c :: cs, h => by
    have h1 := h c (List.mem_cons_self ..)
    simp only [List.map_cons, PyData.canLayAll0, PyData.canLay0, Bool.and_eq_true]
    exact ⟨by simp [PyData.strOk]; omega, canL_sg cs fun x hx => h x (List.mem_cons_of_mem _ hx)⟩
theorem depthL_sg : ∀ cs : List Nat, PyData.depthAll (cs.map fun c => PyData.str ⟨#[c]⟩) = 0
  | [] => rfl
  | c :: cs => by simp only [List.map_cons, PyData.depthAll, PyData.depth, depthL_sg cs]; rfl
theorem eq_nil (cs : List Nat) (h : ∀ c ∈ cs, c < 128) (μ : List MO) : eqD (.lst (cs.map sg)) (.lst []) μ = some (.bl cs.isEmpty, μ) := by
  have a1 : toPy μ DEEP (.lst (cs.map sg)) = some (.list (cs.map fun c => PyData.str ⟨#[c]⟩)) := by
    show (toPyL (toPy μ 15) (cs.map sg)).map _ = _
    rw [toPyL_sg]
    rfl
  have a2 : toPy μ DEEP (.lst []) = some (.list []) := rfl
  have a3 : shp (.list (cs.map fun c => PyData.str ⟨#[c]⟩)) = true := by
    simp only [shp, SeqAt.shaped, PyData.canLay0, canL_sg cs h, PyData.depth, depthL_sg]
    decide
  have a4 : shp (.list []) = true := by decide +kernel
  have a5 : PyData.eqv (.list (cs.map fun c => PyData.str ⟨#[c]⟩)) (.list []) = cs.isEmpty := by
    cases cs <;> simp [PyData.eqv, PyData.eqvAll]
  simp [eqD, eqP, a1, a2, a3, a4, a5]
theorem eqn_at {n : NF} {cs : List Nat} {δ : List SV} {μ : List MO} (h : n δ μ = some (cs.map sg, μ)) (hc : ∀ c ∈ cs, c < 128) : eBin eqD (eFrz n) (eFrz (nLst aNil)) δ μ = some (.bl cs.isEmpty, μ) := by
  have e := eq_nil cs hc μ
  simp [eBin, eThen, eFrz, h, nLst, aNil, e]
theorem small_in : ∀ c, c < 128 → decide (c ∈ ("abcdefghijklmnopqrstuvwxyz" : Str).cps.toList) = inAZ c := by decide +kernel
theorem flt_empty (p : Nat → Bool) (cs : List Nat) : (cs.filter fun c => !p c).isEmpty = cs.all p := by
  induction cs with
  | nil => rfl
  | cons c cs ih => cases h : p c <;> simp [h, ih]
theorem law_is_name_str (s : Str) (hl : s.length ≤ 100) (hg : Gd s) (μ : List MO) : f__law_is_name [.str s] μ = some (.bl (nameB s), μ) := by
  refine (run_set (x := .str "abcdefghijklmnopqrstuvwxyz") rfl ?_)
  have d0 : ((startD 3 [.str s]).set 1 (.d (.str "abcdefghijklmnopqrstuvwxyz")))[0]? = some (.d (.str s)) := rfl
  have d1 : ((startD 3 [.str s]).set 1 (.d (.str "abcdefghijklmnopqrstuvwxyz")))[1]? = some (.d (.str "abcdefghijklmnopqrstuvwxyz")) := rfl
  have e1 := isi_at 0 "str" _ _ _ μ d0 (isi_str (x := .str s) rfl μ)
  have e2 := ch_lt 0 s.length 9 (fa := eC (.int 0)) (fc := eC (.int 9)) (μ := μ) rfl (len_str s hl 0 _ μ d0) rfl
  have lc := lc_flt (j := 2) (p := fun c => !decide (c ∈ ("abcdefghijklmnopqrstuvwxyz" : Str).cps.toList)) (tt := asB (eBin ninD (eVar 2) (eVar 1))) (μ := μ) d0 hl (by simp [startD]) (by decide) fun c δ' h2 hm => by
    have h1 := (hm 1 (by decide)).trans d1
    simp [asB, eBin, eThen, eVar, h2, h1, ninD, inP]
  have cl : ∀ c ∈ s.cps.toList.filter (fun c => !decide (c ∈ ("abcdefghijklmnopqrstuvwxyz" : Str).cps.toList)), c < 128 := fun c hc => (hg c (List.mem_filter.mp hc).1).1
  have e3 := eqn_at lc cl
  refine (and_eq e1 fun _ => and_eq e2 fun _ => e3).trans ?_
  rw [flt_empty]
  have al : (s.cps.toList.all fun c => decide (c ∈ ("abcdefghijklmnopqrstuvwxyz" : Str).cps.toList)) = s.cps.toList.all inAZ := by
    rw [Bool.eq_iff_iff, List.all_eq_true, List.all_eq_true]
    exact forall_congr' fun c => forall_congr' fun hc => by rw [small_in c (hg c hc).1]
  rw [al]
  have z : (decide ((0 : Int) < s.length) && decide ((s.length : Int) < 9)) = (decide (1 ≤ s.length) && decide (s.length ≤ 8)) := by
    rw [Bool.eq_iff_iff, Bool.and_eq_true, Bool.and_eq_true]
    simp only [decide_eq_true_eq]
    omega
  simp only [isSt, z, nameB, Bool.true_and]
theorem law_is_name_no {x : D} (h : (kd x).isSome = true) (hx : isSt x = false) (μ : List MO) : f__law_is_name [x] μ = some (.bl false, μ) := by
  refine (run_set (x := .str "abcdefghijklmnopqrstuvwxyz") rfl ?_)
  have e1 := isi_at 0 "str" x _ ((startD 3 [x]).set 1 (.d (.str "abcdefghijklmnopqrstuvwxyz"))) μ rfl (isi_str h μ)
  rw [hx] at e1
  exact and_eq (b := true) e1 fun z => nomatch z
theorem law_is_text_str (s : Str) (hl : s.length ≤ 100) (hg : Gd s) (μ : List MO) : f__law_is_text [.str s] μ = some (.bl (decide (s.length ≤ 60) && s.cps.toList.all fun c => inSp c && decide (c ≠ 37)), μ) := by
  have d0 : (startD 2 [.str s])[0]? = some (.d (.str s)) := rfl
  have e1 := isi_at 0 "str" _ _ _ μ d0 (isi_str (x := .str s) rfl μ)
  have e2 : eBin gtD (eCall lenD (aCons (eVar 0) aNil)) (eC (.int 60)) (startD 2 [.str s]) μ = some (.bl (decide ((60 : Int) < s.length)), μ) := by
    simp [eBin, eThen, len_str s hl 0 _ μ d0, eC, gtD]
  have lc := lc_flt (j := 1) (p := fun c => !inSp c) (tt := tfNot (asB (eChain leD leD (eC (.str " ")) (eVar 1) (eC (.str "~"))))) (μ := μ) d0 hl (by simp [startD]) (by decide) fun c δ' h2 hm => not_eq (asB_eq (ch_text c δ' μ h2))
  have cl : ∀ c ∈ s.cps.toList.filter (fun c => !inSp c), c < 128 := fun c hc => (hg c (List.mem_filter.mp hc).1).1
  have e3 := eqn_at lc cl
  refine run_ask (or_eq (not_eq (asB_eq e1)) fun _ => asB_eq e2) (fun hb => ?_) fun hb => ?_
  · refine e3.trans ?_
    rw [flt_empty]
    have h1 : s.length ≤ 60 := by
      simp [isSt] at hb
      omega
    have al : (s.cps.toList.all fun c => inSp c && decide (c ≠ 37)) = s.cps.toList.all inSp := by
      rw [Bool.eq_iff_iff, List.all_eq_true, List.all_eq_true]
      exact forall_congr' fun c => forall_congr' fun hc => by simp [(hg c hc).2]
    rw [al]
    simp [h1]
  · have h1 : ¬ s.length ≤ 60 := by
      simp [isSt] at hb
      omega
    exact ⟨by simp [h1], rfl⟩
theorem law_is_text_no {x : D} (h : (kd x).isSome = true) (hx : isSt x = false) (μ : List MO) : f__law_is_text [x] μ = some (.bl false, μ) := by
  have e1 := isi_at 0 "str" x _ (startD 2 [x]) μ rfl (isi_str h μ)
  rw [hx] at e1
  exact run_ask (or_eq (b := true) (not_eq (asB_eq e1)) fun z => nomatch z) (fun z => nomatch z) fun _ => ⟨rfl, rfl⟩
end Law

set_option Elab.async false
set_option linter.all false
set_option autoImplicit false
set_option maxRecDepth 100000
set_option maxHeartbeats 4000000
namespace Law
open PySem PySem.Spec PySem.Calls L2 G
/-! ### draws -/
/-- the bag stands at k, drawn from at most n times -/
def Bg (k n : Nat) (μ : List MO) : Prop := ∃ o, μ[k]? = some o ∧ BagOk n o
theorem Bg.mono {k n m : Nat} {μ : List MO} (h : Bg k n μ) (l : n ≤ m) : Bg k m μ := by
  obtain ⟨o, e, a, b, c, rfl, h1, h2, h3, h4, h5⟩ := h
  exact ⟨_, e, a, b, c, rfl, h1, h2, h3, h4, by omega⟩
theorem take_bg {k n : Nat} {μ : List MO} {m : Int} (h : Bg k n μ) (hm : 0 < m) (hm2 : m.natAbs < 2 ^ 128) (hn : n ≤ 1000000) :
    ∃ (d : Int) (μ' : List MO), f__law_take [.mut k, .int m] μ = some (.int d, μ') ∧ 0 ≤ d ∧ d < m ∧ Bg k (n + 1) μ' := by
  obtain ⟨o, e, b⟩ := h
  have hl : m.natAbs.log2 < 9000 := Nat.lt_trans (PySem.Flt.log2_lt_of (by decide : 0 < 128) hm2) (by decide)
  obtain ⟨d, o', e1, e2, e3, e4⟩ := take_ok e b hm hl hn
  have hk : k < μ.length := (List.getElem?_eq_some_iff.mp e).1
  exact ⟨d, _, e1, e2, e3, o', by rw [List.getElem?_set_self hk], e4⟩
theorem atI_of {α : Type} {xs : List α} {d : Int} (h0 : 0 ≤ d) (h1 : d < xs.length) : ∃ x, L2.atI xs d = some x ∧ x ∈ xs := by
  have hz : d.toNat < xs.length := by omega
  refine ⟨xs[d.toNat], ?_, List.getElem_mem hz⟩
  simp [L2.atI, L2.ixN, h0, h1, hz]
theorem ix_lst {xs : List D} {d : Int} {μ : List MO} (h0 : 0 ≤ d) (h1 : d < xs.length) : ∃ x, ixD (.lst xs) (.int d) μ = some (x, μ) ∧ x ∈ xs := by
  obtain ⟨x, e, m⟩ := atI_of h0 h1
  exact ⟨x, by simp [ixD, seqD, e], m⟩
theorem ix_str {s : Str} {d : Int} {μ : List MO} (hl : s.length ≤ 1000) (h0 : 0 ≤ d) (h1 : d < s.length) : ∃ c, ixD (.str s) (.int d) μ = some (sg c, μ) ∧ c ∈ s.cps.toList := by
  obtain ⟨x, e, m⟩ := atI_of (xs := s.cps.toList) h0 (by rw [cps_len]; exact h1)
  exact ⟨x, by simp [ixD, e, show s.length ≤ 1000000 by omega], m⟩
/-- a draw, as an argument -/
theorem take_at {i k n : Nat} {m : Int} {fm : EF} {δ : List SV} {μ : List MO} (hi : δ[i]? = some (.d (.mut k))) (hf : fm δ μ = some (.int m, μ)) (h : Bg k n μ) (hm : 0 < m) (hm2 : m.natAbs < 2 ^ 128) (hn : n ≤ 1000000) :
    ∃ (d : Int) (μ' : List MO), eFn f__law_take [] (aCons (eVar i) (aCons fm aNil)) δ μ = some (.int d, μ') ∧ 0 ≤ d ∧ d < m ∧ Bg k (n + 1) μ' := by
  obtain ⟨d, μ', e, h1, h2, h3⟩ := take_bg h hm hm2 hn
  refine ⟨d, μ', ?_, h1, h2, h3⟩
  simp [eFn, aThen, aCons, aNil, eVar, eThen, hi, hf, e]
theorem ixe {fx fy : EF} {δ : List SV} {μ μ1 μ2 : List MO} {x y z : D} (h1 : fx δ μ = some (x, μ1)) (h2 : fy δ μ1 = some (y, μ2)) (h3 : ixD x y μ2 = some (z, μ2)) : eBin ixD fx fy δ μ = some (z, μ2) := by
  simp [eBin, eThen, h1, h2, h3]
def anyL : List D := [.non, .bl true, .bl false, .int (-1), .int (10 ^ 29), .str "", .str "no", .str "a b", .lst [], .lst [.str "a"], .tup [.str "a"], .tup [], .dct [] [], .dct [.inr "a"] [.int 1], .lst [.lst [.int 1]]]
theorem any_ok {k n : Nat} {μ : List MO} (h : Bg k n μ) (hn : n ≤ 1000) : ∃ x μ', f__law_any [.mut k] μ = some (x, μ') ∧ x ∈ anyL ∧ Bg k (n + 1) μ' := by
  have d0 : ((startD 2 [.mut k]).set 1 (.d (.lst anyL)))[0]? = some (.d (.mut k)) := rfl
  have d1 : ((startD 2 [.mut k]).set 1 (.d (.lst anyL)))[1]? = some (.d (.lst anyL)) := rfl
  obtain ⟨d, μ', e, h1, h2, h3⟩ := take_at (i := 0) (m := 15) (fm := eC (.int 15)) d0 rfl h (by decide) (by decide) (by omega)
  obtain ⟨x, e2, hx⟩ := ix_lst (xs := anyL) (μ := μ') h1 h2
  refine ⟨x, μ', run_set (μ1 := μ) (x := .lst anyL) ?_ (ixe (x := .lst anyL) (y := .int d) (μ1 := μ) rfl e e2), hx, h3⟩
  simp [eFrz, nLst, aCons, aNil, eThen, eC, eBin, subD, powD, eTup, eDct0, eDct1, anyL]
theorem aC {f : EF} {r : AF} {δ : List SV} {μ μ1 μ2 : List MO} {x : D} {xs : List D} (h1 : f δ μ = some (x, μ1)) (h2 : r δ μ1 = some (xs, μ2)) : aCons f r δ μ = some (x :: xs, μ2) := by simp [aCons, eThen, h1, h2]
theorem frz {r : AF} {δ : List SV} {μ μ1 : List MO} {xs : List D} (h : r δ μ = some (xs, μ1)) (hl : xs.length ≤ 100) : eFrz (nLst r) δ μ = some (.lst xs, μ1) := by simp [eFrz, nLst, h, show xs.length ≤ 1000000 by omega]
theorem subE {fa fb : EF} {δ : List SV} {μ μ1 μ2 : List MO} {a b : Int} (h1 : fa δ μ = some (.int a, μ1)) (h2 : fb δ μ1 = some (.int b, μ2)) : eBin subD fa fb δ μ = some (.int (a - b), μ2) := by simp [eBin, eThen, h1, h2, subD]
theorem addE {fa fb : EF} {δ : List SV} {μ μ1 μ2 : List MO} {a b : Int} (h1 : fa δ μ = some (.int a, μ1)) (h2 : fb δ μ1 = some (.int b, μ2)) : eBin addD fa fb δ μ = some (.int (a + b), μ2) := by simp [eBin, eThen, h1, h2, addD]
theorem addS {fa fb : EF} {δ : List SV} {μ μ1 μ2 : List MO} {a b : Str} (h1 : fa δ μ = some (.str a, μ1)) (h2 : fb δ μ1 = some (.str b, μ2)) (hl : a.length + b.length ≤ 1000) : eBin addD fa fb δ μ = some (.str (a ++ b), μ2) := by simp [eBin, eThen, h1, h2, addD, show a.length + b.length ≤ 1000000 by omega]
theorem big30 (δ : List SV) (μ : List MO) : eBin subD (eBin powD (eC (.int 10)) (eC (.int 30))) (eC (.int 1)) δ μ = some (.int (10 ^ 30 - 1), μ) := by simp [eBin, eThen, eC, subD, powD]
def Num (x : D) : Prop := ∃ i : Int, x = .int i ∧ i.natAbs ≤ 10 ^ 30
theorem number_ok {k n : Nat} {μ : List MO} (h : Bg k n μ) (hn : n ≤ 1000) : ∃ x μ', f__law_number [.mut k] μ = some (x, μ') ∧ Num x ∧ Bg k (n + 4) μ' := by
  have d0 : (startD 2 [.mut k])[0]? = some (.d (.mut k)) := rfl
  obtain ⟨a, μ1, e1, a1, a2, b1⟩ := take_at (i := 0) (m := 10 ^ 30 - 1) d0 (big30 _ _) h (by decide) (by decide) (by omega)
  obtain ⟨b, μ2, e2, a3, a4, b2⟩ := take_at (i := 0) (m := 10 ^ 30 - 1) d0 (big30 _ _) b1 (by decide) (by decide) (by omega)
  obtain ⟨c, μ3, e3, a5, a6, b3⟩ := take_at (i := 0) (m := 300) (fm := eC (.int 300)) d0 rfl b2 (by decide) (by decide) (by omega)
  have L := frz (aC (μ := μ) (f := eC (.int 0)) (δ := startD 2 [.mut k]) rfl (aC (f := eC (.int 255)) rfl (aC (f := eC (.int 256)) rfl (aC (f := eNeg (eC (.int 1))) (x := .int (-1)) rfl (aC e1 (aC (subE (fa := eC (.int 1)) rfl e2) (aC (subE e3 (fb := eC (.int 20)) rfl) (show aNil _ _ = _ from rfl)))))))) (by simp)
  let xs : List D := [.int 0, .int 255, .int 256, .int (-1), .int a, .int (1 - b), .int (c - 20)]
  have d0' : ((startD 2 [.mut k]).set 1 (.d (.lst xs)))[0]? = some (.d (.mut k)) := rfl
  have d1' : ((startD 2 [.mut k]).set 1 (.d (.lst xs)))[1]? = some (.d (.lst xs)) := rfl
  obtain ⟨d, μ4, e4, a7, a8, b4⟩ := take_at (i := 0) (m := 7) (fm := eC (.int 7)) d0' rfl b3 (by decide) (by decide) (by omega)
  obtain ⟨x, e5, hx⟩ := ix_lst (xs := xs) (μ := μ4) a7 a8
  refine ⟨x, μ4, run_set L (ixe (x := .lst xs) (y := .int d) (μ1 := μ3) rfl e4 e5), ?_, b4⟩
  simp only [xs, List.mem_cons, List.mem_nil_iff, or_false] at hx
  have p : (10 : Int) ^ 30 = 1000000000000000000000000000000 := by decide
  have p' : (10 : Nat) ^ 30 = 1000000000000000000000000000000 := by decide
  rw [p] at a2 a4
  unfold Num
  rw [p']
  rcases hx with rfl | rfl | rfl | rfl | rfl | rfl | rfl <;> exact ⟨_, rfl, by omega⟩
/-! ### texts -/
theorem ret_eq {f : EF} {δ : List SV} {μ μ1 : List MO} {d : D} (h : f δ μ = some (d, μ1)) : bRet f δ μ = some (.rt d μ1) := by simp [bRet, h]
theorem if_t {t : TF} {fa fb : EF} {δ : List SV} {μ μ1 : List MO} {r : D × List MO} (ht : t δ μ = some (true, μ1)) (h : fa δ μ1 = some r) : eIf t fa fb δ μ = some r := by simp [eIf, tThen, ht, h]
theorem if_f {t : TF} {fa fb : EF} {δ : List SV} {μ μ1 : List MO} {r : D × List MO} (ht : t δ μ = some (false, μ1)) (h : fb δ μ1 = some r) : eIf t fa fb δ μ = some r := by simp [eIf, tThen, ht, h]
theorem then_set {i : Nat} {f : EF} {g : BF} {δ : List SV} {μ μ1 : List MO} {x : D} (h : f δ μ = some (x, μ1)) : bThen (bSet i f) g δ μ = g (δ.set i (.d x)) μ1 := by simp [bThen, bSet, h]
theorem run_of {n : Nat} {b : BF} {ds : List D} {μ μ1 : List MO} {d : D} (h : b (startD n ds) μ = some (.rt d μ1)) : runB n b ds μ = some (d, μ1) := by simp [runB, h]
theorem eq_int {fa fb : EF} {δ : List SV} {μ μ1 μ2 : List MO} {a b : Int} (h1 : fa δ μ = some (.int a, μ1)) (h2 : fb δ μ1 = some (.int b, μ2)) : eBin eqD fa fb δ μ = some (.bl (decide (a = b)), μ2) := by
  by_cases q : a = b <;> simp [eBin, eThen, h1, h2, eqD, eqP, toPy, shp, SeqAt.shaped, PyData.canLay0, PyData.depth, PyData.eqv, q]
theorem ask_ret {t : TF} {e : EF} {g : BF} {δ : List SV} {μ μ1 μ2 : List MO} {d : D} (h : t δ μ = some (true, μ1)) (h2 : e δ μ1 = some (d, μ2)) : bThen (bIf t (bRet e) bNil) g δ μ = some (.rt d μ2) := by simp [bThen, bIf, h, bRet, h2]
theorem ask_on {t : TF} {b : BF} {g : BF} {δ : List SV} {μ μ1 : List MO} (h : t δ μ = some (false, μ1)) : bThen (bIf t b bNil) g δ μ = g δ μ1 := by simp [bThen, bIf, h, bNil]
theorem cut_mem (z : Str) (lo hi : Option Int) : (∀ c ∈ (cutS z lo hi).cps.toList, c ∈ z.cps.toList) ∧ (cutS z lo hi).length ≤ z.length := by
  constructor
  · intro c hc
    have : c ∈ ((z.cps.toList.drop (HT.sIx z.length 0 lo)).take (HT.sIx z.length z.length hi - HT.sIx z.length 0 lo)) := by simpa [cutS] using hc
    exact List.mem_of_mem_drop (List.mem_of_mem_take this)
  · show ((z.cps.toList.drop (HT.sIx z.length 0 lo)).take (HT.sIx z.length z.length hi - HT.sIx z.length 0 lo)).toArray.size ≤ _
    rw [List.size_toArray, List.length_take, List.length_drop, cps_len]
    omega
theorem cut_len (z : Str) (lo hi : Option Int) : (cutS z lo hi).length = min (HT.sIx z.length z.length hi - HT.sIx z.length 0 lo) (z.length - HT.sIx z.length 0 lo) := by
  show ((z.cps.toList.drop (HT.sIx z.length 0 lo)).take (HT.sIx z.length z.length hi - HT.sIx z.length 0 lo)).toArray.size = _
  rw [List.size_toArray, List.length_take, List.length_drop, cps_len]
theorem Gd.cut {z : Str} (h : Gd z) (lo hi : Option Int) : Gd (cutS z lo hi) := fun c hc => h c ((cut_mem z lo hi).1 c hc)
theorem Gd.app {a b : Str} (h : Gd a) (h2 : Gd b) : Gd (a ++ b) := fun c hc => by
  rw [PyProof.Rows.cps_toList_append] at hc
  exact (List.mem_append.mp hc).elim (h c) (h2 c)
theorem slE {f : EF} {lo hi : PF} {δ : List SV} {μ : List MO} {z : Str} {l h : Option Int} (h1 : f δ μ = some (.str z, μ)) (h2 : lo δ μ = some (l, μ)) (h3 : hi δ μ = some (h, μ)) (hl : z.length ≤ 1000) : eSlS f lo hi δ μ = some (.str (cutS z l h), μ) := by
  simp [eSlS, eThen, h1, h2, h3, show z.length ≤ 1000000 by omega]
theorem soE {f : EF} {δ : List SV} {μ : List MO} {i : Int} (h : f δ μ = some (.int i, μ)) : pSo f δ μ = some (some i, μ) := by simp [pSo, eThen, h]
def Txt1 (m : Nat) (x : D) : Prop := ∃ t : Str, x = .str t ∧ Gd t ∧ t.length ≤ m
theorem spoil_signs : ∀ c ∈ ("abzAZ09 ~}_\n-{.!" : Str).cps.toList, c < 128 ∧ c ≠ 37 := by decide +kernel
theorem spoilt_ok {k n m : Nat} {μ : List MO} {t : Str} (h : Bg k n μ) (hn : n ≤ 1000) (hm : m ≤ 70) (hg : Gd t) (hl : t.length ≤ m) : ∃ x μ', f__law_spoilt [.mut k, .str t] μ = some (x, μ') ∧ Txt1 (m + 1) x ∧ Bg k (n + 3) μ' := by
  have d0 : (startD 5 [.mut k, .str t])[0]? = some (.d (.mut k)) := rfl
  obtain ⟨a, μ1, e1, a1, a2, b1⟩ := take_at (i := 0) (m := 16) (fm := eC (.int 16)) d0 rfl h (by decide) (by decide) (by omega)
  have sl : ("abzAZ09 ~}_\n-{.!" : Str).length = 16 := by decide +kernel
  obtain ⟨c, ec, hc⟩ := ix_str (s := "abzAZ09 ~}_\n-{.!") (μ := μ1) (by rw [sl]; decide) a1 (by rw [sl]; exact a2)
  have gc := spoil_signs c hc
  have gs : Gd ⟨#[c]⟩ := fun x hx => by
    have : x = c := by simpa using hx
    rw [this]; exact gc
  have s1 := ixe (fx := eC (.str "abzAZ09 ~}_\n-{.!")) (δ := startD 5 [.mut k, .str t]) (μ := μ) rfl e1 ec
  let δ1 : List SV := (startD 5 [.mut k, .str t]).set 2 (.d (sg c))
  obtain ⟨b, μ2, e2, a3, a4, b2⟩ := take_at (i := 0) (δ := δ1) (m := t.length + 1) (fm := eBin addD (eCall lenD (aCons (eVar 1) aNil)) (eC (.int 1))) rfl (addE (len_str t (by omega) 1 δ1 μ1 rfl) (fb := eC (.int 1)) rfl) b1 (by omega) (by omega) (by omega)
  let δ2 : List SV := δ1.set 3 (.d (.int b))
  obtain ⟨w, μ3, e3, a5, a6, b3⟩ := take_at (i := 0) (δ := δ2) (m := 6) (fm := eC (.int 6)) rfl rfl b2 (by decide) (by decide) (by omega)
  let δ3 : List SV := δ2.set 4 (.d (.int w))
  have v1 : eVar 1 δ3 μ3 = some (.str t, μ3) := rfl
  have v2 : eVar 2 δ3 μ3 = some (.str ⟨#[c]⟩, μ3) := rfl
  have v3 : eVar 3 δ3 μ3 = some (.int b, μ3) := rfl
  have v4 : eVar 4 δ3 μ3 = some (.int w, μ3) := rfl
  have q0 := asB_eq (eq_int (fb := eC (.int 0)) v4 rfl)
  have q1 := asB_eq (eq_int (fb := eC (.int 1)) v4 rfl)
  have q2 := asB_eq (eq_int (fb := eC (.int 2)) v4 rfl)
  have hd := slE (lo := pNo) v1 rfl (soE v3) (by omega)
  have t0 := slE (hi := pNo) v1 (soE v3) rfl (by omega)
  have t1 := slE (hi := pNo) v1 (soE (addE v3 (fb := eC (.int 1)) rfl)) rfl (by omega)
  have one : (⟨#[c]⟩ : Str).length = 1 := rfl
  have l1 := (cut_mem t none (some b)).2
  have l2 := (cut_mem t (some b) none).2
  have l3 := (cut_mem t (some (b + 1)) none).2
  have split0 : (cutS t none (some b)).length + (cutS t (some b) none).length ≤ t.length := by
    rw [cut_len, cut_len]
    simp only [HT.sIx, show ¬ b < 0 by omega, if_false]
    omega
  have split1 : (cutS t none (some b)).length + (cutS t (some (b + 1)) none).length ≤ t.length := by
    rw [cut_len, cut_len]
    simp only [HT.sIx, show ¬ b < 0 by omega, show ¬ b + 1 < 0 by omega, if_false]
    omega
  suffices hs : ∃ x, (bThen (bSet 2 _) _ : BF) (startD 5 [.mut k, .str t]) μ = some (.rt x μ3) ∧ Txt1 (m + 1) x from
    let ⟨x, e, p⟩ := hs; ⟨x, μ3, run_of e, p, b3⟩
  rw [then_set s1, then_set e2, then_set e3]
  by_cases w0 : w = 0
  · refine ⟨_, ask_ret (by rw [w0] at q0; exact q0) (addS (addS hd v2 (by rw [one]; omega)) t0 (by rw [strLen_append, one]; omega)), _, rfl, ((hg.cut _ _).app gs).app (hg.cut _ _), ?_⟩
    rw [strLen_append, strLen_append, one]
    omega
  · rw [ask_on (by rw [q0]; simp [w0] : _ = some (false, μ3))]
    by_cases w1 : w = 1
    · refine ⟨_, ask_ret (by rw [w1] at q1; exact q1) (addS hd t1 (by omega)), _, rfl, (hg.cut _ _).app (hg.cut _ _), ?_⟩
      rw [strLen_append]
      omega
    · rw [ask_on (by rw [q1]; simp [w1] : _ = some (false, μ3))]
      by_cases w2 : w = 2
      · refine ⟨_, ?_, _, rfl, ((hg.cut none (some b)).app gs).app (hg.cut (some (b + 1)) none), ?_⟩
        · have := addS (addS hd v2 (by rw [one]; omega)) t1 (by rw [strLen_append, one]; omega)
          have q2' : asB (eBin eqD (eVar 4) (eC (.int 2))) δ3 μ3 = some (true, μ3) := by rw [q2]; simp [w2]
          exact ret_eq (if_t q2' this)
        · rw [strLen_append, strLen_append, one]
          omega
      · refine ⟨.str t, ?_, t, rfl, hg, by omega⟩
        have q2' : asB (eBin eqD (eVar 4) (eC (.int 2))) δ3 μ3 = some (false, μ3) := by rw [q2]; simp [w2]
        exact ret_eq (if_f q2' v1)
end Law

set_option Elab.async false
set_option linter.all false
set_option autoImplicit false
set_option maxRecDepth 100000
set_option maxHeartbeats 4000000
namespace Law
open PySem PySem.Spec PySem.Calls L2 G
theorem lc_signs {i k : Nat} {te : EF} {s : Str} {δ : List SV} (q : ∀ (d : D) (n : Nat) (μ : List MO), Bg k n μ → n ≤ 900 → ∃ (c : Nat) (μ' : List MO), te (δ.set i (.d d)) μ = some (sg c, μ') ∧ c ∈ s.cps.toList ∧ Bg k (n + 1) μ') :
    ∀ (ds : List D) (n : Nat) (μ : List MO), Bg k n μ → n + ds.length ≤ 900 → ∃ (cs : List Nat) (μ' : List MO), lcLoop (nmG i) tYesD te δ ds μ = some (cs.map sg, μ') ∧ cs.length = ds.length ∧ (∀ c ∈ cs, c ∈ s.cps.toList) ∧ Bg k (n + ds.length) μ'
  | [], n, μ, h, _ => ⟨[], μ, rfl, rfl, fun c hc => by simp at hc, h⟩
  | d :: ds, n, μ, h, hn => by
    rw [List.length_cons] at hn
    obtain ⟨c, μ1, e1, m1, b1⟩ := q d n μ h (by omega)
    obtain ⟨cs, μ2, e2, l2, m2, b2⟩ := lc_signs q ds (n + 1) μ1 b1 (by omega)
    refine ⟨c :: cs, μ2, ?_, by simp [l2], fun x hx => ?_, ?_⟩
    · unfold lcLoop
      simp only [nmG, tYesD, e1]
      rw [show lcLoop (nmG i) tYesD te δ ds μ1 = _ from e2]
      rfl
    · rcases List.mem_cons.mp hx with rfl | hx
      · exact m1
      · exact m2 x hx
    · rw [List.length_cons]
      exact b2.mono (by omega)
theorem joinL_one : ∀ cs : List Nat, TL.joinL [] (cs.map fun c => [c]) = cs
  | [] => rfl
  | [c] => rfl
  | c :: d :: r => by
    show [c] ++ ([] ++ TL.joinL [] ((d :: r).map fun c => [c])) = _
    rw [joinL_one (d :: r)]
    rfl
theorem join_sg (cs : List Nat) : (Txt.join "" (cs.map fun c => (⟨#[c]⟩ : Str))).cps.toList = cs := by
  rw [TL.join_eq]
  refine (TL.tl_join "" _).trans ?_
  rw [List.map_map]
  exact joinL_one cs
theorem strs_sg : ∀ cs : List Nat, strsD (cs.map sg) = some (cs.map fun c => (⟨#[c]⟩ : Str))
  | [] => rfl
  | c :: cs => by
    show strsD (sg c :: cs.map sg) = _
    unfold strsD
    rw [strs_sg cs]
    rfl
theorem sum_sg : ∀ cs : List Nat, ((cs.map fun c => (⟨#[c]⟩ : Str)).map (·.length)).sum = cs.length
  | [] => rfl
  | c :: cs => by
    rw [List.map_cons, List.map_cons, List.sum_cons, sum_sg cs, List.length_cons]
    show 1 + _ = _
    omega
theorem join_ok (cs : List Nat) (hl : cs.length ≤ 1000) (μ : List MO) : joinD (.str "") [.lst (cs.map sg)] μ = some (.str (Txt.join "" (cs.map fun c => (⟨#[c]⟩ : Str))), μ) := by
  have e0 : ("" : Str).length = 0 := rfl
  simp only [joinD, seqD, strs_sg, sum_sg, List.length_map, e0, Nat.mul_zero, Nat.add_zero]
  rw [if_pos (by omega)]
theorem text_in {s : Str} (hs : ∀ c ∈ s.cps.toList, c < 128 ∧ c ≠ 37) {cs : List Nat} (h : ∀ c ∈ cs, c ∈ s.cps.toList) : Gd (Txt.join "" (cs.map fun c => (⟨#[c]⟩ : Str))) := fun c hc => by
  rw [join_sg] at hc
  exact hs c (h c hc)
theorem join_len (cs : List Nat) : (Txt.join "" (cs.map fun c => (⟨#[c]⟩ : Str))).length = cs.length := by
  rw [← cps_len, join_sg]
theorem small_gd : ∀ c ∈ ("abcdefghijklmnopqrstuvwxyz" : Str).cps.toList, c < 128 ∧ c ≠ 37 := by decide +kernel
abbrev signsT : Str := " !\"#$&'()*+,-./0123456789:;<=>?@ABCDEFGHIJKLMNOPQRSTUVWXYZ[\\]^_`abcdefghijklmnopqrstuvwxyz{|}~"
theorem signs_gd : ∀ c ∈ signsT.cps.toList, c < 128 ∧ c ≠ 37 := by decide +kernel
theorem range_len (n : Nat) : (rangeD 0 n).length = n := by simp [rangeD]
theorem mtE {T : String} {g : D → G1} {fo : EF} {r : AF} {δ : List SV} {μ μ1 μ2 : List MO} {x : D} {ds : List D} {z : D × List MO} (h1 : fo δ μ = some (x, μ1)) (h2 : tyB T μ1 x = true) (h3 : r δ μ1 = some (ds, μ2)) (h4 : g x ds μ2 = some z) : eMt T g fo r δ μ = some z := by
  simp [eMt, eThen, h1, h2, aThen, h3, h4]
theorem frzE {n : NF} {δ : List SV} {μ μ1 : List MO} {xs : List D} (h : n δ μ = some (xs, μ1)) : eFrz n δ μ = some (.lst xs, μ1) := by simp [eFrz, h]
theorem fnE {fn : FF} {r : AF} {δ : List SV} {μ μ1 : List MO} {xs : List D} {z : D × List MO} (h : r δ μ = some (xs, μ1)) (h2 : fn xs μ1 = some z) : eFn fn [] r δ μ = some z := by simp [eFn, aThen, h, h2]
/-- the row of drawn signs, put together -/
theorem drawn {k n j vi L : Nat} {w : Int} {z : Str} {fr : AF} {fm : EF} {δ : List SV} {μ μ0 : List MO} (hz : ∀ c ∈ z.cps.toList, c < 128 ∧ c ≠ 37) (zl : z.length = w) (hw : w.natAbs < 2 ^ 128) (zl2 : z.length ≤ 1000) (z0 : 0 < w) (d0 : δ[0]? = some (.d (.mut k))) (dz : δ[vi]? = some (.d (.str z))) (hj0 : 0 ≠ j) (hjv : vi ≠ j) (hm : ∀ δ μ, fm δ μ = some (.int w, μ))
    (hr : fr δ μ = some ([.int (L : Nat)], μ0)) (hL : L ≤ 70) (h : Bg k n μ0) (hn : n ≤ 500) :
    ∃ (t : Str) (μ' : List MO), eMt "str" joinD (eC (.str "")) (aCons (eFrz (nLc (iR1 fr) (nmG j) tYesD (eBin ixD (eVar vi) (eFn f__law_take [] (aCons (eVar 0) (aCons fm aNil)))) [j])) aNil) δ μ = some (.str t, μ') ∧ Gd t ∧ t.length = L ∧ Bg k (n + L) μ' := by
  have step : ∀ (d : D) (m : Nat) (ν : List MO), Bg k m ν → m ≤ 900 → ∃ (c : Nat) (ν' : List MO), eBin ixD (eVar vi) (eFn f__law_take [] (aCons (eVar 0) (aCons fm aNil))) ((wipeD δ [j]).set j (.d d)) ν = some (sg c, ν') ∧ c ∈ z.cps.toList ∧ Bg k (m + 1) ν' := by
    intro d m ν hb hm'
    have a0 : ((wipeD δ [j]).set j (.d d))[0]? = some (.d (.mut k)) := by
      rw [List.getElem?_set_ne (Ne.symm hj0)]
      simp [wipeD, List.getElem?_set_ne (Ne.symm hj0), d0]
    have a1 : ((wipeD δ [j]).set j (.d d))[vi]? = some (.d (.str z)) := by
      rw [List.getElem?_set_ne (Ne.symm hjv)]
      simp [wipeD, List.getElem?_set_ne (Ne.symm hjv), dz]
    obtain ⟨x, ν', e, x0, x1, b⟩ := take_at (i := 0) (m := w) a0 (hm _ _) hb z0 hw (by omega)
    obtain ⟨c, ec, hc⟩ := ix_str (s := z) (μ := ν') zl2 x0 (by rw [zl]; exact x1)
    exact ⟨c, ν', ixe (μ1 := ν) (by simp [eVar, a1]) e ec, hc, b⟩
  obtain ⟨cs, μ', e, hl, hc, hb⟩ := lc_signs (i := j) step (rangeD 0 L) n μ0 h (by rw [range_len]; omega)
  rw [range_len] at hl hb
  refine ⟨_, μ', ?_, text_in hz hc, by rw [join_len, hl], hb⟩
  have hr1 : iR1 fr δ μ = some (rangeD 0 L, μ0) := by
    simp only [iR1, aThen, hr]
    rw [if_pos (by omega)]
    simp
  have hN : nLc (iR1 fr) (nmG j) tYesD (eBin ixD (eVar vi) (eFn f__law_take [] (aCons (eVar 0) (aCons fm aNil)))) [j] δ μ = some (cs.map sg, μ') := by
    simp only [nLc, hr1, range_len]
    rw [if_pos (by omega)]
    exact e
  have jo := join_ok cs (by omega) μ'
  exact mtE (fo := eC (.str "")) (μ1 := μ) rfl rfl (aC (frzE hN) rfl) jo
theorem text_ok {k n : Nat} {μ : List MO} (h : Bg k n μ) (hn : n ≤ 300) : ∃ x μ', f__law_text [.mut k] μ = some (x, μ') ∧ Txt1 63 x ∧ Bg k (n + 100) μ' := by
  let δ1 : List SV := (startD 5 [.mut k]).set 1 (.d (.str "abcdefghijklmnopqrstuvwxyz"))
  obtain ⟨a, μ1, e1, a1, a2, b1⟩ := take_at (i := 0) (δ := δ1) (m := 2) (fm := eC (.int 2)) rfl rfl h (by decide) (by decide) (by omega)
  have q0 := asB_eq (eq_int (fb := eC (.int 0)) e1 rfl)
  have l26 : ("abcdefghijklmnopqrstuvwxyz" : Str).length = 26 := by decide +kernel
  have l94 : signsT.length = 94 := by decide +kernel
  suffices hs : ∃ x μ', (bThen (bSet 1 (eC (.str "abcdefghijklmnopqrstuvwxyz"))) _ : BF) (startD 5 [.mut k]) μ = some (.rt x μ') ∧ Txt1 63 x ∧ Bg k (n + 100) μ' from
    let ⟨x, μ', e, p, q⟩ := hs; ⟨x, μ', run_of e, p, q⟩
  rw [then_set (x := .str "abcdefghijklmnopqrstuvwxyz") (μ1 := μ) rfl]
  by_cases h0 : a = 0
  · obtain ⟨c, μ2, e2, c1, c2, b2⟩ := take_at (i := 0) (δ := δ1) (m := 9) (fm := eC (.int 9)) rfl rfl b1 (by decide) (by decide) (by omega)
    have hr : aCons (eBin addD (eC (.int 1)) (eFn f__law_take [] (aCons (eVar 0) (aCons (eC (.int 9)) aNil)))) aNil δ1 μ1 = some ([.int ((c + 1).toNat : Nat)], μ2) := by
      have z := aC (addE (fa := eC (.int 1)) (a := 1) rfl e2) (show aNil δ1 μ2 = some ([], μ2) from rfl)
      rw [show (((c + 1).toNat : Nat) : Int) = 1 + c by omega]
      exact z
    obtain ⟨t, μ3, e3, g3, t3, b3⟩ := drawn (z := "abcdefghijklmnopqrstuvwxyz") (vi := 1) (j := 4) (w := 26) (fm := eC (.int 26)) small_gd (by rw [l26]; rfl) (by decide) (by rw [l26]; decide) (by decide) (show δ1[0]? = some (.d (.mut k)) from rfl) rfl (by decide) (by decide) (fun _ _ => rfl) hr (by omega) b2 (by omega)
    obtain ⟨x, μ4, e4, p4, b4⟩ := spoilt_ok (m := 62) b3 (by omega) (by decide) g3 (by omega)
    refine ⟨x, μ4, ask_ret (by rw [q0]; simp [h0]) (fnE (aC (f := eVar 0) (x := .mut k) (μ1 := μ1) rfl (aC e3 rfl)) e4), p4, b4.mono (by omega)⟩
  · rw [ask_on (by rw [q0]; simp [h0] : _ = some (false, μ1))]
    obtain ⟨c, μ2, e2, c1, c2, b2⟩ := take_at (i := 0) (δ := δ1) (m := 62) (fm := eC (.int 62)) rfl rfl b1 (by decide) (by decide) (by omega)
    have L := frz (aC (μ := μ1) (f := eC (.int 0)) (δ := δ1) rfl (aC (f := eC (.int 1)) rfl (aC (f := eC (.int 59)) rfl (aC (f := eC (.int 60)) rfl (aC (f := eC (.int 61)) rfl (aC e2 (show aNil _ _ = _ from rfl))))))) (by simp)
    obtain ⟨d, μ3, e3, c3, c4, b3⟩ := take_at (i := 0) (δ := δ1) (m := 6) (fm := eC (.int 6)) rfl rfl b2 (by decide) (by decide) (by omega)
    obtain ⟨x, e4, hx⟩ := ix_lst (xs := [.int 0, .int 1, .int 59, .int 60, .int 61, .int c]) (μ := μ3) c3 c4
    have hm : ∃ m : Nat, x = .int m ∧ m ≤ 62 := by
      simp only [List.mem_cons, List.mem_nil_iff, or_false] at hx
      rcases hx with rfl | rfl | rfl | rfl | rfl | rfl
      · exact ⟨0, rfl, by omega⟩
      · exact ⟨1, rfl, by omega⟩
      · exact ⟨59, rfl, by omega⟩
      · exact ⟨60, rfl, by omega⟩
      · exact ⟨61, rfl, by omega⟩
      · exact ⟨c.toNat, by rw [Int.toNat_of_nonneg c1], by omega⟩
    obtain ⟨m, rfl, hm⟩ := hm
    rw [then_set (ixe L e3 e4), then_set (x := .str signsT) (μ1 := μ3) rfl]
    let δ2 : List SV := (δ1.set 2 (.d (.int m))).set 3 (.d (.str signsT))
    have hr : aCons (eVar 2) aNil δ2 μ3 = some ([.int m], μ3) := rfl
    obtain ⟨t, μ4, e5, g3, t3, b4⟩ := drawn (z := signsT) (vi := 3) (j := 4) (w := 94) (fm := eC (.int 94)) signs_gd (by rw [l94]; rfl) (by decide) (by rw [l94]; decide) (by decide) (show δ2[0]? = some (.d (.mut k)) from rfl) rfl (by decide) (by decide) (fun _ _ => rfl) hr (by omega) b3 (by omega)
    obtain ⟨x, μ5, e6, p4, b5⟩ := spoilt_ok (m := 62) b4 (by omega) (by decide) g3 (by omega)
    exact ⟨x, μ5, ret_eq (fnE (aC (f := eVar 0) (x := .mut k) (μ1 := μ3) rfl (aC e5 rfl)) e6), p4, b5.mono (by omega)⟩
end Law

set_option Elab.async false
set_option linter.all false
set_option autoImplicit false
set_option maxRecDepth 100000
set_option maxHeartbeats 4000000
namespace Law
open PySem PySem.Spec PySem.Calls L2 G
/-! ### the values -/
def excs : List D := [.exc 0 "found" "no name" (.str "a"), .exc 1 "found" "no place" (.int 7)]
def Vd (x : D) : Prop := Num x ∨ Txt1 63 x ∨ x ∈ anyL ++ excs
theorem oddP {P : D → Prop} (h : ∀ x ∈ anyL ++ excs, P x) {x : D} (hx : x ∈ anyL ++ excs) : P x := h x hx
theorem Vd.kd {x : D} (h : Vd x) : (kd x).isSome = true := by
  rcases h with ⟨i, rfl, _⟩ | ⟨t, rfl, _⟩ | h
  · rfl
  · rfl
  · revert x
    decide +kernel
theorem odd_str : ∀ x ∈ anyL ++ excs, ∀ s : Str, x = .str s → (s.cps.toList.all fun c => decide (c < 128) && decide (c ≠ 37)) = true ∧ s.length ≤ 100 := by
  intro x hx s e
  subst e
  simp [anyL, excs] at hx
  rcases hx with rfl | rfl | rfl <;> exact ⟨by decide +kernel, by decide +kernel⟩
theorem Vd.str {s : Str} (h : Vd (.str s)) : Gd s ∧ s.length ≤ 100 := by
  rcases h with ⟨i, e, _⟩ | ⟨t, e, g, l⟩ | h
  · cases e
  · cases e
    exact ⟨g, by omega⟩
  · obtain ⟨h1, h2⟩ := odd_str _ h s rfl
    refine ⟨fun c hc => ?_, h2⟩
    have := List.all_eq_true.mp h1 c hc
    simpa using this
/-! ### the four questions, asked of a value -/
def nmB : D → Bool
  | .str s => nameB s
  | _ => false
def txB : D → Bool
  | .str s => decide (s.length ≤ 60) && s.cps.toList.all fun c => inSp c && decide (c ≠ 37)
  | _ => false
theorem not_str {x : D} (h : ∀ s, x ≠ .str s) : isSt x = false ∧ nmB x = false ∧ txB x = false := by
  cases x <;> first | exact ⟨rfl, rfl, rfl⟩ | exact absurd rfl (h _)
theorem name_both {x : D} (h : Vd x) (μ : List MO) : f_is_name [x] μ = some (.bl (nmB x), μ) ∧ f__law_is_name [x] μ = some (.bl (nmB x), μ) ∧ f_is_text [x] μ = some (.bl (txB x), μ) ∧ f__law_is_text [x] μ = some (.bl (txB x), μ) := by
  by_cases hs : ∃ s, x = .str s
  · obtain ⟨s, rfl⟩ := hs
    obtain ⟨g, l⟩ := h.str
    exact ⟨is_name_str s l μ, law_is_name_str s l g μ, is_text_str s l μ, law_is_text_str s l g μ⟩
  · obtain ⟨h1, h2, h3⟩ := not_str (x := x) fun s e => hs ⟨s, e⟩
    rw [h2, h3]
    exact ⟨is_name_no h.kd h1 μ, law_is_name_no h.kd h1 μ, is_text_no h.kd h1 μ, law_is_text_no h.kd h1 μ⟩
/-! ### repr of two values -/
def Rp (μ : List MO) (x : D) : Prop := (∃ p, toPy μ 15 x = some p ∧ okP p = true ∧ p.depth ≤ 10 ∧ p.shown.length ≤ 3000 ∧ itD exNm μ x = some p.shown) ∨ (toPy μ 15 x = none ∧ ∃ t, itD exNm μ x = some t ∧ t.length ≤ 3000)
theorem odd_rp (μ : List MO) : ∀ x ∈ anyL ++ excs, Rp μ x := by
  intro x hx
  simp only [anyL, excs, List.cons_append, List.nil_append, List.mem_cons, List.mem_nil_iff, or_false] at hx
  rcases hx with rfl | rfl | rfl | rfl | rfl | rfl | rfl | rfl | rfl | rfl | rfl | rfl | rfl | rfl | rfl | rfl | rfl <;>
    first
    | exact .inl ⟨_, rfl, by decide +kernel, by decide +kernel, by decide +kernel, rfl⟩
    | exact .inr ⟨rfl, _, rfl, by decide +kernel⟩
theorem Vd.rp {x : D} (h : Vd x) (μ : List MO) : Rp μ x := by
  rcases h with ⟨i, rfl, hi⟩ | ⟨t, rfl, g, l⟩ | h
  · have p' : (10 : Nat) ^ 30 = 1000000000000000000000000000000 := by decide
    have hl : i.natAbs.log2 < 1920 := Nat.lt_trans (PySem.Flt.log2_lt_of (k := 128) (by decide) (by rw [p'] at hi; omega)) (by decide)
    have sh : (PyData.int i).showable = true := by simp [PyData.showable, hl]
    have ok : okP (.int i) = true := by simp [okP, sh, PyData.hasDict, PyData.depth]
    have len : (PyData.int i).shown.length ≤ 3000 := by
      have := PyProof.Rows.int_text_len_1921 hl
      simp only [PyData.shown]
      exact Nat.le_trans this (by decide)
    refine .inl ⟨.int i, rfl, ok, by simp [PyData.depth], len, ?_⟩
    show dtD μ (.int i) = _
    have e : toPy μ DEEP (.int i) = some (.int i) := rfl
    simp [dtD, e, ok]
  · have ok : okP (.str t) = true := by simp [okP, PyData.showable, PyData.hasDict, PyData.depth]
    have len : (PyData.str t).shown.length ≤ 3000 := by
      have := PySem.StrLaws.reprText_len t fun c hc => Nat.lt_of_lt_of_le (g c hc).1 (by decide)
      simp only [PyData.shown]
      omega
    refine .inl ⟨.str t, rfl, ok, by simp [PyData.depth], len, ?_⟩
    show dtD μ (.str t) = _
    have e : toPy μ DEEP (.str t) = some (.str t) := rfl
    simp [dtD, e, ok]
  · exact odd_rp μ x h
theorem list2_len (a b : Str) : (listText [a, b]).length = a.length + b.length + 4 := by
  show (((((("[" : Str) ++ a) ++ ", ") ++ b)) ++ "]").length = _
  rw [strLen_append, strLen_append, strLen_append, strLen_append]
  show 1 + a.length + 2 + b.length + 1 = _
  omega
theorem repr2 {x y : D} {μ : List MO} (hx : Rp μ x) (hy : Rp μ y) : ∃ t, reprD exNm [.lst [x, y]] μ = some (.str t, μ) := by
  have tp : toPy μ DEEP (.lst [x, y]) = (toPyL (toPy μ 15) [x, y]).map .list := rfl
  have fin : ∀ t, tx exNm μ (.lst [x, y]) = some t → t.length ≤ 1000000 → ∃ t, reprD exNm [.lst [x, y]] μ = some (.str t, μ) := fun t e l => ⟨t, by simp [reprD, e, l]⟩
  have items : (∃ a, itD exNm μ x = some a ∧ a.length ≤ 3000) ∧ ∃ b, itD exNm μ y = some b ∧ b.length ≤ 3000 := by
    constructor
    · rcases hx with ⟨p, _, _, _, l, e⟩ | ⟨_, t, e, l⟩
      · exact ⟨_, e, l⟩
      · exact ⟨_, e, l⟩
    · rcases hy with ⟨p, _, _, _, l, e⟩ | ⟨_, t, e, l⟩
      · exact ⟨_, e, l⟩
      · exact ⟨_, e, l⟩
  obtain ⟨⟨a, ea, la⟩, b, eb, lb⟩ := items
  have il : itL exNm μ [x, y] = some [a, b] := by simp [itL, ea, eb]
  have other : toPy μ DEEP (.lst [x, y]) = none → ∃ t, reprD exNm [.lst [x, y]] μ = some (.str t, μ) := fun e => fin (listText [a, b]) (by simp [tx, e, il]) (by rw [list2_len]; omega)
  rcases hx with ⟨p, p1, p2, p3, p4, p5⟩ | ⟨p1, _⟩
  · rcases hy with ⟨q, q1, q2, q3, q4, q5⟩ | ⟨q1, _⟩
    · have e : toPy μ DEEP (.lst [x, y]) = some (.list [p, q]) := by rw [tp]; simp [toPyL, p1, q1]
      simp only [okP, Bool.and_eq_true, Bool.not_eq_true', decide_eq_true_eq] at p2 q2
      have ok : okP (.list [p, q]) = true := by
        obtain ⟨⟨s1, d1⟩, z1⟩ := p2
        obtain ⟨⟨s2, d2⟩, z2⟩ := q2
        have zz : max p.depth (max q.depth 0) + 1 ≤ 60 := by omega
        simp [okP, PyData.showable, PyData.showableAll, PyData.hasDict, PyData.hasDictAll, PyData.depth, PyData.depthAll, s1, s2, d1, d2]
        omega
      refine fin (PyData.list [p, q]).shown (by simp [tx, e, ok]) ?_
      simp only [PyData.shown, PyData.shownAll]
      rw [list2_len]
      omega
    · exact other (by rw [tp]; simp [toPyL, p1, q1])
  · exact other (by rw [tp]; simp [toPyL, p1])
end Law

set_option Elab.async false
set_option linter.all false
set_option autoImplicit false
set_option maxRecDepth 100000
set_option maxHeartbeats 4000000
namespace Law
open PySem PySem.Spec PySem.Calls L2 G
/-! ### loops that keep something -/
theorem for_inv {J : List SV → Prop} {i : Nat} {body : BF} {μ : List MO} : ∀ {ds : List D}, (∀ d ∈ ds, ∀ δ, J δ → ∃ δ', body (δ.set i (.d d)) μ = some (.nx δ' μ) ∧ J δ') → ∀ δ, J δ → ∃ δ', forLoop (nmG i) body ds δ μ = some (.nx δ' μ) ∧ J δ'
  | [], _, δ, h => ⟨δ, rfl, h⟩
  | d :: ds, q, δ, h => by
    obtain ⟨δ1, e1, h1⟩ := q d (List.mem_cons_self ..) δ h
    obtain ⟨δ2, e2, h2⟩ := for_inv (ds := ds) (fun x hx => q x (List.mem_cons_of_mem _ hx)) δ1 h1
    refine ⟨δ2, ?_, h2⟩
    unfold forLoop
    simp only [nmG, e1]
    exact e2
theorem then_for {it : IF} {g : GF} {body k : BF} {ds : List D} {δ δ' : List SV} {μ μ1 μ2 : List MO} (h : it δ μ = some (ds, μ1)) (h2 : forLoop g body ds δ μ1 = some (.nx δ' μ2)) : bThen (bFor it g body) k δ μ = k δ' μ2 := by simp [bThen, bFor, h, h2]
theorem for_eq {it : IF} {g : GF} {body : BF} {ds : List D} {δ : List SV} {μ μ1 : List MO} {o : Option Out} (h : it δ μ = some (ds, μ1)) (h2 : forLoop g body ds δ μ1 = o) : bFor it g body δ μ = o := by simp [bFor, h, h2]
theorem if_nx {t : TF} {b : BF} {δ : List SV} {μ μ1 : List MO} (h : t δ μ = some (false, μ1)) : bIf t b bNil δ μ = some (.nx δ μ1) := by simp [bIf, h, bNil]
/-- what stands in the slots -/
structure Jx (od nu lo hi du te ke : D) (δ : List SV) : Prop where
  a1 : δ[1]? = some (.d od)
  a2 : δ[2]? = some (.d nu)
  a4 : δ[4]? = some (.d lo)
  a5 : δ[5]? = some (.d hi)
  a6 : δ[6]? = some (.d du)
  a7 : δ[7]? = some (.d te)
  a8 : δ[8]? = some (.d ke)
  len : δ.length = 11
theorem Jx.set {od nu lo hi du te ke x : D} {δ : List SV} {i : Nat} (h : Jx od nu lo hi du te ke δ) (hi9 : 9 ≤ i) : Jx od nu lo hi du te ke (δ.set i (.d x)) := by
  refine ⟨?_, ?_, ?_, ?_, ?_, ?_, ?_, by simp [h.len]⟩ <;> rw [List.getElem?_set_ne (by omega)]
  · exact h.a1
  · exact h.a2
  · exact h.a4
  · exact h.a5
  · exact h.a6
  · exact h.a7
  · exact h.a8
theorem var_at {i : Nat} {x : D} {δ : List SV} {μ : List MO} (h : δ[i]? = some (.d x)) : eVar i δ μ = some (x, μ) := by simp [eVar, h]
theorem a_nil (δ : List SV) (μ : List MO) : aNil δ μ = some ([], μ) := rfl
theorem fn1 {fn : FF} {i : Nat} {x z : D} {δ : List SV} {μ : List MO} (h : δ[i]? = some (.d x)) (e : fn [x] μ = some (z, μ)) : eFn fn [] (aCons (eVar i) aNil) δ μ = some (z, μ) := fnE (aC (var_at h) (a_nil _ _)) e
theorem is_it {fa fb : EF} {b : Bool} {δ : List SV} {μ : List MO} (h1 : fa δ μ = some (.bl b, μ)) (h2 : fb δ μ = some (.bl b, μ)) : tfNot (asB (eFn f__law_is [] (aCons fa (aCons fb aNil)))) δ μ = some (false, μ) :=
  not_eq (b := true) (asB_eq (fnE (aC h1 (aC h2 (a_nil _ _))) (law_is_ok b μ)))
theorem place_due {i : Nat} {x : D} {δ : List SV} {μ : List MO} (h : δ[i]? = some (.d x)) (v : (kd x).isSome = true) : eAndV (eFn f__law_whole [] (aCons (eVar i) aNil)) (eChain leD leD (eC (.int 0)) (eVar i) (eC (.int 255))) δ μ = some (.bl (isPl x), μ) := by
  have e := fn1 (μ := μ) h (law_whole_ok v μ)
  cases x with
  | int j =>
    refine (and_eq e fun _ => ch_le 0 j 255 (fa := eC (.int 0)) (fc := eC (.int 255)) rfl (var_at h) rfl).trans ?_
    have : decide (j ≤ 255) = decide (j < 256) := by rw [Bool.eq_iff_iff, decide_eq_true_eq, decide_eq_true_eq]; omega
    simp only [isInt, isPl, this, Bool.true_and]
  | _ => exact (and_eq (b := true) e fun z => nomatch z)
theorem whole_due {i j l : Nat} {x : D} {lo hi : Int} {δ : List SV} {μ : List MO} (h : δ[i]? = some (.d x)) (hl : δ[j]? = some (.d (.int lo))) (hh : δ[l]? = some (.d (.int hi))) (v : (kd x).isSome = true) : eAndV (eFn f__law_whole [] (aCons (eVar i) aNil)) (eChain leD leD (eVar j) (eVar i) (eVar l)) δ μ = some (.bl (isWh lo hi x), μ) := by
  have e := fn1 (μ := μ) h (law_whole_ok v μ)
  cases x with
  | int z => exact (and_eq (a := true) e fun _ => ch_le lo z hi (var_at hl) (var_at h) (var_at hh))
  | _ => exact (and_eq (b := true) e fun z => nomatch z)
theorem exc_at {C : Nat} {f m : Str} {d : D} {δ : List SV} {μ : List MO} : eExc C f m (aCons (eC d) aNil) δ μ = some (.exc C f m d, μ) := by
  simp [eExc, aCons, eThen, eC, aNil]
theorem int_bl (b : Bool) {fb : EF} {δ : List SV} {μ μ1 : List MO} (h : fb δ μ = some (.bl b, μ1)) : eCall intD (aCons fb aNil) δ μ = some (.int (if b then 1 else 0), μ1) := by
  have e := aC h (a_nil δ μ1)
  simp only [eCall, aThen, e, intD]
/-- one of two, by a draw -/
theorem pick2 {x y : D} {b : Bool} {μ : List MO} : ∃ z, ixD (.lst [x, y]) (.int (if b then 1 else 0)) μ = some (z, μ) ∧ (z = x ∨ z = y) := by
  obtain ⟨z, e, m⟩ := ix_lst (xs := [x, y]) (d := if b then 1 else 0) (μ := μ) (by cases b <;> decide) (by cases b <;> simp)
  refine ⟨z, e, ?_⟩
  simpa using m
def Bse (x : D) : Prop := (∃ i : Int, x = .int i) ∨ ∃ b : Bool, x = .bl b
/-- a bound -/
theorem bound_ok {k n : Nat} {x : D} {δ : List SV} {μ : List MO} (d0 : δ[0]? = some (.d (.mut k))) (d3 : δ[3]? = some (.d x)) (hb : Bse x) (h : Bg k n μ) (hn : n ≤ 500) :
    ∃ (z : Int) (μ' : List MO), eBin subD (eBin addD (eBin ixD (eFrz (nLst (aCons (eVar 3) (aCons (eFn f__law_number [] (aCons (eVar 0) aNil)) aNil)))) (eFn f__law_take [] (aCons (eVar 0) (aCons (eC (.int 2)) aNil)))) (eFn f__law_take [] (aCons (eVar 0) (aCons (eC (.int 3)) aNil)))) (eC (.int 1)) δ μ = some (.int z, μ') ∧ Bg k (n + 6) μ' := by
  obtain ⟨y, μ1, e1, ⟨i, rfl, _⟩, b1⟩ := number_ok h (by omega)
  have L := frz (aC (var_at (μ := μ) d3) (aC (fnE (aC (var_at d0) (a_nil _ _)) e1) (a_nil _ _))) (by simp)
  obtain ⟨a, μ2, e2, a1, a2, b2⟩ := take_at (i := 0) (m := 2) (fm := eC (.int 2)) d0 rfl b1 (by decide) (by decide) (by omega)
  obtain ⟨v, e3, hv⟩ := ix_lst (xs := [x, .int i]) (μ := μ2) a1 a2
  have P := ixe L e2 e3
  obtain ⟨c, μ3, e4, c1, c2, b3⟩ := take_at (i := 0) (m := 3) (fm := eC (.int 3)) d0 rfl b2 (by decide) (by decide) (by omega)
  have bv : Bse v := by
    simp only [List.mem_cons, List.mem_nil_iff, or_false] at hv
    rcases hv with rfl | rfl
    · exact hb
    · exact .inl ⟨_, rfl⟩
  rcases bv with ⟨j, rfl⟩ | ⟨b, rfl⟩
  · exact ⟨_, μ3, subE (addE P e4) (fb := eC (.int 1)) rfl, b3⟩
  · refine ⟨_, μ3, subE (a := (if b = true then (1 : Int) else 0) + c) ?_ (fb := eC (.int 1)) rfl, b3⟩
    simp only [eBin, eThen]
    simp only [eBin, eThen] at P
    rw [P]
    simp only [e4, addD]
theorem base_ok {x : D} (v : Vd x) : (isIB x = true → Bse x) := by
  intro h
  cases x <;> first | exact .inl ⟨_, rfl⟩ | exact .inr ⟨_, rfl⟩ | exact absurd h Bool.false_ne_true
theorem right_ok {k n : Nat} {μ : List MO} (h : Bg k n μ) (hn : n ≤ 0) : ∃ μ', f__law_right [.mut k] μ = some (.bl true, μ') := by
  -- odd
  let δ0 : List SV := startD 11 [.mut k]
  obtain ⟨x, μ1, e1, hx, b1⟩ := any_ok h (by omega)
  have L1 := frz (aC (fnE (aC (var_at (i := 0) (δ := δ0) (μ := μ) rfl) (a_nil _ _)) e1) (aC (exc_at (C := 0) (f := "found") (m := "no name") (d := .str "a")) (aC (exc_at (C := 1) (f := "found") (m := "no place") (d := .int 7)) (a_nil _ _)))) (by simp)
  obtain ⟨a, μ2, t1, a1, a2, b2⟩ := take_at (i := 0) (δ := δ0) (m := 3) (fm := eC (.int 3)) rfl rfl b1 (by decide) (by decide) (by omega)
  obtain ⟨od, i1, hod⟩ := ix_lst (xs := [x, .exc 0 "found" "no name" (.str "a"), .exc 1 "found" "no place" (.int 7)]) (μ := μ2) a1 a2
  have vo : Vd od := by
    refine .inr (.inr ?_)
    simp only [List.mem_cons, List.mem_nil_iff, or_false] at hod
    rcases hod with rfl | rfl | rfl
    · exact List.mem_append_left _ hx
    · simp [excs]
    · simp [excs]
  have S1 := ixe L1 t1 i1
  let δ1 : List SV := δ0.set 1 (.d od)
  -- number
  obtain ⟨y, μ3, e2, hy, b3⟩ := number_ok b2 (by omega)
  have L2 := frz (aC (fnE (aC (var_at (i := 0) (δ := δ1) (μ := μ2) rfl) (a_nil _ _)) e2) (aC (var_at (i := 1) (δ := δ1) rfl) (a_nil _ _))) (by simp)
  obtain ⟨c, μ4, t2, c1, c2, b4⟩ := take_at (i := 0) (δ := δ1) (m := 5) (fm := eC (.int 5)) rfl rfl b3 (by decide) (by decide) (by omega)
  obtain ⟨nu, i2, hnu⟩ := pick2 (x := y) (y := od) (b := decide (c = 0)) (μ := μ4)
  have vn : Vd nu := by
    rcases hnu with rfl | rfl
    · exact .inl hy
    · exact vo
  have S2 := ixe L2 (int_bl _ (eq_int (fb := eC (.int 0)) t2 rfl)) i2
  let δ2 : List SV := δ1.set 2 (.d nu)
  -- base
  have q3 := asB_eq (isi_at 2 "int" nu _ δ2 μ4 rfl (isi_int vn.kd μ4))
  obtain ⟨ba, S3, hba⟩ : ∃ ba, eIf (asB (eCall (isiH exKit) (aCons (eVar 2) (aCons (eC (.ty "int")) aNil)))) (eVar 2) (eC (.int 0)) δ2 μ4 = some (ba, μ4) ∧ Bse ba := by
    cases hb : isIB nu with
    | true => exact ⟨nu, if_t (by rw [q3, hb]) (var_at rfl), base_ok vn hb⟩
    | false => exact ⟨.int 0, if_f (by rw [q3, hb]) rfl, .inl ⟨0, rfl⟩⟩
  let δ3 : List SV := δ2.set 3 (.d ba)
  obtain ⟨lo, μ5, S4, b5⟩ := bound_ok (δ := δ3) rfl rfl hba b4 (by omega)
  let δ4 : List SV := δ3.set 4 (.d (.int lo))
  obtain ⟨hi, μ6, S5, b6⟩ := bound_ok (δ := δ4) rfl rfl hba b5 (by omega)
  let δ5 : List SV := δ4.set 5 (.d (.int hi))
  have S6 := whole_due (i := 2) (j := 4) (l := 5) (δ := δ5) (μ := μ6) rfl rfl rfl vn.kd (lo := lo) (hi := hi)
  let δ6 : List SV := δ5.set 6 (.d (.bl (isWh lo hi nu)))
  -- text
  obtain ⟨z, μ7, e7, hz, b7⟩ := text_ok b6 (by omega)
  have L7 := frz (aC (fnE (aC (var_at (i := 0) (δ := δ6) (μ := μ6) rfl) (a_nil _ _)) e7) (aC (var_at (i := 1) (δ := δ6) rfl) (a_nil _ _))) (by simp)
  obtain ⟨g, μ8, t7, g1, g2, b8⟩ := take_at (i := 0) (δ := δ6) (m := 6) (fm := eC (.int 6)) rfl rfl b7 (by decide) (by decide) (by omega)
  obtain ⟨te, i7, hte⟩ := pick2 (x := z) (y := od) (b := decide (g = 0)) (μ := μ8)
  have vt : Vd te := by
    rcases hte with rfl | rfl
    · exact .inr (.inl hz)
    · exact vo
  have S7 := ixe L7 (int_bl _ (eq_int (fb := eC (.int 0)) t7 rfl)) i7
  let δ7 : List SV := δ6.set 7 (.d te)
  obtain ⟨ke, rk⟩ := repr2 (vn.rp μ8) (vt.rp μ8)
  have rep : ∀ δ : List SV, δ[2]? = some (.d nu) → δ[7]? = some (.d te) → eCall (reprD exNm) (aCons (eFrz (nLst (aCons (eVar 2) (aCons (eVar 7) aNil)))) aNil) δ μ8 = some (.str ke, μ8) := fun δ h2 h7 => by
    have e := aC (frz (aC (var_at (μ := μ8) h2) (aC (var_at h7) (a_nil _ _))) (by simp)) (a_nil δ μ8)
    simp only [eCall, aThen, e]
    exact rk
  have S8 := rep δ7 rfl rfl
  let δ8 : List SV := δ7.set 8 (.d (.str ke))
  have J8 : Jx od nu (.int lo) (.int hi) (.bl (isWh lo hi nu)) te (.str ke) δ8 := ⟨rfl, rfl, rfl, rfl, rfl, rfl, rfl, rfl⟩
  -- one value
  have one : ∀ v ∈ [nu, te, od], ∀ δ, Jx od nu (.int lo) (.int hi) (.bl (isWh lo hi nu)) te (.str ke) δ → ∃ δ', (bThen (bIf (tfOr (tfNot (asB (eFn f__law_is [] (aCons (eFn f_is_name [] (aCons (eVar 10) aNil)) (aCons (eFn f__law_is_name [] (aCons (eVar 10) aNil)) aNil))))) (tfNot (asB (eFn f__law_is [] (aCons (eFn f_is_text [] (aCons (eVar 10) aNil)) (aCons (eFn f__law_is_text [] (aCons (eVar 10) aNil)) aNil)))))) (bRet (eC (.bl false))) bNil)
      (bIf (tfNot (asB (eFn f__law_is [] (aCons (eFn f_is_place [] (aCons (eVar 10) aNil)) (aCons (eAndV (eFn f__law_whole [] (aCons (eVar 10) aNil)) (eChain leD leD (eC (.int 0)) (eVar 10) (eC (.int 255)))) aNil))))) (bRet (eC (.bl false))) bNil)) (δ.set 10 (.d v)) μ8 = some (.nx δ' μ8) ∧ Jx od nu (.int lo) (.int hi) (.bl (isWh lo hi nu)) te (.str ke) δ' := by
    intro v hv δ J
    have vv : Vd v := by
      simp only [List.mem_cons, List.mem_nil_iff, or_false] at hv
      rcases hv with rfl | rfl | rfl
      · exact vn
      · exact vt
      · exact vo
    have at10 : (δ.set 10 (.d v))[10]? = some (.d v) := by rw [List.getElem?_set_self (by rw [J.len]; decide)]
    obtain ⟨n1, n2, n3, n4⟩ := name_both vv μ8
    refine ⟨δ.set 10 (.d v), ?_, J.set (by decide)⟩
    rw [ask_on (or_eq (b := false) (is_it (fn1 at10 n1) (fn1 at10 n2)) fun _ => is_it (fn1 at10 n3) (fn1 at10 n4))]
    exact if_nx (is_it (fn1 at10 (is_place_ok vv.kd μ8)) (place_due at10 vv.kd))
  suffices hs : (bThen (bSet 1 _) _ : BF) δ0 μ = some (.rt (.bl true) μ8) from ⟨μ8, run_of hs⟩
  rw [then_set S1, then_set S2, then_set S3, then_set S4, then_set S5, then_set S6, then_set S7, then_set S8]
  have R : iR1 (aCons (eC (.int 2)) aNil) δ8 μ8 = some (rangeD 0 2, μ8) := rfl
  obtain ⟨δ9, F, J9⟩ := for_inv (J := Jx od nu (.int lo) (.int hi) (.bl (isWh lo hi nu)) te (.str ke)) (i := 9) (μ := μ8) (ds := rangeD 0 2) (body := (bThen (bIf (tfNot (asB (eFn f__law_is [] (aCons (eFn f_is_whole [] (aCons (eVar 2) (aCons (eVar 4) (aCons (eVar 5) aNil)))) (aCons (eVar 6) aNil))))) (bRet (eC (.bl false))) bNil) (bFor (iL (eFrz (nLst (aCons (eVar 2) (aCons (eVar 7) (aCons (eVar 1) aNil)))))) (nmG 10) _))) (fun d hd δ J => by
    have J' := J.set (x := d) (i := 9) (by decide)
    obtain ⟨δ', F', JJ⟩ := for_inv (i := 10) one _ J'
    refine ⟨δ', ?_, JJ⟩
    rw [ask_on (is_it (fnE (aC (var_at J'.a2) (aC (var_at J'.a4) (aC (var_at J'.a5) (a_nil _ _)))) (is_whole_ok vn.kd lo hi μ8)) (var_at J'.a6))]
    refine for_eq ?_ F'
    have e := frz (aC (var_at (μ := μ8) J'.a2) (aC (var_at J'.a7) (aC (var_at J'.a1) (a_nil _ _)))) (by simp)
    simp only [iL, eThen, e]) δ8 J8
  rw [then_for R F]
  refine ret_eq ?_
  have r := rep δ9 J9.a2 J9.a7
  have k8 := var_at (μ := μ8) J9.a8
  simp only [eBin, eThen]
  rw [r]
  simp only [k8, eqD, decide_true]
end Law

set_option Elab.async false
set_option linter.all false
set_option autoImplicit false
set_option maxRecDepth 100000
set_option maxHeartbeats 4000000
namespace Law
open PySem PySem.Spec PySem.Calls L2 G
theorem callE {g : G1} {r : AF} {δ : List SV} {μ μ1 : List MO} {xs : List D} {z : D × List MO} (h : r δ μ = some (xs, μ1)) (h2 : g xs μ1 = some z) : eCall g r δ μ = some z := by simp [eCall, aThen, h, h2]
theorem cell_ok {ns : List Int} (hl : ns.length ≤ 63) (k : Nat) (hk : k ≤ 1000) (μ : List MO) : ∃ c : Int, f__law_cell [.scr ns, .int k] μ = some (.int c, μ) := by
  by_cases h : k < ns.length
  · have hz : ((k : Nat) : Int) < ns.length := by omega
    refine ⟨ns[k], ?_⟩
    have e : ixD (.scr ns) (.int k) μ = some (.int ns[k], μ) := by
      have : L2.atI ns (k : Int) = some ns[k] := by simp [L2.atI, L2.ixN, hz, h]
      simp [ixD, this]
    refine run_of ?_
    have q : asB (eBin ltD (eVar 1) (eCall lenD (aCons (eVar 0) aNil))) (startD 2 [.scr ns, .int k]) μ = some (true, μ) := by
      simp [asB, eBin, eThen, eVar, startD, eCall, aThen, aCons, aNil, lenD, ltD, hz]
    exact ask_ret q (ixe (var_at rfl) (var_at rfl) e)
  · refine ⟨7919 * k + 41, run_of ?_⟩
    have hz : ¬ ((k : Nat) : Int) < ns.length := by omega
    have q : asB (eBin ltD (eVar 1) (eCall lenD (aCons (eVar 0) aNil))) (startD 2 [.scr ns, .int k]) μ = some (false, μ) := by
      simp [asB, eBin, eThen, eVar, startD, eCall, aThen, aCons, aNil, lenD, ltD, hz]
    rw [show b__law_cell = bThen (bIf _ _ bNil) _ from rfl, ask_on q]
    refine ret_eq (addE (fb := eC (.int 41)) (a := 7919 * k) ?_ rfl)
    have l1 : (7919 : Int).natAbs.log2 < 13 := PySem.Flt.log2_lt_of (by decide) (by decide)
    have l2 : ((k : Nat) : Int).natAbs.log2 < 30 := PySem.Flt.log2_lt_of (by decide) (by omega)
    have l3 : (7919 : Int).natAbs.log2 + ((k : Nat) : Int).natAbs.log2 < 1000000 := by omega
    simp only [show ((7919 : Int).natAbs) = 7919 from rfl, Int.natAbs_natCast] at l3
    simp [eBin, eThen, eC, eVar, startD, mulD, l3]
theorem bag_ok (c : Int) (μ : List MO) : ∃ o, f__law_bag [.int c] μ = some (.mut μ.length, μ ++ [o]) ∧ BagOk 0 o := by
  refine ⟨.lst [.int (if c - 10 ^ 18 > 0 then c - 10 ^ 18 else 0), .int (c % 2147483629), .int 0], ?_, _, _, _, rfl, ?_, Int.emod_nonneg _ (by decide), Int.lt_trans (Int.emod_lt_of_pos _ (by decide)) (by decide), by omega, by omega⟩
  · simp [f__law_bag, runB, b__law_bag, bRet, eMut, nLst, aCons, aNil, eThen, eCall, aThen, eC, eBin, eVar, startD, subD, powD, modD, maxD]
  · split <;> omega
theorem for_two {J : List SV → Prop} {i : Nat} {body : BF} : ∀ {ds : List D}, (∀ d ∈ ds, ∀ δ μ, J δ → ∃ δ' μ', body (δ.set i (.d d)) μ = some (.nx δ' μ') ∧ J δ') → ∀ δ μ, J δ → ∃ δ' μ', forLoop (nmG i) body ds δ μ = some (.nx δ' μ') ∧ J δ'
  | [], _, δ, μ, h => ⟨δ, μ, rfl, h⟩
  | d :: ds, q, δ, μ, h => by
    obtain ⟨δ1, μ1, e1, h1⟩ := q d (List.mem_cons_self ..) δ μ h
    obtain ⟨δ2, μ2, e2, h2⟩ := for_two (ds := ds) (fun x hx => q x (List.mem_cons_of_mem _ hx)) δ1 μ1 h1
    refine ⟨δ2, μ2, ?_, h2⟩
    unfold forLoop
    simp only [nmG, e1]
    exact e2
theorem law_good (ns : List Int) (hl : ns.length ≤ 63) : ∃ μ, f_law [.scr ns] [] = some (.bl true, μ) := by
  let δ0 : List SV := startD 2 [.scr ns]
  let L : Nat := max 3 (min 12 ns.length)
  have hL : L ≤ 12 := by omega
  have R : iR1 (aCons (eCall maxD (aCons (eC (.int 3)) (aCons (eCall minD (aCons (eC (.int 12)) (aCons (eCall lenD (aCons (eVar 0) aNil)) aNil))) aNil))) aNil) δ0 [] = some (rangeD 0 L, []) := by
    have e1 : eCall lenD (aCons (eVar 0) aNil) δ0 [] = some (.int ns.length, []) := by simp [eCall, aThen, aCons, aNil, eVar, eThen, δ0, startD, lenD]
    have e2 : eCall minD (aCons (eC (.int 12)) (aCons (eCall lenD (aCons (eVar 0) aNil)) aNil)) δ0 [] = some (.int (min 12 ns.length : Nat), []) := by
      have := aC (μ := []) (f := eC (.int 12)) (δ := δ0) rfl (aC e1 (a_nil _ _))
      have z : (if (ns.length : Int) < 12 then (ns.length : Int) else 12) = ((min 12 ns.length : Nat) : Int) := by split <;> omega
      exact callE this (by simp only [minD, z])
    have e3 : eCall maxD (aCons (eC (.int 3)) (aCons (eCall minD (aCons (eC (.int 12)) (aCons (eCall lenD (aCons (eVar 0) aNil)) aNil))) aNil)) δ0 [] = some (.int (L : Nat), []) := by
      have := aC (μ := []) (f := eC (.int 3)) (δ := δ0) rfl (aC e2 (a_nil _ _))
      have z : (if ((min 12 ns.length : Nat) : Int) > 3 then ((min 12 ns.length : Nat) : Int) else 3) = (L : Int) := by
        show _ = ((max 3 (min 12 ns.length) : Nat) : Int)
        split <;> omega
      exact callE this (by simp only [maxD, z])
    have e4 := aC e3 (a_nil δ0 [])
    simp only [iR1, aThen, e4]
    rw [if_pos (by omega)]
    simp
  obtain ⟨δ1, μ1, F, _⟩ := for_two (J := fun δ => δ[0]? = some (.d (.scr ns)) ∧ δ.length = 2) (i := 1) (ds := rangeD 0 L) (body := bIf (tfNot (asB (eFn f__law_right [] (aCons (eFn f__law_bag [] (aCons (eFn f__law_cell [] (aCons (eVar 0) (aCons (eVar 1) aNil))) aNil)) aNil)))) (bRet (eC (.bl false))) bNil) (fun d hd δ μ J => by
    obtain ⟨k, hk, rfl⟩ := List.mem_map.mp hd
    rw [List.mem_range] at hk
    have k0 : (0 : Int) + (k : Nat) = (k : Nat) := by omega
    rw [k0]
    obtain ⟨c, ec⟩ := cell_ok hl k (by omega) μ
    obtain ⟨o, eb, hb⟩ := bag_ok c μ
    have a0 : (δ.set 1 (.d (.int (k : Nat))))[0]? = some (.d (.scr ns)) := by rw [List.getElem?_set_ne (by decide)]; exact J.1
    have a1 : (δ.set 1 (.d (.int (k : Nat))))[1]? = some (.d (.int (k : Nat))) := by rw [List.getElem?_set_self (by rw [J.2]; decide)]
    have bg : Bg μ.length 0 (μ ++ [o]) := ⟨o, by simp, hb⟩
    obtain ⟨μ', er⟩ := right_ok bg (by omega)
    refine ⟨_, μ', if_nx (not_eq (b := true) (asB_eq (fnE (aC (fnE (aC (fnE (aC (var_at a0) (aC (var_at a1) (a_nil _ _))) ec) (a_nil _ _)) eb) (a_nil _ _)) er))), a0, by simp [J.2]⟩) δ0 [] ⟨rfl, rfl⟩
  refine ⟨μ1, run_of ?_⟩
  rw [show b_law = bThen (bFor _ _ _) _ from rfl, then_for R F]
  rfl
end Law

set_option Elab.async false
set_option linter.all false
set_option autoImplicit false
set_option maxRecDepth 100000
set_option maxHeartbeats 4000000
namespace Law
open PySem PySem.Spec PySem.Calls L2 G
section
variable {P : Program} {w : World} {K : PySem.W.Frag} {mg : Str → Option Value} {base : Heap} {cl : Nat → Addr}
abbrev sBase : Stmt := inClass (top 1) 0
abbrev sNoName : Stmt := inClass (top 2) 0
abbrev sNoPlace : Stmt := inClass (top 4) 0
theorem scBase : FnScope ["self", "text"] ["self", "text"] (defScope sBase) := ⟨rfl, rfl, rfl, by decide +kernel, rfl, by decide +kernel, by decide +kernel⟩
theorem scNoName : FnScope ["self", "found"] ["self", "found"] (defScope sNoName) := ⟨rfl, rfl, rfl, by decide +kernel, rfl, by decide +kernel, by decide +kernel⟩
theorem scNoPlace : FnScope ["self", "found"] ["self", "found"] (defScope sNoPlace) := ⟨rfl, rfl, rfl, by decide +kernel, rfl, by decide +kernel, by decide +kernel⟩
theorem ok_base {f : Addr} {fd : FuncData} (F : Fun K "__init__" "PeerError.__init__" sBase f fd) (hV : mg "ValueError" = none) (vV : PySem.W.findCls K (.type "ValueError") (.type "type") "__init__" = some (.val (.builtin "ValueError.__init__"))) : FnG P w K mg base 1 f fd 2 ["self", "text"] (spV K) :=
  initV_ok F scBase rfl rfl fun cdv A outer s H => pss_one (ps_expr (pe_veT rfl hV vV (pa_cons (pv 0) (pa_cons (pv 1) pa_nil))))
theorem ok_noName {f fB CB C : Addr} {fd fdB : FuncData} (F : Fun K "__init__" "NoName.__init__" sNoName f fd) (hB : mg "PeerError" = some (.ref CB)) (c : CFn K CB "__init__" fB) (GB : FnG P w K mg base 1 fB fdB 2 ["self", "text"] (spV K)) (bB : Binds K fdB ["self", "text"] []) (T : OexC K C) (hno : PySem.W.findIn K (.ref C) "found" = some none) :
    FnG P w K mg base 2 f fd 2 ["self", "found"] (spX C "found" "no name") :=
  initX_ok (CB := CB) F scNoName rfl rfl T hno fun cdv A outer s H hgd hr => pss_cons (ps_expr (pe_clsfn (pe_glob rfl hB rfl) c GB hgd hr bB (pa_cons (pv 0) (pa_cons pe_str pa_nil)))) (pss_one (ps_setX (pv 0) (pv 1)))
theorem ok_noPlace {f fB CB C : Addr} {fd fdB : FuncData} (F : Fun K "__init__" "NoPlace.__init__" sNoPlace f fd) (hB : mg "PeerError" = some (.ref CB)) (c : CFn K CB "__init__" fB) (GB : FnG P w K mg base 1 fB fdB 2 ["self", "text"] (spV K)) (bB : Binds K fdB ["self", "text"] []) (T : OexC K C) (hno : PySem.W.findIn K (.ref C) "found" = some none) :
    FnG P w K mg base 2 f fd 2 ["self", "found"] (spX C "found" "no place") :=
  initX_ok (CB := CB) F scNoPlace rfl rfl T hno fun cdv A outer s H hgd hr => pss_cons (ps_expr (pe_clsfn (pe_glob rfl hB rfl) c GB hgd hr bB (pa_cons (pv 0) (pa_cons pe_str pa_nil)))) (pss_one (ps_setX (pv 0) (pv 1)))
end
end Law

set_option Elab.async false
set_option linter.all false
set_option autoImplicit false
set_option maxRecDepth 100000
set_option maxHeartbeats 4000000
namespace Law
open PySem PySem.Spec PySem.Calls L2 G
theorem kit_sub {K : PySem.W.Frag} {C : Addr} {T : String} {b : Bool} (hm : PySem.W.kitMeta T = true) (e : PySem.W.subIn K (.ref C) (.type T) = some b) : PySem.W.kitOne K (.ref C) (.type T) = some b := by
  unfold PySem.W.kitOne PySem.W.kitCls
  have hne : (Value.ref C == Value.type T) = false := beq_eq_false_iff_ne.mpr fun z => nomatch z
  rw [hne, if_neg Bool.false_ne_true]
  simp only [hm, if_true, e]
theorem b_law_at {K : PySem.W.Frag} {f : Addr} {kV dc pm cd ct : Value} {an : Option Addr} (F : Fun K "law" "law" s_law f (PySem.W.fnOf "law" "law" (defArgs s_law) (defBody s_law) (defScope s_law) .none kV dc pm an cd ct)) (s : Shared) (u : Value) : BindsTo s (PySem.W.fnOf "law" "law" (defArgs s_law) (defBody s_law) (defScope s_law) .none kV dc pm an cd ct) ⟨[u], []⟩ [("script", u)] := .of_eq rfl
theorem all_mk {P : Program} {w : World} {K : PySem.W.Frag} {h : Heap} {mg : Str → Option Value} {fa : Addr} (X : K.In h) (G : h.Ns mainGlobals mg) (hfa : mg "law" = some (.ref fa))
    {A_is_number : Addr} (a_is_number : PySem.W.nsIn K mainGlobals "is_number" = some (some (.ref A_is_number)))
    {oc_is_number kV_is_number dc_is_number pm_is_number cd_is_number ct_is_number : Value} {od_is_number an_is_number : Option Addr} {sl_is_number : Array (Option Value)}
    (l_is_number : K.lookup A_is_number = some ⟨oc_is_number, od_is_number, .func (PySem.W.fnOf "is_number" "is_number" (defArgs s_is_number) (defBody s_is_number) (defScope s_is_number) .none kV_is_number dc_is_number pm_is_number an_is_number cd_is_number ct_is_number), sl_is_number⟩) (c_is_number : PySem.W.codeIn K cd_is_number "is_number" = true) (k_is_number : PySem.W.keepIn K (.ref A_is_number) = true)
    {A_is_name : Addr} (a_is_name : PySem.W.nsIn K mainGlobals "is_name" = some (some (.ref A_is_name)))
    {oc_is_name kV_is_name dc_is_name pm_is_name cd_is_name ct_is_name : Value} {od_is_name an_is_name : Option Addr} {sl_is_name : Array (Option Value)}
    (l_is_name : K.lookup A_is_name = some ⟨oc_is_name, od_is_name, .func (PySem.W.fnOf "is_name" "is_name" (defArgs s_is_name) (defBody s_is_name) (defScope s_is_name) .none kV_is_name dc_is_name pm_is_name an_is_name cd_is_name ct_is_name), sl_is_name⟩) (c_is_name : PySem.W.codeIn K cd_is_name "is_name" = true) (k_is_name : PySem.W.keepIn K (.ref A_is_name) = true)
    {A_is_text : Addr} (a_is_text : PySem.W.nsIn K mainGlobals "is_text" = some (some (.ref A_is_text)))
    {oc_is_text kV_is_text dc_is_text pm_is_text cd_is_text ct_is_text : Value} {od_is_text an_is_text : Option Addr} {sl_is_text : Array (Option Value)}
    (l_is_text : K.lookup A_is_text = some ⟨oc_is_text, od_is_text, .func (PySem.W.fnOf "is_text" "is_text" (defArgs s_is_text) (defBody s_is_text) (defScope s_is_text) .none kV_is_text dc_is_text pm_is_text an_is_text cd_is_text ct_is_text), sl_is_text⟩) (c_is_text : PySem.W.codeIn K cd_is_text "is_text" = true) (k_is_text : PySem.W.keepIn K (.ref A_is_text) = true)
    {A__law_cell : Addr} (a__law_cell : PySem.W.nsIn K mainGlobals "_law_cell" = some (some (.ref A__law_cell)))
    {oc__law_cell kV__law_cell dc__law_cell pm__law_cell cd__law_cell ct__law_cell : Value} {od__law_cell an__law_cell : Option Addr} {sl__law_cell : Array (Option Value)}
    (l__law_cell : K.lookup A__law_cell = some ⟨oc__law_cell, od__law_cell, .func (PySem.W.fnOf "_law_cell" "_law_cell" (defArgs s__law_cell) (defBody s__law_cell) (defScope s__law_cell) .none kV__law_cell dc__law_cell pm__law_cell an__law_cell cd__law_cell ct__law_cell), sl__law_cell⟩) (c__law_cell : PySem.W.codeIn K cd__law_cell "_law_cell" = true) (k__law_cell : PySem.W.keepIn K (.ref A__law_cell) = true)
    {A__law_bag : Addr} (a__law_bag : PySem.W.nsIn K mainGlobals "_law_bag" = some (some (.ref A__law_bag)))
    {oc__law_bag kV__law_bag dc__law_bag pm__law_bag cd__law_bag ct__law_bag : Value} {od__law_bag an__law_bag : Option Addr} {sl__law_bag : Array (Option Value)}
    (l__law_bag : K.lookup A__law_bag = some ⟨oc__law_bag, od__law_bag, .func (PySem.W.fnOf "_law_bag" "_law_bag" (defArgs s__law_bag) (defBody s__law_bag) (defScope s__law_bag) .none kV__law_bag dc__law_bag pm__law_bag an__law_bag cd__law_bag ct__law_bag), sl__law_bag⟩) (c__law_bag : PySem.W.codeIn K cd__law_bag "_law_bag" = true) (k__law_bag : PySem.W.keepIn K (.ref A__law_bag) = true)
    {A__law_take : Addr} (a__law_take : PySem.W.nsIn K mainGlobals "_law_take" = some (some (.ref A__law_take)))
    {oc__law_take kV__law_take dc__law_take pm__law_take cd__law_take ct__law_take : Value} {od__law_take an__law_take : Option Addr} {sl__law_take : Array (Option Value)}
    (l__law_take : K.lookup A__law_take = some ⟨oc__law_take, od__law_take, .func (PySem.W.fnOf "_law_take" "_law_take" (defArgs s__law_take) (defBody s__law_take) (defScope s__law_take) .none kV__law_take dc__law_take pm__law_take an__law_take cd__law_take ct__law_take), sl__law_take⟩) (c__law_take : PySem.W.codeIn K cd__law_take "_law_take" = true) (k__law_take : PySem.W.keepIn K (.ref A__law_take) = true)
    {A__law_whole : Addr} (a__law_whole : PySem.W.nsIn K mainGlobals "_law_whole" = some (some (.ref A__law_whole)))
    {oc__law_whole kV__law_whole dc__law_whole pm__law_whole cd__law_whole ct__law_whole : Value} {od__law_whole an__law_whole : Option Addr} {sl__law_whole : Array (Option Value)}
    (l__law_whole : K.lookup A__law_whole = some ⟨oc__law_whole, od__law_whole, .func (PySem.W.fnOf "_law_whole" "_law_whole" (defArgs s__law_whole) (defBody s__law_whole) (defScope s__law_whole) .none kV__law_whole dc__law_whole pm__law_whole an__law_whole cd__law_whole ct__law_whole), sl__law_whole⟩) (c__law_whole : PySem.W.codeIn K cd__law_whole "_law_whole" = true) (k__law_whole : PySem.W.keepIn K (.ref A__law_whole) = true)
    {A__law_is_name : Addr} (a__law_is_name : PySem.W.nsIn K mainGlobals "_law_is_name" = some (some (.ref A__law_is_name)))
    {oc__law_is_name kV__law_is_name dc__law_is_name pm__law_is_name cd__law_is_name ct__law_is_name : Value} {od__law_is_name an__law_is_name : Option Addr} {sl__law_is_name : Array (Option Value)}
    (l__law_is_name : K.lookup A__law_is_name = some ⟨oc__law_is_name, od__law_is_name, .func (PySem.W.fnOf "_law_is_name" "_law_is_name" (defArgs s__law_is_name) (defBody s__law_is_name) (defScope s__law_is_name) .none kV__law_is_name dc__law_is_name pm__law_is_name an__law_is_name cd__law_is_name ct__law_is_name), sl__law_is_name⟩) (c__law_is_name : PySem.W.codeIn K cd__law_is_name "_law_is_name" = true) (k__law_is_name : PySem.W.keepIn K (.ref A__law_is_name) = true)
    {A__law_is_text : Addr} (a__law_is_text : PySem.W.nsIn K mainGlobals "_law_is_text" = some (some (.ref A__law_is_text)))
    {oc__law_is_text kV__law_is_text dc__law_is_text pm__law_is_text cd__law_is_text ct__law_is_text : Value} {od__law_is_text an__law_is_text : Option Addr} {sl__law_is_text : Array (Option Value)}
    (l__law_is_text : K.lookup A__law_is_text = some ⟨oc__law_is_text, od__law_is_text, .func (PySem.W.fnOf "_law_is_text" "_law_is_text" (defArgs s__law_is_text) (defBody s__law_is_text) (defScope s__law_is_text) .none kV__law_is_text dc__law_is_text pm__law_is_text an__law_is_text cd__law_is_text ct__law_is_text), sl__law_is_text⟩) (c__law_is_text : PySem.W.codeIn K cd__law_is_text "_law_is_text" = true) (k__law_is_text : PySem.W.keepIn K (.ref A__law_is_text) = true)
    {A__law_is : Addr} (a__law_is : PySem.W.nsIn K mainGlobals "_law_is" = some (some (.ref A__law_is)))
    {oc__law_is kV__law_is dc__law_is pm__law_is cd__law_is ct__law_is : Value} {od__law_is an__law_is : Option Addr} {sl__law_is : Array (Option Value)}
    (l__law_is : K.lookup A__law_is = some ⟨oc__law_is, od__law_is, .func (PySem.W.fnOf "_law_is" "_law_is" (defArgs s__law_is) (defBody s__law_is) (defScope s__law_is) .none kV__law_is dc__law_is pm__law_is an__law_is cd__law_is ct__law_is), sl__law_is⟩) (c__law_is : PySem.W.codeIn K cd__law_is "_law_is" = true) (k__law_is : PySem.W.keepIn K (.ref A__law_is) = true)
    {A_is_place : Addr} (a_is_place : PySem.W.nsIn K mainGlobals "is_place" = some (some (.ref A_is_place)))
    {oc_is_place kV_is_place dc_is_place pm_is_place cd_is_place ct_is_place : Value} {od_is_place an_is_place : Option Addr} {sl_is_place : Array (Option Value)}
    (l_is_place : K.lookup A_is_place = some ⟨oc_is_place, od_is_place, .func (PySem.W.fnOf "is_place" "is_place" (defArgs s_is_place) (defBody s_is_place) (defScope s_is_place) .none kV_is_place dc_is_place pm_is_place an_is_place cd_is_place ct_is_place), sl_is_place⟩) (c_is_place : PySem.W.codeIn K cd_is_place "is_place" = true) (k_is_place : PySem.W.keepIn K (.ref A_is_place) = true)
    {A_need_number : Addr} (a_need_number : PySem.W.nsIn K mainGlobals "need_number" = some (some (.ref A_need_number)))
    {oc_need_number kV_need_number dc_need_number pm_need_number cd_need_number ct_need_number : Value} {od_need_number an_need_number : Option Addr} {sl_need_number : Array (Option Value)}
    (l_need_number : K.lookup A_need_number = some ⟨oc_need_number, od_need_number, .func (PySem.W.fnOf "need_number" "need_number" (defArgs s_need_number) (defBody s_need_number) (defScope s_need_number) .none kV_need_number dc_need_number pm_need_number an_need_number cd_need_number ct_need_number), sl_need_number⟩) (c_need_number : PySem.W.codeIn K cd_need_number "need_number" = true) (k_need_number : PySem.W.keepIn K (.ref A_need_number) = true)
    {A__law_any : Addr} (a__law_any : PySem.W.nsIn K mainGlobals "_law_any" = some (some (.ref A__law_any)))
    {oc__law_any kV__law_any dc__law_any pm__law_any cd__law_any ct__law_any : Value} {od__law_any an__law_any : Option Addr} {sl__law_any : Array (Option Value)}
    (l__law_any : K.lookup A__law_any = some ⟨oc__law_any, od__law_any, .func (PySem.W.fnOf "_law_any" "_law_any" (defArgs s__law_any) (defBody s__law_any) (defScope s__law_any) .none kV__law_any dc__law_any pm__law_any an__law_any cd__law_any ct__law_any), sl__law_any⟩) (c__law_any : PySem.W.codeIn K cd__law_any "_law_any" = true) (k__law_any : PySem.W.keepIn K (.ref A__law_any) = true)
    {A__law_number : Addr} (a__law_number : PySem.W.nsIn K mainGlobals "_law_number" = some (some (.ref A__law_number)))
    {oc__law_number kV__law_number dc__law_number pm__law_number cd__law_number ct__law_number : Value} {od__law_number an__law_number : Option Addr} {sl__law_number : Array (Option Value)}
    (l__law_number : K.lookup A__law_number = some ⟨oc__law_number, od__law_number, .func (PySem.W.fnOf "_law_number" "_law_number" (defArgs s__law_number) (defBody s__law_number) (defScope s__law_number) .none kV__law_number dc__law_number pm__law_number an__law_number cd__law_number ct__law_number), sl__law_number⟩) (c__law_number : PySem.W.codeIn K cd__law_number "_law_number" = true) (k__law_number : PySem.W.keepIn K (.ref A__law_number) = true)
    {A__law_spoilt : Addr} (a__law_spoilt : PySem.W.nsIn K mainGlobals "_law_spoilt" = some (some (.ref A__law_spoilt)))
    {oc__law_spoilt kV__law_spoilt dc__law_spoilt pm__law_spoilt cd__law_spoilt ct__law_spoilt : Value} {od__law_spoilt an__law_spoilt : Option Addr} {sl__law_spoilt : Array (Option Value)}
    (l__law_spoilt : K.lookup A__law_spoilt = some ⟨oc__law_spoilt, od__law_spoilt, .func (PySem.W.fnOf "_law_spoilt" "_law_spoilt" (defArgs s__law_spoilt) (defBody s__law_spoilt) (defScope s__law_spoilt) .none kV__law_spoilt dc__law_spoilt pm__law_spoilt an__law_spoilt cd__law_spoilt ct__law_spoilt), sl__law_spoilt⟩) (c__law_spoilt : PySem.W.codeIn K cd__law_spoilt "_law_spoilt" = true) (k__law_spoilt : PySem.W.keepIn K (.ref A__law_spoilt) = true)
    {A_is_whole : Addr} (a_is_whole : PySem.W.nsIn K mainGlobals "is_whole" = some (some (.ref A_is_whole)))
    {oc_is_whole kV_is_whole dc_is_whole pm_is_whole cd_is_whole ct_is_whole : Value} {od_is_whole an_is_whole : Option Addr} {sl_is_whole : Array (Option Value)}
    (l_is_whole : K.lookup A_is_whole = some ⟨oc_is_whole, od_is_whole, .func (PySem.W.fnOf "is_whole" "is_whole" (defArgs s_is_whole) (defBody s_is_whole) (defScope s_is_whole) .none kV_is_whole dc_is_whole pm_is_whole an_is_whole cd_is_whole ct_is_whole), sl_is_whole⟩) (c_is_whole : PySem.W.codeIn K cd_is_whole "is_whole" = true) (k_is_whole : PySem.W.keepIn K (.ref A_is_whole) = true)
    {A__law_text : Addr} (a__law_text : PySem.W.nsIn K mainGlobals "_law_text" = some (some (.ref A__law_text)))
    {oc__law_text kV__law_text dc__law_text pm__law_text cd__law_text ct__law_text : Value} {od__law_text an__law_text : Option Addr} {sl__law_text : Array (Option Value)}
    (l__law_text : K.lookup A__law_text = some ⟨oc__law_text, od__law_text, .func (PySem.W.fnOf "_law_text" "_law_text" (defArgs s__law_text) (defBody s__law_text) (defScope s__law_text) .none kV__law_text dc__law_text pm__law_text an__law_text cd__law_text ct__law_text), sl__law_text⟩) (c__law_text : PySem.W.codeIn K cd__law_text "_law_text" = true) (k__law_text : PySem.W.keepIn K (.ref A__law_text) = true)
    {A__law_right : Addr} (a__law_right : PySem.W.nsIn K mainGlobals "_law_right" = some (some (.ref A__law_right)))
    {oc__law_right kV__law_right dc__law_right pm__law_right cd__law_right ct__law_right : Value} {od__law_right an__law_right : Option Addr} {sl__law_right : Array (Option Value)}
    (l__law_right : K.lookup A__law_right = some ⟨oc__law_right, od__law_right, .func (PySem.W.fnOf "_law_right" "_law_right" (defArgs s__law_right) (defBody s__law_right) (defScope s__law_right) .none kV__law_right dc__law_right pm__law_right an__law_right cd__law_right ct__law_right), sl__law_right⟩) (c__law_right : PySem.W.codeIn K cd__law_right "_law_right" = true) (k__law_right : PySem.W.keepIn K (.ref A__law_right) = true)
    {A_law : Addr} (a_law : PySem.W.nsIn K mainGlobals "law" = some (some (.ref A_law)))
    {oc_law kV_law dc_law pm_law cd_law ct_law : Value} {od_law an_law : Option Addr} {sl_law : Array (Option Value)}
    (l_law : K.lookup A_law = some ⟨oc_law, od_law, .func (PySem.W.fnOf "law" "law" (defArgs s_law) (defBody s_law) (defScope s_law) .none kV_law dc_law pm_law an_law cd_law ct_law), sl_law⟩) (c_law : PySem.W.codeIn K cd_law "law" = true) (k_law : PySem.W.keepIn K (.ref A_law) = true)
    (z_all : PySem.W.nsIn K mainGlobals "all" = some none)
    (z_bool : PySem.W.nsIn K mainGlobals "bool" = some none)
    (z_int : PySem.W.nsIn K mainGlobals "int" = some none)
    (z_isinstance : PySem.W.nsIn K mainGlobals "isinstance" = some none)
    (z_len : PySem.W.nsIn K mainGlobals "len" = some none)
    (z_max : PySem.W.nsIn K mainGlobals "max" = some none)
    (z_min : PySem.W.nsIn K mainGlobals "min" = some none)
    (z_ord : PySem.W.nsIn K mainGlobals "ord" = some none)
    (z_range : PySem.W.nsIn K mainGlobals "range" = some none)
    (z_repr : PySem.W.nsIn K mainGlobals "repr" = some none)
    (z_str : PySem.W.nsIn K mainGlobals "str" = some none)
    {t_MOST_LETTERS : Tok} (v_MOST_LETTERS : PySem.W.nsIn K mainGlobals "MOST_LETTERS" = some (some (.int 8 t_MOST_LETTERS)))
    {t_MOST_SIGNS : Tok} (v_MOST_SIGNS : PySem.W.nsIn K mainGlobals "MOST_SIGNS" = some (some (.int 60 t_MOST_SIGNS)))
    {t_PERCENT : Tok} (v_PERCENT : PySem.W.nsIn K mainGlobals "PERCENT" = some (some (.int 37 t_PERCENT)))
    {t_RING : Tok} (v_RING : PySem.W.nsIn K mainGlobals "RING" = some (some (.int 256 t_RING)))
    {C_PB A_PB : Addr} (a_PB : PySem.W.nsIn K mainGlobals "PeerError" = some (some (.ref C_PB)))
    {oc_PB kV_PB dc_PB pm_PB cd_PB ct_PB : Value} {od_PB an_PB : Option Addr} {sl_PB : Array (Option Value)}
    (l_PB : K.lookup A_PB = some ⟨oc_PB, od_PB, .func (PySem.W.fnOf "__init__" "PeerError.__init__" (defArgs sBase) (defBody sBase) (defScope sBase) .none kV_PB dc_PB pm_PB an_PB cd_PB ct_PB), sl_PB⟩) (c_PB : PySem.W.codeIn K cd_PB "PeerError.__init__" = true) (k_PB : PySem.W.keepIn K (.ref A_PB) = true)
    (g_PB : PySem.W.specialIn K (.ref C_PB) "__getattribute__" = some (some (.builtin "type.__getattribute__"))) (d_PB : PySem.W.readsIn K C_PB (.type "type") = true) (f_PB : PySem.W.findCls K (.ref C_PB) (.type "type") "__init__" = some (.val (.ref A_PB)))
    (z_VE : PySem.W.nsIn K mainGlobals "ValueError" = some none) (f_VE : PySem.W.findCls K (.type "ValueError") (.type "type") "__init__" = some (.val (.builtin "ValueError.__init__")))
    {A_X0 : Addr}
    {C_X0 N_X0 : Addr} {q_X0 : Str} {bs_X0 bm_X0 sub_X0 : List Value} {sn_X0 : List Str} {ab_X0 : Bool} {col_X0 : Option Bool} {dd_X0 : Option Addr} {m0_X0 m1_X0 m2_X0 m3_X0 m5_X0 : Option Value}
    (a_X0 : PySem.W.nsIn K mainGlobals "NoName" = some (some (.ref C_X0)))
    (x_X0 : K.lookup C_X0 = some (excClassObj "NoName" q_X0 C_X0 N_X0 bs_X0 bm_X0 true sn_X0 sub_X0 ab_X0 col_X0 dd_X0 m0_X0 m1_X0 m2_X0 m3_X0 m5_X0 "ValueError.__new__")) (r_X0 : PySem.HandSPX.refsVE bm_X0 = true)
    (i_X0 : PySem.W.findIn K (.ref C_X0) "__init__" = some (some (.ref A_X0))) (ti_X0 : PySem.W.typeIn K (.ref A_X0) = some (.type "function"))
    {oc_X0 kV_X0 dc_X0 pm_X0 cd_X0 ct_X0 : Value} {od_X0 an_X0 : Option Addr} {sl_X0 : Array (Option Value)}
    (l_X0 : K.lookup A_X0 = some ⟨oc_X0, od_X0, .func (PySem.W.fnOf "__init__" "NoName.__init__" (defArgs sNoName) (defBody sNoName) (defScope sNoName) .none kV_X0 dc_X0 pm_X0 an_X0 cd_X0 ct_X0), sl_X0⟩) (c_X0 : PySem.W.codeIn K cd_X0 "NoName.__init__" = true) (k_X0 : PySem.W.keepIn K (.ref A_X0) = true)
    (sa_X0 : PySem.W.findIn K (.ref C_X0) "__setattr__" = some (some (.builtin "object.__setattr__"))) (ex_X0 : PySem.W.subIn K (.ref C_X0) (.type "BaseException") = some true) (ty_X0 : PySem.W.typeIn K (.ref C_X0) = some (.type "type")) (kc_X0 : PySem.W.keepIn K (.ref C_X0) = true) (rp_X0 : PySem.W.findIn K (.ref C_X0) "__repr__" = some (some (.builtin "BaseException.__repr__"))) (no_X0 : PySem.W.findIn K (.ref C_X0) "found" = some none) (hg_X0 : PySem.W.findIn K (.ref C_X0) "__getattribute__" = some (some (.builtin "BaseException.__getattribute__"))) (hk_X0 : PySem.W.findIn K (.ref C_X0) "__getattr__" = some none) (hd_X0 : PySem.W.hasDictIn K C_X0 = true) (ha_X0 : PySem.W.findIn K (.ref C_X0) "__class__" = some (some (.builtin "object.__class__"))) (hm_X0 : PySem.W.mroIn K C_X0 (.type "object") = some true)
    (kit_int_X0 : PySem.W.subIn K (.ref C_X0) (.type "int") = some false)
    (kit_bool_X0 : PySem.W.subIn K (.ref C_X0) (.type "bool") = some false)
    (kit_str_X0 : PySem.W.subIn K (.ref C_X0) (.type "str") = some false)
    {A_X1 : Addr}
    {C_X1 N_X1 : Addr} {q_X1 : Str} {bs_X1 bm_X1 sub_X1 : List Value} {sn_X1 : List Str} {ab_X1 : Bool} {col_X1 : Option Bool} {dd_X1 : Option Addr} {m0_X1 m1_X1 m2_X1 m3_X1 m5_X1 : Option Value}
    (a_X1 : PySem.W.nsIn K mainGlobals "NoPlace" = some (some (.ref C_X1)))
    (x_X1 : K.lookup C_X1 = some (excClassObj "NoPlace" q_X1 C_X1 N_X1 bs_X1 bm_X1 true sn_X1 sub_X1 ab_X1 col_X1 dd_X1 m0_X1 m1_X1 m2_X1 m3_X1 m5_X1 "ValueError.__new__")) (r_X1 : PySem.HandSPX.refsVE bm_X1 = true)
    (i_X1 : PySem.W.findIn K (.ref C_X1) "__init__" = some (some (.ref A_X1))) (ti_X1 : PySem.W.typeIn K (.ref A_X1) = some (.type "function"))
    {oc_X1 kV_X1 dc_X1 pm_X1 cd_X1 ct_X1 : Value} {od_X1 an_X1 : Option Addr} {sl_X1 : Array (Option Value)}
    (l_X1 : K.lookup A_X1 = some ⟨oc_X1, od_X1, .func (PySem.W.fnOf "__init__" "NoPlace.__init__" (defArgs sNoPlace) (defBody sNoPlace) (defScope sNoPlace) .none kV_X1 dc_X1 pm_X1 an_X1 cd_X1 ct_X1), sl_X1⟩) (c_X1 : PySem.W.codeIn K cd_X1 "NoPlace.__init__" = true) (k_X1 : PySem.W.keepIn K (.ref A_X1) = true)
    (sa_X1 : PySem.W.findIn K (.ref C_X1) "__setattr__" = some (some (.builtin "object.__setattr__"))) (ex_X1 : PySem.W.subIn K (.ref C_X1) (.type "BaseException") = some true) (ty_X1 : PySem.W.typeIn K (.ref C_X1) = some (.type "type")) (kc_X1 : PySem.W.keepIn K (.ref C_X1) = true) (rp_X1 : PySem.W.findIn K (.ref C_X1) "__repr__" = some (some (.builtin "BaseException.__repr__"))) (no_X1 : PySem.W.findIn K (.ref C_X1) "found" = some none) (hg_X1 : PySem.W.findIn K (.ref C_X1) "__getattribute__" = some (some (.builtin "BaseException.__getattribute__"))) (hk_X1 : PySem.W.findIn K (.ref C_X1) "__getattr__" = some none) (hd_X1 : PySem.W.hasDictIn K C_X1 = true) (ha_X1 : PySem.W.findIn K (.ref C_X1) "__class__" = some (some (.builtin "object.__class__"))) (hm_X1 : PySem.W.mroIn K C_X1 (.type "object") = some true)
    (kit_int_X1 : PySem.W.subIn K (.ref C_X1) (.type "int") = some false)
    (kit_bool_X1 : PySem.W.subIn K (.ref C_X1) (.type "bool") = some false)
    (kit_str_X1 : PySem.W.subIn K (.ref C_X1) (.type "str") = some false)
    (hn : PySem.W.specialIn K (.builtin "object.__class__") "__get__" = some (some (.builtin "getset_descriptor.__get__"))) (ht : PySem.W.takesIn K (.builtin "object.__class__") = some true)
    : ∃ (fd : FuncData) (cl : Nat → Addr), (∀ (s : Shared) (u : Value), BindsTo s fd ⟨[u], []⟩ [("script", u)]) ∧ ∀ base : Heap, K.In base → base.Ns mainGlobals mg → FnG P w K mg base 5 fa fd 1 ["script"] (spF ⟨K, cl⟩ 1 f_law) := by
  have e := hfa.symm.trans (PySem.W.mg_of X G a_law)
  cases e
  let cl : Nat → Addr := fun n => match n with | 0 => C_X0 | _ => C_X1
  have O_X0 : OexC K C_X0 := ⟨⟨_, _, _, _, _, _, _, _, _, _, _, _, _, _, _, x_X0, r_X0⟩, sa_X0, ex_X0, ty_X0, kc_X0⟩
  have R_X0 : RxC K C_X0 "NoName" := ⟨⟨_, _, x_X0, rfl, rfl⟩, rp_X0, ex_X0⟩
  have E_X0 : L2.ExcC K C_X0 := ⟨hg_X0, hk_X0, ex_X0, hd_X0, ha_X0, hn, ht, hm_X0⟩
  have O_X1 : OexC K C_X1 := ⟨⟨_, _, _, _, _, _, _, _, _, _, _, _, _, _, _, x_X1, r_X1⟩, sa_X1, ex_X1, ty_X1, kc_X1⟩
  have R_X1 : RxC K C_X1 "NoPlace" := ⟨⟨_, _, x_X1, rfl, rfl⟩, rp_X1, ex_X1⟩
  have E_X1 : L2.ExcC K C_X1 := ⟨hg_X1, hk_X1, ex_X1, hd_X1, ha_X1, hn, ht, hm_X1⟩
  have T : Txt K mg cl := {
    x_nm := fun C n e => match C, e with | 0, e => by cases e; exact R_X0 | 1, e => by cases e; exact R_X1 | n + 2, e => by cases e
    x_kit := fun C T b e => by
      unfold exKit at e
      split at e
      · rename_i hc
        cases e
        obtain ⟨h1, h2⟩ := hc
        simp only [List.mem_cons, List.mem_nil_iff, or_false] at h2
        have hC : C = 0 ∨ C = 1 := by omega
        rcases hC with rfl | rfl <;> rcases h2 with rfl | rfl | rfl
        · exact ⟨E_X0, kit_sub (by decide +kernel) kit_int_X0⟩
        · exact ⟨E_X0, kit_sub (by decide +kernel) kit_bool_X0⟩
        · exact ⟨E_X0, kit_sub (by decide +kernel) kit_str_X0⟩
        · exact ⟨E_X1, kit_sub (by decide +kernel) kit_int_X1⟩
        · exact ⟨E_X1, kit_sub (by decide +kernel) kit_bool_X1⟩
        · exact ⟨E_X1, kit_sub (by decide +kernel) kit_str_X1⟩
      · cases e
    n_all := PySem.W.mg_none_of X G z_all
    n_bool := PySem.W.mg_none_of X G z_bool
    n_int := PySem.W.mg_none_of X G z_int
    n_isinstance := PySem.W.mg_none_of X G z_isinstance
    n_len := PySem.W.mg_none_of X G z_len
    n_max := PySem.W.mg_none_of X G z_max
    n_min := PySem.W.mg_none_of X G z_min
    n_ord := PySem.W.mg_none_of X G z_ord
    n_range := PySem.W.mg_none_of X G z_range
    n_repr := PySem.W.mg_none_of X G z_repr
    n_str := PySem.W.mg_none_of X G z_str
    c_MOST_LETTERS := ⟨_, PySem.W.mg_of X G v_MOST_LETTERS⟩
    c_MOST_SIGNS := ⟨_, PySem.W.mg_of X G v_MOST_SIGNS⟩
    c_PERCENT := ⟨_, PySem.W.mg_of X G v_PERCENT⟩
    c_RING := ⟨_, PySem.W.mg_of X G v_RING⟩ }
  have F_is_number := fun_mk (st := s_is_number) l_is_number c_is_number k_is_number
  have b_is_number := F_is_number.binds (ps := ["thing"]) fun _ _ _ _ _ _ us hl => match us, hl with | [_], _ => rfl
  have F_is_name := fun_mk (st := s_is_name) l_is_name c_is_name k_is_name
  have b_is_name := F_is_name.binds (ps := ["thing"]) fun _ _ _ _ _ _ us hl => match us, hl with | [_], _ => rfl
  have F_is_text := fun_mk (st := s_is_text) l_is_text c_is_text k_is_text
  have b_is_text := F_is_text.binds (ps := ["thing"]) fun _ _ _ _ _ _ us hl => match us, hl with | [_], _ => rfl
  have F__law_cell := fun_mk (st := s__law_cell) l__law_cell c__law_cell k__law_cell
  have b__law_cell := F__law_cell.binds (ps := ["script", "k"]) fun _ _ _ _ _ _ us hl => match us, hl with | [_, _], _ => rfl
  have F__law_bag := fun_mk (st := s__law_bag) l__law_bag c__law_bag k__law_bag
  have b__law_bag := F__law_bag.binds (ps := ["cell"]) fun _ _ _ _ _ _ us hl => match us, hl with | [_], _ => rfl
  have F__law_take := fun_mk (st := s__law_take) l__law_take c__law_take k__law_take
  have b__law_take := F__law_take.binds (ps := ["bag", "many"]) fun _ _ _ _ _ _ us hl => match us, hl with | [_, _], _ => rfl
  have F__law_whole := fun_mk (st := s__law_whole) l__law_whole c__law_whole k__law_whole
  have b__law_whole := F__law_whole.binds (ps := ["thing"]) fun _ _ _ _ _ _ us hl => match us, hl with | [_], _ => rfl
  have F__law_is_name := fun_mk (st := s__law_is_name) l__law_is_name c__law_is_name k__law_is_name
  have b__law_is_name := F__law_is_name.binds (ps := ["thing"]) fun _ _ _ _ _ _ us hl => match us, hl with | [_], _ => rfl
  have F__law_is_text := fun_mk (st := s__law_is_text) l__law_is_text c__law_is_text k__law_is_text
  have b__law_is_text := F__law_is_text.binds (ps := ["thing"]) fun _ _ _ _ _ _ us hl => match us, hl with | [_], _ => rfl
  have F__law_is := fun_mk (st := s__law_is) l__law_is c__law_is k__law_is
  have b__law_is := F__law_is.binds (ps := ["found", "due"]) fun _ _ _ _ _ _ us hl => match us, hl with | [_, _], _ => rfl
  have F_is_place := fun_mk (st := s_is_place) l_is_place c_is_place k_is_place
  have b_is_place := F_is_place.binds (ps := ["thing"]) fun _ _ _ _ _ _ us hl => match us, hl with | [_], _ => rfl
  have F_need_number := fun_mk (st := s_need_number) l_need_number c_need_number k_need_number
  have b_need_number := F_need_number.binds (ps := ["thing"]) fun _ _ _ _ _ _ us hl => match us, hl with | [_], _ => rfl
  have F__law_any := fun_mk (st := s__law_any) l__law_any c__law_any k__law_any
  have b__law_any := F__law_any.binds (ps := ["bag"]) fun _ _ _ _ _ _ us hl => match us, hl with | [_], _ => rfl
  have F__law_number := fun_mk (st := s__law_number) l__law_number c__law_number k__law_number
  have b__law_number := F__law_number.binds (ps := ["bag"]) fun _ _ _ _ _ _ us hl => match us, hl with | [_], _ => rfl
  have F__law_spoilt := fun_mk (st := s__law_spoilt) l__law_spoilt c__law_spoilt k__law_spoilt
  have b__law_spoilt := F__law_spoilt.binds (ps := ["bag", "text"]) fun _ _ _ _ _ _ us hl => match us, hl with | [_, _], _ => rfl
  have F_is_whole := fun_mk (st := s_is_whole) l_is_whole c_is_whole k_is_whole
  have b_is_whole := F_is_whole.binds (ps := ["thing", "low", "high"]) fun _ _ _ _ _ _ us hl => match us, hl with | [_, _, _], _ => rfl
  have F__law_text := fun_mk (st := s__law_text) l__law_text c__law_text k__law_text
  have b__law_text := F__law_text.binds (ps := ["bag"]) fun _ _ _ _ _ _ us hl => match us, hl with | [_], _ => rfl
  have F__law_right := fun_mk (st := s__law_right) l__law_right c__law_right k__law_right
  have b__law_right := F__law_right.binds (ps := ["bag"]) fun _ _ _ _ _ _ us hl => match us, hl with | [_], _ => rfl
  have F_law := fun_mk (st := s_law) l_law c_law k_law
  have b_law := F_law.binds (ps := ["script"]) fun _ _ _ _ _ _ us hl => match us, hl with | [_], _ => rfl
  have F_PB := fun_mk (st := sBase) l_PB c_PB k_PB
  have b_PB := F_PB.binds (ps := ["self", "text"]) fun _ _ _ _ _ _ us hl => match us, hl with | [_, _], _ => rfl
  have F_X0 := fun_mk (st := sNoName) l_X0 c_X0 k_X0
  have b_X0 := F_X0.binds (ps := ["self", "found"]) fun _ _ _ _ _ _ us hl => match us, hl with | [_, _], _ => rfl
  have F_X1 := fun_mk (st := sNoPlace) l_X1 c_X1 k_X1
  have b_X1 := F_X1.binds (ps := ["self", "found"]) fun _ _ _ _ _ _ us hl => match us, hl with | [_, _], _ => rfl
  refine ⟨_, cl, fun s u => b_law_at F_law s u, fun base _ _ => ?_⟩
  have G_PB : FnG P w K mg base 1 A_PB _ 2 ["self", "text"] (spV K) := ok_base F_PB (PySem.W.mg_none_of X G z_VE) f_VE
  have H_NoName : HasX P w K mg base cl 0 "NoName" "found" "no name" := { f := A_X0, fd := _, oex := O_X0, ini := i_X0, ti := ti_X0, ps := _, ok := ok_noName F_X0 (PySem.W.mg_of X G a_PB) ⟨g_PB, d_PB, f_PB, k_PB⟩ G_PB b_PB O_X0 no_X0, bd := b_X0, mg := PySem.W.mg_of X G a_X0 }
  have H_NoPlace : HasX P w K mg base cl 1 "NoPlace" "found" "no place" := { f := A_X1, fd := _, oex := O_X1, ini := i_X1, ti := ti_X1, ps := _, ok := ok_noPlace F_X1 (PySem.W.mg_of X G a_PB) ⟨g_PB, d_PB, f_PB, k_PB⟩ G_PB b_PB O_X1 no_X1, bd := b_X1, mg := PySem.W.mg_of X G a_X1 }
  have H_is_number : HasF P w K mg base cl 1 "is_number" 1 ["thing"] f_is_number := { f := A_is_number, fd := _, ok := ok_is_number T  F_is_number, mg := PySem.W.mg_of X G a_is_number, kp := k_is_number, bd := b_is_number }
  have H_is_name : HasF P w K mg base cl 1 "is_name" 1 ["thing"] f_is_name := { f := A_is_name, fd := _, ok := ok_is_name T  F_is_name, mg := PySem.W.mg_of X G a_is_name, kp := k_is_name, bd := b_is_name }
  have H_is_text : HasF P w K mg base cl 1 "is_text" 1 ["thing"] f_is_text := { f := A_is_text, fd := _, ok := ok_is_text T  F_is_text, mg := PySem.W.mg_of X G a_is_text, kp := k_is_text, bd := b_is_text }
  have H__law_cell : HasF P w K mg base cl 1 "_law_cell" 2 ["script", "k"] f__law_cell := { f := A__law_cell, fd := _, ok := ok__law_cell T  F__law_cell, mg := PySem.W.mg_of X G a__law_cell, kp := k__law_cell, bd := b__law_cell }
  have H__law_bag : HasF P w K mg base cl 1 "_law_bag" 1 ["cell"] f__law_bag := { f := A__law_bag, fd := _, ok := ok__law_bag T  F__law_bag, mg := PySem.W.mg_of X G a__law_bag, kp := k__law_bag, bd := b__law_bag }
  have H__law_take : HasF P w K mg base cl 1 "_law_take" 2 ["bag", "many"] f__law_take := { f := A__law_take, fd := _, ok := ok__law_take T  F__law_take, mg := PySem.W.mg_of X G a__law_take, kp := k__law_take, bd := b__law_take }
  have H__law_whole : HasF P w K mg base cl 1 "_law_whole" 1 ["thing"] f__law_whole := { f := A__law_whole, fd := _, ok := ok__law_whole T  F__law_whole, mg := PySem.W.mg_of X G a__law_whole, kp := k__law_whole, bd := b__law_whole }
  have H__law_is_name : HasF P w K mg base cl 1 "_law_is_name" 1 ["thing"] f__law_is_name := { f := A__law_is_name, fd := _, ok := ok__law_is_name T  F__law_is_name, mg := PySem.W.mg_of X G a__law_is_name, kp := k__law_is_name, bd := b__law_is_name }
  have H__law_is_text : HasF P w K mg base cl 1 "_law_is_text" 1 ["thing"] f__law_is_text := { f := A__law_is_text, fd := _, ok := ok__law_is_text T  F__law_is_text, mg := PySem.W.mg_of X G a__law_is_text, kp := k__law_is_text, bd := b__law_is_text }
  have H__law_is : HasF P w K mg base cl 1 "_law_is" 2 ["found", "due"] f__law_is := { f := A__law_is, fd := _, ok := ok__law_is T  F__law_is, mg := PySem.W.mg_of X G a__law_is, kp := k__law_is, bd := b__law_is }
  have H_is_place : HasF P w K mg base cl 2 "is_place" 1 ["thing"] f_is_place := { f := A_is_place, fd := _, ok := ok_is_place T H_is_number F_is_place, mg := PySem.W.mg_of X G a_is_place, kp := k_is_place, bd := b_is_place }
  have H_need_number : HasF P w K mg base cl 2 "need_number" 1 ["thing"] f_need_number := { f := A_need_number, fd := _, ok := ok_need_number T H_is_number F_need_number, mg := PySem.W.mg_of X G a_need_number, kp := k_need_number, bd := b_need_number }
  have H__law_any : HasF P w K mg base cl 2 "_law_any" 1 ["bag"] f__law_any := { f := A__law_any, fd := _, ok := ok__law_any T H__law_take F__law_any, mg := PySem.W.mg_of X G a__law_any, kp := k__law_any, bd := b__law_any }
  have H__law_number : HasF P w K mg base cl 2 "_law_number" 1 ["bag"] f__law_number := { f := A__law_number, fd := _, ok := ok__law_number T H__law_take F__law_number, mg := PySem.W.mg_of X G a__law_number, kp := k__law_number, bd := b__law_number }
  have H__law_spoilt : HasF P w K mg base cl 2 "_law_spoilt" 2 ["bag", "text"] f__law_spoilt := { f := A__law_spoilt, fd := _, ok := ok__law_spoilt T H__law_take F__law_spoilt, mg := PySem.W.mg_of X G a__law_spoilt, kp := k__law_spoilt, bd := b__law_spoilt }
  have H_is_whole : HasF P w K mg base cl 3 "is_whole" 3 ["thing", "low", "high"] f_is_whole := { f := A_is_whole, fd := _, ok := ok_is_whole T H_is_number H_need_number F_is_whole, mg := PySem.W.mg_of X G a_is_whole, kp := k_is_whole, bd := b_is_whole }
  have H__law_text : HasF P w K mg base cl 3 "_law_text" 1 ["bag"] f__law_text := { f := A__law_text, fd := _, ok := ok__law_text T H__law_spoilt H__law_take F__law_text, mg := PySem.W.mg_of X G a__law_text, kp := k__law_text, bd := b__law_text }
  have H__law_right : HasF P w K mg base cl 4 "_law_right" 1 ["bag"] f__law_right := { f := A__law_right, fd := _, ok := ok__law_right T H__law_any H__law_is H__law_is_name H__law_is_text H__law_number H__law_take H__law_text H__law_whole H_is_name H_is_place H_is_text H_is_whole H_NoName H_NoPlace F__law_right, mg := PySem.W.mg_of X G a__law_right, kp := k__law_right, bd := b__law_right }
  exact ok_law T H__law_bag H__law_cell H__law_right F_law
end Law

set_option Elab.async false
set_option linter.all false
open PySem PySem.W PyProof.Rows in
set_option maxRecDepth 100000 in
set_option maxHeartbeats 0 in
theorem PySem.Challenge.cw_peersmeet_k01_kinds_of_any_thing_holds : PySem.Challenge.rw_peersmeet_k01_kinds_of_any_thing.Holds := by
  w_on; o_law; k_head; (case hw => w_witness2)
  k_fill
  refine G.law_end (l := PySem.Challenge.rw_peersmeet_k01_kinds_of_any_thing) (k := 5) (x := "script") (fn := Law.f_law) rfl rfl ⟨rfl, by decide, by decide⟩ (fun w h Y => PySem.W.kIn_of Y) ?F (fun ns hl _ => Law.law_good ns hl)
  case F =>
    intro w mg fa h KX G hmg
    refine' Law.all_mk KX G hmg ?a_is_number ?l_is_number ?c_is_number ?k_is_number ?a_is_name ?l_is_name ?c_is_name ?k_is_name ?a_is_text ?l_is_text ?c_is_text ?k_is_text ?a__law_cell ?l__law_cell ?c__law_cell ?k__law_cell ?a__law_bag ?l__law_bag ?c__law_bag ?k__law_bag ?a__law_take ?l__law_take ?c__law_take ?k__law_take ?a__law_whole ?l__law_whole ?c__law_whole ?k__law_whole ?a__law_is_name ?l__law_is_name ?c__law_is_name ?k__law_is_name ?a__law_is_text ?l__law_is_text ?c__law_is_text ?k__law_is_text ?a__law_is ?l__law_is ?c__law_is ?k__law_is ?a_is_place ?l_is_place ?c_is_place ?k_is_place ?a_need_number ?l_need_number ?c_need_number ?k_need_number ?a__law_any ?l__law_any ?c__law_any ?k__law_any ?a__law_number ?l__law_number ?c__law_number ?k__law_number ?a__law_spoilt ?l__law_spoilt ?c__law_spoilt ?k__law_spoilt ?a_is_whole ?l_is_whole ?c_is_whole ?k_is_whole ?a__law_text ?l__law_text ?c__law_text ?k__law_text ?a__law_right ?l__law_right ?c__law_right ?k__law_right ?a_law ?l_law ?c_law ?k_law ?z_all ?z_bool ?z_int ?z_isinstance ?z_len ?z_max ?z_min ?z_ord ?z_range ?z_repr ?z_str ?v_MOST_LETTERS ?v_MOST_SIGNS ?v_PERCENT ?v_RING ?a_PB ?l_PB ?c_PB ?k_PB ?g_PB ?d_PB ?f_PB ?z_VE ?f_VE ?a_X0 ?x_X0 ?r_X0 ?i_X0 ?ti_X0 ?l_X0 ?c_X0 ?k_X0 ?sa_X0 ?ex_X0 ?ty_X0 ?kc_X0 ?rp_X0 ?no_X0 ?hg_X0 ?hk_X0 ?hd_X0 ?ha_X0 ?hm_X0 ?kit_int_X0 ?kit_bool_X0 ?kit_str_X0 ?a_X1 ?x_X1 ?r_X1 ?i_X1 ?ti_X1 ?l_X1 ?c_X1 ?k_X1 ?sa_X1 ?ex_X1 ?ty_X1 ?kc_X1 ?rp_X1 ?no_X1 ?hg_X1 ?hk_X1 ?hd_X1 ?ha_X1 ?hm_X1 ?kit_int_X1 ?kit_bool_X1 ?kit_str_X1 ?hn ?ht
    (case a_is_number => k_is)
    (case a_is_name => k_is)
    (case a_is_text => k_is)
    (case a__law_cell => k_is)
    (case a__law_bag => k_is)
    (case a__law_take => k_is)
    (case a__law_whole => k_is)
    (case a__law_is_name => k_is)
    (case a__law_is_text => k_is)
    (case a__law_is => k_is)
    (case a_is_place => k_is)
    (case a_need_number => k_is)
    (case a__law_any => k_is)
    (case a__law_number => k_is)
    (case a__law_spoilt => k_is)
    (case a_is_whole => k_is)
    (case a__law_text => k_is)
    (case a__law_right => k_is)
    (case a_law => k_is)
    (case a_PB => k_is)
    (case a_X0 => k_is)
    (case a_X1 => k_is)
    (case f_PB => k_is)
    (case x_X0 => k_is)
    (case i_X0 => k_is)
    (case x_X1 => k_is)
    (case i_X1 => k_is)
    (case l_is_number => k_is)
    (case c_is_number => k_is)
    (case k_is_number => k_is)
    (case l_is_name => k_is)
    (case c_is_name => k_is)
    (case k_is_name => k_is)
    (case l_is_text => k_is)
    (case c_is_text => k_is)
    (case k_is_text => k_is)
    (case l__law_cell => k_is)
    (case c__law_cell => k_is)
    (case k__law_cell => k_is)
    (case l__law_bag => k_is)
    (case c__law_bag => k_is)
    (case k__law_bag => k_is)
    (case l__law_take => k_is)
    (case c__law_take => k_is)
    (case k__law_take => k_is)
    (case l__law_whole => k_is)
    (case c__law_whole => k_is)
    (case k__law_whole => k_is)
    (case l__law_is_name => k_is)
    (case c__law_is_name => k_is)
    (case k__law_is_name => k_is)
    (case l__law_is_text => k_is)
    (case c__law_is_text => k_is)
    (case k__law_is_text => k_is)
    (case l__law_is => k_is)
    (case c__law_is => k_is)
    (case k__law_is => k_is)
    (case l_is_place => k_is)
    (case c_is_place => k_is)
    (case k_is_place => k_is)
    (case l_need_number => k_is)
    (case c_need_number => k_is)
    (case k_need_number => k_is)
    (case l__law_any => k_is)
    (case c__law_any => k_is)
    (case k__law_any => k_is)
    (case l__law_number => k_is)
    (case c__law_number => k_is)
    (case k__law_number => k_is)
    (case l__law_spoilt => k_is)
    (case c__law_spoilt => k_is)
    (case k__law_spoilt => k_is)
    (case l_is_whole => k_is)
    (case c_is_whole => k_is)
    (case k_is_whole => k_is)
    (case l__law_text => k_is)
    (case c__law_text => k_is)
    (case k__law_text => k_is)
    (case l__law_right => k_is)
    (case c__law_right => k_is)
    (case k__law_right => k_is)
    (case l_law => k_is)
    (case c_law => k_is)
    (case k_law => k_is)
    (case z_all => k_is)
    (case z_bool => k_is)
    (case z_int => k_is)
    (case z_isinstance => k_is)
    (case z_len => k_is)
    (case z_max => k_is)
    (case z_min => k_is)
    (case z_ord => k_is)
    (case z_range => k_is)
    (case z_repr => k_is)
    (case z_str => k_is)
    (case v_MOST_LETTERS => k_is)
    (case v_MOST_SIGNS => k_is)
    (case v_PERCENT => k_is)
    (case v_RING => k_is)
    (case l_PB => k_is)
    (case c_PB => k_is)
    (case k_PB => k_is)
    (case g_PB => k_is)
    (case d_PB => k_is)
    (case z_VE => k_is)
    (case f_VE => k_is)
    (case r_X0 => decide +kernel)
    (case ti_X0 => k_is)
    (case l_X0 => k_is)
    (case c_X0 => k_is)
    (case k_X0 => k_is)
    (case sa_X0 => k_is)
    (case ex_X0 => k_is)
    (case ty_X0 => k_is)
    (case kc_X0 => k_is)
    (case rp_X0 => k_is)
    (case no_X0 => k_is)
    (case hg_X0 => k_is)
    (case hk_X0 => k_is)
    (case hd_X0 => k_is)
    (case ha_X0 => k_is)
    (case hm_X0 => k_is)
    (case kit_int_X0 => k_is)
    (case kit_bool_X0 => k_is)
    (case kit_str_X0 => k_is)
    (case r_X1 => decide +kernel)
    (case ti_X1 => k_is)
    (case l_X1 => k_is)
    (case c_X1 => k_is)
    (case k_X1 => k_is)
    (case sa_X1 => k_is)
    (case ex_X1 => k_is)
    (case ty_X1 => k_is)
    (case kc_X1 => k_is)
    (case rp_X1 => k_is)
    (case no_X1 => k_is)
    (case hg_X1 => k_is)
    (case hk_X1 => k_is)
    (case hd_X1 => k_is)
    (case ha_X1 => k_is)
    (case hm_X1 => k_is)
    (case kit_int_X1 => k_is)
    (case kit_bool_X1 => k_is)
    (case kit_str_X1 => k_is)
    (case hn => k_is)
    (case ht => k_is)

