import PyProof.Rows.All
import Wide.All
import OpenK.AllK
import Wide.FinOn
import HandS.ForMost
import HandS.ForExc
import KE.KDictKeyed
import HandS.Walk
import HandS.IsInst
import HandS.TupAny
import HandS.RaiseMore
import HandS.FStr
import HandS.Iter
import HandS.SortKw
import KE.GoesEnumKw
import KE.GoesEnum
import HandS.Dict
import HandS.Conv
import HandS.DictComp
import KE.SortData
import KE.KFmtOwn
import HandS.OwnEq
import KE.KExcSuper
import KE.KSuper
import HandS.ExcInit
import HandS.Nested
import HandS.FStrTup
import HandS.Small
import HandS.TryMany
import HandS.ExcIs
import HandS.ExcField
import KE.KExcIs
import PyProof.ExcBaseAll.ValueError
import HandS.IterVal
import HandS.OwnIter
import HandS.Deep
import PySem.Challenge.RW_rightatlast_k17_guesses_joined
import HandS.Ends
import KE.KxText
set_option Elab.async false
set_option linter.all false
set_option maxRecDepth 100000
set_option maxHeartbeats 4000000
/-! The value layer: what a def computes as a function upon plain data, over the hand layer. -/
namespace VL
open PySem L2

/-! ### plain data -/
inductive D where
  | non | bl (b : Bool) | int (i : Int) | str (x : Str)
  | tup (xs : List D) | lst (xs : List D)
  | scr (xs : List D)                  -- the script: a list that stands outside
  | dct (kvs : List (Key × D))
  | dcn (kvs : List (D × D))           -- a dict whose keys are tuples
  | obj (c : Nat) (fs : List (Str × D))
  | cls (c : Nat)
  | ty (n : String)
  | adr (a : Addr)                     -- an address as it is (a caught exception)
/-- what a slot holds: plain data, or the handle of a cell that may still change -/
inductive SV where
  | d (x : D)
  | own (l : Nat)
/-- a cell: m: it may still change -/
inductive Cell where
  | lst (m : Bool) (xs : List D)
  | dct (m : Bool) (kvs : List (Key × D))
  | dcn (m : Bool) (kvs : List (D × D))
  | obj (c : Nat) (fs : List (Str × SV))
  | dead
abbrev Store := List Cell
abbrev Env := List (Option SV)
/-- an exception: its class, its fields -/
structure Exn where
  c : Nat
  fs : List (Str × D)
inductive R (α : Type) where
  | ok (a : α) (st : Store)
  | exn (e : Exn) (st : Store)
  | stuck
def R.bind {α β : Type} (r : R α) (f : α → Store → R β) : R β := match r with
  | .ok a st => f a st
  | .exn e st => .exn e st
  | .stuck => .stuck
def wpR {α : Type} (r : R α) (k : α → Store → Prop) (x : Exn → Store → Prop) : Prop := match r with
  | .ok a st => k a st
  | .exn e st => x e st
  | .stuck => False
theorem wpR_bind {α β : Type} {r : R α} {f : α → Store → R β} {k x} : wpR (r.bind f) k x ↔ wpR r (fun a st => wpR (f a st) k x) x := by
  cases r <;> exact Iff.rfl
theorem wpR_mono {α : Type} {r : R α} {k k' : α → Store → Prop} {x x' : Exn → Store → Prop} (h : wpR r k x) (hk : ∀ a st, k a st → k' a st) (hx : ∀ e st, x e st → x' e st) : wpR r k' x' := by
  cases r with
  | ok a st => exact hk a st h
  | exn e st => exact hx e st h
  | stuck => exact h

/-! ### what data stands for what value, in the frozen heap F -/
/-- the classes' places; the program and its world (for the hashes of keys) -/
structure Ct where
  at_ : Nat → Addr
  P : Program
  wd : World
instance : CoeFun Ct (fun _ => Nat → Addr) := ⟨Ct.at_⟩
/-- a dict whose keys are tuples, by its own object -/
abbrev Ent := NestedKey × Addr × V
/-- what the object o of such a dict at a holds -/
structure DnRaw (P : Program) (wd : World) (a : Addr) (o : Obj) (es : List Ent) : Prop where
  len : es.length ≤ sizeLine
  sys : (a == sysModules) = false
  nd : (es.map (·.1)).Nodup
  exact_ : o.ExactDict
  vs : ∃ (vs : List (NestedKey × Addr × Value)) (ds : Array DictEntry) (ep : Nat), Paired (fun (p : Ent) q => p.1 = q.1 ∧ p.2.1 = q.2.1 ∧ RelV p.2.2 q.2.2) es vs ∧ o.data = .dict ds ep ∧ ds.toList = vs.map (entryOfKey (nestedKind P wd))
def dnO (ct : Ct) (a : Addr) (q : Obj × List Ent) : HO := .ext fun h => h.get? a = some q.1 ∧ DnRaw ct.P ct.wd a q.1 q.2
-- data as a key
mutual
def toK : D → Option NestedKey
  | .int i => some (.num i)
  | .str x => some (.text x)
  | .tup ds => (toKs ds).map .tup
  | _ => none
def toKs : List D → Option (List NestedKey)
  | [] => some []
  | d :: r => match toK d, toKs r with
    | some k, some ks => some (k :: ks)
    | _, _ => none
end
section
variable (K : PySem.W.Frag) (ct : Ct) (F : Hp)
mutual
def Dn : D → V → Prop
  | .non, v => v = .non
  | .bl b, v => v = .bl b
  | .int i, v => v = .int i
  | .str x, v => v = .str x
  | .tup ds, v => ∃ a vs, v = .ref a ∧ SqT K F a vs ∧ DnL ds vs
  | .lst ds, v => ∃ a vs, v = .ref a ∧ F a = some (.lst vs) ∧ DnL ds vs
  | .scr ds, v => ∃ a vs, v = .ref a ∧ SqL K F a vs ∧ DnL ds vs
  | .dct kvs, v => ∃ a ws, v = .ref a ∧ F a = some (.dK ws) ∧ DnK kvs ws
  | .dcn kvs, v => ∃ a es, v = .ref a ∧ F a = some (dnO ct a es) ∧ DnE kvs es.2
  | .obj c fs, v => ∃ a dx ws, v = .ref a ∧ F a = some (.ins (ct c) dx ws) ∧ DnF fs ws
  | .cls c, v => v = .ref (ct c)
  | .ty n, v => v = .ty n
  | .adr a, v => v = .ref a
def DnL : List D → List V → Prop
  | [], vs => vs = []
  | d :: ds, vs => ∃ v ws, vs = v :: ws ∧ Dn d v ∧ DnL ds ws
def DnK : List (Key × D) → List (Key × V) → Prop
  | [], vs => vs = []
  | (k, d) :: ds, vs => ∃ v ws, vs = (k, v) :: ws ∧ Dn d v ∧ DnK ds ws
def DnE : List (D × D) → List Ent → Prop
  | [], es => es = []
  | (k, d) :: r, es => ∃ kk b v es', es = (kk, b, v) :: es' ∧ toK k = some kk ∧ kk.depth ≤ 8 ∧ Dn k (.ref b) ∧ Dn d v ∧ DnE r es'
def DnF : List (Str × D) → List (Str × V) → Prop
  | [], vs => vs = []
  | (k, d) :: ds, vs => ∃ v ws, vs = (k, v) :: ws ∧ Dn d v ∧ DnF ds ws
end
end

def Fle (F F' : Hp) : Prop := ∀ a o, F a = some o → F' a = some o
theorem Fle.refl (F : Hp) : Fle F F := fun _ _ h => h
theorem Fle.trans {F G I : Hp} (a : Fle F G) (b : Fle G I) : Fle F I := fun x o h => b x o (a x o h)
theorem Fle.new {F : Hp} {p : Addr} {o : HO} (h : F p = none) : Fle F (upd F p o) := fun a u e => by
  rw [upd_ne (ne_of_none e h)]; exact e
theorem Fle.free {F H : Hp} {p : Addr} (s : Fle F H) (h : H p = none) : F p = none := by
  cases e : F p with
  | none => rfl
  | some o => rw [s p o e] at h; cases h
theorem fle_rd {F F' : Hp} {a : Addr} {u : HO} (e : Fle F F') (h : Rd F a u) : Rd F' a u := by
  rcases h with h | ⟨o, h⟩
  · exact Or.inl (e a _ h)
  · exact Or.inr ⟨o, e a _ h⟩
theorem fle_l {K : PySem.W.Frag} {H H' : Hp} {a : Addr} {xs : List V} (e : Fle H H') (h : SqL K H a xs) : SqL K H' a xs := by
  rcases h with h | h
  · exact Or.inl (fle_rd e h)
  · exact Or.inr h
theorem fle_t {K : PySem.W.Frag} {H H' : Hp} {a : Addr} {xs : List V} (e : Fle H H') (h : SqT K H a xs) : SqT K H' a xs := by
  rcases h with h | h
  · exact Or.inl (fle_rd e h)
  · exact Or.inr h

section
variable {K : PySem.W.Frag} {ct : Ct} {F F' : Hp}
mutual
theorem Dn.mono (e : Fle F F') : ∀ (d : D) (v : V), Dn K ct F d v → Dn K ct F' d v
  | .non, v, h => by unfold Dn at h ⊢; exact h
  | .bl b, v, h => by unfold Dn at h ⊢; exact h
  | .int i, v, h => by unfold Dn at h ⊢; exact h
  | .str x, v, h => by unfold Dn at h ⊢; exact h
  | .cls c, v, h => by unfold Dn at h ⊢; exact h
  | .ty c, v, h => by unfold Dn at h ⊢; exact h
  | .adr c, v, h => by unfold Dn at h ⊢; exact h
  | .tup ds, v, h => by
    unfold Dn at h ⊢
    obtain ⟨a, vs, e1, e2, e3⟩ := h
    exact ⟨a, vs, e1, fle_t e e2, DnL.mono e ds vs e3⟩
  | .lst ds, v, h => by
    unfold Dn at h ⊢
    obtain ⟨a, vs, e1, e2, e3⟩ := h
    exact ⟨a, vs, e1, e _ _ e2, DnL.mono e ds vs e3⟩
  | .scr ds, v, h => by
    unfold Dn at h ⊢
    obtain ⟨a, vs, e1, e2, e3⟩ := h
    exact ⟨a, vs, e1, fle_l e e2, DnL.mono e ds vs e3⟩
  | .dct kvs, v, h => by
    unfold Dn at h ⊢
    obtain ⟨a, vs, e1, e2, e3⟩ := h
    exact ⟨a, vs, e1, e _ _ e2, DnK.mono e kvs vs e3⟩
  | .dcn kvs, v, h => by
    unfold Dn at h ⊢
    obtain ⟨a, vs, e1, e2, e3⟩ := h
    exact ⟨a, vs, e1, e _ _ e2, DnE.mono e kvs vs.2 e3⟩
  | .obj c fs, v, h => by
    unfold Dn at h ⊢
    obtain ⟨a, dx, vs, e1, e2, e3⟩ := h
    exact ⟨a, dx, vs, e1, e _ _ e2, DnF.mono e fs vs e3⟩
theorem DnL.mono (e : Fle F F') : ∀ (ds : List D) (vs : List V), DnL K ct F ds vs → DnL K ct F' ds vs
  | [], vs, h => by unfold DnL at h ⊢; exact h
  | d :: ds, vs, h => by
    unfold DnL at h ⊢
    obtain ⟨v, ws, e1, e2, e3⟩ := h
    exact ⟨v, ws, e1, Dn.mono e d v e2, DnL.mono e ds ws e3⟩
theorem DnK.mono (e : Fle F F') : ∀ (ds : List (Key × D)) (vs : List (Key × V)), DnK K ct F ds vs → DnK K ct F' ds vs
  | [], vs, h => by unfold DnK at h ⊢; exact h
  | (k, d) :: ds, vs, h => by
    unfold DnK at h ⊢
    obtain ⟨v, ws, e1, e2, e3⟩ := h
    exact ⟨v, ws, e1, Dn.mono e d v e2, DnK.mono e ds ws e3⟩
theorem DnE.mono (e : Fle F F') : ∀ (ds : List (D × D)) (vs : List Ent), DnE K ct F ds vs → DnE K ct F' ds vs
  | [], vs, h => by unfold DnE at h ⊢; exact h
  | (k, d) :: ds, vs, h => by
    unfold DnE at h ⊢
    obtain ⟨kk, b, v, ws, e1, e2, e3, e4, e5, e6⟩ := h
    exact ⟨kk, b, v, ws, e1, e2, e3, Dn.mono e k _ e4, Dn.mono e d v e5, DnE.mono e ds ws e6⟩
theorem DnF.mono (e : Fle F F') : ∀ (ds : List (Str × D)) (vs : List (Str × V)), DnF K ct F ds vs → DnF K ct F' ds vs
  | [], vs, h => by unfold DnF at h ⊢; exact h
  | (k, d) :: ds, vs, h => by
    unfold DnF at h ⊢
    obtain ⟨v, ws, e1, e2, e3⟩ := h
    exact ⟨v, ws, e1, Dn.mono e d v e2, DnF.mono e ds ws e3⟩
end
end
end VL
set_option Elab.async false
set_option linter.all false
set_option maxRecDepth 100000
set_option maxHeartbeats 4000000
namespace VL
open PySem L2
/-- what is fixed for a law: the written part, the classes' places -/
structure Wd where
  K : PySem.W.Frag
  ct : Ct
  lo : Hp                              -- what is frozen for sure
section
variable (w : Wd)
abbrev Wd.Dn (F : Hp) (d : D) (v : V) : Prop := VL.Dn w.K w.ct F d v
abbrev Wd.DnL (F : Hp) (d : List D) (v : List V) : Prop := VL.DnL w.K w.ct F d v
def SVn (F : Hp) (ρ : List Addr) : SV → V → Prop
  | .d x, v => w.Dn F x v
  | .own l, v => ∃ a, ρ[l]? = some a ∧ v = .ref a
def SVF (F : Hp) (ρ : List Addr) : List (Str × SV) → List (Str × V) → Prop
  | [], vs => vs = []
  | (k, s) :: r, vs => ∃ v ws, vs = (k, v) :: ws ∧ SVn w F ρ s v ∧ SVF F ρ r ws
def CellAt (F : Hp) (ρ : List Addr) (a : Addr) (H : Hp) : Cell → Prop
  | .lst true ds => ∃ vs, H a = some (.lst vs) ∧ F a = none ∧ w.DnL F ds vs
  | .lst false ds => ∃ vs, F a = some (.lst vs) ∧ w.DnL F ds vs
  | .dct true ds => ∃ vs, H a = some (.dK vs) ∧ F a = none ∧ DnK w.K w.ct F ds vs
  | .dct false ds => ∃ vs, F a = some (.dK vs) ∧ DnK w.K w.ct F ds vs
  | .dcn true ds => ∃ es, H a = some (dnO w.ct a es) ∧ F a = none ∧ DnE w.K w.ct F ds es.2
  | .dcn false ds => ∃ es, F a = some (dnO w.ct a es) ∧ DnE w.K w.ct F ds es.2
  | .obj c fs => ∃ dx ws, H a = some (.ins (w.ct c) dx ws) ∧ F a = none ∧ SVF w F ρ fs ws
  | .dead => True
structure Rel (F : Hp) (ρ : List Addr) (st : Store) (H : Hp) : Prop where
  sub : Fle F H
  len : ρ.length = st.length
  there : ∀ a, a ∈ ρ → ∃ o, H a = some o
  cell : ∀ (l : Nat) a c, ρ[l]? = some a → st[l]? = some c → CellAt w F ρ a H c
  nd : ρ.Nodup
  lo : Fle w.lo F
def EnvRel (F : Hp) (ρ : List Addr) (env : Env) (σ : St) : Prop :=
  env.length = σ.length ∧ ∀ (i : Nat) s, env[i]? = some (some s) → ∃ v, σ[i]? = some (some v) ∧ SVn w F ρ s v
def Rle (ρ ρ' : List Addr) : Prop := ∀ (l : Nat) a, ρ[l]? = some a → ρ'[l]? = some a
end
theorem Rle.refl (ρ : List Addr) : Rle ρ ρ := fun _ _ h => h
theorem Rle.trans {ρ ρ' ρ'' : List Addr} (a : Rle ρ ρ') (b : Rle ρ' ρ'') : Rle ρ ρ'' := fun l x h => b l x (a l x h)
theorem Rle.app (ρ t : List Addr) : Rle ρ (ρ ++ t) := fun l a h => by
  rw [List.getElem?_append_left (List.getElem?_eq_some_iff.mp h).1]; exact h
/-- what a step leaves: frozen things stay, handles stay, what is tracked and no cell stays; what comes is new -/
structure Ext (F : Hp) (ρ : List Addr) (H : Hp) (F' : Hp) (ρ' : List Addr) (H' : Hp) : Prop where
  f : Fle F F'
  r : Rle ρ ρ'
  keep : ∀ a o, H a = some o → a ∉ ρ → H' a = some o
  newR : ∀ a, a ∈ ρ' → a ∈ ρ ∨ H a = none
  newF : ∀ a o, F' a = some o → F a = some o ∨ H a = none ∨ a ∈ ρ
theorem Ext.refl (F : Hp) (ρ : List Addr) (H : Hp) : Ext F ρ H F ρ H := ⟨Fle.refl F, Rle.refl ρ, fun _ _ h _ => h, fun _ h => .inl h, fun _ _ h => .inl h⟩
theorem Ext.trans {F F1 F2 H H1 H2 : Hp} {ρ ρ1 ρ2 : List Addr} (x : Ext F ρ H F1 ρ1 H1) (y : Ext F1 ρ1 H1 F2 ρ2 H2) : Ext F ρ H F2 ρ2 H2 := by
  have back : ∀ a, H1 a = none → a ∈ ρ ∨ H a = none := fun a h => by
    cases e : H a with
    | none => exact .inr rfl
    | some o =>
      by_cases q : a ∈ ρ
      · exact .inl q
      · rw [x.keep a o e q] at h; cases h
  refine ⟨x.f.trans y.f, x.r.trans y.r, fun a o h n => y.keep a o (x.keep a o h n) fun m => ?_, fun a h => ?_, fun a o h => ?_⟩
  · rcases x.newR a m with z | z
    · exact n z
    · rw [h] at z; cases z
  · rcases y.newR a h with z | z
    · exact x.newR a z
    · exact back a z
  · rcases y.newF a o h with z | z | z
    · exact x.newF a o z
    · exact .inr ((back a z).symm)
    · rcases x.newR a z with q | q
      · exact .inr (.inr q)
      · exact .inr (.inl q)
section
variable {w : Wd} {F F' : Hp} {ρ ρ' : List Addr}
theorem SVn.mono (e : Fle F F') (r : Rle ρ ρ') {s : SV} {v : V} (h : SVn w F ρ s v) : SVn w F' ρ' s v := by
  cases s with
  | d x => exact Dn.mono e x v h
  | own l => obtain ⟨a, h1, h2⟩ := h; exact ⟨a, r _ _ h1, h2⟩
theorem SVF.mono (e : Fle F F') (r : Rle ρ ρ') : ∀ {fs : List (Str × SV)} {ws : List (Str × V)}, SVF w F ρ fs ws → SVF w F' ρ' fs ws
  | [], _, h => by unfold SVF at h ⊢; exact h
  | (k, s) :: t, _, h => by
    unfold SVF at h ⊢
    obtain ⟨v, ws, e1, e2, e3⟩ := h
    exact ⟨v, ws, e1, e2.mono e r, SVF.mono e r e3⟩
theorem EnvRel.mono (e : Fle F F') (r : Rle ρ ρ') {env : Env} {σ : St} (h : EnvRel w F ρ env σ) : EnvRel w F' ρ' env σ :=
  ⟨h.1, fun i s hi => let ⟨v, a, b⟩ := h.2 i s hi; ⟨v, a, b.mono e r⟩⟩
/-- a new object is laid as frozen -/
theorem Rel.new {st : Store} {H : Hp} {p : Addr} {o : HO} (h : Rel w F ρ st H) (hp : H p = none) : Rel w (upd F p o) ρ st (upd H p o) := by
  have hf : F p = none := h.sub.free hp
  have hle : Fle F (upd F p o) := Fle.new hf
  refine ⟨fun a u e => ?_, h.len, fun a ha => ?_, fun l a c h1 h2 => ?_, h.nd, h.lo.trans hle⟩
  · by_cases q : a = p
    · subst q; rw [upd_same] at e ⊢; exact e
    · rw [upd_ne q] at e ⊢; exact h.sub a u e
  · obtain ⟨u, hu⟩ := h.there a ha
    exact ⟨u, by rw [upd_ne (ne_of_none hu hp)]; exact hu⟩
  · have hc := h.cell l a c h1 h2
    have live : ∀ u, H a = some u → a ≠ p := fun u e z => by subst z; rw [hp] at e; cases e
    cases c with
    | lst m ds =>
      cases m with
      | true => obtain ⟨vs, a1, a2, a3⟩ := hc; exact ⟨vs, by rw [upd_ne (live _ a1)]; exact a1, by rw [upd_ne (live _ a1)]; exact a2, DnL.mono hle _ _ a3⟩
      | false => obtain ⟨vs, a1, a3⟩ := hc; exact ⟨vs, hle _ _ a1, DnL.mono hle _ _ a3⟩
    | dct m ds =>
      cases m with
      | true => obtain ⟨vs, a1, a2, a3⟩ := hc; exact ⟨vs, by rw [upd_ne (live _ a1)]; exact a1, by rw [upd_ne (live _ a1)]; exact a2, DnK.mono hle _ _ a3⟩
      | false => obtain ⟨vs, a1, a3⟩ := hc; exact ⟨vs, hle _ _ a1, DnK.mono hle _ _ a3⟩
    | dcn m ds =>
      cases m with
      | true => obtain ⟨vs, a1, a2, a3⟩ := hc; exact ⟨vs, by rw [upd_ne (live _ a1)]; exact a1, by rw [upd_ne (live _ a1)]; exact a2, DnE.mono hle _ _ a3⟩
      | false => obtain ⟨vs, a1, a3⟩ := hc; exact ⟨vs, hle _ _ a1, DnE.mono hle _ _ a3⟩
    | obj cc fs =>
      obtain ⟨dx, ws, a1, a2, a3⟩ := hc
      exact ⟨dx, ws, by rw [upd_ne (live _ a1)]; exact a1, by rw [upd_ne (live _ a1)]; exact a2, a3.mono hle (Rle.refl _)⟩
    | dead => trivial
end

theorem Ext.new {F : Hp} {ρ : List Addr} {H : Hp} {p : Addr} {o : HO} (s : Fle F H) (hp : H p = none) : Ext F ρ H (upd F p o) ρ (upd H p o) :=
  ⟨Fle.new (s.free hp), Rle.refl ρ, fun a u e _ => by rw [upd_ne (ne_of_none e hp)]; exact e, fun _ h => .inl h, fun a u e => by
    by_cases q : a = p
    · subst q; exact .inr (.inl hp)
    · rw [upd_ne q] at e; exact .inl e⟩
/-! ### readings -/
section
variable (w : Wd)
/-- what is wanted of an exception -/
def ExnAt (F : Hp) (H : Hp) (e : Exn) (cls : Value) (d : Option Addr) : Prop :=
  cls = .ref (w.ct e.c) ∧ ((e.fs = [] ∧ d = none) ∨ ∃ dd ws, d = some dd ∧ F dd = some (.xd ws) ∧ DnF w.K w.ct F e.fs ws)
abbrev MV := Env → Store → R SV
abbrev ML := Env → Store → R (List SV)
abbrev MB := Env → Store → R Bool
/-- what is wanted of a result -/
def okG {α β : Type} (RL : Hp → List Addr → α → β → Prop) (F : Hp) (ρ : List Addr) (H : Hp) (Q : β → Hp → Prop) : α → Store → Prop := fun s st' => ∀ F' ρ' H' v, Ext F ρ H F' ρ' H' → Rel w F' ρ' st' H' → RL F' ρ' s v → Q v H'
def okX (F : Hp) (ρ : List Addr) (H : Hp) (σ : St) (W : WX) : Exn → Store → Prop := fun e st' => ∀ F' ρ' H' cls d, Ext F ρ H F' ρ' H' → Rel w F' ρ' st' H' → ExnAt w F' H' e cls d → W cls d σ H'
def SVL (F : Hp) (ρ : List Addr) : List SV → List V → Prop
  | [], vs => vs = []
  | s :: r, vs => ∃ v ws, vs = v :: ws ∧ SVn w F ρ s v ∧ SVL F ρ r ws
abbrev okE (F : Hp) (ρ : List Addr) (H : Hp) (Q : VK) : SV → Store → Prop := okG w (SVn w) F ρ H Q
def tG {α β : Type} (RL : Hp → List Addr → α → β → Prop) (W : WX) (m : Env → Store → R α) : St → Hp → (β → Hp → Prop) → Prop := fun σ H Q => ∃ F ρ st env, EnvRel w F ρ env σ ∧ Rel w F ρ st H ∧ wpR (m env st) (okG w RL F ρ H Q) (okX w F ρ H σ W)
def SVB : Hp → List Addr → Bool → Bool → Prop := fun _ _ a b => b = a
abbrev tE (W : WX) (m : MV) : TE := tG w (SVn w) W m
abbrev tA (W : WX) (m : ML) : TA := tG w (SVL w) W m
abbrev tT (W : WX) (m : MB) : TT := tG w SVB W m
/-- a statement's end -/
inductive Fl where
  | nx (env : Env) (st : Store)
  | rt (s : SV) (st : Store)
  | bk (env : Env) (st : Store)
  | ct (env : Env) (st : Store)
  | exn (e : Exn) (env : Env) (st : Store)
  | stuck
abbrev MS := Env → Store → Fl
def okS (F : Hp) (ρ : List Addr) (H : Hp) (P : St → Hp → Prop) (env' : Env) (st' : Store) : Prop := ∀ F' ρ' σ' H', Ext F ρ H F' ρ' H' → EnvRel w F' ρ' env' σ' → Rel w F' ρ' st' H' → P σ' H'
def wpF (F : Hp) (ρ : List Addr) (H : Hp) (D : Ends) (W : WX) : Fl → Prop
  | .nx env' st' => okS w F ρ H D.nx env' st'
  | .rt s st' => okE w F ρ H D.rt s st'
  | .bk env' st' => okS w F ρ H D.bk env' st'
  | .ct env' st' => okS w F ρ H D.ct env' st'
  | .exn e env' st' => ∀ F' ρ' σ' H' cls d, Ext F ρ H F' ρ' H' → EnvRel w F' ρ' env' σ' → Rel w F' ρ' st' H' → ExnAt w F' H' e cls d → W cls d σ' H'
  | .stuck => False
def tS (W : WX) (m : MS) : TS := fun D σ H => ∃ F ρ st env, EnvRel w F ρ env σ ∧ Rel w F ρ st H ∧ wpF w F ρ H D W (m env st)
end
section
variable {w : Wd} {F F1 H H1 : Hp} {ρ ρ1 : List Addr}
theorem EnvRel.ext (e : Ext F ρ H F1 ρ1 H1) {env : Env} {σ : St} (h : EnvRel w F ρ env σ) : EnvRel w F1 ρ1 env σ := h.mono e.f e.r
theorem SVn.ext (e : Ext F ρ H F1 ρ1 H1) {s : SV} {v : V} (h : SVn w F ρ s v) : SVn w F1 ρ1 s v := h.mono e.f e.r
theorem okG.up {α β : Type} {RL : Hp → List Addr → α → β → Prop} {Q : β → Hp → Prop} {s : α} {st : Store} (e : Ext F ρ H F1 ρ1 H1) (h : okG w RL F ρ H Q s st) : okG w RL F1 ρ1 H1 Q s st := fun F' ρ' H' v a c d => h F' ρ' H' v (e.trans a) c d
theorem okX.up {W : WX} {σ : St} {s : Exn} {st : Store} (e : Ext F ρ H F1 ρ1 H1) (h : okX w F ρ H σ W s st) : okX w F1 ρ1 H1 σ W s st := fun F' ρ' H' v d a c x => h F' ρ' H' v d (e.trans a) c x
theorem okS.up {P : St → Hp → Prop} {env : Env} {st : Store} (e : Ext F ρ H F1 ρ1 H1) (h : okS w F ρ H P env st) : okS w F1 ρ1 H1 P env st := fun F' ρ' H' v a c d => h F' ρ' H' v (e.trans a) c d
theorem wpF.up {D : Ends} {W : WX} {f : Fl} (e : Ext F ρ H F1 ρ1 H1) (h : wpF w F ρ H D W f) : wpF w F1 ρ1 H1 D W f := by
  cases f with
  | nx a b => exact okS.up e h
  | rt a b => exact okG.up e h
  | bk a b => exact okS.up e h
  | ct a b => exact okS.up e h
  | exn a b c => exact fun F' ρ' σ' H' cls d x => h F' ρ' σ' H' cls d (e.trans x)
  | stuck => exact h
/-- a part is evaluated, then what is wanted of it -/
theorem tG.use {α β : Type} {RL : Hp → List Addr → α → β → Prop} {m : Env → Store → R α} {G : α → Store → Prop} {W : WX} {σ : St} {env : Env} {st : Store} {k : β → Hp → Prop}
    (er : EnvRel w F ρ env σ) (re : Rel w F ρ st H) (h : wpR (m env st) G (okX w F ρ H σ W))
    (hk : ∀ a st1 F1 ρ1 H1 b, Ext F ρ H F1 ρ1 H1 → EnvRel w F1 ρ1 env σ → Rel w F1 ρ1 st1 H1 → RL F1 ρ1 a b → G a st1 → k b H1) : tG w RL W m σ H k :=
  ⟨F, ρ, st, env, er, re, wpR_mono h (fun a st1 h1 F1 ρ1 H1 b e1 e3 e4 => hk a st1 F1 ρ1 H1 b e1 (er.ext e1) e3 e4 h1) (fun _ _ z => z)⟩
/-- carried on -/
theorem wpR.up {α β : Type} {RL : Hp → List Addr → α → β → Prop} {Q : β → Hp → Prop} {r : R α} {W : WX} {σ : St} (e : Ext F ρ H F1 ρ1 H1) (h : wpR r (okG w RL F ρ H Q) (okX w F ρ H σ W)) : wpR r (okG w RL F1 ρ1 H1 Q) (okX w F1 ρ1 H1 σ W) :=
  wpR_mono h (fun _ _ z => z.up e) (fun _ _ z => z.up e)
theorem wpR.upX {α : Type} {G : α → Store → Prop} {r : R α} {W : WX} {σ : St} (e : Ext F ρ H F1 ρ1 H1) (h : wpR r G (okX w F ρ H σ W)) : wpR r G (okX w F1 ρ1 H1 σ W) :=
  wpR_mono h (fun _ _ z => z) (fun _ _ z => z.up e)
end
end VL
set_option Elab.async false
set_option linter.all false
set_option maxRecDepth 100000
set_option maxHeartbeats 4000000
namespace VL
open PySem L2
theorem pe_imp {X : Cx} {e : Expr} {t t' : TE} (h : PE X e t) (hi : ∀ σ H Q, t' σ H Q → t σ H Q) : PE X e t' := ⟨fun pins s σ H Q I q => h.run pins s σ H Q I (hi _ _ _ q)⟩
theorem pt_imp {X : Cx} {e : Expr} {t t' : TT} (h : PT X e t) (hi : ∀ σ H Q, t' σ H Q → t σ H Q) : PT X e t' := ⟨fun pins s σ H Q I q => h.run pins s σ H Q I (hi _ _ _ q)⟩
theorem pw_imp {X : Cx} {e : Expr} {t t' : TT} (h : PW X e t) (hi : ∀ σ H Q, t' σ H Q → t σ H Q) : PW X e t' := ⟨fun wh pins s σ H Q I q => h.run wh pins s σ H Q I (hi _ _ _ q)⟩
theorem pa_imp {X : Cx} {e : List Expr} {t t' : TA} (h : PA X e t) (hi : ∀ σ H Q, t' σ H Q → t σ H Q) : PA X e t' := ⟨fun pos pins s σ H Q I q => h.run pos pins s σ H Q I (hi _ _ _ q)⟩
theorem ps_imp {X : Cx} {e : Stmt} {t t' : TS} (h : PS X e t) (hi : ∀ D σ H, t' D σ H → t D σ H) : PS X e t' := ⟨fun pins s σ H Q I q => h.run pins s σ H Q I (hi _ _ _ q)⟩
theorem pss_imp {X : Cx} {e : List Stmt} {t t' : TS} (h : PSs X e t) (hi : ∀ D σ H, t' D σ H → t D σ H) : PSs X e t' := ⟨fun pins s σ H Q I q => h.run pins s σ H Q I (hi _ _ _ q)⟩
theorem opr_or {X : Cx} {f : Value → Value → Sem Value} {r r' : R2} (a : OpR X f r) (b : OpR X f r') : OpR X f (fun x y H Q => r x y H Q ∨ r' x y H Q) := fun pins s σ H x y v u Q I rx ry h => h.elim (a pins s σ H x y v u Q I rx ry) (b pins s σ H x y v u Q I rx ry)

/-! ### what a handle shows -/
def view (st : Store) : SV → Option D
  | .d x => some x
  | .own l => match st[l]? with
    | some (.lst _ ds) => some (.lst ds)
    | some (.dct _ kvs) => some (.dct kvs)
    | some (.dcn _ kvs) => some (.dcn kvs)
    | _ => none
section
variable (w : Wd)
/-- what data shows where it is read: the outermost list, dict stands in H -/
def Vw (F H : Hp) : D → V → Prop
  | .lst ds, v => ∃ a vs, v = .ref a ∧ H a = some (.lst vs) ∧ w.DnL F ds vs
  | .dct kvs, v => ∃ a ws, v = .ref a ∧ H a = some (.dK ws) ∧ DnK w.K w.ct F kvs ws
  | .dcn kvs, v => ∃ a es, v = .ref a ∧ H a = some (dnO w.ct a es) ∧ DnE w.K w.ct F kvs es.2
  | d, v => w.Dn F d v
end
section
variable {w : Wd} {F H : Hp} {ρ : List Addr} {st : Store}
theorem vw_dn (s : Fle F H) : ∀ {d : D} {v : V}, w.Dn F d v → Vw w F H d v
  | .lst ds, v, h => by unfold Wd.Dn Dn at h; obtain ⟨a, vs, e1, e2, e3⟩ := h; exact ⟨a, vs, e1, s _ _ e2, e3⟩
  | .dct ds, v, h => by unfold Wd.Dn Dn at h; obtain ⟨a, vs, e1, e2, e3⟩ := h; exact ⟨a, vs, e1, s _ _ e2, e3⟩
  | .non, v, h => h
  | .bl _, v, h => h
  | .int _, v, h => h
  | .str _, v, h => h
  | .tup _, v, h => h
  | .scr _, v, h => h
  | .dcn ds, v, h => by unfold Wd.Dn Dn at h; obtain ⟨a, vs, e1, e2, e3⟩ := h; exact ⟨a, vs, e1, s _ _ e2, e3⟩
  | .obj _ _, v, h => h
  | .cls _, v, h => h
  | .ty _, v, h => h
  | .adr _, v, h => h
theorem view_ok {s : SV} {d : D} {v : V} (re : Rel w F ρ st H) (h : SVn w F ρ s v) (hv : view st s = some d) : Vw w F H d v := by
  cases s with
  | d x =>
    have e : x = d := Option.some.inj hv
    subst e
    exact vw_dn re.sub h
  | own l =>
    obtain ⟨a, h1, rfl⟩ := h
    unfold view at hv
    dsimp only at hv
    cases hc : st[l]? with
    | none => rw [hc] at hv; cases hv
    | some c =>
      rw [hc] at hv
      have q := re.cell l a c h1 hc
      cases c with
      | lst m ds =>
        have e : D.lst ds = d := Option.some.inj hv
        subst e
        cases m with
        | true => obtain ⟨vs, a1, _, a3⟩ := q; exact ⟨a, vs, rfl, a1, a3⟩
        | false => obtain ⟨vs, a1, a3⟩ := q; exact ⟨a, vs, rfl, re.sub _ _ a1, a3⟩
      | dct m ds =>
        have e : D.dct ds = d := Option.some.inj hv
        subst e
        cases m with
        | true => obtain ⟨vs, a1, _, a3⟩ := q; exact ⟨a, vs, rfl, a1, a3⟩
        | false => obtain ⟨vs, a1, a3⟩ := q; exact ⟨a, vs, rfl, re.sub _ _ a1, a3⟩
      | dcn m ds =>
        have e : D.dcn ds = d := Option.some.inj hv
        subst e
        cases m with
        | true => obtain ⟨vs, a1, _, a3⟩ := q; exact ⟨a, vs, rfl, a1, a3⟩
        | false => obtain ⟨vs, a1, a3⟩ := q; exact ⟨a, vs, rfl, re.sub _ _ a1, a3⟩
      | obj c fs => cases hv
      | dead => cases hv
end

/-! ### names and constants -/
def mVar (i : Nat) : MV := fun env st => match env[i]? with
  | some (some s) => .ok s st
  | _ => .stuck
def mC (d : D) : MV := fun _ st => .ok (.d d) st
section
variable {w : Wd} {X : Cx} {W : WX} {e a b c : Expr} {pos : Pos} {ma mb mc : MV}
theorem ve_var {i : Nat} (h : PE X e (tVar i)) : PE X e (tE w W (mVar i)) := pe_imp h fun σ H Q ⟨F, ρ, st, env, er, re, q⟩ => by
  unfold mVar at q
  cases hi : env[i]? with
  | none => rw [hi] at q; exact q.elim
  | some o =>
    cases o with
    | none => rw [hi] at q; exact q.elim
    | some s =>
      rw [hi] at q
      obtain ⟨v, hv, hs⟩ := er.2 i s hi
      exact ⟨v, hv, q F ρ H v (Ext.refl F ρ H) re hs⟩
theorem ve_c {d : D} {v : V} (h : PE X e (tC v)) (hd : ∀ F, w.Dn F d v) : PE X e (tE w W (mC d)) := pe_imp h fun σ H Q ⟨F, ρ, st, env, er, re, q⟩ =>
  q F ρ H v (Ext.refl F ρ H) re (hd F)

/-! ### operators of two -/
/-- a new value, nothing else changed -/
def okD (w : Wd) (F : Hp) (ρ : List Addr) (st : Store) (H : Hp) (Q : VK) (d : D) : Prop := ∀ F' H' v, Ext F ρ H F' ρ H' → Rel w F' ρ st H' → w.Dn F' d v → Q v H'
def pure2 (g : D → D → Option D) : SV → SV → Store → R SV := fun x y st => match view st x, view st y with
  | some a, some b => match g a b with
    | some d => .ok (.d d) st
    | none => .stuck
  | _, _ => .stuck
def mBin (g : D → D → Option D) (ma mb : MV) : MV := fun env st => (ma env st).bind fun x st1 => (mb env st1).bind fun y st2 => pure2 g x y st2
/-- an operator's rule upon data -/
def OpD (w : Wd) (X : Cx) (f : Value → Value → Sem Value) (g : D → D → Option D) : Prop :=
  ∃ r : R2, OpR X f r ∧ ∀ F ρ st H x y a b d Q, Rel w F ρ st H → Vw w F H a x → Vw w F H b y → g a b = some d → okD w F ρ st H Q d → r x y H Q
theorem pure2_ok {g : D → D → Option D} {r : R2} (hr : ∀ F ρ st H x y a b d Q, Rel w F ρ st H → Vw w F H a x → Vw w F H b y → g a b = some d → okD w F ρ st H Q d → r x y H Q)
    {F H : Hp} {ρ : List Addr} {st : Store} {σ : St} {s t : SV} {x y : V} {Q : VK} (re : Rel w F ρ st H) (hs : SVn w F ρ s x) (ht : SVn w F ρ t y) (h : wpR (pure2 g s t st) (okE w F ρ H Q) (okX w F ρ H σ W)) : r x y H Q := by
  unfold pure2 at h
  cases h1 : view st s with
  | none => rw [h1] at h; exact h.elim
  | some a =>
    cases h2 : view st t with
    | none => rw [h1, h2] at h; exact h.elim
    | some b =>
      cases h3 : g a b with
      | none => rw [h1, h2] at h; simp only [h3] at h; exact h.elim
      | some d =>
        rw [h1, h2] at h; simp only [h3] at h
        exact hr F ρ st H x y a b d Q re (view_ok re hs h1) (view_ok re ht h2) h3 fun F' H' v a b c => h F' ρ H' v a b c
theorem two_ok {g : D → D → Option D} {r : R2} (hr : ∀ F ρ st H x y a b d Q, Rel w F ρ st H → Vw w F H a x → Vw w F H b y → g a b = some d → okD w F ρ st H Q d → r x y H Q)
    {σ : St} {H : Hp} {Q : VK} (h : tE w W (mBin g ma mb) σ H Q) : tOp r (tE w W ma) (tE w W mb) σ H Q := by
  obtain ⟨F, ρ, st, env, er, re, h⟩ := h
  rw [mBin, wpR_bind] at h
  refine tG.use er re h fun s st1 F1 ρ1 H1 x e1 er1 re1 hs h1 => ?_
  rw [wpR_bind] at h1
  refine tG.use er1 re1 (wpR.upX e1 h1) fun t st2 F2 ρ2 H2 y e3 er2 re2 ht h2 => ?_
  exact pure2_ok hr re2 (hs.ext e3) ht (wpR.up (e1.trans e3) h2)
theorem ve_op {op : Operator} {g : D → D → Option D} (h : OpD w X (binaryOp op) g) (ha : PE X a (tE w W ma)) (hb : PE X b (tE w W mb)) : PE X (.BinOp a op b pos) (tE w W (mBin g ma mb)) := by
  obtain ⟨r, ho, hr⟩ := h
  exact pe_imp (pe_op ho ha hb) fun σ H Q q => two_ok hr q
theorem ve_cmp {op : CmpOp} {g : D → D → Option D} (h : OpD w X (compareOp op) g) (ha : PE X a (tE w W ma)) (hb : PE X b (tE w W mb)) (hm : behindInMarks op b = false) : PE X (.Compare a [op] [b] pos) (tE w W (mBin g ma mb)) := by
  obtain ⟨r, ho, hr⟩ := h
  exact pe_imp (pe_cmpR ho ha hb hm) fun σ H Q q => two_ok hr q
def IxD (w : Wd) (X : Cx) (g : D → D → Option D) : Prop :=
  ∃ r : R2, IxR X r ∧ ∀ F ρ st H x y a b d Q, Rel w F ρ st H → Vw w F H a x → Vw w F H b y → g a b = some d → okD w F ρ st H Q d → r x y H Q
theorem ve_ix {g : D → D → Option D} (h : IxD w X g) (ha : PE X a (tE w W ma)) (hb : PE X b (tE w W mb)) (hp : PlainIx b) : PE X (.Subscript a b pos) (tE w W (mBin g ma mb)) := by
  obtain ⟨r, ho, hr⟩ := h
  exact pe_imp (pe_ix ho ha hb hp) fun σ H Q q => two_ok hr q

/-! ### truth, tests -/
def mTest (m : MV) : MB := fun env st => (m env st).bind fun s st1 => match s with
  | .d (.bl b) => .ok b st1
  | _ => .stuck
theorem test_ok {σ : St} {H : Hp} {Q : Bool → Hp → Prop} (h : tT w W (mTest ma) σ H Q) : tE w W ma σ H fun x H' => ∃ k, x = .bl k ∧ Q k H' := by
  obtain ⟨F, ρ, st, env, er, re, h⟩ := h
  rw [mTest, wpR_bind] at h
  refine tG.use er re h fun s st1 F1 ρ1 H1 x e1 er1 re1 hs h1 => ?_
  cases s with
  | own l => exact h1.elim
  | d x =>
    cases x with
    | bl b =>
      unfold SVn Wd.Dn Dn at hs
      exact ⟨b, hs, h1 F1 ρ1 H1 b e1 re1 rfl⟩
    | _ => exact h1.elim
theorem vt_cmp {op : CmpOp} {g : D → D → Option D} (h : OpD w X (compareOp op) g) (ha : PE X a (tE w W ma)) (hb : PE X b (tE w W mb)) (hm : behindInMarks op b = false) : PT X (.Compare a [op] [b] pos) (tT w W (mTest (mBin g ma mb))) := by
  obtain ⟨r, ho, hr⟩ := h
  refine pt_imp (pt_cmpR ho ha hb hm) fun σ H Q q => ?_
  obtain ⟨F, ρ, st, env, er, re, h⟩ := test_ok q
  exact two_ok hr ⟨F, ρ, st, env, er, re, h⟩
theorem vt_val {e : Expr} {m : MV} (h : PE X e (tE w W m)) (he : ∀ whole, isTrue e X.env whole = (do let v ← whole; standAt e.pos; holding [v] (truthy v)) := by intro _; rfl) : PT X e (tT w W (mTest m)) :=
  pt_imp (pt_val h he) fun σ H Q q => test_ok q
/-- truth of any data -/
def truthD : D → Option Bool
  | .non => some false
  | .bl b => some b
  | .int i => some (i != 0)
  | .str x => if x.length ≤ sizeLine then some ((x.length : Int) != 0) else none
  | .tup xs => some (!xs.isEmpty)
  | .lst xs => some (!xs.isEmpty)
  | .dct xs => some (!xs.isEmpty)
  | _ => none
def mTruth (m : MV) : MB := fun env st => (m env st).bind fun s st1 => match view st1 s with
  | some d => match truthD d with
    | some b => .ok b st1
    | none => .stuck
  | none => .stuck
theorem DnL.length : ∀ {ds : List D} {vs : List V} {F : Hp}, w.DnL F ds vs → vs.length = ds.length
  | [], vs, F, h => by unfold Wd.DnL DnL at h; subst h; rfl
  | d :: ds, vs, F, h => by
    unfold Wd.DnL DnL at h
    obtain ⟨v, ws, rfl, _, h3⟩ := h
    have := DnL.length h3
    simp [this]
theorem DnK.length : ∀ {ds : List (Key × D)} {vs : List (Key × V)} {F : Hp}, DnK w.K w.ct F ds vs → vs.length = ds.length
  | [], vs, F, h => by unfold DnK at h; subst h; rfl
  | (k, d) :: ds, vs, F, h => by
    unfold DnK at h
    obtain ⟨v, ws, rfl, _, h3⟩ := h
    have := DnK.length h3
    simp [this]
theorem isE {α β : Type} {xs : List α} {ys : List β} (h : ys.length = xs.length) : ys.isEmpty = xs.isEmpty := by
  cases xs <;> cases ys <;> simp_all
theorem vt_truth (ha : PE X a (tE w W ma)) (hK : w.K = X.K := by rfl) (he : ∀ whole, isTrue a X.env whole = (do let v ← whole; standAt a.pos; holding [v] (truthy v)) := by intro _; rfl) : PT X a (tT w W (mTruth ma)) := by
  refine pt_imp (pt_truth ha he) fun σ H Q ⟨F, ρ, st, env, er, re, h⟩ => ?_
  rw [mTruth, wpR_bind] at h
  refine tG.use er re h fun s st1 F1 ρ1 H1 x e1 er1 re1 hs h1 => ?_
  cases hv : view st1 s with
  | none => rw [hv] at h1; exact h1.elim
  | some d =>
    rw [hv] at h1
    have hw := view_ok re1 hs hv
    cases ht : truthD d with
    | none => simp only [ht] at h1; exact h1.elim
    | some b =>
      simp only [ht] at h1
      refine ⟨b, ?_, h1 F1 ρ1 H1 b e1 re1 rfl⟩
      cases d with
      | non => unfold Vw Wd.Dn Dn at hw; subst hw; exact (Option.some.inj ht).symm
      | bl c => unfold Vw Wd.Dn Dn at hw; subst hw; exact (Option.some.inj ht).symm
      | int c => unfold Vw Wd.Dn Dn at hw; subst hw; exact (Option.some.inj ht).symm
      | str c =>
        unfold Vw Wd.Dn Dn at hw; subst hw
        simp only [truthD] at ht
        split at ht
        · rename_i hle; exact ⟨hle, (Option.some.inj ht).symm⟩
        · cases ht
      | tup ds =>
        unfold Vw Wd.Dn Dn at hw
        obtain ⟨p, vs, rfl, h1, h2⟩ := hw
        refine .inr (.inl ⟨vs, hK ▸ fle_t re1.sub h1, ?_⟩)
        rw [isE (DnL.length (w := w) h2)]
        exact (Option.some.inj ht).symm
      | lst ds =>
        obtain ⟨p, vs, rfl, h1, h2⟩ := hw
        refine .inl ⟨vs, SqL.of h1, ?_⟩
        rw [isE (DnL.length (w := w) h2)]
        exact (Option.some.inj ht).symm
      | dct ds =>
        obtain ⟨p, vs, rfl, h1, h2⟩ := hw
        refine .inr (.inr ⟨vs, h1, ?_⟩)
        rw [isE (DnK.length (w := w) h2)]
        exact (Option.some.inj ht).symm
      | scr _ => cases ht
      | dcn _ => cases ht
      | obj _ _ => cases ht
      | cls _ => cases ht
      | adr _ => cases ht
      | ty _ => cases ht
def mAnd (a b : MB) : MB := fun env st => (a env st).bind fun c st1 => if c = true then b env st1 else .ok false st1
def mOr (a b : MB) : MB := fun env st => (a env st).bind fun c st1 => if c = true then .ok true st1 else b env st1
def mNot (a : MB) : MB := fun env st => (a env st).bind fun c st1 => .ok (!c) st1
variable {ba bb : MB} {rest : List Expr}
theorem vt_not (ha : PT X a (tT w W ba)) : PT X (.UnaryOp .Not a pos) (tT w W (mNot ba)) := by
  refine pt_imp (pt_not ha) fun σ H Q ⟨F, ρ, st, env, er, re, h⟩ => ?_
  rw [mNot, wpR_bind] at h
  refine tG.use er re h fun c st1 F1 ρ1 H1 x e1 er1 re1 hs h1 => ?_
  cases hs
  exact h1 F1 ρ1 H1 _ e1 re1 rfl
theorem vw_and1 (ha : PT X a (tT w W ba)) : PW X (.BoolOp .And [a] pos) (tT w W ba) := pw_and1 ha
theorem vw_or1 (ha : PT X a (tT w W ba)) : PW X (.BoolOp .Or [a] pos) (tT w W ba) := pw_or1 ha
theorem vw_and (ha : PT X a (tT w W ba)) (hb : PW X (.BoolOp .And (b :: rest) pos) (tT w W bb)) : PW X (.BoolOp .And (a :: b :: rest) pos) (tT w W (mAnd ba bb)) := by
  refine pw_imp (pw_and ha hb) fun σ H Q ⟨F, ρ, st, env, er, re, h⟩ => ?_
  rw [mAnd, wpR_bind] at h
  refine tG.use er re h fun c st1 F1 ρ1 H1 x e1 er1 re1 hs h1 => ?_
  cases hs
  cases c with
  | true => exact ⟨F1, ρ1, st1, env, er1, re1, wpR.up e1 h1⟩
  | false => exact h1 F1 ρ1 H1 _ e1 re1 rfl
theorem vw_or (ha : PT X a (tT w W ba)) (hb : PW X (.BoolOp .Or (b :: rest) pos) (tT w W bb)) : PW X (.BoolOp .Or (a :: b :: rest) pos) (tT w W (mOr ba bb)) := by
  refine pw_imp (pw_or ha hb) fun σ H Q ⟨F, ρ, st, env, er, re, h⟩ => ?_
  rw [mOr, wpR_bind] at h
  refine tG.use er re h fun c st1 F1 ρ1 H1 x e1 er1 re1 hs h1 => ?_
  cases hs
  cases c with
  | false => exact ⟨F1, ρ1, st1, env, er1, re1, wpR.up e1 h1⟩
  | true => exact h1 F1 ρ1 H1 _ e1 re1 rfl
/-- as values: all but the last True or False -/
def mAndV (a b : MV) : MV := fun env st => (a env st).bind fun s st1 => match s with
  | .d (.bl true) => b env st1
  | .d (.bl false) => .ok (.d (.bl false)) st1
  | _ => .stuck
def mOrV (a b : MV) : MV := fun env st => (a env st).bind fun s st1 => match s with
  | .d (.bl false) => b env st1
  | .d (.bl true) => .ok (.d (.bl true)) st1
  | _ => .stuck
def mNotV (a : MV) : MV := fun env st => (a env st).bind fun s st1 => match s with
  | .d (.bl b) => .ok (.d (.bl !b)) st1
  | _ => .stuck
theorem ve_and (ha : PE X a (tE w W ma)) (hb : PE X (.BoolOp .And (b :: rest) pos) (tE w W mb)) : PE X (.BoolOp .And (a :: b :: rest) pos) (tE w W (mAndV ma mb)) := by
  refine pe_imp (pe_and ha hb) fun σ H Q ⟨F, ρ, st, env, er, re, h⟩ => ?_
  rw [mAndV, wpR_bind] at h
  refine tG.use er re h fun s st1 F1 ρ1 H1 x e1 er1 re1 hs h1 => ?_
  cases s with
  | own l => exact h1.elim
  | d d =>
    cases d with
    | bl c =>
      unfold SVn Wd.Dn Dn at hs
      refine ⟨c, hs, ?_⟩
      cases c with
      | true => exact ⟨F1, ρ1, st1, env, er1, re1, wpR.up e1 h1⟩
      | false => exact h1 F1 ρ1 H1 _ e1 re1 (by unfold SVn Wd.Dn Dn; rfl)
    | _ => exact h1.elim
theorem ve_or (ha : PE X a (tE w W ma)) (hb : PE X (.BoolOp .Or (b :: rest) pos) (tE w W mb)) : PE X (.BoolOp .Or (a :: b :: rest) pos) (tE w W (mOrV ma mb)) := by
  refine pe_imp (pe_or ha hb) fun σ H Q ⟨F, ρ, st, env, er, re, h⟩ => ?_
  rw [mOrV, wpR_bind] at h
  refine tG.use er re h fun s st1 F1 ρ1 H1 x e1 er1 re1 hs h1 => ?_
  cases s with
  | own l => exact h1.elim
  | d d =>
    cases d with
    | bl c =>
      unfold SVn Wd.Dn Dn at hs
      refine ⟨c, hs, ?_⟩
      cases c with
      | false => exact ⟨F1, ρ1, st1, env, er1, re1, wpR.up e1 h1⟩
      | true => exact h1 F1 ρ1 H1 _ e1 re1 (by unfold SVn Wd.Dn Dn; rfl)
    | _ => exact h1.elim
theorem ve_not (ha : PE X a (tE w W ma)) : PE X (.UnaryOp .Not a pos) (tE w W (mNotV ma)) := by
  refine pe_imp (pe_not ha) fun σ H Q ⟨F, ρ, st, env, er, re, h⟩ => ?_
  rw [mNotV, wpR_bind] at h
  refine tG.use er re h fun s st1 F1 ρ1 H1 x e1 er1 re1 hs h1 => ?_
  cases s with
  | own l => exact h1.elim
  | d d =>
    cases d with
    | bl c =>
      unfold SVn Wd.Dn Dn at hs
      exact ⟨c, hs, h1 F1 ρ1 H1 _ e1 re1 (by unfold SVn Wd.Dn Dn; rfl)⟩
    | _ => exact h1.elim
def mIf (t : MB) (a b : MV) : MV := fun env st => (t env st).bind fun c st1 => if c = true then a env st1 else b env st1
theorem ve_if (hc : PT X c (tT w W ba)) (ha : PE X a (tE w W ma)) (hb : PE X b (tE w W mb)) : PE X (.IfExp c a b pos) (tE w W (mIf ba ma mb)) := by
  refine pe_imp (pe_ifExp hc ha hb) fun σ H Q ⟨F, ρ, st, env, er, re, h⟩ => ?_
  rw [mIf, wpR_bind] at h
  refine tG.use er re h fun c st1 F1 ρ1 H1 x e1 er1 re1 hs h1 => ?_
  cases hs
  cases c with
  | true => exact ⟨F1, ρ1, st1, env, er1, re1, wpR.up e1 h1⟩
  | false => exact ⟨F1, ρ1, st1, env, er1, re1, wpR.up e1 h1⟩

/-! ### argument lists, displays -/
def mNil : ML := fun _ st => .ok [] st
def mCons (m : MV) (r : ML) : ML := fun env st => (m env st).bind fun s st1 => (r env st1).bind fun t st2 => .ok (s :: t) st2
theorem va_nil : PA X [] (tA w W mNil) := pa_imp pa_nil fun σ H Q ⟨F, ρ, st, env, er, re, h⟩ => h F ρ H [] (Ext.refl F ρ H) re (by unfold SVL; rfl)
theorem va_cons {es : List Expr} {mr : ML} (ha : PE X e (tE w W ma)) (hr : PA X es (tA w W mr)) (hs : starEach (e :: es) X.env = (false, eval e X.env) :: starEach es X.env := by rfl) : PA X (e :: es) (tA w W (mCons ma mr)) := by
  refine pa_imp (pa_cons ha hr hs) fun σ H Q ⟨F, ρ, st, env, er, re, h⟩ => ?_
  rw [mCons, wpR_bind] at h
  refine tG.use er re h fun s st1 F1 ρ1 H1 x e1 er1 re1 hs h1 => ?_
  rw [wpR_bind] at h1
  refine tG.use er1 re1 (wpR.upX e1 h1) fun t st2 F2 ρ2 H2 y e3 er2 re2 ht h2 => ?_
  exact h2 F2 ρ2 H2 _ (e1.trans e3) re2 (by unfold SVL; exact ⟨x, y, rfl, hs.ext e3, ht⟩)
/-- plain data of an argument list -/
def datas : List SV → Option (List D)
  | [] => some []
  | .d x :: r => match datas r with
    | some xs => some (x :: xs)
    | none => none
  | .own _ :: _ => none
theorem datas_ok : ∀ {ss : List SV} {ds : List D} {vs : List V} {F : Hp} {ρ : List Addr}, SVL w F ρ ss vs → datas ss = some ds → w.DnL F ds vs
  | [], ds, vs, F, ρ, h, e => by
    unfold SVL at h
    cases e
    subst h
    unfold Wd.DnL DnL
    rfl
  | .d x :: r, ds, vs, F, ρ, h, e => by
    unfold SVL at h
    obtain ⟨v, ws, rfl, h1, h2⟩ := h
    unfold datas at e
    cases hr : datas r with
    | none => rw [hr] at e; cases e
    | some xs =>
      rw [hr] at e
      cases e
      unfold Wd.DnL DnL
      exact ⟨v, ws, rfl, h1, datas_ok h2 hr⟩
  | .own _ :: _, ds, vs, F, ρ, h, e => by cases e
def mTup (r : ML) : MV := fun env st => (r env st).bind fun ss st1 => match datas ss with
  | some ds => if ds.length ≤ sizeLine then .ok (.d (.tup ds)) st1 else .stuck
  | none => .stuck
def mLst (r : ML) : MV := fun env st => (r env st).bind fun ss st1 => match datas ss with
  | some ds => if ds.length ≤ sizeLine then .ok (.d (.lst ds)) st1 else .stuck
  | none => .stuck
theorem ve_tup {es : List Expr} {mr : ML} {x1} (hr : PA X es (tA w W mr)) : PE X (.Tuple es x1 pos) (tE w W (mTup mr)) := by
  refine pe_imp (pe_tup hr) fun σ H Q ⟨F, ρ, st, env, er, re, h⟩ => ?_
  rw [mTup, wpR_bind] at h
  refine tG.use er re h fun ss st1 F1 ρ1 H1 vs e1 er1 re1 hs h1 => ?_
  cases hd : datas ss with
  | none => rw [hd] at h1; exact h1.elim
  | some ds =>
    rw [hd] at h1
    have hn := datas_ok hs hd
    have hl := DnL.length (w := w) hn
    by_cases hz : ds.length ≤ sizeLine
    · simp only [if_pos hz] at h1
      refine ⟨by rw [hl]; exact hz, fun p hp => ?_⟩
      have hf := re1.sub.free hp
      refine h1 (upd F1 p (.tup vs)) ρ1 _ _ (e1.trans (Ext.new re1.sub hp)) (re1.new hp) ?_
      unfold SVn Wd.Dn Dn
      exact ⟨p, vs, rfl, SqT.of upd_same, DnL.mono (Fle.new hf) _ _ hn⟩
    · simp only [if_neg hz] at h1; exact h1.elim
theorem ve_lst {es : List Expr} {mr : ML} (hr : PA X es (tA w W mr)) : PE X (.List es pos) (tE w W (mLst mr)) := by
  refine pe_imp (pe_lst hr) fun σ H Q ⟨F, ρ, st, env, er, re, h⟩ => ?_
  rw [mLst, wpR_bind] at h
  refine tG.use er re h fun ss st1 F1 ρ1 H1 vs e1 er1 re1 hs h1 => ?_
  cases hd : datas ss with
  | none => rw [hd] at h1; exact h1.elim
  | some ds =>
    rw [hd] at h1
    have hn := datas_ok hs hd
    have hl := DnL.length (w := w) hn
    by_cases hz : ds.length ≤ sizeLine
    · simp only [if_pos hz] at h1
      refine ⟨by rw [hl]; exact hz, fun p hp => ?_⟩
      have hf := re1.sub.free hp
      refine h1 (upd F1 p (.lst vs)) ρ1 _ _ (e1.trans (Ext.new re1.sub hp)) (re1.new hp) ?_
      unfold SVn Wd.Dn Dn
      exact ⟨p, vs, rfl, upd_same, DnL.mono (Fle.new hf) _ _ hn⟩
    · simp only [if_neg hz] at h1; exact h1.elim
end
end VL
set_option Elab.async false
set_option linter.all false
set_option maxRecDepth 100000
set_option maxHeartbeats 4000000
namespace VL
open PySem L2
/-! ### statements -/
def toFl {α : Type} (r : R α) (env : Env) (k : α → Store → Fl) : Fl := match r with
  | .ok a st => k a st
  | .exn e st => .exn e env st
  | .stuck => .stuck
def mNext : MS := fun env st => .nx env st
def mSeq (a b : MS) : MS := fun env st => match a env st with
  | .nx env' st' => b env' st'
  | f => f
def mAsg (i : Nat) (m : MV) : MS := fun env st => toFl (m env st) env fun s st1 => .nx (env.set i (some s)) st1
def mRet (m : MV) : MS := fun env st => toFl (m env st) env fun s st1 => .rt s st1
def mRetN : MS := fun env st => .rt (.d .non) st
def mDrop (m : MV) : MS := fun env st => toFl (m env st) env fun _ st1 => .nx env st1
def mIfS (c : MB) (a b : MS) : MS := fun env st => toFl (c env st) env fun t st1 => if t = true then a env st1 else b env st1
def mBreak : MS := fun env st => .bk env st
def mCont : MS := fun env st => .ct env st
def mStuck : MS := fun _ _ => .stuck
section
variable {w : Wd} {X : Cx} {W : WX} {e c : Expr} {pos : Pos} {m ma mb : MV} {bc : MB} {s1 s2 : MS} {F F1 : Hp} {ρ ρ1 : List Addr} {st : Store} {H : Hp} {σ : St} {env : Env}
/-- a part of a statement is evaluated -/
theorem tG.useF {α β : Type} {RL : Hp → List Addr → α → β → Prop} {m : Env → Store → R α} {k : α → Store → Fl} {D : Ends} {K : β → Hp → Prop}
    (er : EnvRel w F ρ env σ) (re : Rel w F ρ st H) (h : wpF w F ρ H D W (toFl (m env st) env k))
    (hk : ∀ a st1 F1 ρ1 H1 b, Ext F ρ H F1 ρ1 H1 → EnvRel w F1 ρ1 env σ → Rel w F1 ρ1 st1 H1 → RL F1 ρ1 a b → wpF w F1 ρ1 H1 D W (k a st1) → K b H1) : tG w RL W m σ H K := by
  refine ⟨F, ρ, st, env, er, re, ?_⟩
  unfold toFl at h
  cases hm : m env st with
  | ok a st1 =>
    rw [hm] at h
    exact fun F1 ρ1 H1 b e1 e3 e4 => hk a st1 F1 ρ1 H1 b e1 (er.ext e1) e3 e4 (wpF.up e1 h)
  | exn x st1 =>
    rw [hm] at h
    exact fun F1 ρ1 H1 cls d e1 e3 e4 => h F1 ρ1 σ H1 cls d e1 (er.ext e1) e3 e4
  | stuck => rw [hm] at h; exact h
theorem EnvRel.set {i : Nat} {s : SV} {v : V} (er : EnvRel w F ρ env σ) (hs : SVn w F ρ s v) : EnvRel w F ρ (env.set i (some s)) (σ.set i (some v)) := by
  refine ⟨by simp [er.1], fun j t hj => ?_⟩
  by_cases hij : i = j
  · subst hij
    by_cases hl : i < env.length
    · rw [List.getElem?_set_self hl] at hj
      cases hj
      exact ⟨v, List.getElem?_set_self (by rw [← er.1]; exact hl), hs⟩
    · rw [List.getElem?_eq_none (by simpa using hl)] at hj; cases hj
  · rw [List.getElem?_set_ne hij] at hj ⊢
    exact er.2 j t hj
theorem vss_nil : PSs X [] (tS w W mNext) := pss_imp pss_nil fun D σ H ⟨F, ρ, st, env, er, re, h⟩ => h F ρ σ H (Ext.refl F ρ H) er re
theorem vs_pass : PS X (.Pass pos) (tS w W mNext) := ps_imp ps_pass fun D σ H ⟨F, ρ, st, env, er, re, h⟩ => h F ρ σ H (Ext.refl F ρ H) er re
theorem vs_break : PS X (.Break pos) (tS w W mBreak) := ps_imp ps_break fun D σ H ⟨F, ρ, st, env, er, re, h⟩ => h F ρ σ H (Ext.refl F ρ H) er re
theorem vs_cont : PS X (.Continue pos) (tS w W mCont) := ps_imp ps_continue fun D σ H ⟨F, ρ, st, env, er, re, h⟩ => h F ρ σ H (Ext.refl F ρ H) er re
theorem vs_never {s : Stmt} : PS X s (tS w W mStuck) := ps_imp ps_never fun D σ H ⟨F, ρ, st, env, er, re, h⟩ => h
theorem vss_cons {a : Stmt} {r : List Stmt} (ha : PS X a (tS w W s1)) (hr : PSs X r (tS w W s2)) : PSs X (a :: r) (tS w W (mSeq s1 s2)) := by
  refine pss_imp (pss_cons ha hr) fun D σ H ⟨F, ρ, st, env, er, re, h⟩ => ?_
  refine ⟨F, ρ, st, env, er, re, ?_⟩
  unfold mSeq at h
  cases hm : s1 env st with
  | nx env1 st1 => rw [hm] at h; exact fun F1 ρ1 σ1 H1 e1 e3 e4 => ⟨F1, ρ1, st1, env1, e3, e4, wpF.up e1 h⟩
  | rt s st1 => rw [hm] at h; exact h
  | bk env1 st1 => rw [hm] at h; exact h
  | ct env1 st1 => rw [hm] at h; exact h
  | exn x env1 st1 => rw [hm] at h; exact h
  | stuck => rw [hm] at h; exact h
theorem vss_one {a : Stmt} (ha : PS X a (tS w W s1)) : PSs X [a] (tS w W s1) := pss_one ha
theorem vs_set {i : Nat} {x : Str} {pos' : Pos} (nd : X.N.Nodup) (hi : X.N[i]? = some x) (hl : L2.Loc X.env.scope x) (he : PE X e (tE w W m))
    (h1 : swapsWithSole [.Name x pos'] e pos.line X.env = pure false := by rfl) (h2 : swappedStores [.Name x pos'] e X.env = pure none := by rfl) (h3 : (assignEach [.Name x pos'] X.env).map (·.2) = [assign (.Name x pos') X.env] := by rfl)
    (hf : X.fn x = true ∨ X.env.scope.names.lookup x = some .local := by first | exact .inl rfl | exact .inr rfl) : PS X (.Assign [.Name x pos'] e pos) (tS w W (mAsg i m)) := by
  refine ps_imp (ps_asg he (pg_name nd hi hl hf) h1 h2 h3) fun D σ H ⟨F, ρ, st, env, er, re, h⟩ => ?_
  refine tG.useF er re h fun s st1 F1 ρ1 H1 v e1 er1 re1 hs h1 => ?_
  exact h1 F1 ρ1 _ H1 (Ext.refl _ _ _) (er1.set hs) re1
theorem vs_ret (he : PE X e (tE w W m)) : PS X (.Return (some e) pos) (tS w W (mRet m)) := by
  refine ps_imp (ps_ret he) fun D σ H ⟨F, ρ, st, env, er, re, h⟩ => ?_
  refine tG.useF er re h fun s st1 F1 ρ1 H1 v e1 er1 re1 hs h1 => ?_
  exact h1 F1 ρ1 H1 v (Ext.refl _ _ _) re1 hs
theorem vs_retN : PS X (.Return none pos) (tS w W mRetN) := ps_imp ps_retN fun D σ H ⟨F, ρ, st, env, er, re, h⟩ => h F ρ H .non (Ext.refl F ρ H) re (by unfold SVn Wd.Dn Dn; rfl)
theorem vs_expr (he : PE X e (tE w W m)) (hs : swapsWith e none pos.line X.env = pure false := by rfl) : PS X (.Expr e pos) (tS w W (mDrop m)) := by
  refine ps_imp (ps_expr he hs) fun D σ H ⟨F, ρ, st, env, er, re, h⟩ => ?_
  refine tG.useF er re h fun s st1 F1 ρ1 H1 v e1 er1 re1 hs h1 => ?_
  exact h1 F1 ρ1 σ H1 (Ext.refl _ _ _) er1 re1
theorem vs_if {a b : List Stmt} (hc : PT X c (tT w W bc)) (ha : PSs X a (tS w W s1)) (hb : PSs X b (tS w W s2)) : PS X (.If c a b pos) (tS w W (mIfS bc s1 s2)) := by
  refine ps_imp (ps_if hc ha hb) fun D σ H ⟨F, ρ, st, env, er, re, h⟩ => ?_
  refine tG.useF er re h fun s st1 F1 ρ1 H1 v e1 er1 re1 hs h1 => ?_
  cases hs
  cases s with
  | true => rw [if_pos rfl] at h1 ⊢; exact ⟨F1, ρ1, st1, env, er1, re1, h1⟩
  | false => rw [if_neg Bool.false_ne_true] at h1 ⊢; exact ⟨F1, ρ1, st1, env, er1, re1, h1⟩
end

/-! ### loops -/
/-- one turn after the other; what a loop body leaves -/
def loopFl (f : Fl) (go : Env → Store → Fl) : Fl := match f with
  | .nx env st => go env st
  | .ct env st => go env st
  | .bk env st => .nx env st
  | f => f
def whileN (c : MB) (b : MS) : Nat → Env → Store → Fl
  | 0, _, _ => .stuck
  | n + 1, env, st => toFl (c env st) env fun t st1 => if t = true then loopFl (b env st1) (whileN c b n) else .nx env st1
def mWhile (n : Nat) (c : MB) (b : MS) : MS := whileN c b n
section
variable {w : Wd} {X : Cx} {W : WX} {e c : Expr} {pos : Pos} {m ma mb : MV} {bc : MB} {s1 s2 : MS} {F F1 : Hp} {ρ ρ1 : List Addr} {st : Store} {H : Hp} {σ : St} {env : Env}
/-- the word of a loop: the rest of it, from here, leads to what is wanted -/
def RestOk (w : Wd) (F : Hp) (ρ : List Addr) (H0 : Hp) (D : Ends) (W : WX) (go : Env → Store → Fl) : St → Hp → Prop := fun σ H => ∃ F1 ρ1 st1 env1, Ext F ρ H0 F1 ρ1 H ∧ EnvRel w F1 ρ1 env1 σ ∧ Rel w F1 ρ1 st1 H ∧ wpF w F1 ρ1 H D W (go env1 st1)
theorem loop_turn {D : Ends} {f : Fl} {go : Env → Store → Fl} {F0 H0 : Hp} {ρ0 : List Addr} (e0 : Ext F0 ρ0 H0 F ρ H) (h : wpF w F ρ H D W (loopFl f go)) :
    wpF w F ρ H { nx := RestOk w F0 ρ0 H0 D W go, rt := D.rt, bk := D.nx, ct := RestOk w F0 ρ0 H0 D W go } W f := by
  cases f with
  | nx env1 st1 => exact fun F1 ρ1 σ1 H1 e1 e3 e4 => ⟨F1, ρ1, st1, env1, e0.trans e1, e3, e4, wpF.up e1 h⟩
  | ct env1 st1 => exact fun F1 ρ1 σ1 H1 e1 e3 e4 => ⟨F1, ρ1, st1, env1, e0.trans e1, e3, e4, wpF.up e1 h⟩
  | bk env1 st1 => exact h
  | rt s st1 => exact h
  | exn x env1 st1 => exact h
  | stuck => exact h
theorem vs_while {body : List Stmt} {n : Nat} (hp : PassesOwn (model X.prog X.w) X.A X.env X.xe) (hc : PT X c (tT w W bc)) (hb : PSs X body (tS w W s1)) : PS X (.While c body [] pos) (tS w W (mWhile n bc s1)) := by
  refine ps_imp (ps_while hp hc hb) fun D σ H ⟨F, ρ, st, env, er, re, h⟩ => ?_
  refine ⟨fun k σ' H' => RestOk w F ρ H D W (whileN bc s1 k) σ' H', ⟨n, F, ρ, st, env, Ext.refl F ρ H, er, re, h⟩, fun k σ' H' hw => ?_⟩
  obtain ⟨F1, ρ1, st1, env1, e1, er1, re1, h1⟩ := hw
  cases k with
  | zero => exact h1.elim
  | succ k =>
    refine tG.useF er1 re1 h1 fun b st2 F2 ρ2 H2 v e3 er2 re2 hs h2 => ?_
    cases hs
    cases b with
    | true =>
      rw [if_pos rfl] at h2 ⊢
      refine ⟨RestOk w F ρ H D W (whileN bc s1 k), fun σ3 H3 q => ⟨k, Nat.lt_succ_self k, q⟩, F2, ρ2, st2, env1, er2, re2, loop_turn (e1.trans e3) h2⟩
    | false =>
      rw [if_neg Bool.false_ne_true] at h2 ⊢
      exact h2 F2 ρ2 σ' H2 (Ext.refl _ _ _) er2 re2
end
end VL
set_option Elab.async false
set_option linter.all false
set_option maxRecDepth 100000
set_option maxHeartbeats 4000000
namespace VL
open PySem L2
/-! ### targets -/
inductive Tgt where
  | nm (i : Nat)
  | tp (is : List Nat)
  | et (i : Nat) (is : List Nat)
def setAll : List Nat → List D → Env → Env
  | i :: is, d :: ds, env => setAll is ds (env.set i (some (.d d)))
  | _, _, env => env
def bindT : Tgt → D → Env → Option Env
  | .nm i, d, env => some (env.set i (some (.d d)))
  | .tp is, .tup ds, env => if ds.length = is.length then some (setAll is ds env) else none
  | .et i is, .tup [d, .tup ds], env => if ds.length = is.length then some (setAll is ds (env.set i (some (.d d)))) else none
  | _, _, _ => none
def gsN : List Nat → TGs
  | [] => gNil
  | i :: is => gCons (gName i) (gsN is)
def gTgt (K : PySem.W.Frag) : Tgt → TG
  | .nm i => gName i
  | .tp is => gTup K is.length (gsN is)
  | .et i is => gTup K 2 (gCons (gName i) (gCons (gTup K is.length (gsN is)) gNil))
section
variable {w : Wd} {X : Cx} {W : WX} {e c : Expr} {pos : Pos} {m ma mb : MV} {bc : MB} {s1 s2 : MS} {F F1 H : Hp} {ρ ρ1 : List Addr} {st : Store} {σ : St} {env : Env}
theorem gsN_ok : ∀ {is : List Nat} {ds : List D} {vs : List V} {env : Env} {σ : St} {Q : St → Hp → Prop}, ds.length = is.length → w.DnL F ds vs → EnvRel w F ρ env σ → (∀ σ', EnvRel w F ρ (setAll is ds env) σ' → Q σ' H) → gsN is vs σ H Q
  | [], ds, vs, env, σ, Q, hl, hd, er, q => by
    have e : ds = [] := List.eq_nil_of_length_eq_zero hl
    subst e
    unfold Wd.DnL DnL at hd
    exact ⟨hd, q σ er⟩
  | i :: is, [], vs, env, σ, Q, hl, hd, er, q => by simp at hl
  | i :: is, d :: ds, vs, env, σ, Q, hl, hd, er, q => by
    unfold Wd.DnL DnL at hd
    obtain ⟨v, ws, rfl, h1, h2⟩ := hd
    exact ⟨v, ws, rfl, gsN_ok (is := is) (ds := ds) (by simpa using hl) h2 (er.set (s := .d d) h1) q⟩
theorem bindT_et {i : Nat} {is : List Nat} {d : D} {env env' : Env} (h : bindT (.et i is) d env = some env') : ∃ d1 ds, d = .tup [d1, .tup ds] ∧ ds.length = is.length ∧ env' = setAll is ds (env.set i (some (.d d1))) := by
  match d, h with
  | .tup [d1, .tup ds], h =>
    simp only [bindT] at h
    by_cases hl : ds.length = is.length
    · rw [if_pos hl] at h; exact ⟨d1, ds, rfl, hl, (Option.some.inj h).symm⟩
    · rw [if_neg hl] at h; cases h
theorem bindT_ok (s : Fle F H) (er : EnvRel w F ρ env σ) {t : Tgt} {d : D} {v : V} {env' : Env} {Q : St → Hp → Prop} (hd : w.Dn F d v) (hb : bindT t d env = some env') (q : ∀ σ', EnvRel w F ρ env' σ' → Q σ' H) : gTgt w.K t v σ H Q := by
  cases t with
  | nm i =>
    cases hb
    exact q _ (er.set (s := .d d) hd)
  | tp is =>
    cases d with
    | tup ds =>
      unfold bindT at hb
      dsimp only at hb
      by_cases hl : ds.length = is.length
      · rw [if_pos hl] at hb
        cases hb
        unfold Wd.Dn Dn at hd
        obtain ⟨a, vs, rfl, h1, h2⟩ := hd
        exact ⟨a, vs, rfl, fle_t s h1, (DnL.length h2).trans hl, gsN_ok hl h2 er q⟩
      · rw [if_neg hl] at hb; cases hb
    | _ => cases hb
  | et i is =>
    obtain ⟨d1, ds, rfl, hl, rfl⟩ := bindT_et hb
    unfold Wd.Dn Dn at hd
    obtain ⟨a, vs, rfl, h1, h2⟩ := hd
    unfold DnL at h2
    obtain ⟨v1, ws, rfl, h3, h4⟩ := h2
    unfold DnL at h4
    obtain ⟨v2, ws2, rfl, h5, h6⟩ := h4
    unfold DnL at h6
    subst h6
    unfold Dn at h5
    obtain ⟨a2, vs2, rfl, h7, h8⟩ := h5
    refine ⟨a, _, rfl, fle_t s h1, rfl, v1, _, rfl, ?_⟩
    refine ⟨_, _, rfl, ?_⟩
    exact ⟨a2, vs2, rfl, fle_t s h7, (DnL.length h8).trans hl, gsN_ok hl h8 (er.set (s := .d d1) h3) fun σ' h => ⟨rfl, q σ' h⟩⟩

/-! ### what is walked -/
def WalkD (w : Wd) (F1 : Hp) (J : It) (ds : List D) : Prop := ∃ (G : Hp → Prop) (Y : Nat → Hp → V → Hp → Prop), Walk J ds.length G Y ∧ (∀ F2 H, Fle F1 F2 → Fle F2 H → G H) ∧
  ∀ i H x H' F2, i < ds.length → Fle F1 F2 → Fle F2 H → Y i H x H' → ∃ F3 d, (∀ ρ, Ext F2 ρ H F3 ρ H') ∧ (∀ ρ st, Rel w F2 ρ st H → Rel w F3 ρ st H') ∧ ds[i]? = some d ∧ w.Dn F3 d x
abbrev MI := Env → Store → R (List D)
def VI (w : Wd) (X : Cx) (W : WX) (tg iter : Expr) (it : MI) : Prop := ∃ wi, PI X tg iter wi ∧ ∀ (σ : St) (H : Hp) (R : It → Hp → Prop) F ρ st env, EnvRel w F ρ env σ → Rel w F ρ st H →
  wpR (it env st) (fun ds st1 => ∀ F1 ρ1 H1 J, Ext F ρ H F1 ρ1 H1 → Rel w F1 ρ1 st1 H1 → WalkD w F1 J ds → R J H1) (okX w F ρ H σ W) → wi σ H R
theorem DnL.get : ∀ {ds : List D} {vs : List V} {i : Nat} {x : V}, w.DnL F ds vs → vs[i]? = some x → ∃ d, ds[i]? = some d ∧ w.Dn F d x
  | [], vs, i, x, h, e => by unfold Wd.DnL DnL at h; subst h; simp at e
  | d :: ds, vs, i, x, h, e => by
    unfold Wd.DnL DnL at h
    obtain ⟨v, ws, rfl, h1, h2⟩ := h
    cases i with
    | zero => simp at e; subst e; exact ⟨d, rfl, h1⟩
    | succ i => exact DnL.get (ds := ds) (vs := ws) (i := i) (x := x) h2 (by simpa using e)
theorem DnL.get' : ∀ {ds : List D} {vs : List V} {i : Nat} {d : D}, w.DnL F ds vs → ds[i]? = some d → ∃ x, vs[i]? = some x ∧ w.Dn F d x
  | [], vs, i, x, h, e => by simp at e
  | d :: ds, vs, i, x, h, e => by
    unfold Wd.DnL DnL at h
    obtain ⟨v, ws, rfl, h1, h2⟩ := h
    cases i with
    | zero => simp at e; subst e; exact ⟨v, rfl, h1⟩
    | succ i => exact DnL.get' (ds := ds) (vs := ws) (i := i) (d := x) h2 (by simpa using e)
theorem walkD_list {a : Addr} {xs : List V} {ds : List D} (h : SqL w.K F a xs) (hd : w.DnL F ds xs) : WalkD w F (Itl w.K a) ds := by
  refine ⟨fun H => SqL w.K H a xs, YAt xs, by rw [← DnL.length hd]; exact walk_list, fun F2 H a b => fle_l (a.trans b) h, fun i H x H' F2 hi a b y => ?_⟩
  obtain ⟨rfl, hx⟩ := y
  obtain ⟨d, h1, h2⟩ := DnL.get hd hx
  exact ⟨F2, d, fun ρ => Ext.refl _ _ _, fun ρ st r => r, h1, Dn.mono a _ _ h2⟩
theorem walkD_tup {a : Addr} {xs : List V} {ds : List D} (h : SqT w.K F a xs) (hd : w.DnL F ds xs) : WalkD w F (Itt w.K a) ds := by
  refine ⟨fun H => SqT w.K H a xs, YAt xs, by rw [← DnL.length hd]; exact walk_tup, fun F2 H a b => fle_t (a.trans b) h, fun i H x H' F2 hi a b y => ?_⟩
  obtain ⟨rfl, hx⟩ := y
  obtain ⟨d, h1, h2⟩ := DnL.get hd hx
  exact ⟨F2, d, fun ρ => Ext.refl _ _ _, fun ρ st r => r, h1, Dn.mono a _ _ h2⟩
/-- the signs of a text -/
def signs (x : Str) : List D := x.cps.toList.map fun c => .str ⟨#[c]⟩
theorem walkD_str {x : Str} : WalkD w F (Its x) (signs x) := by
  refine ⟨fun H => True, _, by rw [show (signs x).length = x.cps.size by unfold signs; simp]; exact walk_str, fun F2 H a b => trivial, fun i H v H' F2 hi a b y => ?_⟩
  obtain ⟨rfl, c, hc, rfl⟩ := y
  refine ⟨F2, .str ⟨#[c]⟩, fun ρ => Ext.refl _ _ _, fun ρ st r => r, ?_, by unfold Wd.Dn Dn; rfl⟩
  unfold signs
  rw [List.getElem?_map, Array.getElem?_toList, hc]
  rfl
def rangeD (lo : Int) (n : Nat) : List D := (List.range n).map fun i => .int (lo + (i : Nat))
theorem walkD_range {lo : Int} {n : Nat} : WalkD w F (Itr lo n) (rangeD lo n) := by
  refine ⟨fun H => True, _, by rw [show (rangeD lo n).length = n by unfold rangeD; simp]; exact walk_range, fun F2 H a b => trivial, fun i H v H' F2 hi a b y => ?_⟩
  obtain ⟨rfl, rfl⟩ := y
  refine ⟨F2, .int (lo + (i : Nat)), fun ρ => Ext.refl _ _ _, fun ρ st r => r, ?_, by unfold Wd.Dn Dn; rfl⟩
  unfold rangeD at hi ⊢
  rw [List.getElem?_map, List.getElem?_range (by simpa using hi)]
  rfl
def itemsD : D → Option (List D)
  | .lst ds => some ds
  | .scr ds => some ds
  | .tup ds => some ds
  | .str x => some (signs x)
  | _ => none
def mItems (m : MV) : MI := fun env st => (m env st).bind fun s st1 => match s with
  | .d d => match itemsD d with
    | some ds => .ok ds st1
    | none => .stuck
  | .own _ => .stuck
theorem pi_or {X : Cx} {tg iter : Expr} {w1 w2 : TI} (h1 : PI X tg iter w1) (h2 : PI X tg iter w2) : PI X tg iter (fun σ H R => w1 σ H R ∨ w2 σ H R) := ⟨fun pins s σ H R I h => h.elim (h1.run pins s σ H R I) (h2.run pins s σ H R I)⟩
theorem vi_data {tg iter : Expr} (h : PE X iter (tE w W m)) (hK : w.K = X.K := by rfl) : VI w X W tg iter (mItems m) := by
  refine ⟨_, pi_or (pi_list h) (pi_or (pi_tup h) (pi_str h)), fun σ H R F ρ st env er re q => ?_⟩
  rw [← hK]
  unfold mItems at q
  cases hm : m env st with
  | stuck => rw [hm] at q; exact q.elim
  | exn x st1 =>
    rw [hm] at q
    exact .inl ⟨F, ρ, st, env, er, re, by rw [hm]; exact q⟩
  | ok s st1 =>
    rw [hm] at q
    cases s with
    | own l => exact q.elim
    | d d =>
      cases d with
      | lst ds =>
        refine .inl ⟨F, ρ, st, env, er, re, ?_⟩
        rw [hm]
        intro F1 ρ1 H1 v e1 re1 hv
        unfold SVn Wd.Dn Dn at hv
        obtain ⟨a, vs, rfl, h1, h2⟩ := hv
        have hq : SqL w.K F1 a vs := SqL.of h1
        exact ⟨a, rfl, ⟨vs, fle_l re1.sub hq⟩, q F1 ρ1 H1 _ e1 re1 (walkD_list hq h2)⟩
      | scr ds =>
        refine .inl ⟨F, ρ, st, env, er, re, ?_⟩
        rw [hm]
        intro F1 ρ1 H1 v e1 re1 hv
        unfold SVn Wd.Dn Dn at hv
        obtain ⟨a, vs, rfl, hq, h2⟩ := hv
        exact ⟨a, rfl, ⟨vs, fle_l re1.sub hq⟩, q F1 ρ1 H1 _ e1 re1 (walkD_list hq h2)⟩
      | tup ds =>
        refine .inr (.inl ⟨F, ρ, st, env, er, re, ?_⟩)
        rw [hm]
        intro F1 ρ1 H1 v e1 re1 hv
        unfold SVn Wd.Dn Dn at hv
        obtain ⟨a, vs, rfl, hq, h2⟩ := hv
        exact ⟨a, rfl, ⟨vs, fle_t re1.sub hq⟩, q F1 ρ1 H1 _ e1 re1 (walkD_tup hq h2)⟩
      | str x =>
        refine .inr (.inr ⟨F, ρ, st, env, er, re, ?_⟩)
        rw [hm]
        intro F1 ρ1 H1 v e1 re1 hv
        unfold SVn Wd.Dn Dn at hv
        exact ⟨x, hv, q F1 ρ1 H1 _ e1 re1 walkD_str⟩
      | non => exact q.elim
      | bl _ => exact q.elim
      | int _ => exact q.elim
      | dct _ => exact q.elim
      | dcn _ => exact q.elim
      | obj _ _ => exact q.elim
      | cls _ => exact q.elim
      | ty _ => exact q.elim
      | adr _ => exact q.elim
def mRange1 (a : MV) : MI := fun env st => (a env st).bind fun s st1 => match s with
  | .d (.int j) => if -(2 ^ 62) ≤ j ∧ j < 2 ^ 62 then .ok (rangeD 0 j.toNat) st1 else .stuck
  | _ => .stuck
def mRange2 (a b : MV) : MI := fun env st => (a env st).bind fun s st1 => (b env st1).bind fun t st2 => match s, t with
  | .d (.int i), .d (.int j) => if -(2 ^ 62) ≤ i ∧ i < 2 ^ 62 ∧ -(2 ^ 62) ≤ j ∧ j < 2 ^ 62 then .ok (rangeD i (j - i).toNat) st2 else .stuck
  | _, _ => .stuck
theorem vi_range1 {tg a : Expr} {p pos : Pos} (ha : PE X a (tE w W ma)) (hg : Gl X "range") (hm : X.mg "range" = none) (h1 : starEach [a] X.env = [(false, eval a X.env)] := by rfl) : VI w X W tg (.Call (.Name "range" p) [a] [] pos) (mRange1 ma) := by
  refine ⟨_, pi_range1 hg hm (pa_cons ha pa_nil (hs := h1)) h1, fun σ H R F ρ st env er re q => ?_⟩
  rw [mRange1, wpR_bind] at q
  refine tG.use er re q fun s st1 F1 ρ1 H1 x e1 er1 re1 hs h1 => ?_
  show ∃ j : Int, _
  cases s with
  | own l => exact h1.elim
  | d d =>
    cases d with
    | int j =>
      unfold SVn Wd.Dn Dn at hs
      subst hs
      by_cases hj : -(2 ^ 62) ≤ j ∧ j < 2 ^ 62
      · simp only [if_pos hj] at h1
        exact ⟨j, rfl, hj.1, hj.2, h1 F1 ρ1 H1 _ e1 re1 walkD_range⟩
      · simp only [if_neg hj] at h1; exact h1.elim
    | _ => exact h1.elim
theorem vi_range2 {tg a b : Expr} {p pos : Pos} (ha : PE X a (tE w W ma)) (hb : PE X b (tE w W mb)) (hg : Gl X "range") (hm : X.mg "range" = none) (h1 : starEach [a, b] X.env = [(false, eval a X.env), (false, eval b X.env)] := by rfl) (h2 : starEach [b] X.env = [(false, eval b X.env)] := by rfl) : VI w X W tg (.Call (.Name "range" p) [a, b] [] pos) (mRange2 ma mb) := by
  refine ⟨_, pi_range2 hg hm (pa_cons ha (pa_cons hb pa_nil (hs := h2)) (hs := by rw [h1, h2])) h1 h2, fun σ H R F ρ st env er re q => ?_⟩
  rw [mRange2, wpR_bind] at q
  refine tG.use er re q fun s st1 F1 ρ1 H1 x e1 er1 re1 hs h1 => ?_
  rw [wpR_bind] at h1
  refine tG.use er1 re1 (wpR.upX e1 h1) fun t st2 F2 ρ2 H2 y e3 er2 re2 ht h2 => ?_
  show ∃ i j : Int, _
  cases s with
  | own l => exact h2.elim
  | d d =>
    cases d with
    | int i =>
      cases t with
      | own l => exact h2.elim
      | d d =>
        cases d with
        | int j =>
          unfold SVn Wd.Dn Dn at hs ht
          subst hs; subst ht
          by_cases hj : -(2 ^ 62) ≤ i ∧ i < 2 ^ 62 ∧ -(2 ^ 62) ≤ j ∧ j < 2 ^ 62
          · simp only [if_pos hj] at h2
            exact ⟨i, j, rfl, hj, h2 F2 ρ2 H2 _ (e1.trans e3) re2 walkD_range⟩
          · simp only [if_neg hj] at h2; exact h2.elim
        | _ => exact h2.elim
    | _ => exact h2.elim

/-! ### for -/
def forD (t : Tgt) (b : MS) : List D → Env → Store → Fl
  | [], env, st => .nx env st
  | d :: r, env, st => match bindT t d env with
    | some env' => loopFl (b env' st) (forD t b r)
    | none => .stuck
def mFor (it : MI) (t : Tgt) (b : MS) : MS := fun env st => toFl (it env st) env fun ds st1 => forD t b ds env st1
theorem vs_for {tg iter : Expr} {body : List Stmt} {it : MI} {t : Tgt} (hp : PassesOwn (model X.prog X.w) X.A X.env X.xe) (hc : X.calm = true) (hv : VI w X W tg iter it) (hg : PG X tg (gTgt w.K t)) (hb : PSs X body (tS w W s1))
    (hf : ∀ (x : Value), foldedSetIterable iter X.env x = pure x := by intro _; rfl) : PS X (.For tg iter body [] pos) (tS w W (mFor it t s1)) := by
  obtain ⟨wi, hpi, hw⟩ := hv
  refine ps_imp (ps_for hp hc hpi hg hb hf) fun D σ H ⟨F, ρ, st, env, er, re, h⟩ => ?_
  refine hw σ H _ F ρ st env er re ?_
  unfold mFor toFl at h
  cases hm : it env st with
  | stuck => rw [hm] at h; exact h.elim
  | exn x st1 =>
    rw [hm] at h
    exact fun F1 ρ1 H1 cls d e1 e3 e4 => h F1 ρ1 σ H1 cls d e1 (er.ext e1) e3 e4
  | ok ds st1 =>
    rw [hm] at h
    intro F1 ρ1 H1 J e1 re1 ⟨G, Y, wk, hG, hY⟩
    refine for_it wk (fun i σ' H' => RestOk w F1 ρ1 H1 D W (forD t s1 (ds.drop i)) σ' H') ⟨F1, ρ1, st1, env, Ext.refl _ _ _, er.ext e1, re1, wpF.up e1 h⟩ ?_ ?_ ?_
    · rintro i σ' H' hi ⟨F2, ρ2, st2, env2, e2, er2, re2, h2⟩
      exact hG F2 H' e2.f re2.sub
    · rintro i x σ' H' H'' hi ⟨F2, ρ2, st2, env2, e2, er2, re2, h2⟩ hy
      obtain ⟨F3, d, e3, hr, hd, hdn⟩ := hY i H' x H'' F2 hi e2.f re2.sub hy
      have e3' := e3 ρ2
      have dr : ds.drop i = d :: ds.drop (i + 1) := by
        obtain ⟨hlt, he⟩ := List.getElem?_eq_some_iff.mp hd
        rw [List.drop_eq_getElem_cons hlt, he]
      rw [dr] at h2
      unfold forD at h2
      cases hbd : bindT t d env2 with
      | none => simp only [hbd] at h2; exact h2.elim
      | some env3 =>
        simp only [hbd] at h2
        refine bindT_ok (w := w) (ρ := ρ2) (hr ρ2 st2 re2).sub (er2.ext e3') hdn hbd fun σ3 er3 => ?_
        exact ⟨F3, ρ2, st2, env3, er3, hr ρ2 st2 re2, loop_turn (e2.trans e3') (wpF.up e3' h2)⟩
    · rintro σ' H' ⟨F2, ρ2, st2, env2, e2, er2, re2, h2⟩
      rw [List.drop_length] at h2
      exact h2 F2 ρ2 σ' H' (Ext.refl _ _ _) er2 re2
end
end VL
set_option Elab.async false
set_option linter.all false
set_option maxRecDepth 100000
set_option maxHeartbeats 4000000
namespace VL
open PySem L2
/-! ### list comprehensions -/
def Tgt.slots : Tgt → List Nat
  | .nm i => [i]
  | .tp is => is
  | .et i is => i :: is
/-- the same but for the slots vs -/
def SameBut (vs : List Nat) (σ σ' : St) : Prop := σ'.length = σ.length ∧ ∀ j, j ∉ vs → σ'[j]? = σ[j]?
theorem SameBut.refl (vs : List Nat) (σ : St) : SameBut vs σ σ := ⟨rfl, fun _ _ => rfl⟩
theorem SameBut.set {vs : List Nat} {σ σ' : St} {i : Nat} {o : Option V} (h : SameBut vs σ σ') (hi : i ∈ vs) : SameBut vs σ (σ'.set i o) := by
  refine ⟨by simp [h.1], fun j hj => ?_⟩
  have ne : i ≠ j := fun e => by subst e; exact hj hi
  show (List.set σ' i o)[j]? = σ[j]?
  rw [List.getElem?_set_ne ne]
  exact h.2 j hj
theorem wipe_len {vs : List Nat} {σ : St} : (wipe σ vs).length = σ.length := L2.wipe_length σ vs
theorem wipe_get : ∀ {vs : List Nat} {σ : St} (j : Nat), (wipe σ vs)[j]? = if j ∈ vs ∧ j < σ.length then some none else σ[j]?
  | [], σ, j => by simp [wipe]
  | v :: r, σ, j => by
    show ((wipe σ r).set v none)[j]? = _
    have hlen : (wipe σ r).length = σ.length := wipe_len
    by_cases hv : v = j
    · subst hv
      by_cases hl : v < σ.length
      · rw [List.getElem?_set_self (by rw [hlen]; exact hl)]; simp [hl]
      · rw [List.getElem?_eq_none (by simp [hlen]; omega)]
        simp [hl]
    · rw [List.getElem?_set_ne hv, wipe_get (vs := r) j]
      simp [Ne.symm hv]
theorem wipe_same {vs : List Nat} {σ σ' : St} (h : SameBut vs σ σ') : wipe σ' vs = wipe σ vs := by
  apply List.ext_getElem?
  intro j
  rw [wipe_get, wipe_get, h.1]
  by_cases hj : j ∈ vs
  · by_cases hl : j < σ.length
    · simp [hj, hl]
    · simp [hj, hl]
      have h1 : σ'.length = σ.length := h.1
      omega
  · simp [hj, h.2 j hj]
theorem wipe_wipe {vs : List Nat} {σ : St} : wipe (wipe σ vs) vs = wipe σ vs := wipe_same ⟨wipe_len, fun j hj => by rw [wipe_get]; simp [hj]⟩
def wipeE : Env → List Nat → Env
  | env, [] => env
  | env, v :: r => (wipeE env r).set v none
section
variable {w : Wd} {X : Cx} {W : WX} {e c : Expr} {pos : Pos} {m ma mb : MV} {bc : MB} {s1 s2 : MS} {F F1 H : Hp} {ρ ρ1 : List Addr} {st : Store} {σ : St} {env : Env}
theorem EnvRel.unset {i : Nat} (er : EnvRel w F ρ env σ) : EnvRel w F ρ (env.set i none) (σ.set i none) := by
  refine ⟨by simp [er.1], fun j t hj => ?_⟩
  by_cases hij : i = j
  · subst hij
    by_cases hl : i < env.length
    · rw [List.getElem?_set_self hl] at hj; cases hj
    · rw [List.getElem?_eq_none (by simpa using hl)] at hj; cases hj
  · rw [List.getElem?_set_ne hij] at hj ⊢
    exact er.2 j t hj
theorem EnvRel.wipe : ∀ {vs : List Nat} {env : Env} {σ : St}, EnvRel w F ρ env σ → EnvRel w F ρ (wipeE env vs) (wipe σ vs)
  | [], env, σ, h => h
  | v :: r, env, σ, h => (EnvRel.wipe (vs := r) h).unset
theorem gsN_ok2 {vs' : List Nat} {σ0 : St} : ∀ {is : List Nat} {ds : List D} {vs : List V} {env : Env} {σ : St} {Q : St → Hp → Prop}, ds.length = is.length → w.DnL F ds vs → EnvRel w F ρ env σ → SameBut vs' σ0 σ → (∀ i ∈ is, i ∈ vs') →
    (∀ σ', EnvRel w F ρ (setAll is ds env) σ' → SameBut vs' σ0 σ' → Q σ' H) → gsN is vs σ H Q
  | [], ds, vs, env, σ, Q, hl, hd, er, sb, hin, q => by
    have e : ds = [] := List.eq_nil_of_length_eq_zero hl
    subst e
    unfold Wd.DnL DnL at hd
    exact ⟨hd, q σ er sb⟩
  | i :: is, [], vs, env, σ, Q, hl, hd, er, sb, hin, q => by simp at hl
  | i :: is, d :: ds, vs, env, σ, Q, hl, hd, er, sb, hin, q => by
    unfold Wd.DnL DnL at hd
    obtain ⟨v, ws, rfl, h1, h2⟩ := hd
    exact ⟨v, ws, rfl, gsN_ok2 (is := is) (ds := ds) (by simpa using hl) h2 (er.set (s := .d d) h1) (sb.set (hin i (by simp))) (fun j hj => hin j (by simp [hj])) q⟩
theorem bindT_ok2 (s : Fle F H) (er : EnvRel w F ρ env σ) {t : Tgt} {d : D} {v : V} {env' : Env} {vs' : List Nat} {Q : St → Hp → Prop} (hin : ∀ i ∈ t.slots, i ∈ vs') (hd : w.Dn F d v) (hb : bindT t d env = some env')
    (q : ∀ σ', EnvRel w F ρ env' σ' → SameBut vs' σ σ' → Q σ' H) : gTgt w.K t v σ H Q := by
  cases t with
  | nm i =>
    cases hb
    exact q _ (er.set (s := .d d) hd) ((SameBut.refl _ _).set (hin i (by simp [Tgt.slots])))
  | tp is =>
    cases d with
    | tup ds =>
      unfold bindT at hb
      dsimp only at hb
      by_cases hl : ds.length = is.length
      · rw [if_pos hl] at hb
        cases hb
        unfold Wd.Dn Dn at hd
        obtain ⟨a, vs, rfl, h1, h2⟩ := hd
        exact ⟨a, vs, rfl, fle_t s h1, (DnL.length h2).trans hl, gsN_ok2 hl h2 er (SameBut.refl _ _) hin q⟩
      · rw [if_neg hl] at hb; cases hb
    | _ => cases hb
  | et i is =>
    obtain ⟨d1, ds, rfl, hl, rfl⟩ := bindT_et hb
    unfold Wd.Dn Dn at hd
    obtain ⟨a, vs, rfl, h1, h2⟩ := hd
    unfold DnL at h2
    obtain ⟨v1, ws, rfl, h3, h4⟩ := h2
    unfold DnL at h4
    obtain ⟨v2, ws2, rfl, h5, h6⟩ := h4
    unfold DnL at h6
    subst h6
    unfold Dn at h5
    obtain ⟨a2, vs2, rfl, h7, h8⟩ := h5
    refine ⟨a, _, rfl, fle_t s h1, rfl, v1, _, rfl, ?_⟩
    refine ⟨_, _, rfl, ?_⟩
    exact ⟨a2, vs2, rfl, fle_t s h7, (DnL.length h8).trans hl, gsN_ok2 hl h8 (er.set (s := .d d1) h3) ((SameBut.refl _ _).set (hin i (by simp [Tgt.slots]))) (fun j hj => hin j (by simp [Tgt.slots, hj])) fun σ' h sb => ⟨rfl, q σ' h sb⟩⟩

/-- an object that is no cell and not frozen is written -/
theorem Rel.side {p : Addr} {o : HO} (h : Rel w F ρ st H) (hf : F p = none) (hr : p ∉ ρ) : Rel w F ρ st (upd H p o) := by
  refine ⟨fun a u e => ?_, h.len, fun a ha => ?_, fun l a c h1 h2 => ?_, h.nd, h.lo⟩
  · rw [upd_ne (fun z => by rw [z, hf] at e; cases e)]; exact h.sub a u e
  · obtain ⟨u, hu⟩ := h.there a ha
    have ne : a ≠ p := fun z => by subst z; exact hr ha
    exact ⟨u, by rw [upd_ne ne]; exact hu⟩
  · have hc := h.cell l a c h1 h2
    have ne : a ≠ p := fun z => hr (z ▸ List.mem_of_getElem? h1)
    cases c with
    | lst m ds =>
      cases m with
      | true => obtain ⟨vs, a1, a2, a3⟩ := hc; exact ⟨vs, by rw [upd_ne ne]; exact a1, a2, a3⟩
      | false => exact hc
    | dct m ds =>
      cases m with
      | true => obtain ⟨vs, a1, a2, a3⟩ := hc; exact ⟨vs, by rw [upd_ne ne]; exact a1, a2, a3⟩
      | false => exact hc
    | dcn m ds =>
      cases m with
      | true => obtain ⟨vs, a1, a2, a3⟩ := hc; exact ⟨vs, by rw [upd_ne ne]; exact a1, a2, a3⟩
      | false => exact hc
    | obj cc fs => obtain ⟨dx, ws, a1, a2, a3⟩ := hc; exact ⟨dx, ws, by rw [upd_ne ne]; exact a1, a2, a3⟩
    | dead => trivial
/-- .. and frozen as it stands -/
theorem Rel.froze {p : Addr} {o : HO} (h : Rel w F ρ st H) (hp : H p = some o) (hf : F p = none) (hr : p ∉ ρ) : Rel w (upd F p o) ρ st H := by
  have hle : Fle F (upd F p o) := Fle.new hf
  refine ⟨fun a u e => ?_, h.len, h.there, fun l a c h1 h2 => ?_, h.nd, h.lo.trans hle⟩
  · by_cases q : a = p
    · subst q; rw [upd_same] at e; rw [hp]; exact e
    · rw [upd_ne q] at e; exact h.sub a u e
  · have hc := h.cell l a c h1 h2
    have ne : a ≠ p := fun z => hr (z ▸ List.mem_of_getElem? h1)
    cases c with
    | lst m ds =>
      cases m with
      | true => obtain ⟨vs, a1, a2, a3⟩ := hc; exact ⟨vs, a1, by rw [upd_ne ne]; exact a2, DnL.mono hle _ _ a3⟩
      | false => obtain ⟨vs, a1, a3⟩ := hc; exact ⟨vs, hle _ _ a1, DnL.mono hle _ _ a3⟩
    | dct m ds =>
      cases m with
      | true => obtain ⟨vs, a1, a2, a3⟩ := hc; exact ⟨vs, a1, by rw [upd_ne ne]; exact a2, DnK.mono hle _ _ a3⟩
      | false => obtain ⟨vs, a1, a3⟩ := hc; exact ⟨vs, hle _ _ a1, DnK.mono hle _ _ a3⟩
    | dcn m ds =>
      cases m with
      | true => obtain ⟨vs, a1, a2, a3⟩ := hc; exact ⟨vs, a1, by rw [upd_ne ne]; exact a2, DnE.mono hle _ _ a3⟩
      | false => obtain ⟨vs, a1, a3⟩ := hc; exact ⟨vs, hle _ _ a1, DnE.mono hle _ _ a3⟩
    | obj cc fs => obtain ⟨dx, ws, a1, a2, a3⟩ := hc; exact ⟨dx, ws, a1, by rw [upd_ne ne]; exact a2, a3.mono hle (Rle.refl _)⟩
    | dead => trivial
/-- what happens beside leaves a side object -/
theorem Ext.side {F F1 H H1 : Hp} {ρ ρ1 : List Addr} {p : Addr} {o : HO} (x : Ext F ρ H F1 ρ1 H1) (hp : H p = some o) (hf : F p = none) (hr : p ∉ ρ) : H1 p = some o ∧ F1 p = none ∧ p ∉ ρ1 := by
  refine ⟨x.keep p o hp hr, ?_, fun m => ?_⟩
  · cases e : F1 p with
    | none => rfl
    | some u =>
      rcases x.newF p u e with z | z | z
      · rw [hf] at z; cases z
      · rw [hp] at z; cases z
      · exact absurd z hr
  · rcases x.newR p m with z | z
    · exact hr z
    · rw [hp] at z; cases z
theorem Ext.wr {F F1 H H1 : Hp} {ρ ρ1 : List Addr} {p : Addr} {o : HO} (x : Ext F ρ H F1 ρ1 H1) (hp : H p = none) : Ext F ρ H F1 ρ1 (upd H1 p o) :=
  ⟨x.f, x.r, fun a u e n => by rw [upd_ne (ne_of_none e hp)]; exact x.keep a u e n, x.newR, x.newF⟩
theorem Ext.fr {F F1 H H1 : Hp} {ρ ρ1 : List Addr} {p : Addr} {o : HO} (x : Ext F ρ H F1 ρ1 H1) (hp : H p = none) (hf : F1 p = none) : Ext F ρ H (upd F1 p o) ρ1 H1 :=
  ⟨x.f.trans (Fle.new hf), x.r, x.keep, x.newR, fun a u e => by
    by_cases q : a = p
    · subst q; exact .inr (.inl hp)
    · rw [upd_ne q] at e; exact x.newF a u e⟩
theorem DnL.snoc : ∀ {ds : List D} {vs : List V} {d : D} {v : V}, w.DnL F ds vs → w.Dn F d v → w.DnL F (ds ++ [d]) (vs ++ [v])
  | [], vs, d, v, h, hd => by
    unfold Wd.DnL DnL at h
    subst h
    show DnL _ _ F [d] [v]
    unfold DnL
    exact ⟨v, [], rfl, hd, by unfold DnL; rfl⟩
  | x :: ds, vs, d, v, h, hd => by
    unfold Wd.DnL DnL at h
    obtain ⟨y, ws, rfl, h1, h2⟩ := h
    show DnL _ _ F (x :: (ds ++ [d])) (y :: (ws ++ [v]))
    unfold DnL
    exact ⟨y, _, rfl, h1, DnL.snoc (ds := ds) h2 hd⟩

/-- no exception: within a comprehension none may leave -/
def noX {α : Type} : R α → R α
  | .exn _ _ => .stuck
  | r => r
theorem noX_ok {α : Type} {r : R α} {k : α → Store → Prop} {x x' : Exn → Store → Prop} (h : wpR (noX r) k x) : wpR r k x' := by
  cases r with
  | ok a st => exact h
  | exn e st => exact h.elim
  | stuck => exact h.elim
abbrev W0 : WX := fun _ _ _ _ => False
def mYes : MB := fun _ st => .ok true st
def lcD (t : Tgt) (cond : MB) (elt : MV) : List D → Env → Store → R (List D)
  | [], _, st => .ok [] st
  | d :: r, env, st => match bindT t d env with
    | none => .stuck
    | some env' => (noX (cond env' st)).bind fun b st1 =>
      if b = true then (noX (elt env' st1)).bind fun s st2 => match s with
        | .d x => (lcD t cond elt r env st2).bind fun xs st3 => .ok (x :: xs) st3
        | .own _ => .stuck
      else lcD t cond elt r env st1
def mLc (it : MI) (t : Tgt) (vs : List Nat) (cond : MB) (elt : MV) : MV := fun env st => (it env st).bind fun ds st1 =>
  if ds.length ≤ sizeLine then (lcD t cond elt ds (wipeE env vs) st1).bind fun xs st2 => .ok (.d (.lst xs)) st2 else .stuck
theorem vpts_nil : PTs X [] (tT w W mYes) := ⟨fun pins s σ H Q I ⟨F, ρ, st, env, er, re, h⟩ => (pts_nil (X := X)).run pins s σ H Q I (h F ρ H true (Ext.refl _ _ _) re rfl)⟩
theorem lc_read {wi : TI} {it : MI} {t : Tgt} {vs : List Nat} {cond : MB} {elt : MV} {Q : VK} (hvs : ∀ i ∈ t.slots, i ∈ vs)
    (hw : ∀ (σ : St) (H : Hp) (R : It → Hp → Prop) F ρ st env, EnvRel w F ρ env σ → Rel w F ρ st H → wpR (it env st) (fun ds st1 => ∀ F1 ρ1 H1 J, Ext F ρ H F1 ρ1 H1 → Rel w F1 ρ1 st1 H1 → WalkD w F1 J ds → R J H1) (okX w F ρ H σ W) → wi σ H R)
    (h : tE w W (mLc it t vs cond elt) σ H Q) : tLc wi (gTgt w.K t) (tT w W0 cond) (tE w W0 elt) vs σ H Q := by
  obtain ⟨F, ρ, st, env, er, re, h⟩ := h
  rw [mLc, wpR_bind] at h
  refine hw σ H _ F ρ st env er re (wpR_mono h (fun ds st1 h1 => ?_) (fun _ _ z => z))
  intro F1 ρ1 H1 J e1 re1 ⟨G, Y, wk, hG, hY⟩ Da hDa
  have hz : ds.length ≤ sizeLine := by
    by_cases hz : ds.length ≤ sizeLine
    · exact hz
    · simp only [if_neg hz] at h1; exact h1.elim
  simp only [if_pos hz] at h1
  rw [wpR_bind] at h1
  have hFD : F1 Da = none := re1.sub.free hDa
  have hRD : Da ∉ ρ1 := fun m => by obtain ⟨o, ho⟩ := re1.there _ m; rw [hDa] at ho; cases ho
  -- the new list's place is no cell's
  refine lc_it wk (fun i H' => ∃ F2 ρ2 st2 acc ws, Ext F1 ρ1 H1 F2 ρ2 H' ∧ Rel w F2 ρ2 st2 H' ∧ H' Da = some (.lst ws) ∧ F2 Da = none ∧ (Da ∉ ρ2) ∧ w.DnL F2 acc ws ∧ acc.length ≤ i ∧
      wpR (lcD t cond elt (ds.drop i) (wipeE env vs) st2) (fun xs st3 => okE w F ρ H Q (.d (.lst (acc ++ xs))) st3) (okX w F ρ H σ W)) ?_ ?_ ?_ ?_
  · refine ⟨F1, ρ1, st1, [], [], (Ext.refl F1 ρ1 H1).wr hDa, re1.side hFD hRD, upd_same, hFD, hRD, by unfold Wd.DnL DnL; rfl, Nat.le_refl _, ?_⟩
    exact h1
  · rintro i H' hi ⟨F2, ρ2, st2, acc, ws, e2, re2, _⟩
    exact hG F2 H' e2.f re2.sub
  · rintro i x H' H'' hi ⟨F2, ρ2, st2, acc, ws, e2, re2, hD, hF2, hR2, hdn, hal, h2⟩ hy
    obtain ⟨F3, d, e3, hr, hd, hx⟩ := hY i H' x H'' F2 hi e2.f re2.sub hy
    have e3' := e3 ρ2
    have re3 := hr ρ2 st2 re2
    have dr : ds.drop i = d :: ds.drop (i + 1) := by
      obtain ⟨hlt, he⟩ := List.getElem?_eq_some_iff.mp hd
      rw [List.drop_eq_getElem_cons hlt, he]
    rw [dr] at h2
    unfold lcD at h2
    obtain ⟨hD3, hF3, hR3⟩ := e3'.side hD hF2 hR2
    cases hbd : bindT t d (wipeE env vs) with
    | none => simp only [hbd] at h2; exact h2.elim
    | some env3 =>
      simp only [hbd] at h2
      have er3 : EnvRel w F3 ρ2 (wipeE env vs) (wipe σ vs) := (((er.ext e1).ext e2).ext e3').wipe
      refine bindT_ok2 (w := w) (ρ := ρ2) re3.sub er3 hvs hx hbd fun σ3 er4 sb => ⟨(wipe_same sb).trans wipe_wipe, ?_⟩
      rw [wpR_bind] at h2
      refine tG.use er4 re3 (noX_ok h2) fun b st4 F4 ρ4 H4 b' e4 er5 re4 hb h3 => ?_
      cases hb
      obtain ⟨hD4, hF4, hR4⟩ := e4.side hD3 hF3 hR3
      cases b with
      | false =>
        rw [if_neg Bool.false_ne_true] at h3 ⊢
        refine ⟨F4, ρ4, st4, acc, ws, (e2.trans e3').trans e4, re4, hD4, hF4, hR4, DnL.mono (e3'.f.trans e4.f) _ _ hdn, Nat.le_succ_of_le hal, h3⟩
      | true =>
        rw [if_pos rfl] at h3 ⊢
        rw [wpR_bind] at h3
        refine tG.use er5 re4 (noX_ok h3) fun s st5 F5 ρ5 H5 y e5 er6 re5 hs h4 => ?_
        obtain ⟨hD5, hF5, hR5⟩ := e5.side hD4 hF4 hR4
        cases s with
        | own l => exact h4.elim
        | d xd =>
          have hlen := DnL.length hdn
          refine ⟨ws, hD5, by omega, F5, ρ5, st5, acc ++ [xd], ws ++ [y], (((e2.trans e3').trans e4).trans e5).wr hDa, re5.side hF5 hR5, upd_same, hF5, hR5, DnL.snoc (DnL.mono ((e3'.f.trans e4.f).trans e5.f) _ _ hdn) hs, by simp; omega, ?_⟩
          dsimp only at h4
          rw [wpR_bind] at h4
          exact wpR_mono h4 (fun xs st6 z => by rw [List.append_assoc]; exact z) (fun _ _ z => z)
  · rintro H' ⟨F2, ρ2, st2, acc, ws, e2, re2, hD, hF2, hR2, hdn, hal, h2⟩
    rw [List.drop_length] at h2
    unfold lcD at h2
    have h2 : okE w F ρ H Q (.d (.lst (acc ++ []))) st2 := h2
    rw [List.append_nil] at h2
    refine h2 (upd F2 Da (.lst ws)) ρ2 H' (.ref Da) (e1.trans (e2.fr hDa hF2)) (re2.froze hD hF2 hR2) ?_
    unfold SVn Wd.Dn Dn
    exact ⟨Da, ws, rfl, upd_same, DnL.mono (Fle.new hF2) _ _ hdn⟩
theorem ve_lc {tg iter elt : Expr} {ifs : List Expr} {scope : Scope} {own : List (Str × Nat)} {it : MI} {t : Tgt} {cond : MB} {me : MV} (hc : X.calm = true) (nd : X.N.Nodup) (hv : VI w X W tg iter it) (hvs : ∀ i ∈ t.slots, i ∈ own.map (·.2)) (hbk : BlkOk X.N X.env.scope scope own)
    (hg : ∀ (s : Shared) (H : Hp) (C : Addr) (cl : List (Str × Addr)) (fp : List Addr), PG (X.blk s H scope (compEnvC scope cl C X.env) fp) tg (gTgt w.K t))
    (ht : ∀ (s : Shared) (H : Hp) (C : Addr) (cl : List (Str × Addr)) (fp : List Addr), PTs (X.blk s H scope (compEnvC scope cl C X.env) fp) ifs (tT w W0 cond))
    (he : ∀ (s : Shared) (H : Hp) (C : Addr) (cl : List (Str × Addr)) (fp : List Addr), PE (X.blk s H scope (compEnvC scope cl C X.env) fp) elt (tE w W0 me))
    (hf : ∀ (x : Value), foldedSetIterable iter X.env x = pure x := by intro _; rfl) : PE X (.ListComp elt [{ target := tg, iter := iter, ifs := ifs, is_async := 0 }] scope pos) (tE w W (mLc it t (own.map (·.2)) cond me)) := by
  obtain ⟨wi, hpi, hw⟩ := hv
  exact pe_imp (pe_lc hc nd hpi hbk hg ht he hf) fun σ H Q h => lc_read hvs hw h
theorem vs_setLc {i : Nat} {y : Str} {py spos : Pos} {tg iter elt : Expr} {ifs : List Expr} {scope : Scope} {own : List (Str × Nat)} {it : MI} {t : Tgt} {cond : MB} {me : MV} (hc : X.calm = true) (nd : X.N.Nodup) (hi : X.N[i]? = some y) (hl : X.env.scope.names.lookup y = some .local)
    (hsw : swapsWith (.ListComp elt [{ target := tg, iter := iter, ifs := ifs, is_async := 0 }] scope pos) (some (.Name y py)) spos.line X.env = pure true) (hv : VI w X W tg iter it) (hvs : ∀ i ∈ t.slots, i ∈ own.map (·.2)) (hbk : BlkOk X.N X.env.scope scope own)
    (hg : ∀ (s : Shared) (H : Hp) (C : Addr) (cl : List (Str × Addr)) (fp : List Addr), PG (X.blk s H scope (compEnvC scope cl C X.env) fp) tg (gTgt w.K t))
    (ht : ∀ (s : Shared) (H : Hp) (C : Addr) (cl : List (Str × Addr)) (fp : List Addr), PTs (X.blk s H scope (compEnvC scope cl C X.env) fp) ifs (tT w W0 cond))
    (he : ∀ (s : Shared) (H : Hp) (C : Addr) (cl : List (Str × Addr)) (fp : List Addr), PE (X.blk s H scope (compEnvC scope cl C X.env) fp) elt (tE w W0 me))
    (hf : ∀ (x : Value), foldedSetIterable iter X.env x = pure x := by intro _; rfl) : PS X (.Assign [.Name y py] (.ListComp elt [{ target := tg, iter := iter, ifs := ifs, is_async := 0 }] scope pos) spos) (tS w W (mAsg i (mLc it t (own.map (·.2)) cond me))) := by
  obtain ⟨wi, hpi, hw⟩ := hv
  refine ps_imp (ps_setLc hc nd hi hl hsw hpi hbk hg ht he hf) fun D σ H ⟨F, ρ, st, env, er, re, h⟩ => ?_
  refine lc_read hvs hw (tG.useF er re h fun s st1 F1 ρ1 H1 v e1 er1 re1 hs h1 => ?_)
  exact h1 F1 ρ1 _ H1 (Ext.refl _ _ _) (er1.set hs) re1
end
end VL
set_option Elab.async false
set_option linter.all false
set_option maxRecDepth 100000
set_option maxHeartbeats 4000000
namespace VL
open PySem L2
/-! ### a def's end: what it has made is frozen, its cells are forgotten -/
def wfF (k : Nat) : List (Str × SV) → Prop
  | [] => True
  | (_, .d _) :: r => wfF k r
  | (_, .own l) :: r => l < k ∧ wfF k r
def TrOk (st st' : Store) : Prop := st.length ≤ st'.length ∧ ∀ l, l < st.length → st'[l]? = st[l]? ∨ ∀ c fs, st'[l]? = some (.obj c fs) → wfF st.length fs
def dataF : List (Str × SV) → Option (List (Str × D))
  | [] => some []
  | (f, .d x) :: r => (dataF r).map fun t => (f, x) :: t
  | (_, .own _) :: _ => none
/-- a cell's content as plain data -/
def content : Cell → Option D
  | .lst _ ds => some (.lst ds)
  | .dct _ ds => some (.dct ds)
  | .dcn _ ds => some (.dcn ds)
  | .obj c fs => (dataF fs).map fun t => .obj c t
  | .dead => none
def freezeR (k : Nat) (st' : Store) : SV → Option SV
  | .d x => some (.d x)
  | .own l => if l < k then some (.own l) else (st'[l]?.bind content).map .d
open Classical in
noncomputable def fin (st : Store) : Fl → R SV
  | .rt s st' => if TrOk st st' then match freezeR st.length st' s with
    | some s' => .ok s' (st'.take st.length)
    | none => .stuck
    else .stuck
  | .nx _ st' => if TrOk st st' then .ok (.d .non) (st'.take st.length) else .stuck
  | .exn e _ st' => if TrOk st st' then .exn e (st'.take st.length) else .stuck
  | _ => .stuck
def finK : Fl → R SV
  | .rt s st' => .ok s st'
  | .nx _ st' => .ok (.d .non) st'
  | .exn e _ st' => .exn e st'
  | _ => .stuck
section
variable {w : Wd} {F F' H H' : Hp} {ρ ρ' : List Addr} {st st' : Store}
theorem SVF.wf : ∀ {fs : List (Str × SV)} {ws : List (Str × V)}, SVF w F ρ fs ws → wfF ρ.length fs
  | [], _, _ => trivial
  | (f, .d x) :: r, ws, h => by
    unfold SVF at h
    obtain ⟨v, ws, rfl, _, h2⟩ := h
    exact SVF.wf (fs := r) h2
  | (f, .own l) :: r, ws, h => by
    unfold SVF at h
    obtain ⟨v, ws, rfl, ⟨a, h1, _⟩, h2⟩ := h
    exact ⟨(List.getElem?_eq_some_iff.mp h1).1, SVF.wf (fs := r) h2⟩
theorem SVF.cut (r : Rle ρ ρ') : ∀ {fs : List (Str × SV)} {ws : List (Str × V)}, wfF ρ.length fs → SVF w F ρ' fs ws → SVF w F ρ fs ws
  | [], _, _, h => by unfold SVF at h ⊢; exact h
  | (f, .d x) :: t, ws, k, h => by
    unfold SVF at h ⊢
    obtain ⟨v, ws, e, h1, h2⟩ := h
    exact ⟨v, ws, e, h1, SVF.cut r (fs := t) k h2⟩
  | (f, .own l) :: t, ws, k, h => by
    unfold SVF at h ⊢
    obtain ⟨v, ws, e, ⟨a, h1, hv⟩, h2⟩ := h
    have hk : l < ρ.length := k.1
    have h3 : ρ[l]? = some ρ[l] := List.getElem?_eq_getElem hk
    have h4 := r l _ h3
    rw [h1] at h4
    cases h4
    exact ⟨v, ws, e, ⟨_, h3, hv⟩, SVF.cut r (fs := t) k.2 h2⟩
theorem take_of (h : Rle ρ ρ') : ρ'.take ρ.length = ρ := by
  apply List.ext_getElem?
  intro j
  by_cases hj : j < ρ.length
  · rw [List.getElem?_take_of_lt hj]
    have h3 : ρ[j]? = some ρ[j] := List.getElem?_eq_getElem hj
    rw [h j _ h3, h3]
  · rw [List.getElem?_eq_none (by simp; omega), List.getElem?_eq_none (by omega)]
theorem Rel.trunc (re : Rel w F ρ st H) (e : Ext F ρ H F' ρ' H') (re' : Rel w F' ρ' st' H') (tr : TrOk st st') : Rel w F' ρ (st'.take st.length) H' := by
  have hl := re.len
  refine ⟨re'.sub, by rw [List.length_take]; have := tr.1; omega, fun a ha => re'.there a ?_, fun l a c h1 h2 => ?_, re.nd, re'.lo⟩
  · obtain ⟨l, hlt, rfl⟩ := List.mem_iff_getElem.mp ha
    exact List.mem_of_getElem? (e.r l _ (List.getElem?_eq_getElem hlt))
  · have hlt : l < st.length := by have := (List.getElem?_eq_some_iff.mp h1).1; omega
    rw [List.getElem?_take_of_lt hlt] at h2
    have hc := re'.cell l a c (e.r l a h1) h2
    cases c with
    | lst m ds => cases m <;> exact hc
    | dct m ds => cases m <;> exact hc
    | dcn m ds => cases m <;> exact hc
    | obj cc fs =>
      obtain ⟨dx, ws, a1, a2, a3⟩ := hc
      refine ⟨dx, ws, a1, a2, a3.cut e.r ?_⟩
      rw [hl]
      rcases tr.2 l hlt with q | q
      · rw [h2] at q
        obtain ⟨dx0, ws0, _, _, b3⟩ := re.cell l a (.obj cc fs) h1 q.symm
        rw [← hl]
        exact b3.wf
      · exact q cc fs h2
    | dead => trivial
theorem SVF.data : ∀ {fs : List (Str × SV)} {ws : List (Str × V)} {t : List (Str × D)}, SVF w F ρ fs ws → dataF fs = some t → DnF w.K w.ct F t ws
  | [], ws, t, h, e => by
    unfold SVF at h
    cases e
    unfold DnF
    exact h
  | (f, .d x) :: r, ws, t, h, e => by
    unfold SVF at h
    obtain ⟨v, ws, rfl, h1, h2⟩ := h
    unfold dataF at e
    cases hd : dataF r with
    | none => rw [hd] at e; cases e
    | some t2 =>
      rw [hd] at e
      cases e
      unfold DnF
      exact ⟨v, ws, rfl, h1, SVF.data h2 hd⟩
  | (f, .own l) :: r, ws, t, h, e => by cases e
/-- a result, frozen; the cells behind are forgotten -/
theorem fin_ret {s s' : SV} {v : V} {Q : VK} (re : Rel w F ρ st H) (e : Ext F ρ H F' ρ' H') (re' : Rel w F' ρ' st' H') (hv : SVn w F' ρ' s v) (tr : TrOk st st') (hf : freezeR st.length st' s = some s')
    (h : okE w F ρ H Q s' (st'.take st.length)) : Q v H' := by
  have rt := re.trunc e re' tr
  have e0 : Ext F ρ H F' ρ H' := ⟨e.f, Rle.refl ρ, e.keep, fun _ h => .inl h, e.newF⟩
  cases s with
  | d x =>
    cases hf
    exact h F' ρ H' v e0 rt hv
  | own l =>
    obtain ⟨a, ha, rfl⟩ := hv
    unfold freezeR at hf
    dsimp only at hf
    by_cases hl : l < st.length
    · rw [if_pos hl] at hf
      cases hf
      have hk : l < ρ.length := by rw [re.len]; exact hl
      have h3 : ρ[l]? = some ρ[l] := List.getElem?_eq_getElem hk
      have h4 := e.r l _ h3
      rw [ha] at h4
      cases h4
      exact h F' ρ H' _ e0 rt ⟨_, h3, rfl⟩
    · rw [if_neg hl] at hf
      have nin : a ∉ ρ := fun m => by
        obtain ⟨j, hj, rfl⟩ := List.mem_iff_getElem.mp m
        have h3 := e.r j _ (List.getElem?_eq_getElem hj)
        have := (List.getElem?_inj (List.getElem?_eq_some_iff.mp ha).1 re'.nd).mp (ha.trans h3.symm)
        have hlen := re.len
        omega
      have hn : H a = none := by
        rcases e.newR a (List.mem_of_getElem? ha) with z | z
        · exact absurd z nin
        · exact z
      cases hc : st'[l]? with
      | none => rw [hc] at hf; cases hf
      | some c =>
        rw [hc] at hf
        have q := re'.cell l a c ha hc
        cases c with
        | lst m ds =>
          cases hf
          cases m with
          | true =>
            obtain ⟨vs, a1, a2, a3⟩ := q
            refine h (upd F' a (.lst vs)) ρ H' _ (e0.fr hn a2) (rt.froze a1 a2 nin) ?_
            unfold SVn Wd.Dn Dn
            exact ⟨a, vs, rfl, upd_same, DnL.mono (Fle.new a2) _ _ a3⟩
          | false =>
            obtain ⟨vs, a1, a3⟩ := q
            refine h F' ρ H' _ e0 rt ?_
            unfold SVn Wd.Dn Dn
            exact ⟨a, vs, rfl, a1, a3⟩
        | dct m ds =>
          cases hf
          cases m with
          | true =>
            obtain ⟨vs, a1, a2, a3⟩ := q
            refine h (upd F' a (.dK vs)) ρ H' _ (e0.fr hn a2) (rt.froze a1 a2 nin) ?_
            unfold SVn Wd.Dn Dn
            exact ⟨a, vs, rfl, upd_same, DnK.mono (Fle.new a2) _ _ a3⟩
          | false =>
            obtain ⟨vs, a1, a3⟩ := q
            refine h F' ρ H' _ e0 rt ?_
            unfold SVn Wd.Dn Dn
            exact ⟨a, vs, rfl, a1, a3⟩
        | dcn m ds =>
          cases hf
          cases m with
          | true =>
            obtain ⟨vs, a1, a2, a3⟩ := q
            refine h (upd F' a (dnO w.ct a vs)) ρ H' _ (e0.fr hn a2) (rt.froze a1 a2 nin) ?_
            unfold SVn Wd.Dn Dn
            exact ⟨a, vs, rfl, upd_same, DnE.mono (Fle.new a2) _ _ a3⟩
          | false =>
            obtain ⟨vs, a1, a3⟩ := q
            refine h F' ρ H' _ e0 rt ?_
            unfold SVn Wd.Dn Dn
            exact ⟨a, vs, rfl, a1, a3⟩
        | obj cc fs =>
          obtain ⟨dx, ws, a1, a2, a3⟩ := q
          cases hd : dataF fs with
          | none => simp [content, hd] at hf
          | some t =>
            simp [content, hd] at hf
            subst hf
            refine h (upd F' a (.ins (w.ct cc) dx ws)) ρ H' _ (e0.fr hn a2) (rt.froze a1 a2 nin) ?_
            unfold SVn Wd.Dn Dn
            exact ⟨a, dx, ws, rfl, upd_same, DnF.mono (Fle.new a2) _ _ (a3.data hd)⟩
        | dead => simp [content] at hf
end
end VL
set_option Elab.async false
set_option linter.all false
set_option maxRecDepth 100000
set_option maxHeartbeats 4000000
namespace VL
open PySem L2
/-! ### defs and calls -/
abbrev Run := List SV → Store → R SV
def initEnv (ss : List SV) (n : Nat) : Env := ss.map some ++ List.replicate (n - ss.length) none
noncomputable def runDef (keep : Bool) (arity n : Nat) (mb : MS) : Run := fun ss st =>
  if ss.length = arity then (if keep = true then finK (mb (initEnv ss n) st) else fin st (mb (initEnv ss n) st)) else .stuck
section
variable (w : Wd)
/-- a def's promise: it does what run says -/
def spOf (arity : Nat) (run : Run) : Sp := fun vs H Q E => vs.length = arity ∧ ∃ F ρ st ss, Rel w F ρ st H ∧ SVL w F ρ ss vs ∧
  wpR (run ss st) (okE w F ρ H Q) (fun e st' => ∀ F' ρ' H' cls d, Ext F ρ H F' ρ' H' → Rel w F' ρ' st' H' → ExnAt w F' H' e cls d → E cls d H')
end
section
variable {w : Wd} {F F' H H' : Hp} {ρ ρ' : List Addr} {st st' : Store}
theorem SVL.length : ∀ {ss : List SV} {vs : List V}, SVL w F ρ ss vs → vs.length = ss.length
  | [], vs, h => by unfold SVL at h; subst h; rfl
  | s :: r, vs, h => by
    unfold SVL at h
    obtain ⟨v, ws, rfl, _, h2⟩ := h
    have := SVL.length (ss := r) h2
    simp [this]
theorem SVL.get : ∀ {ss : List SV} {vs : List V} {i : Nat} {s : SV}, SVL w F ρ ss vs → ss[i]? = some s → ∃ v, vs[i]? = some v ∧ SVn w F ρ s v
  | [], vs, i, s, h, e => by simp at e
  | x :: r, vs, i, s, h, e => by
    unfold SVL at h
    obtain ⟨v, ws, rfl, h1, h2⟩ := h
    cases i with
    | zero => simp at e; subst e; exact ⟨v, rfl, h1⟩
    | succ i => exact SVL.get (ss := r) (vs := ws) (i := i) h2 (by simpa using e)
theorem SVL.ext {ss : List SV} {vs : List V} (e : Ext F ρ H F' ρ' H') (h : SVL w F ρ ss vs) : SVL w F' ρ' ss vs := by
  induction ss generalizing vs with
  | nil => unfold SVL at h ⊢; exact h
  | cons s r ih =>
    unfold SVL at h ⊢
    obtain ⟨v, ws, rfl, h1, h2⟩ := h
    exact ⟨v, ws, rfl, h1.ext e, ih h2⟩
theorem init_rel {ss : List SV} {vs : List V} {N : List Str} (h : SVL w F ρ ss vs) : EnvRel w F ρ (initEnv ss N.length) (L2.start N vs) := by
  have hl := h.length
  refine ⟨by unfold initEnv L2.start; simp [hl], fun i s hi => ?_⟩
  unfold initEnv at hi
  by_cases hlt : i < ss.length
  · rw [List.getElem?_append_left (by simpa using hlt), List.getElem?_map] at hi
    cases hs : ss[i]? with
    | none => rw [hs] at hi; cases hi
    | some s' =>
      rw [hs] at hi
      have hs' : s' = s := by simpa using hi
      subst hs'
      obtain ⟨v, hv, hr⟩ := h.get hs
      refine ⟨v, ?_, hr⟩
      unfold L2.start
      show (List.map some vs ++ _)[i]? = _
      rw [List.getElem?_append_left (by simpa [hl] using hlt), List.getElem?_map, hv]
      rfl
  · rw [List.getElem?_append_right (by simpa using hlt), List.getElem?_replicate] at hi
    split at hi <;> cases hi
variable {P : Program} {wd : World} {mg : Str → Option Value} {base : Heap}
theorem runDef_len {keep : Bool} {arity n : Nat} {mb : MS} (ss : List SV) (st : Store) (h : ss.length ≠ arity) : runDef keep arity n mb ss st = .stuck := by unfold runDef; rw [if_neg h]
/-- the reading of a def's body, from its promise -/
theorem body_read {keep : Bool} {arity : Nat} {N : List Str} {mb : MS} {vs : List V} {Q : VK} {E : XK} (h : spOf w arity (runDef keep arity N.length mb) vs H Q E) :
    tS w (fun cls d _ H => E cls d H) mb { nx := fun _ H' => Q .non H', rt := Q } (L2.start N vs) H := by
  obtain ⟨hl, F, ρ, st, ss, re, hs, hw⟩ := h
  refine ⟨F, ρ, st, initEnv ss N.length, init_rel hs, re, ?_⟩
  have hl2 : ss.length = arity := by rw [← hs.length]; exact hl
  unfold runDef at hw
  rw [if_pos hl2] at hw
  cases keep with
  | true =>
    rw [if_pos rfl] at hw
    cases hb : mb (initEnv ss N.length) st with
    | nx env1 st1 =>
      rw [hb] at hw
      exact fun F1 ρ1 σ1 H1 e1 e2 e3 => hw F1 ρ1 H1 .non e1 e3 (by unfold SVn Wd.Dn Dn; rfl)
    | rt s st1 => rw [hb] at hw; exact hw
    | bk a b => rw [hb] at hw; exact hw.elim
    | ct a b => rw [hb] at hw; exact hw.elim
    | exn e a b => rw [hb] at hw; exact fun F1 ρ1 σ1 H1 cls d e1 e2 e3 e4 => hw F1 ρ1 H1 cls d e1 e3 e4
    | stuck => rw [hb] at hw; exact hw
  | false =>
    rw [if_neg Bool.false_ne_true] at hw
    cases hb : mb (initEnv ss N.length) st with
    | nx env1 st1 =>
      rw [hb] at hw
      unfold fin at hw
      by_cases tr : TrOk st st1
      · simp only [if_pos tr] at hw
        exact fun F1 ρ1 σ1 H1 e1 e2 e3 => fin_ret (s := .d .non) re e1 e3 (by unfold SVn Wd.Dn Dn; rfl) tr rfl hw
      · simp only [if_neg tr] at hw; exact hw.elim
    | rt s st1 =>
      rw [hb] at hw
      unfold fin at hw
      by_cases tr : TrOk st st1
      · simp only [if_pos tr] at hw
        cases hf : freezeR st.length st1 s with
        | none => rw [hf] at hw; exact hw.elim
        | some s' => rw [hf] at hw; exact fun F1 ρ1 H1 v e1 e3 hv => fin_ret re e1 e3 hv tr hf hw
      · simp only [if_neg tr] at hw; exact hw.elim
    | bk a b => rw [hb] at hw; exact hw.elim
    | ct a b => rw [hb] at hw; exact hw.elim
    | exn e env1 st1 =>
      rw [hb] at hw
      unfold fin at hw
      by_cases tr : TrOk st st1
      · simp only [if_pos tr] at hw
        exact fun F1 ρ1 σ1 H1 cls d e1 e2 e3 e4 => hw F1 ρ H1 cls d ⟨e1.f, Rle.refl ρ, e1.keep, fun _ h => .inl h, e1.newF⟩ (re.trunc e1 e3 tr) e4
      · simp only [if_neg tr] at hw; exact hw.elim
    | stuck => rw [hb] at hw; exact hw
/-- THE RULE for a def -/
theorem fn_ok {x qual : Str} {s : Stmt} {f : Addr} {fd : FuncData} {N ps : List Str} {k : Nat} {keep : Bool} {mb : MS} (Fu : Fun w.K x qual s f fd) (S : FnScope N ps (defScope s))
    (hb : ∀ (X : Cx) (W : WX), X.prog = P → X.w = wd → X.K = w.K → X.mg = mg → X.base = base → X.N = N → X.env.scope = defScope s → X.calm = true → X.fn = (fun _ => true) → X.ex = [] → X.stack = X.env :: X.outer → X.env.frame = some X.env.locals → Takes X W → PassesOwn (model X.prog X.w) X.A X.env X.xe → Room k X.A → PSs X (defBody s) (tS w W mb)) :
    FnOk P wd w.K mg base (L2.CX P wd) (k + 1) f fd ps (spOf w ps.length (runDef keep ps.length N.length mb)) :=
  Fu.okX S (fun vs H Q E h => h.1) fun cdv A outer s' H vs Q E hr hsp => ⟨tS w (fun cls d _ H => E cls d H) mb,
    hb _ _ rfl rfl rfl rfl rfl rfl rfl rfl rfl rfl rfl rfl (takes_of rfl rfl rfl rfl) (passes_of rfl) hr, body_read hsp⟩
variable {X : Cx} {W : WX} {e c : Expr} {pos p : Pos} {m ma mb : MV} {ml : ML} {es : List Expr} {σ : St} {env : Env} {fx : Str} {f C : Addr} {fd : FuncData} {ps : List Str} {k : Nat} {run : Run}
def mCall (run : Run) (ml : ML) : MV := fun env st => (ml env st).bind fun ss st1 => run ss st1
/-- f(e, ..) -/
theorem ve_call (G : FnOk X.prog X.w X.K X.mg X.base (L2.CX X.prog X.w) k f fd ps (spOf w ps.length run)) (hr : Room k X.A) (hg : Gl X fx) (hm : X.mg fx = some (.ref f)) (hk : PySem.W.keepIn X.K (.ref f) = true) (hb : Binds X.K fd ps []) (tk : Takes X W)
    (ha : PA X (e :: es) (tA w W ml)) (hrun : ∀ ss st, ss.length ≠ ps.length → run ss st = .stuck) (hdb : (fx == ("__debug__" : Str)) = false := by decide)
    (he : starEach (e :: es) X.env = (false, eval e X.env) :: starEach es X.env := by rfl) (hpl : (backTo pos (starEach es X.env)).any (·.1) = false := by rfl) :
    PE X (.Call (.Name fx p) (e :: es) [] pos) (tE w W (mCall run ml)) := by
  refine pe_imp (pe_callS G hr hg hm hk hb (fun σ => passAt tk σ) ha hdb he hpl) fun σ H Q ⟨F, ρ, st, env, er, re, h⟩ => ?_
  rw [mCall, wpR_bind] at h
  cases hml : ml env st with
  | stuck => rw [hml] at h; exact h.elim
  | exn x st1 => rw [hml] at h; exact ⟨F, ρ, st, env, er, re, by rw [hml]; exact h⟩
  | ok ss st1 =>
    rw [hml] at h
    have h : wpR (run ss st1) (okE w F ρ H Q) (okX w F ρ H σ W) := h
    have hss : ss.length = ps.length := by
      by_cases q : ss.length = ps.length
      · exact q
      · rw [hrun ss st1 q] at h; exact h.elim
    refine ⟨F, ρ, st, env, er, re, ?_⟩
    rw [hml]
    intro F1 ρ1 H1 vs e1 re1 hs
    exact ⟨hs.length.trans hss, F1, ρ1, st1, ss, re1, hs, wpR_mono h (fun _ _ z => z.up e1) (fun x st2 z F2 ρ2 H2 cls d e2 re2 hx => z F2 ρ2 H2 cls d (e1.trans e2) re2 hx)⟩
end
end VL
set_option Elab.async false
set_option linter.all false
set_option maxRecDepth 100000
set_option maxHeartbeats 4000000
namespace VL
open PySem L2
/-! ### operators upon data -/
section
variable {w : Wd} {X : Cx} {F H : Hp} {ρ : List Addr} {st : Store} {Q : VK}
theorem okD.sc {d : D} {v : V} (h : okD w F ρ st H Q d) (re : Rel w F ρ st H) (hd : w.Dn F d v) : Q v H := h F H v (Ext.refl _ _ _) re hd
theorem okD.lst {ds : List D} {vs : List V} {p : Addr} (h : okD w F ρ st H Q (.lst ds)) (re : Rel w F ρ st H) (hd : w.DnL F ds vs) (hp : H p = none) : Q (.ref p) (upd H p (.lst vs)) := by
  have hf := re.sub.free hp
  refine h (upd F p (.lst vs)) _ _ (Ext.new re.sub hp) (re.new hp) ?_
  unfold Wd.Dn Dn
  exact ⟨p, vs, rfl, upd_same, DnL.mono (Fle.new hf) _ _ hd⟩
theorem okD.tup {ds : List D} {vs : List V} {p : Addr} (h : okD w F ρ st H Q (.tup ds)) (re : Rel w F ρ st H) (hd : w.DnL F ds vs) (hp : H p = none) : Q (.ref p) (upd H p (.tup vs)) := by
  have hf := re.sub.free hp
  refine h (upd F p (.tup vs)) _ _ (Ext.new re.sub hp) (re.new hp) ?_
  unfold Wd.Dn Dn
  exact ⟨p, vs, rfl, SqT.of upd_same, DnL.mono (Fle.new hf) _ _ hd⟩
theorem dnI {i : Int} {v : V} (h : Vw w F H (.int i) v) : v = .int i := by unfold Vw Wd.Dn Dn at h; exact h
theorem dnS {i : Str} {v : V} (h : Vw w F H (.str i) v) : v = .str i := by unfold Vw Wd.Dn Dn at h; exact h
theorem dnB {i : Bool} {v : V} (h : Vw w F H (.bl i) v) : v = .bl i := by unfold Vw Wd.Dn Dn at h; exact h
theorem dnN {v : V} (h : Vw w F H .non v) : v = .non := by unfold Vw Wd.Dn Dn at h; exact h
theorem dnT {ds : List D} {v : V} (re : Rel w F ρ st H) (h : Vw w F H (.tup ds) v) : ∃ a vs, v = .ref a ∧ SqT w.K H a vs ∧ w.DnL F ds vs := by
  unfold Vw Wd.Dn Dn at h
  obtain ⟨a, vs, e, h1, h2⟩ := h
  exact ⟨a, vs, e, fle_t re.sub h1, h2⟩
theorem mkI {i : Int} : w.Dn F (.int i) (.int i) := by unfold Wd.Dn Dn; rfl
theorem mkS {i : Str} : w.Dn F (.str i) (.str i) := by unfold Wd.Dn Dn; rfl
theorem mkB {i : Bool} : w.Dn F (.bl i) (.bl i) := by unfold Wd.Dn Dn; rfl
theorem mkN : w.Dn F .non .non := by unfold Wd.Dn Dn; rfl
theorem DnL.append : ∀ {ds es : List D} {vs ws : List V}, w.DnL F ds vs → w.DnL F es ws → w.DnL F (ds ++ es) (vs ++ ws)
  | [], es, vs, ws, h, k => by unfold Wd.DnL DnL at h; subst h; exact k
  | d :: ds, es, vs, ws, h, k => by
    unfold Wd.DnL DnL at h
    obtain ⟨v, r, rfl, h1, h2⟩ := h
    show DnL _ _ F (d :: (ds ++ es)) (v :: (r ++ ws))
    unfold DnL
    exact ⟨v, _, rfl, h1, DnL.append (ds := ds) h2 k⟩
def addD : D → D → Option D
  | .int i, .int j => some (.int (i + j))
  | .str x, .str y => if x.length + y.length ≤ sizeLine then some (.str (x ++ y)) else none
  | .lst xs, .lst ys => if xs.length + ys.length ≤ sizeLine then some (.lst (xs ++ ys)) else none
  | .tup xs, .tup ys => if xs.length + ys.length ≤ sizeLine then some (.tup (xs ++ ys)) else none
  | _, _ => none
theorem od_add (hK : w.K = X.K := by rfl) : OpD w X (binaryOp .Add) addD := by
  refine ⟨_, opr_or op_add (opr_or op_add_str (opr_or op_cat op_catA)), fun F ρ st H x y a b d Q re ha hb hg q => ?_⟩
  cases a with
  | int i =>
    cases b with
    | int j => cases hg; cases dnI ha; cases dnI hb; exact .inl ⟨i, j, rfl, rfl, q.sc re mkI⟩
    | _ => cases hg
  | str i =>
    cases b with
    | str j =>
      simp only [addD] at hg
      split at hg
      · rename_i hz
        cases hg; cases dnS ha; cases dnS hb; exact .inr (.inl ⟨i, j, rfl, rfl, hz, q.sc re mkS⟩)
      · cases hg
    | _ => cases hg
  | lst i =>
    cases b with
    | lst j =>
      simp only [addD] at hg
      split at hg
      · rename_i hz
        cases hg
        obtain ⟨l, vs, rfl, h1, h2⟩ := ha
        obtain ⟨m, ws, rfl, h3, h4⟩ := hb
        exact .inr (.inr (.inl ⟨l, m, vs, ws, rfl, rfl, h1, h3, by rw [DnL.length h2, DnL.length h4]; exact hz, fun p hp => q.lst re (h2.append h4) hp⟩))
      · cases hg
    | _ => cases hg
  | tup i =>
    cases b with
    | tup j =>
      simp only [addD] at hg
      split at hg
      · rename_i hz
        cases hg
        obtain ⟨l, vs, rfl, h1, h2⟩ := dnT re ha
        obtain ⟨m, ws, rfl, h3, h4⟩ := dnT re hb
        refine .inr (.inr (.inr ⟨l, m, vs, ws, rfl, rfl, hK ▸ h1, hK ▸ h3, by rw [DnL.length h2, DnL.length h4]; exact hz, fun e => ?_, fun _ e => ?_, fun _ _ p hp => q.tup re (h2.append h4) hp⟩))
        · subst e
          have e : i = [] := List.eq_nil_of_length_eq_zero (DnL.length h2).symm
          subst e
          rw [List.nil_append] at q
          refine q.sc re ?_
          unfold Vw Wd.Dn Dn at hb
          unfold Wd.Dn Dn
          exact hb
        · subst e
          have e : j = [] := List.eq_nil_of_length_eq_zero (DnL.length h4).symm
          subst e
          rw [List.append_nil] at q
          refine q.sc re ?_
          unfold Vw Wd.Dn Dn at ha
          unfold Wd.Dn Dn
          exact ha
      · cases hg
    | _ => cases hg
  | _ => cases hg
def subD : D → D → Option D
  | .int i, .int j => some (.int (i - j))
  | _, _ => none
theorem od_sub : OpD w X (binaryOp .Sub) subD := by
  refine ⟨_, op_sub, fun F ρ st H x y a b d Q re ha hb hg q => ?_⟩
  cases a with
  | int i =>
    cases b with
    | int j => cases hg; cases dnI ha; cases dnI hb; exact ⟨i, j, rfl, rfl, q.sc re mkI⟩
    | _ => cases hg
  | _ => cases hg
def repD (n : Nat) (xs : List D) : List D := (List.replicate n xs).flatten
theorem DnL.rep {xs : List D} {vs : List V} (h : w.DnL F xs vs) : ∀ n, w.DnL F (repD n xs) (List.replicate n vs).flatten
  | 0 => by show DnL _ _ F [] []; unfold DnL; rfl
  | n + 1 => by
    show w.DnL F ((List.replicate (n + 1) xs).flatten) ((List.replicate (n + 1) vs).flatten)
    rw [List.replicate_succ, List.replicate_succ, List.flatten_cons, List.flatten_cons]
    exact h.append (DnL.rep h n)
instance (i j : Int) : Decidable (CMul i j) := by unfold CMul; infer_instance
instance (i j : Int) : Decidable (CDivN i j) := by unfold CDivN; infer_instance
def mulD : D → D → Option D
  | .int i, .int j => if CMul i j then some (.int (i * j)) else none
  | .lst xs, .int k => if -2 ^ 63 ≤ k ∧ k < 2 ^ 63 ∧ xs.length * k.toNat ≤ sizeLine then some (.lst (repD k.toNat xs)) else none
  | _, _ => none
theorem od_mul : OpD w X (binaryOp .Mult) mulD := by
  refine ⟨_, opr_or op_mul op_rep, fun F ρ st H x y a b d Q re ha hb hg q => ?_⟩
  cases a with
  | int i =>
    cases b with
    | int j =>
      simp only [mulD] at hg
      split at hg
      · rename_i hz
        cases hg; cases dnI ha; cases dnI hb; exact .inl ⟨i, j, rfl, rfl, hz, q.sc re mkI⟩
      · cases hg
    | _ => cases hg
  | lst i =>
    cases b with
    | int j =>
      simp only [mulD] at hg
      split at hg
      · rename_i hz
        cases hg; cases dnI hb
        obtain ⟨l, vs, rfl, h1, h2⟩ := ha
        exact .inr ⟨l, j, vs, rfl, rfl, h1, hz.1, hz.2.1, by rw [DnL.length h2]; exact hz.2.2, fun p hp => q.lst re (h2.rep _) hp⟩
      · cases hg
    | _ => cases hg
  | _ => cases hg
def modD : D → D → Option D
  | .int i, .int j => if j ≠ 0 then some (.int (i.fmod j)) else none
  | _, _ => none
theorem od_mod : OpD w X (binaryOp .Mod) modD := by
  refine ⟨_, op_modN, fun F ρ st H x y a b d Q re ha hb hg q => ?_⟩
  cases a with
  | int i =>
    cases b with
    | int j =>
      simp only [modD] at hg
      split at hg
      · rename_i hz
        cases hg; cases dnI ha; cases dnI hb; exact ⟨i, j, rfl, rfl, hz, q.sc re mkI⟩
      · cases hg
    | _ => cases hg
  | _ => cases hg
def fdivD : D → D → Option D
  | .int i, .int j => if CDivN i j then some (.int (i.fdiv j)) else none
  | _, _ => none
theorem od_fdiv : OpD w X (binaryOp .FloorDiv) fdivD := by
  refine ⟨_, op_fdivN, fun F ρ st H x y a b d Q re ha hb hg q => ?_⟩
  cases a with
  | int i =>
    cases b with
    | int j =>
      simp only [fdivD] at hg
      split at hg
      · rename_i hz
        cases hg; cases dnI ha; cases dnI hb; exact ⟨i, j, rfl, rfl, hz, q.sc re mkI⟩
      · cases hg
    | _ => cases hg
  | _ => cases hg
def cmpI (f : Int → Int → Bool) : D → D → Option D
  | .int i, .int j => some (.bl (f i j))
  | _, _ => none
theorem od_cmpI {op : CmpOp} {f : Int → Int → Bool} (h : OpR X (compareOp op) (rI0 fun i j => .bl (f i j))) : OpD w X (compareOp op) (cmpI f) := by
  refine ⟨_, h, fun F ρ st H x y a b d Q re ha hb hg q => ?_⟩
  cases a with
  | int i =>
    cases b with
    | int j => cases hg; cases dnI ha; cases dnI hb; exact ⟨i, j, rfl, rfl, q.sc re mkB⟩
    | _ => cases hg
  | _ => cases hg
abbrev ltD := cmpI fun i j => decide (i < j)
abbrev leD := cmpI fun i j => decide (i ≤ j)
abbrev gtD := cmpI fun i j => decide (j < i)
abbrev geD := cmpI fun i j => decide (j ≤ i)
theorem od_lt : OpD w X (compareOp .Lt) ltD := od_cmpI op_lt
theorem od_le : OpD w X (compareOp .LtE) leD := od_cmpI op_le
theorem od_gt : OpD w X (compareOp .Gt) gtD := od_cmpI op_gt
theorem od_ge : OpD w X (compareOp .GtE) geD := od_cmpI op_ge
/-- is None -/
def isND : D → D → Option D
  | .non, .non => some (.bl true)
  | _, .non => some (.bl false)
  | _, _ => none
def notND : D → D → Option D
  | .non, .non => some (.bl false)
  | _, .non => some (.bl true)
  | _, _ => none
theorem vw_non {a : D} {x : V} (h : Vw w F H a x) : decide (x = V.non) = (match a with | .non => true | _ => false) := by
  cases a with
  | non => cases dnN h; rfl
  | bl b => cases dnB h; rfl
  | int b => cases dnI h; rfl
  | str b => cases dnS h; rfl
  | tup b => unfold Vw Wd.Dn Dn at h; obtain ⟨_, _, rfl, _⟩ := h; rfl
  | lst b => obtain ⟨_, _, rfl, _⟩ := h; rfl
  | scr b => unfold Vw Wd.Dn Dn at h; obtain ⟨_, _, rfl, _⟩ := h; rfl
  | dct b => obtain ⟨_, _, rfl, _⟩ := h; rfl
  | dcn b => obtain ⟨_, _, rfl, _⟩ := h; rfl
  | obj b c => unfold Vw Wd.Dn Dn at h; obtain ⟨_, _, _, rfl, _⟩ := h; rfl
  | cls b => unfold Vw Wd.Dn Dn at h; subst h; rfl
  | ty b => unfold Vw Wd.Dn Dn at h; subst h; rfl
  | adr b => unfold Vw Wd.Dn Dn at h; subst h; rfl
theorem od_isN : OpD w X (compareOp .Is) isND := by
  refine ⟨_, op_isN, fun F ρ st H x y a b d Q re ha hb hg q => ?_⟩
  have e := vw_non ha
  cases b with
  | non =>
    refine ⟨dnN hb, ?_⟩
    rw [e]
    cases a <;> (cases hg; exact q.sc re mkB)
  | _ => cases a <;> cases hg
theorem od_notN : OpD w X (compareOp .IsNot) notND := by
  refine ⟨_, op_notN, fun F ρ st H x y a b d Q re ha hb hg q => ?_⟩
  have e := vw_non ha
  cases b with
  | non =>
    refine ⟨dnN hb, ?_⟩
    rw [e]
    cases a <;> (cases hg; exact q.sc re mkB)
  | _ => cases a <;> cases hg
/-! ### == of data -/
mutual
def toP : D → Option PyData
  | .non => some .none
  | .bl b => some (.bool b)
  | .int i => some (.int i)
  | .str x => some (.str x)
  | .tup ds => (toPs ds).map .tuple
  | .lst ds => (toPs ds).map .list
  | _ => none
def toPs : List D → Option (List PyData)
  | [] => some []
  | d :: r => match toP d, toPs r with
    | some p, some q => some (p :: q)
    | _, _ => none
end
mutual
theorem toP_ok (s : Fle F H) : ∀ {d : D} {p : PyData} {v : V}, toP d = some p → w.Dn F d v → Dp w.K H v p
  | .non, p, v, e, h => by unfold toP at e; cases e; unfold Wd.Dn Dn at h; subst h; exact .non
  | .bl b, p, v, e, h => by unfold toP at e; cases e; unfold Wd.Dn Dn at h; subst h; exact .bl b
  | .int b, p, v, e, h => by unfold toP at e; cases e; unfold Wd.Dn Dn at h; subst h; exact .int b
  | .str b, p, v, e, h => by unfold toP at e; cases e; unfold Wd.Dn Dn at h; subst h; exact .str b
  | .tup ds, p, v, e, h => by
    unfold toP at e
    cases hq : toPs ds with
    | none => rw [hq] at e; cases e
    | some q =>
      rw [hq] at e; cases e
      unfold Wd.Dn Dn at h
      obtain ⟨a, vs, rfl, h1, h2⟩ := h
      exact .tup (fle_t s h1) (toPs_ok s hq h2)
  | .lst ds, p, v, e, h => by
    unfold toP at e
    cases hq : toPs ds with
    | none => rw [hq] at e; cases e
    | some q =>
      rw [hq] at e; cases e
      unfold Wd.Dn Dn at h
      obtain ⟨a, vs, rfl, h1, h2⟩ := h
      exact .lst (SqL.of (s _ _ h1)) (toPs_ok s hq h2)
  | .scr _, p, v, e, h => by unfold toP at e; cases e
  | .dct _, p, v, e, h => by unfold toP at e; cases e
  | .dcn _, p, v, e, h => by unfold toP at e; cases e
  | .obj _ _, p, v, e, h => by unfold toP at e; cases e
  | .cls _, p, v, e, h => by unfold toP at e; cases e
  | .ty _, p, v, e, h => by unfold toP at e; cases e
  | .adr _, p, v, e, h => by unfold toP at e; cases e
theorem toPs_ok (s : Fle F H) : ∀ {ds : List D} {ps : List PyData} {vs : List V}, toPs ds = some ps → w.DnL F ds vs → DpAll w.K H vs ps
  | [], ps, vs, e, h => by unfold toPs at e; cases e; unfold Wd.DnL DnL at h; subst h; exact .nil
  | d :: r, ps, vs, e, h => by
    unfold toPs at e
    cases h1 : toP d with
    | none => rw [h1] at e; cases e
    | some p =>
      cases h2 : toPs r with
      | none => rw [h1, h2] at e; cases e
      | some q =>
        rw [h1, h2] at e; cases e
        unfold Wd.DnL DnL at h
        obtain ⟨v, ws, rfl, h3, h4⟩ := h
        exact .cons (toP_ok s h1 h3) (toPs_ok s h2 h4)
end
theorem toP_vw (re : Rel w F ρ st H) {d : D} {p : PyData} {v : V} (e : toP d = some p) (h : Vw w F H d v) : Dp w.K H v p := by
  cases d with
  | lst ds =>
    obtain ⟨a, vs, rfl, h1, h2⟩ := h
    unfold toP at e
    cases hq : toPs ds with
    | none => rw [hq] at e; cases e
    | some q => rw [hq] at e; cases e; exact .lst (SqL.of h1) (toPs_ok re.sub hq h2)
  | dct ds => unfold toP at e; cases e
  | dcn ds => unfold toP at e; cases e
  | _ => exact toP_ok re.sub e h
/-- == of two pieces of data -/
def eqB : D → D → Option Bool
  | .int i, .int j => some (decide (i = j))
  | .str x, .str y => some (decide (x = y))
  | .bl a, .bl b => some (decide (a = b))
  | .non, .non => some true
  | .int _, .str _ => some false
  | .str _, .int _ => some false
  | .non, .str _ => some false
  | .str _, .non => some false
  | .non, .int _ => some false
  | .int _, .non => some false
  | a, b => match toP a, toP b with
    | some p, some q => if SeqAt.shaped p = true ∧ SeqAt.shaped q = true then some (p.eqv q) else none
    | _, _ => none
def eqD (a b : D) : Option D := (eqB a b).map .bl
def neD (a b : D) : Option D := (eqB a b).map fun c => .bl !c
theorem eqB_rd (re : Rel w F ρ st H) {a b : D} {x y : V} {c : Bool} (hK : w.K = X.K) (ha : Vw w F H a x) (hb : Vw w F H b y) (h : eqB a b = some c) :
    (scal x y = true ∧ c = decide (x = y)) ∨ ∃ p q, Dp X.K H x p ∧ Dp X.K H y q ∧ SeqAt.shaped p = true ∧ SeqAt.shaped q = true ∧ c = p.eqv q := by
  have gen : ∀ {c}, (match toP a, toP b with
    | some p, some q => if SeqAt.shaped p = true ∧ SeqAt.shaped q = true then some (p.eqv q) else none
    | _, _ => none) = some c → ∃ p q, Dp X.K H x p ∧ Dp X.K H y q ∧ SeqAt.shaped p = true ∧ SeqAt.shaped q = true ∧ c = p.eqv q := fun {c} h => by
    cases h1 : toP a with
    | none => rw [h1] at h; cases h
    | some p =>
      cases h2 : toP b with
      | none => rw [h1, h2] at h; cases h
      | some q =>
        rw [h1, h2] at h
        by_cases hs : SeqAt.shaped p = true ∧ SeqAt.shaped q = true
        · simp only [if_pos hs] at h
          exact ⟨p, q, hK ▸ toP_vw re h1 ha, hK ▸ toP_vw re h2 hb, hs.1, hs.2, (Option.some.inj h).symm⟩
        · simp only [if_neg hs] at h; cases h
  cases a <;> cases b <;> first
    | exact .inr (gen h)
    | (cases dnI ha; cases dnI hb; refine .inl ⟨rfl, ?_⟩; cases h; simp)
    | (cases dnS ha; cases dnS hb; refine .inl ⟨rfl, ?_⟩; cases h; simp)
    | (cases dnB ha; cases dnB hb; refine .inl ⟨rfl, ?_⟩; cases h; simp)
    | (cases dnN ha; cases dnN hb; refine .inl ⟨rfl, ?_⟩; cases h; simp)
    | (cases dnI ha; cases dnS hb; refine .inl ⟨rfl, ?_⟩; cases h; simp)
    | (cases dnS ha; cases dnI hb; refine .inl ⟨rfl, ?_⟩; cases h; simp)
    | (cases dnN ha; cases dnS hb; refine .inl ⟨rfl, ?_⟩; cases h; simp)
    | (cases dnS ha; cases dnN hb; refine .inl ⟨rfl, ?_⟩; cases h; simp)
    | (cases dnN ha; cases dnI hb; refine .inl ⟨rfl, ?_⟩; cases h; simp)
    | (cases dnI ha; cases dnN hb; refine .inl ⟨rfl, ?_⟩; cases h; simp)
theorem od_eq (hu : X.A.units + 64 < cLine) (hK : w.K = X.K := by rfl) : OpD w X (compareOp .Eq) eqD := by
  refine ⟨_, opr_or op_eq (op_eqD hu), fun F ρ st H x y a b d Q re ha hb hg q => ?_⟩
  unfold eqD at hg
  cases h : eqB a b with
  | none => rw [h] at hg; cases hg
  | some c =>
    rw [h] at hg; cases hg
    rcases eqB_rd re hK ha hb h with ⟨h1, rfl⟩ | ⟨p, r, h1, h2, h3, h4, rfl⟩
    · exact .inl ⟨h1, q.sc re mkB⟩
    · exact .inr ⟨p, r, h1, h2, h3, h4, q.sc re mkB⟩
theorem od_ne (hu : X.A.units + 64 < cLine) (hK : w.K = X.K := by rfl) : OpD w X (compareOp .NotEq) neD := by
  refine ⟨_, opr_or op_ne (op_neD hu), fun F ρ st H x y a b d Q re ha hb hg q => ?_⟩
  unfold neD at hg
  cases h : eqB a b with
  | none => rw [h] at hg; cases hg
  | some c =>
    rw [h] at hg; cases hg
    rcases eqB_rd re hK ha hb h with ⟨h1, rfl⟩ | ⟨p, r, h1, h2, h3, h4, rfl⟩
    · exact .inl ⟨h1, q.sc re mkB⟩
    · exact .inr ⟨p, r, h1, h2, h3, h4, q.sc re mkB⟩
end
end VL
set_option Elab.async false
set_option linter.all false
set_option maxRecDepth 100000
set_option maxHeartbeats 4000000
namespace VL
open PySem L2
section
variable {w : Wd} {X : Cx} {W : WX} {F H : Hp} {ρ : List Addr} {st : Store} {Q : VK} {e c : Expr} {pos : Pos} {m ma mb : MV} {σ : St} {env : Env}
theorem dnL {ds : List D} {v : V} (re : Rel w F ρ st H) (h : Vw w F H (.lst ds) v) : ∃ a vs, v = .ref a ∧ SqL w.K H a vs ∧ w.DnL F ds vs := by
  obtain ⟨a, vs, e, h1, h2⟩ := h
  exact ⟨a, vs, e, SqL.of h1, h2⟩
theorem dnSc {ds : List D} {v : V} (re : Rel w F ρ st H) (h : Vw w F H (.scr ds) v) : ∃ a vs, v = .ref a ∧ SqL w.K H a vs ∧ w.DnL F ds vs := by
  unfold Vw Wd.Dn Dn at h
  obtain ⟨a, vs, e, h1, h2⟩ := h
  exact ⟨a, vs, e, fle_l re.sub h1, h2⟩
/-! ### in -/
def flatD : D → Option V
  | .non => some .non
  | .bl b => some (.bl b)
  | .int i => some (.int i)
  | .str x => some (.str x)
  | _ => none
def flatsD : List D → Option (List V)
  | [] => some []
  | d :: r => match flatD d, flatsD r with
    | some v, some vs => some (v :: vs)
    | _, _ => none
theorem flatD_ok {d : D} {v x : V} (h : flatD d = some v) (hd : w.Dn F d x) : x = v ∧ flatV v = true := by
  cases d with
  | non => cases h; unfold Wd.Dn Dn at hd; exact ⟨hd, rfl⟩
  | bl b => cases h; unfold Wd.Dn Dn at hd; exact ⟨hd, rfl⟩
  | int b => cases h; unfold Wd.Dn Dn at hd; exact ⟨hd, rfl⟩
  | str b => cases h; unfold Wd.Dn Dn at hd; exact ⟨hd, rfl⟩
  | _ => cases h
theorem flatD_vw {d : D} {v x : V} (h : flatD d = some v) (hd : Vw w F H d x) : x = v ∧ flatV v = true := by
  cases d with
  | non => exact flatD_ok (w := w) (F := F) h hd
  | bl b => exact flatD_ok (w := w) (F := F) h hd
  | int b => exact flatD_ok (w := w) (F := F) h hd
  | str b => exact flatD_ok (w := w) (F := F) h hd
  | _ => cases h
theorem flatsD_ok : ∀ {ds : List D} {vs xs : List V}, flatsD ds = some vs → w.DnL F ds xs → xs = vs ∧ vs.all flatV = true
  | [], vs, xs, h, hd => by cases h; unfold Wd.DnL DnL at hd; exact ⟨hd, rfl⟩
  | d :: r, vs, xs, h, hd => by
    unfold flatsD at h
    cases h1 : flatD d with
    | none => rw [h1] at h; cases h
    | some v =>
      cases h2 : flatsD r with
      | none => rw [h1, h2] at h; cases h
      | some ws =>
        rw [h1, h2] at h; cases h
        unfold Wd.DnL DnL at hd
        obtain ⟨y, ys, rfl, h3, h4⟩ := hd
        obtain ⟨e1, f1⟩ := flatD_ok (w := w) (F := F) h1 h3
        obtain ⟨e2, f2⟩ := flatsD_ok (ds := r) h2 h4
        subst e1; subst e2
        exact ⟨rfl, by simp [f1, f2]⟩
def itemsV : D → Option (List D)
  | .lst ds => some ds
  | .scr ds => some ds
  | .tup ds => some ds
  | _ => none
/-- x in y: data in a list or tuple of flat data; one sign in a text -/
def inB : D → D → Option Bool
  | .str x, .str z => match x.cps.toList with
    | [c] => some (decide (c ∈ z.cps.toList))
    | _ => none
  | x, y => match itemsV y with
    | some ds => match flatD x, flatsD ds with
      | some v, some vs => some (inV v vs)
      | _, _ => none
    | none => none
def inD (a b : D) : Option D := (inB a b).map .bl
def notInD (a b : D) : Option D := (inB a b).map fun c => .bl !c
theorem seq_of {y : D} {v : V} {ds : List D} (re : Rel w F ρ st H) (h : Vw w F H y v) (hi : itemsV y = some ds) : ∃ p vs, v = .ref p ∧ (SqL w.K H p vs ∨ SqT w.K H p vs) ∧ w.DnL F ds vs := by
  cases y with
  | lst es => cases hi; obtain ⟨a, vs, e, h1, h2⟩ := dnL re h; exact ⟨a, vs, e, .inl h1, h2⟩
  | scr es => cases hi; obtain ⟨a, vs, e, h1, h2⟩ := dnSc re h; exact ⟨a, vs, e, .inl h1, h2⟩
  | tup es => cases hi; obtain ⟨a, vs, e, h1, h2⟩ := dnT re h; exact ⟨a, vs, e, .inr h1, h2⟩
  | _ => cases hi
theorem str_one {x : Str} {c : Nat} (h : x.cps.toList = [c]) : x = ⟨#[c]⟩ := by
  obtain ⟨cps⟩ := x
  obtain ⟨l⟩ := cps
  simp only at h
  rw [h]
theorem inB_rd (re : Rel w F ρ st H) {a b : D} {x y : V} {r : Bool} (hK : w.K = X.K) (ha : Vw w F H a x) (hb : Vw w F H b y) (h : inB a b = some r) :
    (∃ c z, x = .str ⟨#[c]⟩ ∧ y = .str z ∧ r = decide (c ∈ z.cps.toList)) ∨ ∃ p vs, y = .ref p ∧ (SqL X.K H p vs ∨ SqT X.K H p vs) ∧ flatV x = true ∧ vs.all flatV = true ∧ r = inV x vs := by
  have gen : ∀ {r}, (match itemsV b with
    | some ds => match flatD a, flatsD ds with
      | some v, some vs => some (inV v vs)
      | _, _ => none
    | none => none) = some r → ∃ p vs, y = .ref p ∧ (SqL X.K H p vs ∨ SqT X.K H p vs) ∧ flatV x = true ∧ vs.all flatV = true ∧ r = inV x vs := fun {r} h => by
    cases h1 : itemsV b with
    | none => rw [h1] at h; cases h
    | some ds =>
      rw [h1] at h
      cases h2 : flatD a with
      | none => simp only [h2] at h; cases h
      | some v =>
        cases h3 : flatsD ds with
        | none => simp only [h2, h3] at h; cases h
        | some vs =>
          simp only [h2, h3] at h
          obtain ⟨p, ws, rfl, h4, h5⟩ := seq_of re hb h1
          obtain ⟨e1, f1⟩ := flatD_vw h2 ha
          obtain ⟨e2, f2⟩ := flatsD_ok h3 h5
          subst e1; subst e2
          exact ⟨p, ws, rfl, hK ▸ h4, f1, f2, (Option.some.inj h).symm⟩
  cases a with
  | str s =>
    cases b with
    | str z =>
      simp only [inB] at h
      split at h
      · rename_i c hc
        cases dnS ha; cases dnS hb
        have := str_one hc
        subst this
        exact .inl ⟨c, z, rfl, rfl, (Option.some.inj h).symm⟩
      · cases h
    | _ => exact .inr (gen h)
  | _ => exact .inr (gen h)
theorem od_in (hK : w.K = X.K := by rfl) : OpD w X (compareOp .In) inD := by
  refine ⟨_, opr_or op_in_sign op_in_seq, fun F ρ st H x y a b d Q re ha hb hg q => ?_⟩
  unfold inD at hg
  cases h : inB a b with
  | none => rw [h] at hg; cases hg
  | some r =>
    rw [h] at hg; cases hg
    rcases inB_rd re hK ha hb h with ⟨c, z, rfl, rfl, rfl⟩ | ⟨p, vs, rfl, h1, h2, h3, rfl⟩
    · exact .inl ⟨c, z, rfl, rfl, q.sc re mkB⟩
    · exact .inr ⟨p, vs, rfl, h1, h2, h3, q.sc re mkB⟩
theorem od_notIn (hK : w.K = X.K := by rfl) : OpD w X (compareOp .NotIn) notInD := by
  refine ⟨_, opr_or op_notIn_sign op_notIn_seq, fun F ρ st H x y a b d Q re ha hb hg q => ?_⟩
  unfold notInD at hg
  cases h : inB a b with
  | none => rw [h] at hg; cases hg
  | some r =>
    rw [h] at hg; cases hg
    rcases inB_rd re hK ha hb h with ⟨c, z, rfl, rfl, rfl⟩ | ⟨p, vs, rfl, h1, h2, h3, rfl⟩
    · exact .inl ⟨c, z, rfl, rfl, q.sc re mkB⟩
    · exact .inr ⟨p, vs, rfl, h1, h2, h3, q.sc re mkB⟩
/-! ### items, slices -/
def idxD : D → D → Option D
  | .lst ds, .int i => atI ds i
  | .scr ds, .int i => atI ds i
  | .tup ds, .int i => atI ds i
  | .str x, .int i => if x.length ≤ sizeLine then (atI x.cps.toList i).map fun c => .str ⟨#[c]⟩ else none
  | _, _ => none
theorem atI_dn {ds : List D} {vs : List V} {i : Int} {d : D} (h : w.DnL F ds vs) (e : atI ds i = some d) : ∃ v, atI vs i = some v ∧ w.Dn F d v := by
  unfold atI at e ⊢
  rw [DnL.length h]
  cases hi : ixN ds.length i with
  | none => rw [hi] at e; cases e
  | some j =>
    rw [hi] at e
    exact DnL.get' h e
theorem id_ix (hK : w.K = X.K := by rfl) : IxD w X idxD := by
  refine ⟨_, ix_seq, fun F ρ st H x y a b d Q re ha hb hg q => ?_⟩
  cases b with
  | int i =>
    cases dnI hb
    cases a with
    | lst ds =>
      obtain ⟨p, vs, rfl, h1, h2⟩ := dnL re ha
      obtain ⟨v, h3, h4⟩ := atI_dn h2 hg
      exact .inl ⟨p, vs, i, v, rfl, rfl, hK ▸ h1, h3, q.sc re h4⟩
    | scr ds =>
      obtain ⟨p, vs, rfl, h1, h2⟩ := dnSc re ha
      obtain ⟨v, h3, h4⟩ := atI_dn h2 hg
      exact .inl ⟨p, vs, i, v, rfl, rfl, hK ▸ h1, h3, q.sc re h4⟩
    | tup ds =>
      obtain ⟨p, vs, rfl, h1, h2⟩ := dnT re ha
      obtain ⟨v, h3, h4⟩ := atI_dn h2 hg
      exact .inr (.inl ⟨p, vs, i, v, rfl, rfl, hK ▸ h1, h3, q.sc re h4⟩)
    | str z =>
      cases dnS ha
      simp only [idxD] at hg
      split at hg
      · rename_i hz
        cases hc : atI z.cps.toList i with
        | none => rw [hc] at hg; cases hg
        | some c => rw [hc] at hg; cases hg; exact .inr (.inr ⟨z, i, c, rfl, rfl, hz, hc, q.sc re mkS⟩)
      · cases hg
    | _ => cases hg
  | _ => cases a <;> cases hg
/-- a part of a slice -/
def partD : Option D → Option (Option Int)
  | none => some none
  | some (.int i) => some (some i)
  | some _ => none
def cutL (xs : List D) (lo hi : Option Int) : List D := (xs.drop (HT.sIx xs.length 0 lo)).take (HT.sIx xs.length xs.length hi - HT.sIx xs.length 0 lo)
def sliceD (x : D) (lo hi : Option Int) : Option D := match x with
  | .lst ds => some (.lst (cutL ds lo hi))
  | .scr ds => some (.lst (cutL ds lo hi))
  | .tup ds => some (.tup (cutL ds lo hi))
  | .str z => if z.length ≤ sizeLine then some (.str (cutS z lo hi)) else none
  | _ => none
theorem DnL.take {ds : List D} {vs : List V} (h : w.DnL F ds vs) (n : Nat) : w.DnL F (ds.take n) (vs.take n) := by
  induction ds generalizing vs n with
  | nil => unfold Wd.DnL DnL at h; subst h; simp; unfold DnL; rfl
  | cons d r ih =>
    unfold Wd.DnL DnL at h
    obtain ⟨v, ws, rfl, h1, h2⟩ := h
    cases n with
    | zero => simp; unfold DnL; rfl
    | succ n => show DnL _ _ F (d :: r.take n) (v :: ws.take n); unfold DnL; exact ⟨v, _, rfl, h1, ih h2 n⟩
theorem DnL.drop {ds : List D} {vs : List V} (h : w.DnL F ds vs) (n : Nat) : w.DnL F (ds.drop n) (vs.drop n) := by
  induction ds generalizing vs n with
  | nil => unfold Wd.DnL DnL at h; subst h; simp; unfold DnL; rfl
  | cons d r ih =>
    cases n with
    | zero => exact h
    | succ n =>
      unfold Wd.DnL DnL at h
      obtain ⟨v, ws, rfl, h1, h2⟩ := h
      exact ih h2 n
theorem DnL.cut {ds : List D} {vs : List V} (h : w.DnL F ds vs) (lo hi : Option Int) : w.DnL F (cutL ds lo hi) (cutV vs lo hi) := by
  unfold cutL cutV
  rw [DnL.length h]
  exact (h.drop _).take _
abbrev MP := Env → Store → R (Option Int)
def mNoPart : MP := fun _ st => .ok none st
def mPart (m : MV) : MP := fun env st => (m env st).bind fun s st1 => match s with
  | .d (.int i) => .ok (some i) st1
  | _ => .stuck
def RelP : Hp → List Addr → Option Int → Option Int → Prop := fun _ _ a b => b = a
abbrev tP (w : Wd) (W : WX) (m : MP) : TO := tG w RelP W m
theorem po_imp {X : Cx} {e : Option Expr} {t t' : TO} (h : PO X e t) (hi : ∀ σ H Q, t' σ H Q → t σ H Q) : PO X e t' := ⟨fun pins s σ H Q I q => h.run pins s σ H Q I (hi _ _ _ q)⟩
theorem vp_none : PO X none (tP w W mNoPart) := po_imp po_none fun σ H Q ⟨F, ρ, st, env, er, re, h⟩ => h F ρ H none (Ext.refl _ _ _) re rfl
theorem vp_some (he : PE X e (tE w W m)) : PO X (some e) (tP w W (mPart m)) := by
  refine po_imp (po_some he) fun σ H Q ⟨F, ρ, st, env, er, re, h⟩ => ?_
  rw [mPart, wpR_bind] at h
  refine tG.use er re h fun s st1 F1 ρ1 H1 x e1 er1 re1 hs h1 => ?_
  cases s with
  | own l => exact h1.elim
  | d d =>
    cases d with
    | int i =>
      unfold SVn Wd.Dn Dn at hs
      exact ⟨i, hs, h1 F1 ρ1 H1 _ e1 re1 rfl⟩
    | _ => exact h1.elim
def mSlice (m : MV) (lo hi : MP) : MV := fun env st => (m env st).bind fun s st1 => (lo env st1).bind fun l st2 => (hi env st2).bind fun h st3 => match view st3 s with
  | some x => match sliceD x l h with
    | some d => .ok (.d d) st3
    | none => .stuck
  | none => .stuck
theorem slr_or {X : Cx} {r r' : V → Option Int → Option Int → Hp → VK → Prop} (a : SlR X r) (b : SlR X r') : SlR X (fun x lo hi H Q => r x lo hi H Q ∨ r' x lo hi H Q) :=
  fun pins s σ H x v vl vu lo hi sl Q I rx hs h1 h2 h => h.elim (a pins s σ H x v vl vu lo hi sl Q I rx hs h1 h2) (b pins s σ H x v vl vu lo hi sl Q I rx hs h1 h2)
theorem ve_slice {lo hi : Option Expr} {ml mh : MP} {p2 : Pos} (he : PE X e (tE w W m)) (hl : PO X lo (tP w W ml)) (hh : PO X hi (tP w W mh)) (hK : w.K = X.K := by rfl) : PE X (.Subscript e (.Slice lo hi none p2) pos) (tE w W (mSlice m ml mh)) := by
  refine pe_imp (pe_slice (slr_or sl_list (slr_or sl_tupA sl_str)) he hl hh) fun σ H Q ⟨F, ρ, st, env, er, re, h⟩ => ?_
  rw [mSlice, wpR_bind] at h
  refine tG.use er re h fun s st1 F1 ρ1 H1 x e1 er1 re1 hs h1 => ?_
  rw [wpR_bind] at h1
  refine tG.use er1 re1 (wpR.upX e1 h1) fun l st2 F2 ρ2 H2 l' e2 er2 re2 hl h2 => ?_
  cases hl
  rw [wpR_bind] at h2
  refine tG.use er2 re2 (wpR.upX (e1.trans e2) h2) fun u st3 F3 ρ3 H3 u' e3 er3 re3 hu h3 => ?_
  cases hu
  have hs3 := (hs.ext e2).ext e3
  cases hv : view st3 s with
  | none => rw [hv] at h3; exact h3.elim
  | some xd =>
    rw [hv] at h3
    have ha := view_ok re3 hs3 hv
    cases hg : sliceD xd l u with
    | none => simp only [hg] at h3; exact h3.elim
    | some d =>
      simp only [hg] at h3
      have q : okD w F3 ρ3 st3 H3 Q d := fun F' H' v a b c => h3 F' ρ3 H' v (((e1.trans e2).trans e3).trans a) b c
      cases xd with
      | lst ds =>
        cases hg
        obtain ⟨p, vs, rfl, h4, h5⟩ := dnL re3 ha
        exact .inl ⟨p, vs, rfl, hK ▸ h4, fun p hp => q.lst re3 (h5.cut _ _) hp⟩
      | scr ds =>
        cases hg
        obtain ⟨p, vs, rfl, h4, h5⟩ := dnSc re3 ha
        exact .inl ⟨p, vs, rfl, hK ▸ h4, fun p hp => q.lst re3 (h5.cut _ _) hp⟩
      | tup ds =>
        cases hg
        have ha' := ha
        obtain ⟨p, vs, rfl, h4, h5⟩ := dnT re3 ha
        refine .inr (.inl ⟨p, vs, rfl, hK ▸ h4, fun hw => ?_, fun _ p hp => q.tup re3 (h5.cut _ _) hp⟩)
        have hl := DnL.length h5
        rw [hl] at hw
        have e : cutL ds l u = ds := by
          unfold cutL
          rw [hw.1, hw.2, List.drop_zero, Nat.sub_zero, List.take_length]
        rw [e] at q
        exact q.sc re3 ha'
      | str z =>
        simp only [sliceD] at hg
        split at hg
        · rename_i hz
          cases hg; cases dnS ha
          exact .inr (.inr ⟨z, rfl, hz, q.sc re3 mkS⟩)
        · cases hg
      | _ => cases hg
/-! ### built-in functions -/
def views (st : Store) : List SV → Option (List D)
  | [] => some []
  | s :: r => match view st s, views st r with
    | some d, some ds => some (d :: ds)
    | _, _ => none
def VwL (w : Wd) (F H : Hp) : List D → List V → Prop
  | [], vs => vs = []
  | d :: r, vs => ∃ v ws, vs = v :: ws ∧ Vw w F H d v ∧ VwL w F H r ws
theorem views_ok (re : Rel w F ρ st H) : ∀ {ss : List SV} {ds : List D} {vs : List V}, SVL w F ρ ss vs → views st ss = some ds → VwL w F H ds vs
  | [], ds, vs, h, e => by unfold SVL at h; cases e; unfold VwL; exact h
  | s :: r, ds, vs, h, e => by
    unfold SVL at h
    obtain ⟨v, ws, rfl, h1, h2⟩ := h
    unfold views at e
    cases h3 : view st s with
    | none => rw [h3] at e; cases e
    | some d =>
      cases h4 : views st r with
      | none => rw [h3, h4] at e; cases e
      | some es =>
        rw [h3, h4] at e; cases e
        unfold VwL
        exact ⟨v, ws, rfl, view_ok re h1 h3, views_ok re h2 h4⟩
def CallD (w : Wd) (X : Cx) (f : Value) (g : List D → Option D) : Prop :=
  ∃ r : List V → Hp → VK → Prop, CallR X f r ∧ ∀ F ρ st H xs ds d Q, Rel w F ρ st H → VwL w F H ds xs → g ds = some d → okD w F ρ st H Q d → r xs H Q
def mB (g : List D → Option D) (ml : ML) : MV := fun env st => (ml env st).bind fun ss st1 => match views st1 ss with
  | some ds => match g ds with
    | some d => .ok (.d d) st1
    | none => .stuck
  | none => .stuck
theorem callr_or {X : Cx} {f : Value} {r r' : List V → Hp → VK → Prop} (a : CallR X f r) (b : CallR X f r') : CallR X f (fun x H Q => r x H Q ∨ r' x H Q) := fun pins s σ H x v Q I rx h => h.elim (a pins s σ H x v Q I rx) (b pins s σ H x v Q I rx)
theorem mB_read {g : List D → Option D} {ml : ML} {r : List V → Hp → VK → Prop} (hr : ∀ F ρ st H xs ds d Q, Rel w F ρ st H → VwL w F H ds xs → g ds = some d → okD w F ρ st H Q d → r xs H Q) {Q : VK}
    (h : tE w W (mB g ml) σ H Q) : tCB r (tA w W ml) σ H Q := by
  obtain ⟨F, ρ, st, env, er, re, h⟩ := h
  rw [mB, wpR_bind] at h
  refine tG.use er re h fun ss st1 F1 ρ1 H1 vs e1 er1 re1 hs h1 => ?_
  cases hv : views st1 ss with
  | none => rw [hv] at h1; exact h1.elim
  | some ds =>
    rw [hv] at h1
    cases hg : g ds with
    | none => simp only [hg] at h1; exact h1.elim
    | some d =>
      simp only [hg] at h1
      exact hr F1 ρ1 st1 H1 vs ds d Q re1 (views_ok re1 hs hv) hg fun F' H' v a b c => h1 F' ρ1 H' v (e1.trans a) b c
variable {fx : Str} {p : Pos} {es : List Expr} {ml : ML} {bid T : String}
theorem ve_callB {g : List D → Option D} (hc : CallD w X (.builtin bid) g) (hg : Gl X fx) (hm : X.mg fx = none) (hv : bootBuiltins fx = some (.builtin bid)) (ha : PA X (e :: es) (tA w W ml)) (hn : fx ≠ "__name__" := by decide) (hdb : (fx == ("__debug__" : Str)) = false := by decide)
    (he : starEach (e :: es) X.env = (false, eval e X.env) :: starEach es X.env := by rfl) (hpl : (backTo pos (starEach es X.env)).any (·.1) = false := by rfl) : PE X (.Call (.Name fx p) (e :: es) [] pos) (tE w W (mB g ml)) := by
  obtain ⟨r, h1, h2⟩ := hc
  exact pe_imp (pe_callB h1 hg hm hv ha hn hdb he hpl) fun σ H Q h => mB_read h2 h
theorem ve_callTy {g : List D → Option D} (hc : CallD w X (.type T) g) (hg : Gl X fx) (hm : X.mg fx = none) (hv : bootBuiltins fx = some (.type T)) (ha : PA X (e :: es) (tA w W ml)) (hn : fx ≠ "__name__" := by decide) (hdb : (fx == ("__debug__" : Str)) = false := by decide)
    (he : starEach (e :: es) X.env = (false, eval e X.env) :: starEach es X.env := by rfl) (hpl : (backTo pos (starEach es X.env)).any (·.1) = false := by rfl) : PE X (.Call (.Name fx p) (e :: es) [] pos) (tE w W (mB g ml)) := by
  obtain ⟨r, h1, h2⟩ := hc
  exact pe_imp (pe_callTy h1 hg hm hv ha hn hdb he hpl) fun σ H Q h => mB_read h2 h
theorem vw1 {d : D} {vs : List V} (h : VwL w F H [d] vs) : ∃ v, vs = [v] ∧ Vw w F H d v := by
  unfold VwL at h
  obtain ⟨v, ws, rfl, h1, h2⟩ := h
  unfold VwL at h2
  subst h2
  exact ⟨v, rfl, h1⟩
theorem vw2 {d e : D} {vs : List V} (h : VwL w F H [d, e] vs) : ∃ v u, vs = [v, u] ∧ Vw w F H d v ∧ Vw w F H e u := by
  unfold VwL at h
  obtain ⟨v, ws, rfl, h1, h2⟩ := h
  obtain ⟨u, rfl, h3⟩ := vw1 h2
  exact ⟨v, u, rfl, h1, h3⟩
def lenD : List D → Option D
  | [.str x] => if x.length ≤ sizeLine then some (.int x.length) else none
  | [.lst ds] => some (.int ds.length)
  | [.scr ds] => some (.int ds.length)
  | [.tup ds] => some (.int ds.length)
  | _ => none
theorem one_of {g : List D → Option D} {ds : List D} {d : D} (h : g ds = some d) (h0 : g [] = none) (h2 : ∀ a b r, g (a :: b :: r) = none) : ∃ x, ds = [x] := by
  match ds with
  | [] => rw [h0] at h; cases h
  | [x] => exact ⟨x, rfl⟩
  | a :: b :: r => rw [h2] at h; cases h
theorem two_of {g : List D → Option D} {ds : List D} {d : D} (h : g ds = some d) (h0 : g [] = none) (h1 : ∀ a, g [a] = none) (h3 : ∀ a b c r, g (a :: b :: c :: r) = none) : ∃ x y, ds = [x, y] := by
  match ds with
  | [] => rw [h0] at h; cases h
  | [a] => rw [h1] at h; cases h
  | [x, y] => exact ⟨x, y, rfl⟩
  | a :: b :: c :: r => rw [h3] at h; cases h
theorem cd_len (hK : w.K = X.K := by rfl) : CallD w X (.builtin "len") lenD := by
  refine ⟨_, call_len, fun F ρ st H xs ds d Q re h hg q => ?_⟩
  obtain ⟨x, rfl⟩ := one_of hg rfl (fun a b r => by cases a <;> rfl)
  obtain ⟨v, rfl, hv⟩ := vw1 h
  cases x with
  | str z =>
    cases dnS hv
    simp only [lenD] at hg
    split at hg
    · rename_i hz; cases hg; exact ⟨_, _, rfl, ⟨hz, rfl⟩, q.sc re mkI⟩
    · cases hg
  | lst ds =>
    cases hg
    obtain ⟨p, vs, rfl, h4, h5⟩ := dnL re hv
    exact ⟨_, ds.length, rfl, .inl ⟨vs, hK ▸ h4, (DnL.length h5).symm⟩, q.sc re mkI⟩
  | scr ds =>
    cases hg
    obtain ⟨p, vs, rfl, h4, h5⟩ := dnSc re hv
    exact ⟨_, ds.length, rfl, .inl ⟨vs, hK ▸ h4, (DnL.length h5).symm⟩, q.sc re mkI⟩
  | tup ds =>
    cases hg
    obtain ⟨p, vs, rfl, h4, h5⟩ := dnT re hv
    exact ⟨_, ds.length, rfl, .inr ⟨vs, hK ▸ h4, (DnL.length h5).symm⟩, q.sc re mkI⟩
  | _ => cases hg
def tupleD : List D → Option D
  | [.lst ds] => some (.tup ds)
  | [.scr ds] => some (.tup ds)
  | [.tup ds] => some (.tup ds)
  | _ => none
theorem cd_tuple (hK : w.K = X.K := by rfl) : CallD w X (.type "tuple") tupleD := by
  refine ⟨_, call_tuple_of, fun F ρ st H xs ds d Q re h hg q => ?_⟩
  obtain ⟨x, rfl⟩ := one_of hg rfl (fun a b r => by cases a <;> rfl)
  obtain ⟨v, rfl, hv⟩ := vw1 h
  cases x with
  | lst ds =>
    cases hg
    obtain ⟨p, vs, rfl, h4, h5⟩ := dnL re hv
    exact ⟨p, vs, rfl, .inl ⟨hK ▸ h4, fun l hl => q.tup re h5 hl⟩⟩
  | scr ds =>
    cases hg
    obtain ⟨p, vs, rfl, h4, h5⟩ := dnSc re hv
    exact ⟨p, vs, rfl, .inl ⟨hK ▸ h4, fun l hl => q.tup re h5 hl⟩⟩
  | tup ds =>
    cases hg
    obtain ⟨p, vs, rfl, h4, h5⟩ := dnT re hv
    exact ⟨p, vs, rfl, .inr ⟨hK ▸ h4, q.sc re hv⟩⟩
  | _ => cases hg
def listD : List D → Option D
  | [.lst ds] => some (.lst ds)
  | [.scr ds] => some (.lst ds)
  | [.tup ds] => some (.lst ds)
  | _ => none
theorem cd_list (hK : w.K = X.K := by rfl) : CallD w X (.type "list") listD := by
  refine ⟨_, call_list_of, fun F ρ st H xs ds d Q re h hg q => ?_⟩
  obtain ⟨x, rfl⟩ := one_of hg rfl (fun a b r => by cases a <;> rfl)
  obtain ⟨v, rfl, hv⟩ := vw1 h
  cases x with
  | lst ds =>
    cases hg
    obtain ⟨p, vs, rfl, h4, h5⟩ := dnL re hv
    exact ⟨p, vs, rfl, .inl (hK ▸ h4), fun l hl => q.lst re h5 hl⟩
  | scr ds =>
    cases hg
    obtain ⟨p, vs, rfl, h4, h5⟩ := dnSc re hv
    exact ⟨p, vs, rfl, .inl (hK ▸ h4), fun l hl => q.lst re h5 hl⟩
  | tup ds =>
    cases hg
    obtain ⟨p, vs, rfl, h4, h5⟩ := dnT re hv
    exact ⟨p, vs, rfl, .inr (hK ▸ h4), fun l hl => q.lst re h5 hl⟩
  | _ => cases hg
def strD : List D → Option D
  | [.int i] => if i.natAbs.log2 < 1920 then some (.str (toString i)) else none
  | [.str x] => some (.str x)
  | _ => none
theorem cd_str : CallD w X (.type "str") strD := by
  refine ⟨_, callr_or call_str_int SkE.call_str_str, fun F ρ st H xs ds d Q re h hg q => ?_⟩
  obtain ⟨x, rfl⟩ := one_of hg rfl (fun a b r => by cases a <;> rfl)
  obtain ⟨v, rfl, hv⟩ := vw1 h
  cases x with
  | int i =>
    cases dnI hv
    simp only [strD] at hg
    split at hg
    · rename_i hz; cases hg; exact .inl ⟨i, rfl, hz, q.sc re mkS⟩
    · cases hg
  | str i => cases dnS hv; cases hg; exact .inr ⟨i, rfl, q.sc re mkS⟩
  | _ => cases hg
def intD : List D → Option D
  | [.int i] => some (.int i)
  | [.bl b] => some (.int (if b = true then 1 else 0))
  | [.str x] => match PySem.intText? x with
    | some n => if x.length ≤ 640 then some (.int n) else none
    | none => none
  | _ => none
theorem cd_int : CallD w X (.type "int") intD := by
  refine ⟨_, callr_or call_int1 call_int_str, fun F ρ st H xs ds d Q re h hg q => ?_⟩
  obtain ⟨x, rfl⟩ := one_of hg rfl (fun a b r => by cases a <;> rfl)
  obtain ⟨v, rfl, hv⟩ := vw1 h
  cases x with
  | int i => cases dnI hv; cases hg; exact .inl (.inl ⟨i, rfl, q.sc re mkI⟩)
  | bl b => cases dnB hv; cases hg; exact .inl (.inr ⟨b, rfl, q.sc re mkI⟩)
  | str z =>
    cases dnS hv
    simp only [intD] at hg
    split at hg
    · rename_i n hn
      split at hg
      · rename_i hz; cases hg; exact .inr ⟨z, n, rfl, hn, hz, q.sc re mkI⟩
      · cases hg
    · cases hg
  | _ => cases hg
def absD : List D → Option D
  | [.int i] => some (.int (if i < 0 then -i else i))
  | _ => none
theorem cd_abs : CallD w X (.builtin "abs") absD := by
  refine ⟨_, call_abs, fun F ρ st H xs ds d Q re h hg q => ?_⟩
  obtain ⟨x, rfl⟩ := one_of hg rfl (fun a b r => by cases a <;> rfl)
  obtain ⟨v, rfl, hv⟩ := vw1 h
  cases x with
  | int i => cases dnI hv; cases hg; exact ⟨i, rfl, q.sc re mkI⟩
  | _ => cases hg
def intsOf : List D → Option (List Int)
  | [] => some []
  | .int i :: r => (intsOf r).map fun t => i :: t
  | _ :: _ => none
theorem ints_ok : ∀ {ds : List D} {ns : List Int} {vs : List V}, w.DnL F ds vs → intsOf ds = some ns → vs = ns.map V.int
  | [], ns, vs, h, e => by cases e; unfold Wd.DnL DnL at h; exact h
  | .int i :: r, ns, vs, h, e => by
    unfold intsOf at e
    cases hr : intsOf r with
    | none => rw [hr] at e; cases e
    | some t =>
      rw [hr] at e; cases e
      unfold Wd.DnL DnL at h
      obtain ⟨v, ws, rfl, h1, h2⟩ := h
      unfold Dn at h1
      subst h1
      rw [ints_ok h2 hr]
      rfl
  | .non :: r, ns, vs, h, e => by cases e
  | .bl _ :: r, ns, vs, h, e => by cases e
  | .str _ :: r, ns, vs, h, e => by cases e
  | .tup _ :: r, ns, vs, h, e => by cases e
  | .lst _ :: r, ns, vs, h, e => by cases e
  | .scr _ :: r, ns, vs, h, e => by cases e
  | .dct _ :: r, ns, vs, h, e => by cases e
  | .dcn _ :: r, ns, vs, h, e => by cases e
  | .obj _ _ :: r, ns, vs, h, e => by cases e
  | .cls _ :: r, ns, vs, h, e => by cases e
  | .ty _ :: r, ns, vs, h, e => by cases e
  | .adr _ :: r, ns, vs, h, e => by cases e
def blsOf : List D → Option (List Bool)
  | [] => some []
  | .bl i :: r => (blsOf r).map fun t => i :: t
  | _ :: _ => none
theorem bls_ok : ∀ {ds : List D} {ns : List Bool} {vs : List V}, w.DnL F ds vs → blsOf ds = some ns → vs = ns.map V.bl
  | [], ns, vs, h, e => by cases e; unfold Wd.DnL DnL at h; exact h
  | .bl i :: r, ns, vs, h, e => by
    unfold blsOf at e
    cases hr : blsOf r with
    | none => rw [hr] at e; cases e
    | some t =>
      rw [hr] at e; cases e
      unfold Wd.DnL DnL at h
      obtain ⟨v, ws, rfl, h1, h2⟩ := h
      unfold Dn at h1
      subst h1
      rw [bls_ok h2 hr]
      rfl
  | .non :: r, ns, vs, h, e => by cases e
  | .int _ :: r, ns, vs, h, e => by cases e
  | .str _ :: r, ns, vs, h, e => by cases e
  | .tup _ :: r, ns, vs, h, e => by cases e
  | .lst _ :: r, ns, vs, h, e => by cases e
  | .scr _ :: r, ns, vs, h, e => by cases e
  | .dct _ :: r, ns, vs, h, e => by cases e
  | .dcn _ :: r, ns, vs, h, e => by cases e
  | .obj _ _ :: r, ns, vs, h, e => by cases e
  | .cls _ :: r, ns, vs, h, e => by cases e
  | .ty _ :: r, ns, vs, h, e => by cases e
  | .adr _ :: r, ns, vs, h, e => by cases e
def sumD : List D → Option D
  | [.lst ds] => (intsOf ds).map fun ns => .int ns.sum
  | _ => none
theorem cd_sum (hc : X.calm = true) (hK : w.K = X.K := by rfl) : CallD w X (.builtin "sum") sumD := by
  refine ⟨_, cr_sum hc, fun F ρ st H xs ds d Q re h hg q => ?_⟩
  obtain ⟨x, rfl⟩ := one_of hg rfl (fun a b r => by cases a <;> rfl)
  obtain ⟨v, rfl, hv⟩ := vw1 h
  cases x with
  | lst ds =>
    obtain ⟨p, vs, rfl, h4, h5⟩ := dnL re hv
    cases hn : intsOf ds with
    | none => simp [sumD, hn] at hg
    | some ns =>
      simp [sumD, hn] at hg
      subst hg
      rw [ints_ok h5 hn] at h4
      exact ⟨p, ns, rfl, hK ▸ h4, q.sc re mkI⟩
  | _ => cases hg
def allD : List D → Option D
  | [.lst ds] => (blsOf ds).map fun ns => .bl (ns.all id)
  | _ => none
theorem cd_all (hc : X.calm = true) (hK : w.K = X.K := by rfl) : CallD w X (.builtin "all") allD := by
  refine ⟨_, cr_all hc, fun F ρ st H xs ds d Q re h hg q => ?_⟩
  obtain ⟨x, rfl⟩ := one_of hg rfl (fun a b r => by cases a <;> rfl)
  obtain ⟨v, rfl, hv⟩ := vw1 h
  cases x with
  | lst ds =>
    obtain ⟨p, vs, rfl, h4, h5⟩ := dnL re hv
    cases hn : blsOf ds with
    | none => simp [allD, hn] at hg
    | some ns =>
      simp [allD, hn] at hg
      subst hg
      rw [bls_ok h5 hn] at h4
      exact ⟨p, ns, rfl, hK ▸ h4, q.sc re mkB⟩
  | _ => cases hg
def anyD : List D → Option D
  | [.lst ds] => (blsOf ds).map fun ns => .bl (ns.any id)
  | _ => none
theorem cd_any (hc : X.calm = true) (hK : w.K = X.K := by rfl) : CallD w X (.builtin "any") anyD := by
  refine ⟨_, cr_any hc, fun F ρ st H xs ds d Q re h hg q => ?_⟩
  obtain ⟨x, rfl⟩ := one_of hg rfl (fun a b r => by cases a <;> rfl)
  obtain ⟨v, rfl, hv⟩ := vw1 h
  cases x with
  | lst ds =>
    obtain ⟨p, vs, rfl, h4, h5⟩ := dnL re hv
    cases hn : blsOf ds with
    | none => simp [anyD, hn] at hg
    | some ns =>
      simp [anyD, hn] at hg
      subst hg
      rw [bls_ok h5 hn] at h4
      exact ⟨p, ns, rfl, hK ▸ h4, q.sc re mkB⟩
  | _ => cases hg
end
end VL
set_option Elab.async false
set_option linter.all false
set_option maxRecDepth 100000
set_option maxHeartbeats 4000000
namespace VL
open PySem L2
section
variable {w : Wd} {X : Cx} {W : WX} {F H : Hp} {ρ : List Addr} {st : Store} {Q : VK} {e c o i : Expr} {pos : Pos} {m ma mb mo mi me : MV} {σ : St} {env : Env}
/-! ### cells -/
theorem Rel.alloc {p : Addr} {u : HO} {cl : Cell} (re : Rel w F ρ st H) (hp : H p = none) (hc : CellAt w F (ρ ++ [p]) p (upd H p u) cl) : Rel w F (ρ ++ [p]) (st ++ [cl]) (upd H p u) := by
  have hf := re.sub.free hp
  have hnin : p ∉ ρ := fun m => by obtain ⟨o, ho⟩ := re.there _ m; rw [hp] at ho; cases ho
  have rs := re.side (o := u) hf hnin
  have hlen := re.len
  refine ⟨rs.sub, by simp [hlen], fun a ha => ?_, fun l a c h1 h2 => ?_, ?_, re.lo⟩
  · rcases List.mem_append.mp ha with h | h
    · exact rs.there a h
    · rw [List.mem_singleton.mp h]; exact ⟨u, upd_same⟩
  · by_cases hl : l < ρ.length
    · rw [List.getElem?_append_left hl] at h1
      rw [List.getElem?_append_left (by omega)] at h2
      have q := rs.cell l a c h1 h2
      cases c with
      | lst m ds => cases m <;> exact q
      | dct m ds => cases m <;> exact q
      | dcn m ds => cases m <;> exact q
      | obj cc fs => obtain ⟨dx, ws, a1, a2, a3⟩ := q; exact ⟨dx, ws, a1, a2, a3.mono (Fle.refl _) (Rle.app _ _)⟩
      | dead => trivial
    · rw [List.getElem?_append_right (by omega)] at h1
      rw [List.getElem?_append_right (by omega)] at h2
      have e1 : l - ρ.length = 0 := by have := (List.getElem?_eq_some_iff.mp h1).1; simp at this; omega
      have e2 : l - st.length = 0 := by omega
      rw [e1] at h1
      rw [e2] at h2
      simp at h1 h2
      subst h1; subst h2
      exact hc
  · rw [List.nodup_append]
    refine ⟨re.nd, by simp, fun a ha b hb => ?_⟩
    rw [List.mem_singleton.mp hb]
    intro z
    exact hnin (z ▸ ha)
theorem Ext.alloc {F1 H1 : Hp} {ρ1 : List Addr} {p : Addr} {u : HO} (x : Ext F ρ H F1 ρ1 H1) (hp : H1 p = none) : Ext F ρ H F1 (ρ1 ++ [p]) (upd H1 p u) :=
  x.trans ⟨Fle.refl _, Rle.app _ _, fun a o e n => by rw [upd_ne (ne_of_none e hp)]; exact e, fun a ha => (List.mem_append.mp ha).elim .inl fun h => .inr (by rw [List.mem_singleton.mp h]; exact hp), fun a o e => .inl e⟩
/-- [e, ..] for a name whose list will change -/
def mLstM (r : ML) : MV := fun env st => (r env st).bind fun ss st1 => match datas ss with
  | some ds => if ds.length ≤ sizeLine then .ok (.own st1.length) (st1 ++ [.lst true ds]) else .stuck
  | none => .stuck
theorem ve_lstM {es : List Expr} {mr : ML} (hr : PA X es (tA w W mr)) : PE X (.List es pos) (tE w W (mLstM mr)) := by
  refine pe_imp (pe_lst hr) fun σ H Q ⟨F, ρ, st, env, er, re, h⟩ => ?_
  rw [mLstM, wpR_bind] at h
  refine tG.use er re h fun ss st1 F1 ρ1 H1 vs e1 er1 re1 hs h1 => ?_
  cases hd : datas ss with
  | none => rw [hd] at h1; exact h1.elim
  | some ds =>
    rw [hd] at h1
    have hn := datas_ok hs hd
    have hl := DnL.length hn
    by_cases hz : ds.length ≤ sizeLine
    · simp only [if_pos hz] at h1
      refine ⟨by rw [hl]; exact hz, fun p hp => ?_⟩
      have hf := re1.sub.free hp
      refine h1 F1 (ρ1 ++ [p]) _ _ (e1.alloc hp) (re1.alloc hp ⟨vs, upd_same, hf, hn⟩) ⟨p, ?_, rfl⟩
      rw [← re1.len]
      simp
    · simp only [if_neg hz] at h1; exact h1.elim
/-- a cell is written -/
theorem Rel.write {l : Nat} {a : Addr} {u : HO} {cl : Cell} (re : Rel w F ρ st H) (ha : ρ[l]? = some a) (hf : F a = none) (hc : CellAt w F ρ a (upd H a u) cl) : Rel w F ρ (st.set l cl) (upd H a u) := by
  refine ⟨fun b o e => ?_, by simp [re.len], fun b hb => ?_, fun j b c h1 h2 => ?_, re.nd, re.lo⟩
  · rw [upd_ne (fun z => by rw [z, hf] at e; cases e)]; exact re.sub b o e
  · by_cases q : b = a
    · subst q; exact ⟨u, upd_same⟩
    · rw [upd_ne q]; exact re.there b hb
  · by_cases hj : l = j
    · subst hj
      rw [ha] at h1
      cases h1
      have hlt : l < st.length := by have := (List.getElem?_eq_some_iff.mp ha).1; have := re.len; omega
      rw [List.getElem?_set_self hlt] at h2
      cases h2
      exact hc
    · rw [List.getElem?_set_ne hj] at h2
      have q := re.cell j b c h1 h2
      have ne : b ≠ a := fun z => by
        subst z
        have := (List.getElem?_inj (List.getElem?_eq_some_iff.mp ha).1 re.nd).mp (ha.trans h1.symm)
        exact hj this
      cases c with
      | lst m ds =>
        cases m with
        | true => obtain ⟨vs, a1, a2, a3⟩ := q; exact ⟨vs, by rw [upd_ne ne]; exact a1, a2, a3⟩
        | false => exact q
      | dct m ds =>
        cases m with
        | true => obtain ⟨vs, a1, a2, a3⟩ := q; exact ⟨vs, by rw [upd_ne ne]; exact a1, a2, a3⟩
        | false => exact q
      | dcn m ds =>
        cases m with
        | true => obtain ⟨vs, a1, a2, a3⟩ := q; exact ⟨vs, by rw [upd_ne ne]; exact a1, a2, a3⟩
        | false => exact q
      | obj cc fs => obtain ⟨dx, ws, a1, a2, a3⟩ := q; exact ⟨dx, ws, by rw [upd_ne ne]; exact a1, a2, a3⟩
      | dead => trivial
theorem Ext.write {F1 H1 : Hp} {ρ1 : List Addr} {a : Addr} {u : HO} (x : Ext F ρ H F1 ρ1 H1) (ha : a ∈ ρ1) : Ext F ρ H F1 ρ1 (upd H1 a u) :=
  x.trans ⟨Fle.refl _, Rle.refl _, fun b o e n => by
    have ne : b ≠ a := fun z => by subst z; exact n ha
    rw [upd_ne ne]; exact e, fun _ h => .inl h, fun _ _ h => .inl h⟩
/-- a handle's list is frozen as it stands -/
def mFrz (m : MV) : MV := fun env st => (m env st).bind fun s st1 => match s with
  | .d x => .ok (.d x) st1
  | .own l => match st1[l]? with
    | some (.lst _ ds) => .ok (.d (.lst ds)) (st1.set l (.lst false ds))
    | some (.dct _ ds) => .ok (.d (.dct ds)) (st1.set l (.dct false ds))
    | some (.dcn _ ds) => .ok (.d (.dcn ds)) (st1.set l (.dcn false ds))
    | _ => .stuck
theorem Rel.frzCell {l : Nat} {a : Addr} {u : HO} {cl : Cell} (re : Rel w F ρ st H) (ha : ρ[l]? = some a) (hH : H a = some u) (hf : F a = none) (hc : CellAt w (upd F a u) ρ a H cl) : Rel w (upd F a u) ρ (st.set l cl) H := by
  have hle : Fle F (upd F a u) := Fle.new hf
  refine ⟨fun b o e => ?_, by simp [re.len], re.there, fun j b c h1 h2 => ?_, re.nd, re.lo.trans hle⟩
  · by_cases q : b = a
    · subst q; rw [upd_same] at e; rw [hH]; exact e
    · rw [upd_ne q] at e; exact re.sub b o e
  · by_cases hj : l = j
    · subst hj
      rw [ha] at h1
      cases h1
      have hlt : l < st.length := by have := (List.getElem?_eq_some_iff.mp ha).1; have := re.len; omega
      rw [List.getElem?_set_self hlt] at h2
      cases h2
      exact hc
    · rw [List.getElem?_set_ne hj] at h2
      have q := re.cell j b c h1 h2
      have ne : b ≠ a := fun z => by
        subst z
        have := (List.getElem?_inj (List.getElem?_eq_some_iff.mp ha).1 re.nd).mp (ha.trans h1.symm)
        exact hj this
      cases c with
      | lst m ds =>
        cases m with
        | true => obtain ⟨vs, a1, a2, a3⟩ := q; exact ⟨vs, a1, by rw [upd_ne ne]; exact a2, DnL.mono hle _ _ a3⟩
        | false => obtain ⟨vs, a1, a3⟩ := q; exact ⟨vs, hle _ _ a1, DnL.mono hle _ _ a3⟩
      | dct m ds =>
        cases m with
        | true => obtain ⟨vs, a1, a2, a3⟩ := q; exact ⟨vs, a1, by rw [upd_ne ne]; exact a2, DnK.mono hle _ _ a3⟩
        | false => obtain ⟨vs, a1, a3⟩ := q; exact ⟨vs, hle _ _ a1, DnK.mono hle _ _ a3⟩
      | dcn m ds =>
        cases m with
        | true => obtain ⟨vs, a1, a2, a3⟩ := q; exact ⟨vs, a1, by rw [upd_ne ne]; exact a2, DnE.mono hle _ _ a3⟩
        | false => obtain ⟨vs, a1, a3⟩ := q; exact ⟨vs, hle _ _ a1, DnE.mono hle _ _ a3⟩
      | obj cc fs => obtain ⟨dx, ws, a1, a2, a3⟩ := q; exact ⟨dx, ws, a1, by rw [upd_ne ne]; exact a2, a3.mono hle (Rle.refl _)⟩
      | dead => trivial
theorem Ext.frzCell {F1 H1 : Hp} {ρ1 : List Addr} {a : Addr} {u : HO} (x : Ext F ρ H F1 ρ1 H1) (ha : a ∈ ρ1) (hf : F1 a = none) : Ext F ρ H (upd F1 a u) ρ1 H1 :=
  x.trans ⟨Fle.new hf, Rle.refl _, fun b o e n => e, fun _ h => .inl h, fun b o h => by
    by_cases q : b = a
    · subst q; exact .inr (.inr ha)
    · rw [upd_ne q] at h; exact .inl h⟩
theorem set_same {α : Type} {xs : List α} {l : Nat} {x : α} (h : xs[l]? = some x) : xs.set l x = xs := by
  apply List.ext_getElem?
  intro j
  by_cases hj : l = j
  · subst hj
    rw [List.getElem?_set_self (List.getElem?_eq_some_iff.mp h).1, h]
  · rw [List.getElem?_set_ne hj]
theorem ve_frz (h : PE X e (tE w W m)) : PE X e (tE w W (mFrz m)) := by
  refine pe_imp h fun σ H Q ⟨F, ρ, st, env, er, re, h⟩ => ?_
  rw [mFrz, wpR_bind] at h
  refine ⟨F, ρ, st, env, er, re, wpR_mono h (fun s st1 h1 => ?_) (fun _ _ z => z)⟩
  intro F1 ρ1 H1 v e1 re1 hs
  cases s with
  | d x => exact h1 F1 ρ1 H1 v e1 re1 hs
  | own l =>
    obtain ⟨a, ha, rfl⟩ := hs
    cases hc : st1[l]? with
    | none => simp only [hc] at h1; exact h1.elim
    | some cl =>
      simp only [hc] at h1
      have q := re1.cell l a cl ha hc
      cases cl with
      | lst m ds =>
        cases m with
        | true =>
          obtain ⟨vs, a1, a2, a3⟩ := q
          have hd : w.DnL (upd F1 a (.lst vs)) ds vs := DnL.mono (Fle.new a2) _ _ a3
          refine h1 (upd F1 a (.lst vs)) ρ1 H1 _ (e1.frzCell (List.mem_of_getElem? ha) a2) (re1.frzCell ha a1 a2 ⟨vs, upd_same, hd⟩) ?_
          unfold SVn Wd.Dn Dn
          exact ⟨a, vs, rfl, upd_same, hd⟩
        | false =>
          have q' := q
          obtain ⟨vs, a1, a3⟩ := q
          dsimp only at h1
          rw [set_same hc] at h1
          refine h1 F1 ρ1 H1 _ e1 re1 ?_
          unfold SVn Wd.Dn Dn
          exact ⟨a, vs, rfl, a1, a3⟩
      | dct m ds =>
        cases m with
        | true =>
          obtain ⟨vs, a1, a2, a3⟩ := q
          have hd : DnK w.K w.ct (upd F1 a (.dK vs)) ds vs := DnK.mono (Fle.new a2) _ _ a3
          refine h1 (upd F1 a (.dK vs)) ρ1 H1 _ (e1.frzCell (List.mem_of_getElem? ha) a2) (re1.frzCell ha a1 a2 ⟨vs, upd_same, hd⟩) ?_
          unfold SVn Wd.Dn Dn
          exact ⟨a, vs, rfl, upd_same, hd⟩
        | false =>
          obtain ⟨vs, a1, a3⟩ := q
          dsimp only at h1
          rw [set_same hc] at h1
          refine h1 F1 ρ1 H1 _ e1 re1 ?_
          unfold SVn Wd.Dn Dn
          exact ⟨a, vs, rfl, a1, a3⟩
      | dcn m ds =>
        cases m with
        | true =>
          obtain ⟨vs, a1, a2, a3⟩ := q
          have hd : DnE w.K w.ct (upd F1 a (dnO w.ct a vs)) ds vs.2 := DnE.mono (Fle.new a2) _ _ a3
          refine h1 (upd F1 a (dnO w.ct a vs)) ρ1 H1 _ (e1.frzCell (List.mem_of_getElem? ha) a2) (re1.frzCell ha a1 a2 ⟨vs, upd_same, hd⟩) ?_
          unfold SVn Wd.Dn Dn
          exact ⟨a, vs, rfl, upd_same, hd⟩
        | false =>
          obtain ⟨vs, a1, a3⟩ := q
          dsimp only at h1
          rw [set_same hc] at h1
          refine h1 F1 ρ1 H1 _ e1 re1 ?_
          unfold SVn Wd.Dn Dn
          exact ⟨a, vs, rfl, a1, a3⟩
      | obj cc fs => exact h1.elim
      | dead => exact h1.elim
/-! ### xs.append(e), xs[i] = e -/
def mAppend (mo me : MV) : MV := fun env st => (mo env st).bind fun s st1 => match s with
  | .own l => match st1[l]? with
    | some (.lst _ _) => (me env st1).bind fun t st2 => match t with
      | .d x => match st2[l]? with
        | some (.lst true ds) => if ds.length < sizeLine then .ok (.d .non) (st2.set l (.lst true (ds ++ [x]))) else .stuck
        | _ => .stuck
      | .own _ => .stuck
    | _ => .stuck
  | .d _ => .stuck
theorem cell_sq {l : Nat} {a : Addr} {m : Bool} {ds : List D} (re : Rel w F ρ st H) (ha : ρ[l]? = some a) (hc : st[l]? = some (.lst m ds)) : ∃ vs, H a = some (.lst vs) ∧ w.DnL F ds vs := by
  have q := re.cell l a _ ha hc
  cases m with
  | true => obtain ⟨vs, a1, a2, a3⟩ := q; exact ⟨vs, a1, a3⟩
  | false => obtain ⟨vs, a1, a3⟩ := q; exact ⟨vs, re.sub _ _ a1, a3⟩
theorem ve_append {apos cpos : Pos} (ho : PE X o (tE w W mo)) (he : PE X e (tE w W me)) (hK : w.K = X.K := by rfl) (hb : attributeBase o "append" X.env (eval o X.env) = eval o X.env := by rfl)
    (h1 : (((backTo cpos (starEach [e] X.env)).all (fun x => !x.1) && (backToKw cpos (keywordEach [] X.env)).all (fun x => x.1.isSome)) && decide (([e].length + ([] : List Keyword).length + if ([] : List Keyword).isEmpty = true then 0 else 1) < 30)) = true := by rfl)
    (h2 : (apos.endLine == cpos.line) = true := by rfl) (h3 : starEach [e] X.env = (false, eval e X.env) :: starEach [] X.env := by rfl) (h4 : (backTo cpos (starEach [] X.env)).any (·.1) = false := by rfl) :
    PE X (.Call (.Attribute o "append" apos) [e] [] cpos) (tE w W (mAppend mo me)) := by
  refine pe_imp (pe_bm PySem.F.plainAttrs_list PySem.F.slot_list_append PySem.F.type_list_append mt_append ho (pa_cons he pa_nil h3) hb h1 h2 h3 h4) fun σ H Q ⟨F, ρ, st, env, er, re, h⟩ => ?_
  rw [mAppend, wpR_bind] at h
  refine tG.use er re h fun s st1 F1 ρ1 H1 x e1 er1 re1 hs h1 => ?_
  cases s with
  | d z => exact h1.elim
  | own l =>
    obtain ⟨a, ha, rfl⟩ := hs
    dsimp only at h1
    cases hc : st1[l]? with
    | none => rw [hc] at h1; exact h1.elim
    | some cl =>
      rw [hc] at h1
      cases cl with
      | lst m0 ds0 =>
        obtain ⟨vs0, b1, b2⟩ := cell_sq re1 ha hc
        dsimp only at h1
        rw [wpR_bind] at h1
        refine ⟨.inl ⟨rfl, vs0, SqL.of b1⟩, tG.use er1 re1 (wpR.upX e1 h1) fun t st2 F2 ρ2 H2 y e2 er2 re2 ht h2 => ?_⟩
        cases t with
        | own _ => exact h2.elim
        | d xd =>
          dsimp only at h2
          cases hc2 : st2[l]? with
          | none => rw [hc2] at h2; exact h2.elim
          | some cl2 =>
            rw [hc2] at h2
            have ha2 := e2.r l a ha
            have q := re2.cell l a cl2 ha2 hc2
            cases cl2 with
            | lst m2 ds =>
              cases m2 with
              | false => exact h2.elim
              | true =>
                dsimp only at h2
                by_cases hz : ds.length < sizeLine
                · rw [if_pos hz] at h2
                  obtain ⟨vs, a1, a2, a3⟩ := q
                  refine ⟨a, vs, y, rfl, rfl, a1, by rw [DnL.length a3]; exact hz, ?_⟩
                  exact h2 F2 ρ2 _ .non ((e1.trans e2).write (List.mem_of_getElem? ha2)) (re2.write ha2 a2 ⟨vs ++ [y], upd_same, a2, a3.snoc ht⟩) (by unfold SVn Wd.Dn Dn; rfl)
                · rw [if_neg hz] at h2; exact h2.elim
            | _ => exact h2.elim
      | _ => exact h1.elim
/-- xs[i] = e -/
def mSetIx (mo mi me : MV) : MS := fun env st => toFl (me env st) env fun t st1 => toFl (mo env st1) env fun s st2 => toFl (mi env st2) env fun k st3 => match t, s, k with
  | .d x, .own l, .d (.int i) => match st3[l]? with
    | some (.lst true ds) => match ixN ds.length i with
      | some j => .nx env (st3.set l (.lst true (ds.set j x)))
      | none => .stuck
    | _ => .stuck
  | _, _, _ => .stuck
theorem DnL.set {ds : List D} {vs : List V} {d : D} {v : V} (h : w.DnL F ds vs) (hd : w.Dn F d v) (j : Nat) : w.DnL F (ds.set j d) (vs.set j v) := by
  induction ds generalizing vs j with
  | nil => unfold Wd.DnL DnL at h; subst h; simp; unfold DnL; rfl
  | cons x r ih =>
    unfold Wd.DnL DnL at h
    obtain ⟨y, ws, rfl, h1, h2⟩ := h
    cases j with
    | zero => show DnL _ _ F (d :: r) (v :: ws); unfold DnL; exact ⟨v, ws, rfl, hd, h2⟩
    | succ j => show DnL _ _ F (x :: r.set j d) (y :: ws.set j v); unfold DnL; exact ⟨y, _, rfl, h1, ih h2 j⟩
theorem vs_setIx {pos' : Pos} (he : PE X e (tE w W me)) (ho : PE X o (tE w W mo)) (hi : PE X i (tE w W mi))
    (hp : ∀ (v : Value), assign (.Subscript o i pos') X.env v = (do
      let ov ← holding [v] (eval o X.env)
      let iv ← holding [v, ov] (eval i X.env)
      standAt pos'
      holding [v, ov, iv] (setItem ov iv v)
      release [v, ov, iv] []) := by intro _; rfl)
    (h1 : swapsWithSole [.Subscript o i pos'] e pos.line X.env = pure false := by rfl) (h2 : swappedStores [.Subscript o i pos'] e X.env = pure none := by rfl) (h3 : (assignEach [.Subscript o i pos'] X.env).map (·.2) = [assign (.Subscript o i pos') X.env] := by rfl) :
    PS X (.Assign [.Subscript o i pos'] e pos) (tS w W (mSetIx mo mi me)) := by
  refine ps_imp (ps_asg he (pg_sub ho hi set_list hp) h1 h2 h3) fun D σ H ⟨F, ρ, st, env, er, re, h⟩ => ?_
  refine tG.useF er re h fun t st1 F1 ρ1 H1 v e1 er1 re1 ht h1 => ?_
  refine tG.useF er1 re1 h1 fun s st2 F2 ρ2 H2 x e2 er2 re2 hs h2 => ?_
  refine tG.useF er2 re2 h2 fun k st3 F3 ρ3 H3 y e3 er3 re3 hk h3 => ?_
  cases t with
  | own _ => exact h3.elim
  | d xd =>
    cases s with
    | d _ => exact h3.elim
    | own l =>
      cases k with
      | own _ => exact h3.elim
      | d kd =>
        cases kd with
        | int iz =>
          obtain ⟨a, ha, rfl⟩ := hs
          unfold SVn Wd.Dn Dn at hk
          subst hk
          dsimp only at h3
          cases hc : st3[l]? with
          | none => rw [hc] at h3; exact h3.elim
          | some cl =>
            rw [hc] at h3
            have ha3 := e3.r l a ha
            have q := re3.cell l a cl ha3 hc
            cases cl with
            | lst m0 ds =>
              cases m0 with
              | false => exact h3.elim
              | true =>
                dsimp only at h3
                cases hj : ixN ds.length iz with
                | none => rw [hj] at h3; exact h3.elim
                | some j =>
                  rw [hj] at h3
                  obtain ⟨vs, a1, a2, a3⟩ := q
                  refine ⟨a, vs, iz, j, rfl, rfl, a1, by rw [DnL.length a3]; exact hj, ?_⟩
                  exact h3 F3 ρ3 σ _ ((Ext.refl _ _ _).write (List.mem_of_getElem? ha3)) er3 (re3.write ha3 a2 ⟨vs.set j v, upd_same, a2, a3.set ((ht.ext e2).ext e3) j⟩)
            | _ => exact h3.elim
        | _ => exact h3.elim
/-- x += e, x -= e (ints) -/
def mAugI (i : Nat) (f : Int → Int → Int) (me : MV) : MS := fun env st => match env[i]? with
  | some (some (.d (.int a))) => toFl (me env st) env fun t st1 => match t with
    | .d (.int b) => .nx (env.set i (some (.d (.int (f a b))))) st1
    | _ => .stuck
  | _ => .stuck
theorem vs_augI {j : Nat} {x : Str} {op : Operator} {f : Int → Int → Int} {pos' : Pos} (nd : X.N.Nodup) (hi : X.N[j]? = some x) (hl : L2.Loc X.env.scope x) (he : PE X e (tE w W me)) (hop : PIp X op (ipI f))
    (hf : X.fn x = true ∨ X.env.scope.names.lookup x = some .local := by first | exact .inl rfl | exact .inr rfl) : PS X (.AugAssign (.Name x pos') op e pos) (tS w W (mAugI j f me)) := by
  refine ps_imp (ps_aug nd hi hl he hop hf) fun D σ H ⟨F, ρ, st, env, er, re, h⟩ => ?_
  unfold mAugI at h
  split at h
  · rename_i a hx
    obtain ⟨v, hv, hs⟩ := er.2 j _ hx
    unfold SVn Wd.Dn Dn at hs
    subst hs
    refine ⟨.int a, hv, tG.useF er re h fun t st1 F1 ρ1 H1 y e1 er1 re1 ht h1 => ?_⟩
    cases t with
    | own _ => exact h1.elim
    | d td =>
      cases td with
      | int b =>
        unfold SVn Wd.Dn Dn at ht
        subst ht
        exact ⟨a, b, rfl, rfl, h1 F1 ρ1 _ H1 (Ext.refl _ _ _) (er1.set (s := .d (.int (f a b))) (by unfold SVn Wd.Dn Dn; rfl)) re1⟩
      | _ => exact h1.elim
  · exact h.elim
end
end VL
set_option Elab.async false
set_option linter.all false
set_option maxRecDepth 100000
set_option maxHeartbeats 4000000
namespace VL
open PySem L2
abbrev cxD (P : Program) (wd : World) (K : PySem.W.Frag) (mg : Str → Option Value) (base : Heap) (N : List Str) (qual : Str) (s : Stmt) (f : Addr) (cdv : Value) (A : Around) (outer : List PySem.Env) (s' : Shared) (H : Hp) (E : XK) : Cx := cxOf (L2.CX P wd) P wd K mg base N qual (defScope s) f cdv A outer s' H E
/-- THE RULE for a def of the text -/
theorem fn_okC {P : Program} {wd : World} {w : Wd} {mg : Str → Option Value} {base : Heap} {x qual : Str} {s : Stmt} {f : Addr} {fd : FuncData} {N ps : List Str} {k : Nat} {keep : Bool} {mb : MS} {ar n : Nat} (Fu : Fun w.K x qual s f fd) (S : FnScope N ps (defScope s))
    (hb : ∀ (cdv : Value) (A : Around) (outer : List PySem.Env) (s' : Shared) (H : Hp) (E : XK), Takes (cxD P wd w.K mg base N qual s f cdv A outer s' H E) (fun cls d _ H => E cls d H) →
      PassesOwn (model P wd) (cxD P wd w.K mg base N qual s f cdv A outer s' H E).A (cxD P wd w.K mg base N qual s f cdv A outer s' H E).env (cxD P wd w.K mg base N qual s f cdv A outer s' H E).xe → Room k (cxD P wd w.K mg base N qual s f cdv A outer s' H E).A →
      PSs (cxD P wd w.K mg base N qual s f cdv A outer s' H E) (defBody s) (tS w (fun cls d _ H => E cls d H) mb)) (h1 : ar = ps.length := by rfl) (h2 : n = N.length := by rfl) :
    FnOk P wd w.K mg base (L2.CX P wd) (k + 1) f fd ps (spOf w ar (runDef keep ar n mb)) := by
  subst h1 h2
  exact Fu.okX S (fun vs H Q E h => h.1) fun cdv A outer s' H vs Q E hr hsp => ⟨tS w (fun cls d _ H => E cls d H) mb,
    hb cdv A outer s' H E (takes_of rfl rfl rfl rfl) (passes_of rfl) hr, body_read hsp⟩
end VL
set_option Elab.async false
set_option linter.all false
set_option maxRecDepth 100000
set_option maxHeartbeats 4000000
namespace VL
open PySem L2
section
variable {w : Wd} {X : Cx} {W : WX} {F H : Hp} {ρ : List Addr} {st : Store} {Q : VK} {e c o : Expr} {pos p apos : Pos} {m ma mb mo me : MV} {σ : St} {env : Env} {ml : ML} {es : List Expr}
/-! ### attributes -/
def CF (w : Wd) (X : Cx) (f : Str) (cs : List Nat) : Prop := ∀ c, c ∈ cs → Cls X.K (w.ct c) ∧ NoAttr X.K (w.ct c) f
theorem CF.nil {f : Str} : CF w X f [] := fun c h => nomatch h
theorem CF.cons {f : Str} {c : Nat} {cs : List Nat} (h1 : Cls X.K (w.ct c)) (h2 : NoAttr X.K (w.ct c) f) (h : CF w X f cs) : CF w X f (c :: cs) := fun d hd => by
  rcases List.mem_cons.mp hd with e | e
  · rw [e]; exact ⟨h1, h2⟩
  · exact h d e
def mFld (cs : List Nat) (f : Str) (m : MV) : MV := fun env st => (m env st).bind fun s st1 => match s with
  | .d (.obj c fs) => if c ∈ cs then match fs.lookup f with
    | some x => .ok (.d x) st1
    | none => .stuck
    else .stuck
  | .own l => match st1[l]? with
    | some (.obj c fs) => if c ∈ cs then match fs.lookup f with
      | some x => .ok x st1
      | none => .stuck
      else .stuck
    | _ => .stuck
  | _ => .stuck
theorem DnF.get {f : Str} : ∀ {fs : List (Str × D)} {ws : List (Str × V)} {d : D}, DnF w.K w.ct F fs ws → fs.lookup f = some d → ∃ v, ws.lookup f = some v ∧ w.Dn F d v
  | [], ws, d, h, e => by simp at e
  | (g, x) :: r, ws, d, h, e => by
    unfold DnF at h
    obtain ⟨v, ws, rfl, h1, h2⟩ := h
    by_cases hg : (f == g) = true
    · simp only [List.lookup, hg] at e ⊢
      cases e
      exact ⟨v, rfl, h1⟩
    · have hg' : (f == g) = false := by simpa using hg
      simp only [List.lookup, hg'] at e ⊢
      exact DnF.get (fs := r) h2 e
theorem SVF.get {f : Str} : ∀ {fs : List (Str × SV)} {ws : List (Str × V)} {d : SV}, SVF w F ρ fs ws → fs.lookup f = some d → ∃ v, ws.lookup f = some v ∧ SVn w F ρ d v
  | [], ws, d, h, e => by simp at e
  | (g, x) :: r, ws, d, h, e => by
    unfold SVF at h
    obtain ⟨v, ws, rfl, h1, h2⟩ := h
    by_cases hg : (f == g) = true
    · simp only [List.lookup, hg] at e ⊢
      cases e
      exact ⟨v, rfl, h1⟩
    · have hg' : (f == g) = false := by simpa using hg
      simp only [List.lookup, hg'] at e ⊢
      exact SVF.get (fs := r) h2 e
theorem DnF.none {f : Str} : ∀ {fs : List (Str × D)} {ws : List (Str × V)}, DnF w.K w.ct F fs ws → fs.lookup f = Option.none → ws.lookup f = Option.none
  | [], ws, h, e => by unfold DnF at h; subst h; rfl
  | (g, x) :: r, ws, h, e => by
    unfold DnF at h
    obtain ⟨v, ws, rfl, h1, h2⟩ := h
    by_cases hg : (f == g) = true
    · simp only [List.lookup, hg] at e; cases e
    · have hg' : (f == g) = false := by simpa using hg
      simp only [List.lookup, hg'] at e ⊢
      exact DnF.none (fs := r) h2 e
theorem SVF.none {f : Str} : ∀ {fs : List (Str × SV)} {ws : List (Str × V)}, SVF w F ρ fs ws → fs.lookup f = Option.none → ws.lookup f = Option.none
  | [], ws, h, e => by unfold SVF at h; subst h; rfl
  | (g, x) :: r, ws, h, e => by
    unfold SVF at h
    obtain ⟨v, ws, rfl, h1, h2⟩ := h
    by_cases hg : (f == g) = true
    · simp only [List.lookup, hg] at e; cases e
    · have hg' : (f == g) = false := by simpa using hg
      simp only [List.lookup, hg'] at e ⊢
      exact SVF.none (fs := r) h2 e
theorem SVF.len : ∀ {fs : List (Str × SV)} {ws : List (Str × V)}, SVF w F ρ fs ws → ws.length = fs.length
  | [], ws, h => by unfold SVF at h; subst h; rfl
  | (g, x) :: r, ws, h => by
    unfold SVF at h
    obtain ⟨v, ws, rfl, h1, h2⟩ := h
    have := SVF.len (fs := r) h2
    simp [this]
theorem ve_fld {f : Str} {cs : List Nat} (he : PE X e (tE w W m)) (hc : CF w X f cs) (hb : attributeBase e f X.env (eval e X.env) = eval e X.env := by rfl) : PE X (.Attribute e f pos) (tE w W (mFld cs f m)) := by
  refine pe_imp (pe_fld he hb) fun σ H Q ⟨F, ρ, st, env, er, re, h⟩ => ?_
  rw [mFld, wpR_bind] at h
  refine tG.use er re h fun s st1 F1 ρ1 H1 x e1 er1 re1 hs h1 => ?_
  cases s with
  | own l =>
    obtain ⟨a, ha, rfl⟩ := hs
    dsimp only at h1
    cases hl : st1[l]? with
    | none => rw [hl] at h1; exact h1.elim
    | some cl =>
      rw [hl] at h1
      have q := re1.cell l a cl ha hl
      cases cl with
      | obj c fs =>
        obtain ⟨dx, ws, a1, a2, a3⟩ := q
        dsimp only at h1
        by_cases hcs : c ∈ cs
        · rw [if_pos hcs] at h1
          cases hf : fs.lookup f with
          | none => rw [hf] at h1; exact h1.elim
          | some y =>
            rw [hf] at h1
            obtain ⟨v, hv, hy⟩ := a3.get hf
            exact ⟨a, _, dx, ws, v, rfl, a1, (hc c hcs).1, (hc c hcs).2, hv, h1 F1 ρ1 H1 v e1 re1 hy⟩
        · rw [if_neg hcs] at h1; exact h1.elim
      | _ => exact h1.elim
  | d d =>
    cases d with
    | obj c fs =>
      unfold SVn Wd.Dn Dn at hs
      obtain ⟨a, dx, ws, rfl, a1, a3⟩ := hs
      dsimp only at h1
      by_cases hcs : c ∈ cs
      · rw [if_pos hcs] at h1
        cases hf : fs.lookup f with
        | none => rw [hf] at h1; exact h1.elim
        | some y =>
          rw [hf] at h1
          obtain ⟨v, hv, hy⟩ := DnF.get a3 hf
          exact ⟨a, _, dx, ws, v, rfl, re1.sub _ _ a1, (hc c hcs).1, (hc c hcs).2, hv, h1 F1 ρ1 H1 v e1 re1 hy⟩
      · rw [if_neg hcs] at h1; exact h1.elim
    | _ => exact h1.elim
/-! ### o.f = e, o an instance that still changes -/
def putS (f : Str) (s : SV) : List (Str × SV) → List (Str × SV)
  | [] => [(f, s)]
  | (g, x) :: r => if g = f then (g, s) :: r else (g, x) :: putS f s r
theorem SVF.put {f : Str} {s : SV} {v : V} (hs : SVn w F ρ s v) : ∀ {fs : List (Str × SV)} {ws : List (Str × V)}, SVF w F ρ fs ws → SVF w F ρ (putS f s fs) (putF f v ws)
  | [], ws, h => by
    unfold SVF at h
    subst h
    show SVF w F ρ [(f, s)] [(f, v)]
    unfold SVF
    exact ⟨v, [], rfl, hs, by unfold SVF; rfl⟩
  | (g, x) :: r, ws, h => by
    unfold SVF at h
    obtain ⟨y, ws, rfl, h1, h2⟩ := h
    show SVF w F ρ (if g = f then (g, s) :: r else (g, x) :: putS f s r) (if g = f then (g, v) :: ws else (g, y) :: putF f v ws)
    by_cases hg : g = f
    · rw [if_pos hg, if_pos hg]; unfold SVF; exact ⟨v, ws, rfl, hs, h2⟩
    · rw [if_neg hg, if_neg hg]; unfold SVF; exact ⟨y, _, rfl, h1, SVF.put hs (fs := r) h2⟩
def mSetFld (c : Nat) (f : Str) (mo me : MV) : MS := fun env st => toFl (me env st) env fun t st1 => toFl (mo env st1) env fun s st2 => match s with
  | .own l => match st2[l]? with
    | some (.obj c' fs) => if c' = c ∧ fs.length < 1000 then .nx env (st2.set l (.obj c (putS f t fs))) else .stuck
    | _ => .stuck
  | .d _ => .stuck
theorem vs_setFld {f : Str} {k : Nat} {pos' : Pos} (ho : PE X o (tE w W mo)) (he : PE X e (tE w W me)) (h1 : Cls X.K (w.ct k)) (h2 : NoAttr X.K (w.ct k) f)
    (hs : swapsWith e (some (.Attribute o f pos')) pos.line X.env = pure false := by rfl) : PS X (.Assign [.Attribute o f pos'] e pos) (tS w W (mSetFld k f mo me)) := by
  refine ps_imp (ps_fld ho he hs) fun D σ H ⟨F, ρ, st, env, er, re, h⟩ => ?_
  refine tG.useF er re h fun t st1 F1 ρ1 H1 v e1 er1 re1 ht h1' => ?_
  refine tG.useF er1 re1 h1' fun s st2 F2 ρ2 H2 x e2 er2 re2 hs' h2' => ?_
  cases s with
  | d _ => exact h2'.elim
  | own l =>
    obtain ⟨a, ha, rfl⟩ := hs'
    dsimp only at h2'
    cases hl : st2[l]? with
    | none => rw [hl] at h2'; exact h2'.elim
    | some cl =>
      rw [hl] at h2'
      have q := re2.cell l a cl ha hl
      cases cl with
      | obj c' fs =>
        obtain ⟨dx, ws, a1, a2, a3⟩ := q
        dsimp only at h2'
        by_cases hcs : c' = k ∧ fs.length < 1000
        · rw [if_pos hcs] at h2'
          obtain ⟨rfl, hz⟩ := hcs
          refine ⟨a, _, dx, ws, rfl, a1, h1, h2, by rw [a3.len]; exact hz, ?_⟩
          exact h2' F2 ρ2 σ _ ((Ext.refl _ _ _).write (List.mem_of_getElem? ha)) er2 (re2.write ha a2 ⟨dx, _, upd_same, a2, a3.put (ht.ext e2)⟩)
        · rw [if_neg hcs] at h2'; exact h2'.elim
      | _ => exact h2'.elim
/-! ### C(e, ..) -/
theorem run_makeS {C f : Addr} {fd : FuncData} {ps : List Str} {k : Nat} {sp : Sp} {pins : List (Addr × Obj)} {s : Shared} {us : List Value} {vs : List V} (M : Mk X.K C f) (G : FnOk X.prog X.w X.K X.mg X.base (L2.CX X.prog X.w) k f fd ps sp) (hr : Room (k + 1) X.A) (hb : Binds X.K fd ps [])
    (tk : Takes X W) (I : Inv X pins σ H s) (r : Vals vs us)
    (h : ∀ x dx, H x = none → H dx = none → dx ≠ x → sp (.ref x :: vs) (upd (upd H dx (.own x)) x (.ins C dx [])) (fun v H2 => v = .non ∧ Q (.ref x) H2) (WE W σ)) :
    wpAny (model X.prog X.w) X.A (call (.ref C) us) (EP X pins σ Q) X.xe s := by
  have hq := h (s.heap.objs.size + 1) s.heap.objs.size (I.hok.fresh (Nat.le_succ _)) (I.hok.fresh (Nat.le_refl _)) (Nat.ne_of_lt (Nat.lt_succ_self _))
  have I2 := Inv.made (C := C) I
  have r2 : Vals (V.ref (s.heap.objs.size + 1) :: vs) (Value.ref (s.heap.objs.size + 1) :: us) := .cons rfl r
  have hl : (Value.ref (s.heap.objs.size + 1) :: us).length = ps.length := by
    have e := r2.length
    rw [G.len _ _ _ _ hq] at e
    exact e.symm
  have bb := hb _ (Value.ref (s.heap.objs.size + 1) :: us) I2.kIn (by rw [List.append_nil]; exact hl)
  rw [List.append_nil] at bb
  refine wpAny_call (make_map (f := f) I.kIn M.makes M.init (beq_iff_eq.mp M.fn) (codeAny_mono (G.run _ X.stack _ _ ⟨Value.ref (s.heap.objs.size + 1) :: us, []⟩ (Value.ref (s.heap.objs.size + 1) :: us) _ _ (WE W σ) (hr.make C us [])
    (I2.env0.make C us []) bb r2 hq) fun r s' hq' => ?_))
  cases r with
  | error e => exact passAt tk σ pins _ _ e s' I2 hq'
  | ok fl =>
    cases fl with
    | ret u =>
      obtain ⟨v, H', I3, rv, ev, q3⟩ := I2.after hq'
      subst ev
      exact ⟨rv, ⟨V.ref (s.heap.objs.size + 1), H', I3, rfl, q3⟩⟩
    | next => exact False.elim hq'
    | brk => exact False.elim hq'
    | cont => exact False.elim hq'
def tMakeS (C : Addr) (sp : Sp) (E : St → XK) (t : TA) : TE := fun σ H Q => t σ H fun vs H1 => ∀ x dx, H1 x = none → H1 dx = none → dx ≠ x →
  sp (.ref x :: vs) (upd (upd H1 dx (.own x)) x (.ins C dx [])) (fun v H2 => v = .non ∧ Q (.ref x) H2) (E σ)
theorem pe_makeS {C f : Addr} {fd : FuncData} {ps : List Str} {k : Nat} {sp : Sp} {x : Str} {t : TA} (M : Mk X.K C f) (G : FnOk X.prog X.w X.K X.mg X.base (L2.CX X.prog X.w) k f fd ps sp) (hr : Room (k + 1) X.A) (hg : Gl X x) (hm : X.mg x = some (.ref C)) (hb : Binds X.K fd ps []) (tk : Takes X W)
    (ha : PA X (e :: es) t) (hdb : (x == ("__debug__" : Str)) = false := by decide) (he : starEach (e :: es) X.env = (false, eval e X.env) :: starEach es X.env := by rfl) (hpl : (backTo pos (starEach es X.env)).any (·.1) = false := by rfl) :
    PE X (.Call (.Name x p) (e :: es) [] pos) (tMakeS C sp (WE W) t) := by
  refine ⟨fun pins s σ H Q I h => ?_⟩
  refine wpAny_Call_Name_kw (ld_glob I hg hm ?_ hdb)
  refine PySem.W.callWith_K (h₀ := X.base) I.ok.mod.kin M.kp (thn (ha.run pos pins s σ H _ I h) fun us s1 ⟨vs, H1, I1, r, q⟩ => ⟨I1.kIn, ?_⟩) he hpl
  exact run_makeS M G hr hb tk I1 r q
/-- C(e, ..): a new instance, then __init__ (run) -/
def mMake (c : Nat) (run : Run) (ml : ML) : MV := fun env st => (ml env st).bind fun ss st1 => (run (.own st1.length :: ss) (st1 ++ [.obj c []])).bind fun r st2 => match r with
  | .d .non => .ok (.own st1.length) st2
  | _ => .stuck
theorem Rel.made {x dx : Addr} {cc : Nat} (re : Rel w F ρ st H) (hx : H x = none) (hdx : H dx = none) (hne : dx ≠ x) : Rel w F (ρ ++ [x]) (st ++ [.obj cc []]) (upd (upd H dx (.own x)) x (.ins (w.ct cc) dx [])) := by
  have r1 := re.side (p := dx) (o := .own x) (re.sub.free hdx) (fun m => by obtain ⟨o, ho⟩ := re.there _ m; rw [hdx] at ho; cases ho)
  have hx1 : upd H dx (.own x) x = none := by rw [upd_ne (Ne.symm hne)]; exact hx
  exact r1.alloc hx1 ⟨dx, [], upd_same, re.sub.free hx, by unfold SVF; rfl⟩
theorem make_read {c : Nat} {run : Run} {ar : Nat} {f : Addr} {fd : FuncData} {ps : List Str} {t : TA} (hrun : ∀ ss st, ss.length ≠ ar → run ss st = .stuck)
    (h : tE w W (mMake c run ml) σ H Q) : tMakeS (w.ct c) (spOf w ar run) (WE W) (tA w W ml) σ H Q := by
  obtain ⟨F, ρ, st, env, er, re, h⟩ := h
  rw [mMake, wpR_bind] at h
  refine tG.use er re h fun ss st1 F1 ρ1 H1 vs e1 er1 re1 hs h1 => ?_
  intro x dx hx hdx hne
  rw [wpR_bind] at h1
  have hss : (SV.own st1.length :: ss).length = ar := by
    by_cases q : (SV.own st1.length :: ss).length = ar
    · exact q
    · rw [hrun _ _ q] at h1; exact h1.elim
  have rm := re1.made (cc := c) hx hdx hne
  have em : Ext F1 ρ1 H1 F1 (ρ1 ++ [x]) (upd (upd H1 dx (.own x)) x (.ins (w.ct c) dx [])) := by
    have z : Ext F1 ρ1 H1 F1 ρ1 (upd H1 dx (.own x)) := (Ext.refl F1 ρ1 H1).wr hdx
    exact z.alloc (by rw [upd_ne (Ne.symm hne)]; exact hx)
  have hnew : (ρ1 ++ [x])[st1.length]? = some x := by rw [← re1.len]; simp
  have hl := hs.length
  refine ⟨by rw [← hss]; simp [hl], F1, ρ1 ++ [x], st1 ++ [.obj c []], .own st1.length :: ss, rm, ?_, wpR_mono h1 (fun r st2 h2 => ?_) (fun ex st2 z F2 ρ2 H2 cls d e2 re2 hxx => z F2 ρ2 H2 cls d ((e1.trans em).trans e2) re2 hxx)⟩
  · unfold SVL
    exact ⟨.ref x, vs, rfl, ⟨x, hnew, rfl⟩, hs.ext em⟩
  · intro F2 ρ2 H2 v e2 re2 hv
    cases r with
    | own _ => exact h2.elim
    | d rd =>
      cases rd with
      | non =>
        unfold SVn Wd.Dn Dn at hv
        exact ⟨hv, h2 F2 ρ2 H2 _ ((e1.trans em).trans e2) re2 ⟨x, e2.r _ _ hnew, rfl⟩⟩
      | _ => exact h2.elim
theorem ve_make {c : Nat} {run : Run} {f : Addr} {fd : FuncData} {ps : List Str} {k : Nat} {x : Str} (M : Mk X.K (w.ct c) f) (G : FnOk X.prog X.w X.K X.mg X.base (L2.CX X.prog X.w) k f fd ps (spOf w ps.length run)) (hr : Room (k + 1) X.A) (hg : Gl X x) (hm : X.mg x = some (.ref (w.ct c))) (hb : Binds X.K fd ps []) (tk : Takes X W)
    (ha : PA X (e :: es) (tA w W ml)) (hrun : ∀ ss st, ss.length ≠ ps.length → run ss st = .stuck) (hdb : (x == ("__debug__" : Str)) = false := by decide) (he : starEach (e :: es) X.env = (false, eval e X.env) :: starEach es X.env := by rfl) (hpl : (backTo pos (starEach es X.env)).any (·.1) = false := by rfl) :
    PE X (.Call (.Name x p) (e :: es) [] pos) (tE w W (mMake c run ml)) :=
  pe_imp (pe_makeS M G hr hg hm hb tk ha hdb he hpl) fun σ H Q h => make_read (f := f) (fd := fd) (ps := ps) (t := tA w W ml) hrun h
/-! ### o.m(e, ..) -/
/-- the class and the attributes' names of what a handle or data shows -/
def insOf (st : Store) : SV → Option (Nat × List Str)
  | .d (.obj c fs) => some (c, fs.map (·.1))
  | .own l => match st[l]? with
    | some (.obj c fs) => some (c, fs.map (·.1))
    | _ => none
  | _ => none
theorem lookup_names {α : Type} {f : Str} : ∀ {fs : List (Str × α)}, f ∉ fs.map (·.1) → fs.lookup f = none
  | [], _ => rfl
  | (g, x) :: r, h => by
    have hg : (f == g) = false := by
      rw [beq_eq_false_iff_ne]
      intro z
      exact h (by simp [z])
    simp only [List.lookup, hg]
    exact lookup_names (fs := r) fun m => h (by simp [m])
theorem insOf_ok {s : SV} {v : V} {cc : Nat} {ns : List Str} {mth : Str} (re : Rel w F ρ st H) (hs : SVn w F ρ s v) (hi : insOf st s = some (cc, ns)) (hn : mth ∉ ns) : ∃ a dx ws, v = .ref a ∧ H a = some (.ins (w.ct cc) dx ws) ∧ ws.lookup mth = none := by
  cases s with
  | own l =>
    obtain ⟨a, ha, rfl⟩ := hs
    unfold insOf at hi
    dsimp only at hi
    cases hl : st[l]? with
    | none => rw [hl] at hi; cases hi
    | some cl =>
      rw [hl] at hi
      have q := re.cell l a cl ha hl
      cases cl with
      | obj c fs => cases hi; obtain ⟨dx, ws, a1, a2, a3⟩ := q; exact ⟨a, dx, ws, rfl, a1, a3.none (lookup_names hn)⟩
      | _ => cases hi
  | d d =>
    cases d with
    | obj c fs =>
      cases hi
      unfold SVn Wd.Dn Dn at hs
      obtain ⟨a, dx, ws, rfl, a1, a3⟩ := hs
      exact ⟨a, dx, ws, rfl, re.sub _ _ a1, DnF.none a3 (lookup_names hn)⟩
    | _ => cases hi
def tMethS (C : Addr) (m : Str) (sp : Sp) (E : St → XK) (ta : TE) (t : TA) : TE := fun σ H Q => ta σ H fun x H1 => ∃ a dx fs, x = .ref a ∧ H1 a = some (.ins C dx fs) ∧ fs.lookup m = none ∧
  t σ H1 fun vs H2 => sp (x :: vs) H2 Q (E σ)
theorem pe_methS {C f : Addr} {fd : FuncData} {ps : List Str} {k : Nat} {sp : Sp} {mn : Str} {ta : TE} {t : TA} {pl : Sem Bool} (he : PE X o ta) (c : Cls X.K C) (hm : Meth X.K C mn f) (G : FnOk X.prog X.w X.K X.mg X.base (L2.CX X.prog X.w) k f fd ps sp) (hr : Room k X.A) (hb : Binds X.K fd ps []) (tk : Takes X W) (ha : PA X (e :: es) t)
    (hst : starEach (e :: es) X.env = (false, eval e X.env) :: starEach es X.env := by rfl) (hpl : (backTo pos (starEach es X.env)).any (·.1) = false := by rfl)
    (ht : eval (.Call (.Attribute o mn apos) (e :: es) [] pos) X.env = (do
      let ov ← eval o X.env
      standAt apos.atName
      let (f, first) ← holding [ov] (getMethod ov mn pl)
      callWith pos f first (backTo pos (starEach (e :: es) X.env)) (backToKw pos (keywordEach [] X.env))) := by rfl) :
    PE X (.Call (.Attribute o mn apos) (e :: es) [] pos) (tMethS C mn sp (WE W) ta t) := by
  refine ⟨fun pins s σ H Q I h => ?_⟩
  refine PySem.W.methodCall_KW (pl := pl) (thn (he.run pins s σ H _ I h) fun u s1 ⟨x, H1, I1, rx, a, dx, fs, ex, ea, l, q⟩ => ?_) ht
  subst ex
  obtain rfl : u = Value.ref a := rx
  refine getmeth_ok I1 ea c hm l ?_
  refine PySem.W.callWith_K (first := [.ref a]) (h₀ := X.base) I.ok.mod.kin hm.kp (thn (ha.run pos pins s1 σ H1 _ I1 q) fun us s2 ⟨vs, H2, I2, r, q2⟩ => ⟨I2.kIn, ?_⟩) hst hpl
  exact run_fnS (us := .ref a :: us) (vs := .ref a :: vs) G hr hb (passAt tk σ) I2 (.cons rfl r) q2
theorem pe_methS0 {C f : Addr} {fd : FuncData} {ps : List Str} {k : Nat} {sp : Sp} {mn : Str} {ta : TE} {pl : Sem Bool} (he : PE X o ta) (c : Cls X.K C) (hm : Meth X.K C mn f) (G : FnOk X.prog X.w X.K X.mg X.base (L2.CX X.prog X.w) k f fd ps sp) (hr : Room k X.A) (hb : Binds X.K fd ps []) (tk : Takes X W)
    (ht : eval (.Call (.Attribute o mn apos) [] [] pos) X.env = (do
      let ov ← eval o X.env
      standAt apos.atName
      let (f, first) ← holding [ov] (getMethod ov mn pl)
      callWith pos f first (backTo pos (starEach [] X.env)) (backToKw pos (keywordEach [] X.env))) := by rfl) :
    PE X (.Call (.Attribute o mn apos) [] [] pos) (tMethS C mn sp (WE W) ta tNil) := by
  refine ⟨fun pins s σ H Q I h => ?_⟩
  refine PySem.W.methodCall_KW (pl := pl) (thn (he.run pins s σ H _ I h) fun u s1 ⟨x, H1, I1, rx, a, dx, fs, ex, ea, l, q⟩ => ?_) ht
  subst ex
  obtain rfl : u = Value.ref a := rx
  refine getmeth_ok I1 ea c hm l ?_
  exact PySem.W.callWith_K0 (first := [.ref a]) I1.kIn hm.kp (run_fnS (us := [.ref a]) (vs := [.ref a]) G hr hb (passAt tk σ) I1 (.cons rfl .nil) q)
def mMeth (c : Nat) (mn : Str) (run : Run) (mo : MV) (ml : ML) : MV := fun env st => (mo env st).bind fun s st1 => match insOf st1 s with
  | some (c', ns) => if c' = c ∧ mn ∉ ns then (ml env st1).bind fun ss st2 => run (s :: ss) st2 else .stuck
  | none => .stuck
theorem meth_read {c : Nat} {mn : Str} {run : Run} {ar : Nat} (hrun : ∀ ss st, ss.length ≠ ar → run ss st = .stuck) (h : tE w W (mMeth c mn run mo ml) σ H Q) : tMethS (w.ct c) mn (spOf w ar run) (WE W) (tE w W mo) (tA w W ml) σ H Q := by
  obtain ⟨F, ρ, st, env, er, re, h⟩ := h
  rw [mMeth, wpR_bind] at h
  refine tG.use er re h fun s st1 F1 ρ1 H1 x e1 er1 re1 hs h1 => ?_
  cases hi : insOf st1 s with
  | none => rw [hi] at h1; exact h1.elim
  | some cn =>
    obtain ⟨c', ns⟩ := cn
    rw [hi] at h1
    dsimp only at h1
    by_cases hcs : c' = c ∧ mn ∉ ns
    · rw [if_pos hcs] at h1
      obtain ⟨rfl, hn⟩ := hcs
      obtain ⟨a, dx, ws, rfl, a1, a2⟩ := insOf_ok re1 hs hi hn
      refine ⟨a, dx, ws, rfl, a1, a2, ?_⟩
      rw [wpR_bind] at h1
      refine tG.use er1 re1 (wpR.upX e1 h1) fun ss st2 F2 ρ2 H2 vs e2 er2 re2 ht h2 => ?_
      have hss : (s :: ss).length = ar := by
        by_cases q : (s :: ss).length = ar
        · exact q
        · rw [hrun _ _ q] at h2; exact h2.elim
      have hl := ht.length
      refine ⟨by rw [← hss]; simp [hl], F2, ρ2, st2, s :: ss, re2, ?_, wpR_mono h2 (fun r st3 z => z.up (e1.trans e2)) (fun ex st3 z F3 ρ3 H3 cls d e3 re3 hxx => z F3 ρ3 H3 cls d ((e1.trans e2).trans e3) re3 hxx)⟩
      unfold SVL
      exact ⟨_, vs, rfl, hs.ext e2, ht⟩
    · rw [if_neg hcs] at h1; exact h1.elim
theorem ve_meth {c : Nat} {f : Addr} {fd : FuncData} {ps : List Str} {k : Nat} {run : Run} {mn : Str} {pl : Sem Bool} (ho : PE X o (tE w W mo)) (hc : Cls X.K (w.ct c)) (hm : Meth X.K (w.ct c) mn f) (G : FnOk X.prog X.w X.K X.mg X.base (L2.CX X.prog X.w) k f fd ps (spOf w ps.length run)) (hr : Room k X.A) (hb : Binds X.K fd ps []) (tk : Takes X W) (ha : PA X (e :: es) (tA w W ml))
    (hrun : ∀ ss st, ss.length ≠ ps.length → run ss st = .stuck) (hst : starEach (e :: es) X.env = (false, eval e X.env) :: starEach es X.env := by rfl) (hpl : (backTo pos (starEach es X.env)).any (·.1) = false := by rfl)
    (ht : eval (.Call (.Attribute o mn apos) (e :: es) [] pos) X.env = (do
      let ov ← eval o X.env
      standAt apos.atName
      let (f, first) ← holding [ov] (getMethod ov mn pl)
      callWith pos f first (backTo pos (starEach (e :: es) X.env)) (backToKw pos (keywordEach [] X.env))) := by rfl) :
    PE X (.Call (.Attribute o mn apos) (e :: es) [] pos) (tE w W (mMeth c mn run mo ml)) :=
  pe_imp (pe_methS ho hc hm G hr hb tk ha hst hpl ht) fun σ H Q h => meth_read hrun h
theorem ve_meth0 {c : Nat} {f : Addr} {fd : FuncData} {ps : List Str} {k : Nat} {run : Run} {mn : Str} {pl : Sem Bool} (ho : PE X o (tE w W mo)) (hc : Cls X.K (w.ct c)) (hm : Meth X.K (w.ct c) mn f) (G : FnOk X.prog X.w X.K X.mg X.base (L2.CX X.prog X.w) k f fd ps (spOf w ps.length run)) (hr : Room k X.A) (hb : Binds X.K fd ps []) (tk : Takes X W)
    (hrun : ∀ ss st, ss.length ≠ ps.length → run ss st = .stuck)
    (ht : eval (.Call (.Attribute o mn apos) [] [] pos) X.env = (do
      let ov ← eval o X.env
      standAt apos.atName
      let (f, first) ← holding [ov] (getMethod ov mn pl)
      callWith pos f first (backTo pos (starEach [] X.env)) (backToKw pos (keywordEach [] X.env))) := by rfl) :
    PE X (.Call (.Attribute o mn apos) [] [] pos) (tE w W (mMeth c mn run mo mNil)) :=
  pe_imp (pe_methS0 ho hc hm G hr hb tk ht) fun σ H Q h => by
    have q := meth_read hrun h
    unfold tMethS at q ⊢
    obtain ⟨F, ρ, st, env, er, re, q⟩ := q
    refine ⟨F, ρ, st, env, er, re, wpR_mono q (fun s st1 z F1 ρ1 H1 v e1 re1 hs => ?_) (fun _ _ z => z)⟩
    obtain ⟨a, dx, fs, rfl, h1, h2, h3⟩ := z F1 ρ1 H1 v e1 re1 hs
    refine ⟨a, dx, fs, rfl, h1, h2, ?_⟩
    obtain ⟨F2, ρ2, st2, env2, er2, re2, h3⟩ := h3
    exact h3 F2 ρ2 H1 [] (Ext.refl _ _ _) re2 (by unfold SVL; rfl)
end
end VL
set_option Elab.async false
set_option linter.all false
set_option maxRecDepth 100000
set_option maxHeartbeats 4000000
namespace VL
open PySem L2
section
variable {w : Wd} {X : Cx} {W : WX} {F H : Hp} {ρ : List Addr} {st : Store} {Q : VK} {e a b c : Expr} {pos : Pos} {m ma mb mc : MV} {σ : St} {env : Env}
/-! ### a op b op' c -/
def mChain (g g' : D → D → Option D) (ma mb mc : MV) : MV := fun env st => (ma env st).bind fun x st1 => (mb env st1).bind fun y st2 => match view st2 x, view st2 y with
  | some a, some b => match g a b with
    | some (.bl true) => (mc env st2).bind fun z st3 => pure2 g' y z st3
    | some (.bl false) => .ok (.d (.bl false)) st2
    | _ => .stuck
  | _, _ => .stuck
theorem chain_ok {g g' : D → D → Option D} {r r' : R2} (hr : ∀ F ρ st H x y a b d Q, Rel w F ρ st H → Vw w F H a x → Vw w F H b y → g a b = some d → okD w F ρ st H Q d → r x y H Q)
    (hr' : ∀ F ρ st H x y a b d Q, Rel w F ρ st H → Vw w F H a x → Vw w F H b y → g' a b = some d → okD w F ρ st H Q d → r' x y H Q)
    (h : tE w W (mChain g g' ma mb mc) σ H Q) : tChain r r' (tE w W ma) (tE w W mb) (tE w W mc) σ H Q := by
  obtain ⟨F, ρ, st, env, er, re, h⟩ := h
  rw [mChain, wpR_bind] at h
  refine tG.use er re h fun s st1 F1 ρ1 H1 x e1 er1 re1 hs h1 => ?_
  rw [wpR_bind] at h1
  refine tG.use er1 re1 (wpR.upX e1 h1) fun t st2 F2 ρ2 H2 y e3 er2 re2 ht h2 => ?_
  cases v1 : view st2 s with
  | none => rw [v1] at h2; exact h2.elim
  | some da =>
    cases v2 : view st2 t with
    | none => rw [v1, v2] at h2; exact h2.elim
    | some db =>
      rw [v1, v2] at h2
      dsimp only at h2
      cases hg : g da db with
      | none => rw [hg] at h2; exact h2.elim
      | some d =>
        rw [hg] at h2
        have hx := view_ok re2 (hs.ext e3) v1
        have hy := view_ok re2 ht v2
        cases d with
        | bl k =>
          refine hr F2 ρ2 st2 H2 x y da db _ _ re2 hx hy hg fun F3 H3 v x3 re3 hv => ?_
          unfold Wd.Dn Dn at hv
          refine ⟨k, hv, ?_⟩
          have er3 : EnvRel w F3 ρ2 env σ := er2.ext x3
          cases k with
          | false =>
            simp only [Bool.false_eq_true, if_false]
            exact h2 F3 ρ2 H3 (.bl false) ((e1.trans e3).trans x3) re3 (show w.Dn F3 (.bl false) (.bl false) from mkB)
          | true =>
            simp only [if_true]
            dsimp only at h2
            rw [wpR_bind] at h2
            refine tG.use er3 re3 (wpR.upX ((e1.trans e3).trans x3) h2) fun u st4 F4 ρ4 H4 z e4 er4 re4 hu h4 => ?_
            exact pure2_ok hr' re4 (ht.ext (x3.trans e4)) hu (wpR.up (((e1.trans e3).trans x3).trans e4) h4)
        | _ => exact h2.elim
theorem ve_chain {op op' : CmpOp} {g g' : D → D → Option D} (h : OpD w X (compareOp op) g) (h' : OpD w X (compareOp op') g') (ha : PE X a (tE w W ma)) (hb : PE X b (tE w W mb)) (hc : PE X c (tE w W mc))
    (hm : lastMarks [op, op'] [b, c] = false := by with_unfolding_all rfl) : PE X (.Compare a [op, op'] [b, c] pos) (tE w W (mChain g g' ma mb mc)) := by
  obtain ⟨r, ho, hr⟩ := h
  obtain ⟨r', ho', hr'⟩ := h'
  exact pe_imp (pe_chain ho ho' ha hb hc hm) fun σ H Q q => chain_ok hr hr' q
theorem vt_chain {op op' : CmpOp} {g g' : D → D → Option D} (h : OpD w X (compareOp op) g) (h' : OpD w X (compareOp op') g') (ha : PE X a (tE w W ma)) (hb : PE X b (tE w W mb)) (hc : PE X c (tE w W mc))
    (hm : lastMarks [op, op'] [b, c] = false := by with_unfolding_all rfl) : PT X (.Compare a [op, op'] [b, c] pos) (tT w W (mTest (mChain g g' ma mb mc))) := by
  obtain ⟨r, ho, hr⟩ := h
  obtain ⟨r', ho', hr'⟩ := h'
  refine pt_imp (pt_chain ho ho' ha hb hc hm) fun σ H Q q => ?_
  obtain ⟨F, ρ, st, env, er, re, h⟩ := test_ok q
  exact chain_ok hr hr' ⟨F, ρ, st, env, er, re, h⟩
/-! ### f-strings -/
def fmtD : D → Option Str
  | .str y => if y.length ≤ sizeLine then some y else none
  | .int i => if i.natAbs.log2 < 1920 then some (toString i) else none
  | _ => none
def mFmt (m : MV) : MV := fun env st => (m env st).bind fun s st1 => match s with
  | .d d => match fmtD d with
    | some y => .ok (.d (.str y)) st1
    | none => .stuck
  | .own _ => .stuck
theorem ve_fmt (he : PE X e (tE w W m)) : PE X (.FormattedValue e (-1) none pos) (tE w W (mFmt m)) := by
  refine pe_imp (pe_fmt he) fun σ H Q ⟨F, ρ, st, env, er, re, h⟩ => ?_
  rw [mFmt, wpR_bind] at h
  refine tG.use er re h fun s st1 F1 ρ1 H1 x e1 er1 re1 hs h1 => ?_
  cases s with
  | own _ => exact h1.elim
  | d d =>
    dsimp only at h1
    cases d with
    | str y =>
      unfold SVn Wd.Dn Dn at hs
      simp only [fmtD] at h1
      by_cases hz : y.length ≤ sizeLine
      · rw [if_pos hz] at h1
        exact .inl ⟨y, hs, hz, h1 F1 ρ1 H1 (.str y) e1 re1 (show w.Dn F1 (.str y) (.str y) from mkS)⟩
      · rw [if_neg hz] at h1; exact h1.elim
    | int i =>
      unfold SVn Wd.Dn Dn at hs
      simp only [fmtD] at h1
      by_cases hz : i.natAbs.log2 < 1920
      · rw [if_pos hz] at h1
        exact .inr ⟨i, hs, hz, h1 F1 ρ1 H1 (.str (toString i)) e1 re1 (show w.Dn F1 (.str (toString i)) (.str (toString i)) from mkS)⟩
      · rw [if_neg hz] at h1; exact h1.elim
    | _ => exact h1.elim
def mJs : List MV → Str → Env → Store → R Str
  | [], acc, _, st => .ok acc st
  | m :: ms, acc, env, st => (m env st).bind fun s st1 => match s with
    | .d (.str y) => if (acc ++ y).length ≤ sizeLine then mJs ms (acc ++ y) env st1 else .stuck
    | _ => .stuck
def mJoined (ms : List MV) : MV := fun env st => (mJs ms Str.empty env st).bind fun x st1 => .ok (.d (.str x)) st1
theorem js_ok : ∀ (ms : List MV) (acc : Str) {F ρ st H env} {Q : Str → Hp → Prop}, EnvRel w F ρ env σ → Rel w F ρ st H →
    wpR (mJs ms acc env st) (fun x st1 => ∀ F1 ρ1 H1, Ext F ρ H F1 ρ1 H1 → Rel w F1 ρ1 st1 H1 → Q x H1) (okX w F ρ H σ W) → tJs (ms.map (tE w W)) acc σ H Q
  | [], acc, F, ρ, st, H, env, Q, er, re, h => h F ρ H (Ext.refl _ _ _) re
  | m :: ms, acc, F, ρ, st, H, env, Q, er, re, h => by
    rw [mJs, wpR_bind] at h
    refine tG.use er re h fun s st1 F1 ρ1 H1 x e1 er1 re1 hs h1 => ?_
    cases s with
    | own _ => exact h1.elim
    | d d =>
      cases d with
      | str y =>
        dsimp only at h1
        unfold SVn Wd.Dn Dn at hs
        by_cases hz : (acc ++ y).length ≤ sizeLine
        · rw [if_pos hz] at h1
          exact ⟨y, hs, hz, js_ok ms (acc ++ y) er1 re1 (wpR_mono h1 (fun x st2 z F2 ρ2 H2 e2 re2 => z F2 ρ2 H2 (e1.trans e2) re2) fun ex st2 z => z.up e1)⟩
        · rw [if_neg hz] at h1; exact h1.elim
      | _ => exact h1.elim
theorem ve_joined {v1 v2 : Expr} {rest : List Expr} {ms : List MV} (h : PJ X (v1 :: v2 :: rest) (ms.map (tE w W))) : PE X (.JoinedStr (v1 :: v2 :: rest) pos) (tE w W (mJoined ms)) := by
  refine pe_imp (pe_joined h) fun σ H Q ⟨F, ρ, st, env, er, re, h⟩ => ?_
  rw [mJoined, wpR_bind] at h
  exact js_ok ms Str.empty er re (wpR_mono h (fun x st1 z F1 ρ1 H1 e1 re1 => z F1 ρ1 H1 (.str x) e1 re1 (show w.Dn F1 (.str x) (.str x) from mkS)) fun _ _ z => z)
theorem vj_nil : PJ X [] (([] : List MV).map (tE w W)) := PJ.nil
theorem vj_cons {es : List Expr} {ms : List MV} (h : PE X e (tE w W m)) (r : PJ X es (ms.map (tE w W))) : PJ X (e :: es) ((m :: ms).map (tE w W)) := PJ.cons h r
/-! ### isinstance -/
/-- the own classes: their facts -/
structure OwnCls (w : Wd) (c : Nat) : Prop where
  cl : Cls w.K (w.ct c)
  ha : PySem.W.findIn w.K (.ref (w.ct c)) "__class__" = some (some (.builtin "object.__class__"))
  hn : PySem.W.specialIn w.K (.builtin "object.__class__") "__get__" = some (some (.builtin "getset_descriptor.__get__"))
  htk : PySem.W.takesIn w.K (.builtin "object.__class__") = some true
  hm : PySem.W.mroIn w.K (w.ct c) (.type "object") = some true
/-- a table of what is of what class: (class, class) of the text: its answer; classes of the text and built-in ones: no -/
structure IsiT where
  own : Nat → Nat → Option Bool
  ins : Nat → Bool              -- classes of plain instances
structure IsiOk (w : Wd) (T : IsiT) : Prop where
  own : ∀ c c' b, T.own c c' = some b → PySem.W.kitOne w.K (.ref (w.ct c)) (.ref (w.ct c')) = some b
  ins : ∀ c, T.ins c = true → OwnCls w c
  tyOwn : ∀ t c, T.ins c = true → (t = "NoneType" ∨ t = "bool" ∨ t = "int" ∨ t = "str" ∨ t = "list" ∨ t = "tuple" ∨ t = "dict") → PySem.W.kitOne w.K (.type t) (.ref (w.ct c)) = some false
  ownTy : ∀ t c, T.ins c = true → (t = "bool" ∨ t = "int" ∨ t = "str" ∨ t = "list" ∨ t = "tuple" ∨ t = "dict") → PySem.W.kitOne w.K (.ref (w.ct c)) (.type t) = some false
inductive CTy where
  | ty (t : String) | own (c : Nat)
def tyD : D → Option CTy
  | .non => some (.ty "NoneType")
  | .bl _ => some (.ty "bool")
  | .int _ => some (.ty "int")
  | .str _ => some (.ty "str")
  | .lst _ => some (.ty "list")
  | .tup _ => some (.ty "tuple")
  | .dct _ => some (.ty "dict")
  | .obj c _ => some (.own c)
  | _ => none
def ctyV (w : Wd) : CTy → Value
  | .ty t => .type t
  | .own c => .ref (w.ct c)
theorem tyD_ok {T : IsiT} (O : IsiOk w T) (re : Rel w F ρ st H) {d : D} {v : V} {t : CTy} (h : Vw w F H d v) (ht : tyD d = some t) (ho : ∀ c, t = .own c → T.ins c = true) : TyX w.K H v (ctyV w t) := by
  cases d with
  | non => cases ht; cases dnN h; exact .base .non
  | bl b => cases ht; cases dnB h; exact .base (.bl b)
  | int b => cases ht; cases dnI h; exact .base (.int b)
  | str b => cases ht; cases dnS h; exact .base (.str b)
  | lst ds => cases ht; obtain ⟨a, vs, rfl, h1, _⟩ := h; exact .base (.lst h1)
  | dct ds => cases ht; obtain ⟨a, vs, rfl, h1, _⟩ := h; exact .base (.dK h1)
  | tup ds =>
    cases ht
    obtain ⟨a, vs, rfl, h1, _⟩ := dnT re h
    rcases h1 with h1 | h1
    · rcases h1 with h1 | ⟨o, h1⟩
      · exact .base (.tup h1)
      · exact .fTuple h1
    · obtain ⟨o, its, n, h2, h3, h4⟩ := h1
      exact .kTuple h2 h3
  | obj c fs =>
    cases ht
    unfold Vw Wd.Dn Dn at h
    obtain ⟨a, dx, ws, rfl, a1, _⟩ := h
    have q := O.ins c (ho c rfl)
    exact .base (.ins (re.sub _ _ a1) q.cl q.ha q.hn q.htk q.hm)
  | _ => cases ht
def tys7 : List String := ["bool", "int", "str", "list", "tuple", "dict"]
def clsD : D → Option CTy
  | .ty t => some (.ty t)
  | .cls c => some (.own c)
  | _ => none
def kitD (T : IsiT) : CTy → CTy → Option Bool
  | .ty a, .ty b => kitB a b
  | .ty a, .own c => if T.ins c = true ∧ ("NoneType" :: tys7).contains a = true then some false else none
  | .own c, .ty b => if T.ins c = true ∧ tys7.contains b = true then some false else none
  | .own c, .own c' => T.own c c'
theorem kitD_ok {T : IsiT} (O : IsiOk w T) {s t : CTy} {b : Bool} (h : kitD T s t = some b) : PySem.W.kitOne w.K (ctyV w s) (ctyV w t) = some b := by
  cases s with
  | ty a =>
    cases t with
    | ty c => exact kit_ty h
    | own c =>
      simp only [kitD] at h
      split at h
      · rename_i q; cases h
        refine O.tyOwn a c q.1 ?_
        have := q.2
        simp only [tys7, List.contains_cons, List.contains_nil, Bool.or_eq_true, beq_iff_eq, Bool.false_eq_true, or_false] at this
        exact this
      · cases h
  | own a =>
    cases t with
    | ty c =>
      simp only [kitD] at h
      split at h
      · rename_i q; cases h
        refine O.ownTy c a q.1 ?_
        have := q.2
        simp only [tys7, List.contains_cons, List.contains_nil, Bool.or_eq_true, beq_iff_eq, Bool.false_eq_true, or_false] at this
        exact this
      · cases h
    | own c => exact O.own a c b h
def okTy (T : IsiT) : CTy → Bool
  | .ty _ => true
  | .own c => T.ins c
def kitsD (T : IsiT) (t : CTy) : List D → Option Bool
  | [] => some false
  | c :: r => match clsD c with
    | some u => match kitD T t u with
      | some true => some true
      | some false => kitsD T t r
      | none => none
    | none => none
def isiD (T : IsiT) : List D → Option D
  | [x, .tup cs] => match tyD x with
    | some t => if okTy T t = true ∧ cs.all (fun c => (clsD c).isSome) = true then (kitsD T t cs).map .bl else none
    | none => none
  | [x, c] => match tyD x, clsD c with
    | some t, some u => if okTy T t = true then (kitD T t u).map .bl else none
    | _, _ => none
  | _ => none
theorem clsD_ok {d : D} {v : V} {t : CTy} (h : w.Dn F d v) (e : clsD d = some t) : ClsV v (ctyV w t) := by
  cases d with
  | ty n => cases e; unfold Wd.Dn Dn at h; subst h; exact .ty n
  | cls n => cases e; unfold Wd.Dn Dn at h; subst h; exact .own _
  | _ => cases e
theorem kitsD_ok {T : IsiT} (O : IsiOk w T) {t : CTy} : ∀ {cs : List D} {vs : List V} {b : Bool}, w.DnL F cs vs → cs.all (fun c => (clsD c).isSome) = true → kitsD T t cs = some b → ∃ us, Paired ClsV vs us ∧ PySem.W.kitAny w.K (ctyV w t) us = some b
  | [], vs, b, h, hall, e => by
    unfold Wd.DnL DnL at h; subst h; cases e
    exact ⟨[], .nil, kitAny_nil⟩
  | c :: cs, vs, b, h, hall, e => by
    unfold Wd.DnL DnL at h
    obtain ⟨v, ws, rfl, h1, h2⟩ := h
    rw [List.all_cons, Bool.and_eq_true] at hall
    unfold kitsD at e
    cases hc : clsD c with
    | none => rw [hc] at hall; cases hall.1
    | some u =>
      rw [hc] at e
      dsimp only at e
      cases hk : kitD T t u with
      | none => rw [hk] at e; cases e
      | some r =>
        rw [hk] at e
        have k1 := kitD_ok O hk
        cases r with
        | true =>
          cases e
          have : ∃ us, Paired ClsV ws us := by
            clear hk k1 hc h1
            revert ws
            induction cs with
            | nil => intro ws h2; unfold DnL at h2; subst h2; exact ⟨[], .nil⟩
            | cons c' cs ih =>
              intro ws h2
              unfold DnL at h2
              obtain ⟨v', ws', rfl, h3, h4⟩ := h2
              have h5 := hall.2
              rw [List.all_cons, Bool.and_eq_true] at h5
              obtain ⟨us, p⟩ := ih ⟨hall.1, h5.2⟩ _ h4
              obtain ⟨t', ht'⟩ := Option.isSome_iff_exists.mp h5.1
              exact ⟨_ :: us, .cons (clsD_ok h3 ht') p⟩
          obtain ⟨us, p⟩ := this
          exact ⟨ctyV w u :: us, .cons (clsD_ok h1 hc) p, kitAny_cons k1 (fun z => nomatch z) (fun _ => rfl)⟩
        | false =>
          obtain ⟨us, p, q⟩ := kitsD_ok O (cs := cs) h2 hall.2 e
          exact ⟨ctyV w u :: us, .cons (clsD_ok h1 hc) p, kitAny_cons k1 (fun _ => q) (fun z => nomatch z)⟩
def rIsiS (K : PySem.W.Frag) : List V → Hp → VK → Prop := fun xs H Q => ∃ (x : V) (tp : Addr) (cs : List V) (t : Value) (us : List Value) (b : Bool), xs = [x, .ref tp] ∧ SqT K H tp cs ∧ Paired ClsV cs us ∧ TyX K H x t ∧ PySem.W.kitAny K t us = some b ∧ Q (.bl b) H
theorem call_isiS : CallR X (.builtin "isinstance") (rIsiS X.K) := by
  intro pins s σ H xs us Q I r h
  obtain ⟨x, tp, cs, t, ws, b, rfl, hT, k, ty, e, q⟩ := h
  obtain ⟨u1, u2, rfl, r1, r2⟩ := vals2 r
  cases (show u2 = Value.ref tp from r2)
  obtain ⟨P, Z, p, hx⟩ := kit_of I r1 ty
  obtain ⟨its, rv, ⟨o, h1, h2, n, h3⟩, _⟩ := I.tuple hT
  have e3 := ClsV.all k rv
  subst e3
  obtain ⟨oc, od, dt, sl⟩ := o
  simp only at h2 h3
  subst h2 h3
  exact PySem.W.kia_tup Z I.kIn p h1 e hx fun tk => ⟨.bl b, H, I.tok tk, rfl, q⟩
theorem vwDn {d : D} {v : V} {t : CTy} (h : Vw w F H d v) (e : clsD d = some t) : w.Dn F d v := by
  cases d with
  | ty n => exact h
  | cls n => exact h
  | _ => cases e
theorem cd_isi {T : IsiT} (O : IsiOk w T) (hK : w.K = X.K := by rfl) : CallD w X (.builtin "isinstance") (isiD T) := by
  refine ⟨_, callr_or call_isi call_isiS, fun F ρ st H xs ds d Q re h hg q => ?_⟩
  obtain ⟨x, y, rfl⟩ := two_of hg rfl (fun a => rfl) (fun a b c r => by cases b <;> rfl)
  obtain ⟨v, u, rfl, hv, hu⟩ := vw2 h
  have own : ∀ t, okTy T t = true → ∀ c, t = .own c → T.ins c = true := fun t h c e => by subst e; exact h
  by_cases hy : ∃ cs, y = .tup cs
  · obtain ⟨cs, rfl⟩ := hy
    simp only [isiD] at hg
    cases ht : tyD x with
    | none => rw [ht] at hg; cases hg
    | some t =>
      rw [ht] at hg
      dsimp only at hg
      split at hg
      · rename_i hz
        cases hb : kitsD T t cs with
        | none => rw [hb] at hg; cases hg
        | some b =>
          rw [hb] at hg; cases hg
          obtain ⟨a, vs, rfl, h1, h2⟩ := dnT re hu
          obtain ⟨us, p, k⟩ := kitsD_ok O h2 hz.2 hb
          exact .inr ⟨v, a, vs, ctyV w t, us, b, rfl, hK ▸ h1, p, hK ▸ tyD_ok O re hv ht (own t hz.1), hK ▸ k, q.sc re mkB⟩
      · cases hg
  · have hg' : (match tyD x, clsD y with
      | some t, some u => if okTy T t = true then (kitD T t u).map D.bl else none
      | _, _ => none) = some d := by
      cases y with
      | tup cs => exact absurd ⟨cs, rfl⟩ hy
      | _ => exact hg
    cases ht : tyD x with
    | none => rw [ht] at hg'; cases hg'
    | some t =>
      cases hc : clsD y with
      | none => rw [ht, hc] at hg'; cases hg'
      | some c =>
        rw [ht, hc] at hg'
        dsimp only at hg'
        split at hg'
        · rename_i hz
          cases hb : kitD T t c with
          | none => rw [hb] at hg'; cases hg'
          | some b =>
            rw [hb] at hg'; cases hg'
            exact .inl ⟨v, u, ctyV w t, ctyV w c, b, rfl, clsD_ok (vwDn hu hc) hc, hK ▸ tyD_ok O re hv ht (own t hz), hK ▸ kitD_ok O hb, q.sc re mkB⟩
        · cases hg'
end
end VL
set_option Elab.async false
set_option linter.all false
set_option maxRecDepth 100000
set_option maxHeartbeats 4000000
namespace VL
open PySem L2 PyProof.Rows
/-! ### enumerate(xs, start=k) -/
theorem callWith_tyKw {M : Model} {A : Around} {E : Value → Shared → Prop} {s : Shared} {env : PySem.Env} {pos : Pos} {T : String} {e : Expr} {rest : List Expr} {kws : List Keyword} {Q : Value → Shared → Prop}
    (h : wpAny M A (spliced (backTo pos (starEach (e :: rest) env))) (fun vs s₁ => wpAny M A (evalAll ((backToKw pos (keywordEach kws env)).map (·.2)))
      (fun ks s₂ => wpAny M A (call (.type T) vs (((backToKw pos (keywordEach kws env)).filterMap (·.1)).zip ks)) Q E s₂) E s₁) E s)
    (he : starEach (e :: rest) env = (false, eval e env) :: starEach rest env)
    (hplain : (backTo pos (starEach (e :: rest) env)).any (·.1) = false) (hall : (backToKw pos (keywordEach kws env)).all (·.1.isSome) = true) (hkw : (backToKw pos (keywordEach kws env)).any (·.1.isNone) = false) :
    wpAny M A (callWith pos (.type T) [] (backTo pos (starEach (e :: rest) env)) (backToKw pos (keywordEach kws env))) Q E s := by
  unfold callWith
  refine wpAny_bind (wpAny_holding (wpAny_mono (evalArgs_kw2 (f := .type T) (Q := fun a s₁ => wpAny M A (call (.type T) ([] ++ a.pos) a.kw) Q E s₁) hall h he) (fun a s₁ h₁ => wpAny_bind (wpAny_standAt ?_)) fun _ _ x => x))
  simp only [hplain, hkw, Bool.or_false]
  refine wpAny_bind (wpAny_pure ?_)
  exact wpAny_bind (wpAny_mono h₁ (fun r s₂ hr => wpAny_bind (wpAny_holding (wpAny_point (wpAny_pure hr)))) fun _ _ x => x)
def Itk (K : PySem.W.Frag) (k : Int) (a : Addr) : It :=
  ⟨fun i H => ∃ (xs : List V) (x : V), SqL K H a xs ∧ xs[i]? = some x, fun i H v H' => ∃ T x, v = .ref T ∧ H T = none ∧ H' = upd H T (.tup [.int (k + (i : Nat)), x]) ∧ ∀ xs, SqL K H a xs → xs[i]? = some x, fun i H => ∃ xs : List V, SqL K H a xs ∧ xs.length = i⟩
theorem turn_enumK {P : Program} {w : World} {K : PySem.W.Frag} {elts : List Expr} {kk : Nat} {tpos : Pos} (k : Int) (a e it : Addr) :
    Turn P w K (.Tuple elts kk tpos) (Itk K k a) [e, it] e (fun i h => (∃ old, IsEnum h e it (k + (i : Nat)) old) ∧ h.IsListIter it a i ∧ e ≠ it ∧ a ≠ it ∧ a ≠ e) where
  mem := by simp
  obj := fun i h st b hb => by
    obtain ⟨⟨old, he⟩, ⟨o, ho, hc, hd⟩, _⟩ := st
    have e' : b = e ∨ b = it := by simpa using hb
    rcases e' with z | z
    · rw [z]; exact ⟨_, he, fun v q => nomatch q⟩
    · rw [z]; exact ⟨o, ho, fun v q => by rw [hd] at q; cases q⟩
  keep := fun i h h' st k => let ⟨⟨old, he⟩, hi, hne⟩ := st; ⟨⟨old, k e (by simp) _ he⟩, hi.at fun o q => k it (by simp) o q, hne⟩
  item := by
    intro X hP hw hK hc i pins s σ H E I hf st hg
    subst hP hw hK
    obtain ⟨⟨old, he⟩, hit, hne, hai, hae⟩ := st
    obtain ⟨xs, x, hq, hx⟩ := hg
    obtain ⟨its, rv, p, hz⟩ := I.list hq
    obtain ⟨u, hu, ru⟩ := rv.get hx
    have hel : e < s.heap.objs.size := Heap.lt_size he
    have hil : it < s.heap.objs.size := by obtain ⟨_, q, _⟩ := hit; exact Heap.lt_size q
    have hlt : i < its.toArray.size := by rw [List.size_toArray]; exact (List.getElem?_eq_some_iff.mp hu).1
    refine wpAny_pyNext_enum_itemC (Draws.list (A := X.A.in1) (I.ok.hd hc) it a hai its.toArray) he ⟨hit, p.isList⟩ hlt hne (by simp [hne, Ne.symm hae]) fun x' h' tk hP ho hst hT hsz hk => ?_
    have hux : x' = u := by
      have h1 : its.toArray[i]? = some u := by simpa using hu
      rw [h1] at hP; exact (Option.some.inj hP).symm
    subst hux
    obtain ⟨hit', hls'⟩ := hst
    refine ⟨_, rfl, wpAny_letOwnedTupleGo_enum (s := { s with heap := h', toks := tk + 1 }) ho fun h'' he' sb => ?_⟩
    have hT2 : h''.get? s.heap.objs.size = some { cls := .type "tuple", data := .seq #[.int (k + (i : Nat)) tk, x'] } := (sb.2 _ (Nat.ne_of_gt hel)).trans hT
    have new : ObjOk X.prog X.w (upd H s.heap.objs.size (.tup [.int (k + (i : Nat)), x])) h'' s.heap.objs.size (.tup [.int (k + (i : Nat)), x]) :=
      ⟨by show 2 ≤ sizeLine; decide, [.int (k + (i : Nat)) tk, x'], .cons ⟨_, rfl⟩ (.cons ru .nil), ⟨_, hT2, rfl, _, rfl⟩⟩
    have I1 : Inv X pins σ (upd H s.heap.objs.size (.tup [.int (k + (i : Nat)), x])) { s with heap := h'', toks := tk + 1 } :=
      I.turnedNew (ch := [e, it]) (fun b ob hb q => (sb.2 b (fun z => hb (by simp [z]))).trans (hk b ob (fun z => hb (by simp [z])) (fun z => hb (by simp [z])) q)) hf (Nat.le_refl _) new
    refine ⟨.ref s.heap.objs.size, _, I1, rfl, ⟨_, x, rfl, I.hok.fresh (Nat.le_refl _), rfl, fun ys hy => by rw [I.list_inj hy hq]; exact hx⟩, ⟨⟨x', ?_⟩, hit'.at fun o q => (sb.2 it (Ne.symm hne)).trans q, hne, hai, hae⟩, fun b hb => ?_⟩
    · have e1 : k + ((i + 1 : Nat) : Int) = k + (i : Nat) + 1 := by omega
      rw [e1]; exact he'
    · have hb' : b < s.heap.objs.size := by
        have e' : b = e ∨ b = it := by simpa using hb
        rcases e' with z | z
        · rw [z]; exact hel
        · rw [z]; exact hil
      rw [upd_ne (Nat.ne_of_lt hb')]
      exact (hf b hb).1
  done := by
    intro X hP hw hK hc i pins s σ H E I hf st hg
    subst hP hw hK
    obtain ⟨⟨old, he⟩, hit, hne, hai, hae⟩ := st
    obtain ⟨xs, hq, hx⟩ := hg
    obtain ⟨its, rv, p, hz⟩ := I.list hq
    obtain ⟨f0, f1, f2, f3, f4, f5⟩ := hf it (by simp)
    have hl := rv.length
    have ez : its.toArray.size = i := by rw [List.size_toArray]; exact hl.symm.trans hx
    have hst : s.heap.IsListIter it a its.toArray.size ∧ s.heap.IsList a its.toArray := ⟨ez ▸ hit, p.isList⟩
    exact wpAny_pyNext_enum_endD (Draws.list (A := X.A.in1) (I.ok.hd hc) it a hai its.toArray) he hst fun h' eb => ⟨rfl, I.turned (t' := s.toks) (fun b o hb q => eb b o hb q) f0 f1 f3 f4 f5⟩
  self := fun A i s Q E st h => let ⟨⟨_, he⟩, _⟩ := st; wpAny_pyIter_enum he h
theorem walk_enumK {K : PySem.W.Frag} {k : Int} {a : Addr} {xs : List V} : Walk (Itk K k a) xs.length (fun H => SqL K H a xs) (YPair (fun i => some (.int (k + (i : Nat)))) (fun i => xs[i]?)) := by
  refine ⟨fun i _ hi q => ⟨xs, xs[i], q, by simp [hi]⟩, fun _ q => ⟨xs, q, rfl⟩, fun i H v H' _ q y => ?_⟩
  obtain ⟨T, x, h1, h2, h3, h4⟩ := y
  exact ⟨T, .int (k + (i : Nat)), x, h1, h2, h3, rfl, h4 xs q⟩
def iEnumK (K : PySem.W.Frag) (ta tk : TA) : TI := fun σ H R => ta σ H fun vs H1 => tk σ H1 fun ks H2 => ∃ a xs k, vs = [.ref a] ∧ ks = [.int k] ∧ -(2 ^ 63) ≤ k ∧ k < 2 ^ 63 ∧ SqL K H2 a xs ∧ R (Itk K k a) H2
theorem pi_enumK {X : Cx} {e : Expr} {ta tk : TA} {p pos tpos : Pos} {elts : List Expr} {kk : Nat} {kws : List Keyword} (hg : Gl X "enumerate") (hm : X.mg "enumerate" = none) (ha : PA X [e] ta) (hk : PK X kws tk)
    (hks : (backToKw pos (keywordEach kws X.env)).filterMap (·.1) = [Str.ofString "start"] := by rfl) (hs : starEach [e] X.env = [(false, eval e X.env)] := by rfl)
    (hall : (backToKw pos (keywordEach kws X.env)).all (·.1.isSome) = true := by rfl) (hkw : (backToKw pos (keywordEach kws X.env)).any (·.1.isNone) = false := by rfl) :
    PI X (.Tuple elts kk tpos) (.Call (.Name "enumerate" p) [e] kws pos) (iEnumK X.K ta tk) := by
  refine ⟨fun pins s σ H R I h => ?_⟩
  refine wpAny_Call_Name_kw (ld_blt I hg hm boot_enumerate (callWith_tyKw (thn (ha.run pos pins s σ H _ I h) fun us s1 ⟨vs, H1, I1, r1, q1⟩ => thn (hk.run pos pins s1 σ H1 _ I1 q1) fun ws s2 ⟨zs, H2, I2, r2, q2⟩ => ?_) hs (by rw [hs]; rfl) hall hkw))
  rw [hks]
  obtain ⟨a, xs, k, ex, ez, hk0, hk1, hq, q⟩ := q2
  subst ex ez
  cases r1 with
  | cons r rr =>
    cases rr
    cases r
    obtain ⟨uk, rfl, ruk⟩ := r2.one
    obtain ⟨tk, rfl⟩ := ruk
    obtain ⟨its, rv, p', hz⟩ := I2.list hq
    refine enum_begins_start (begins_list a its.toArray) p'.isList hk0 hk1 fun h' he hit hsz hk => wpAny_pyIter_enum he ?_
    have I3 : Inv X pins σ H2 { s2 with heap := h' } := I2.kept (t' := s2.toks) hk
    have ha : a < s2.heap.objs.size := by obtain ⟨_, z, _⟩ := p'.isList; exact Heap.lt_size z
    refine ⟨s2.heap.objs.size + 1, [s2.heap.objs.size + 1, s2.heap.objs.size], _, _, H2, rfl, I3, turn_enumK k a (s2.heap.objs.size + 1) s2.heap.objs.size, ⟨⟨.none, by simpa using he⟩, ⟨_, hit, rfl, rfl⟩, Nat.succ_ne_self _, Nat.ne_of_lt ha, Nat.ne_of_lt (Nat.lt_succ_of_lt ha)⟩, fun b hb => ?_, q⟩
    have e' : b = s2.heap.objs.size + 1 ∨ b = s2.heap.objs.size := by simpa using hb
    have hle : s2.heap.objs.size ≤ b := by
      rcases e' with z | z
      · rw [z]; exact Nat.le_add_right _ _
      · rw [z]; exact Nat.le_refl _
    exact I2.fpOk hle (I2.hok.fresh hle)
/-! on data -/
def enumD (k : Int) : List D → List D
  | [] => []
  | d :: r => .tup [.int k, d] :: enumD (k + 1) r
theorem enumD_length : ∀ (ds : List D) (k : Int), (enumD k ds).length = ds.length
  | [], _ => rfl
  | d :: r, k => by show (enumD (k + 1) r).length + 1 = r.length + 1; rw [enumD_length r]
theorem enumD_get : ∀ (ds : List D) (k : Int) (i : Nat) (d : D), ds[i]? = some d → (enumD k ds)[i]? = some (.tup [.int (k + (i : Nat)), d])
  | [], _, i, d, h => by simp at h
  | x :: r, k, 0, d, h => by simp at h; subst h; simp [enumD]
  | x :: r, k, i + 1, d, h => by
    have := enumD_get r (k + 1) i d (by simpa using h)
    show (enumD (k + 1) r)[i]? = _
    rw [this]
    have e : k + 1 + (i : Int) = k + ((i + 1 : Nat) : Int) := by omega
    rw [e]
section
variable {w : Wd} {X : Cx} {W : WX} {F H : Hp} {ρ : List Addr} {st : Store} {m : MV}
theorem walkD_enumK {k : Int} {a : Addr} {xs : List V} {ds : List D} (h : SqL w.K F a xs) (hd : w.DnL F ds xs) : WalkD w F (Itk w.K k a) (enumD k ds) := by
  refine ⟨fun H => SqL w.K H a xs, _, by rw [enumD_length, ← DnL.length hd]; exact walk_enumK, fun F2 H a b => fle_l (a.trans b) h, fun i H x H' F2 hi a b y => ?_⟩
  obtain ⟨T, x1, x2, rfl, hT, rfl, h1, h2⟩ := y
  cases h1
  obtain ⟨d, h3, h4⟩ := DnL.get hd h2
  refine ⟨upd F2 T (.tup [.int (k + (i : Nat)), x2]), .tup [.int (k + (i : Nat)), d], fun ρ => Ext.new b hT, fun ρ st r => r.new hT, enumD_get _ _ _ _ h3, ?_⟩
  unfold Wd.Dn Dn
  refine ⟨T, _, rfl, SqT.of upd_same, ?_⟩
  unfold DnL
  refine ⟨_, _, rfl, by unfold Dn; rfl, ?_⟩
  unfold DnL
  exact ⟨_, _, rfl, Dn.mono (a.trans (Fle.new (b.free hT))) _ _ h4, by unfold DnL; rfl⟩
def mEnumK (k : Int) (m : MV) : MI := fun env st => (m env st).bind fun s st1 => match s with
  | .d (.lst ds) => .ok (enumD k ds) st1
  | .d (.scr ds) => .ok (enumD k ds) st1
  | _ => .stuck
theorem vi_enumK {e : Expr} {p pos p1 p2 tpos : Pos} {elts : List Expr} {kk kz : Nat} {k : Int} (he : PE X e (tE w W m)) (hg : Gl X "enumerate") (hm : X.mg "enumerate" = none) (hk0 : -(2 ^ 63) ≤ k) (hk1 : k < 2 ^ 63)
    (hK : w.K = X.K := by rfl) (hs : starEach [e] X.env = [(false, eval e X.env)] := by rfl) (hs0 : starEach [] X.env = [] := by rfl) :
    VI w X W (.Tuple elts kk tpos) (.Call (.Name "enumerate" p) [e] [⟨some "start", .Constant (.int k) kz p1, p2⟩] pos) (mEnumK k m) := by
  refine ⟨_, pi_enumK hg hm (pa_cons he pa_nil (hs := hs)) (pk_cons pe_int pk_nil) (hs := hs), fun σ H R F ρ st env er re q => ?_⟩
  rw [mEnumK, wpR_bind] at q
  refine tG.use er re q fun s st1 F1 ρ1 H1 x e1 er1 re1 hs h1 => ?_
  show ∃ a xs k', _
  cases s with
  | own l => exact h1.elim
  | d d =>
    cases d with
    | lst ds =>
      unfold SVn Wd.Dn Dn at hs
      obtain ⟨a, vs, rfl, h2, h3⟩ := hs
      exact ⟨a, vs, k, rfl, rfl, hk0, hk1, hK ▸ SqL.of (re1.sub _ _ h2), hK ▸ h1 F1 ρ1 H1 _ e1 re1 (walkD_enumK (SqL.of h2) h3)⟩
    | scr ds =>
      unfold SVn Wd.Dn Dn at hs
      obtain ⟨a, vs, rfl, h2, h3⟩ := hs
      exact ⟨a, vs, k, rfl, rfl, hk0, hk1, hK ▸ fle_l re1.sub h2, hK ▸ h1 F1 ρ1 H1 _ e1 re1 (walkD_enumK h2 h3)⟩
    | _ => exact h1.elim
end
end VL
set_option Elab.async false
set_option linter.all false
set_option maxRecDepth 100000
set_option maxHeartbeats 4000000
namespace VL
open PySem L2 PyProof.Rows
/-! ### dicts keyed by tuples -/
def valE (es : List Ent) (k : NestedKey) : Option V := (es.find? fun x => decide (x.1 = k)).map (·.2.2)
def putE (es : List Ent) (k : NestedKey) (b : Addr) (v : V) : List Ent := if (es.find? fun x => decide (x.1 = k)).isSome = true then es.map (fun x => if x.1 = k then (x.1, x.2.1, v) else x) else es ++ [(k, b, v)]
def isKD (k : NestedKey) (p : D × D) : Bool := match toK p.1 with
  | some kk => decide (kk = k)
  | none => false
def valN (kvs : List (D × D)) (k : NestedKey) : Option D := (kvs.find? (isKD k)).map (·.2)
def putN (kvs : List (D × D)) (k : NestedKey) (d x : D) : List (D × D) := if (kvs.find? (isKD k)).isSome = true then kvs.map (fun p => if isKD k p = true then (p.1, x) else p) else kvs ++ [(d, x)]
abbrev PE1 : Ent → NestedKey × Addr × Value → Prop := fun p q => p.1 = q.1 ∧ p.2.1 = q.2.1 ∧ RelV p.2.2 q.2.2
theorem pe1_val {es : List Ent} {xs : List (NestedKey × Addr × Value)} (r : Paired PE1 es xs) (k : NestedKey) : RelO (valE es k) ((atKey xs k).map (·.2)) := by
  induction r with
  | nil => exact True.intro
  | @cons p q ps qs h t ih =>
    obtain ⟨h1, h2, h3⟩ := h
    by_cases e : p.1 = k
    · have e' : q.1 = k := h1.symm.trans e
      have a : valE (p :: ps) k = some p.2.2 := by simp [valE, List.find?_cons, e]
      have b : atKey (q :: qs) k = some q.2 := by simp [atKey, List.find?_cons, e']
      rw [a, b]; exact h3
    · have e' : ¬ q.1 = k := fun z => e (h1.trans z)
      have a : valE (p :: ps) k = valE ps k := by simp [valE, List.find?_cons, e]
      have b : atKey (q :: qs) k = atKey qs k := by simp [atKey, List.find?_cons, e']
      rw [a, b]; exact ih
theorem pe1_keys {es : List Ent} {xs : List (NestedKey × Addr × Value)} (r : Paired PE1 es xs) : xs.map (·.1) = es.map (·.1) := by
  induction r with
  | nil => rfl
  | cons h t ih => rw [List.map_cons, List.map_cons, h.1, ih]
theorem find_some {es : List Ent} {xs : List (NestedKey × Addr × Value)} (r : Paired PE1 es xs) (k : NestedKey) : (es.find? fun x => decide (x.1 = k)).isSome = (atKey xs k).isSome := by
  have := RelO.isSome_eq (pe1_val r k)
  unfold valE at this
  rw [Option.isSome_map, Option.isSome_map] at this
  exact this
theorem pe1_put {es : List Ent} {xs : List (NestedKey × Addr × Value)} (r : Paired PE1 es xs) (k : NestedKey) {b : Addr} {y : V} {u : Value} (ry : RelV y u) : Paired PE1 (putE es k b y) (storedH xs k b u) := by
  unfold putE storedH
  rw [find_some r k]
  by_cases q : (atKey xs k).isSome = true
  · rw [if_pos q, if_pos q]
    clear q
    induction r with
    | nil => exact .nil
    | @cons p q ps qs h t ih =>
      obtain ⟨h1, h2, h3⟩ := h
      refine .cons ?_ ih
      by_cases e : p.1 = k
      · have e' : q.1 = k := h1.symm.trans e
        show PE1 (if p.1 = k then (p.1, p.2.1, y) else p) (putAt k u q)
        unfold putAt
        rw [if_pos e, if_pos e']
        exact ⟨h1, h2, ry⟩
      · have e' : ¬ q.1 = k := fun z => e (h1.trans z)
        show PE1 (if p.1 = k then (p.1, p.2.1, y) else p) (putAt k u q)
        unfold putAt
        rw [if_neg e, if_neg e']
        exact ⟨h1, h2, h3⟩
  · rw [if_neg q, if_neg q]
    exact Paired.snoc r ⟨rfl, rfl, ry⟩
section
variable {w : Wd} {X : Cx} {F H : Hp} {ρ : List Addr} {st : Store}
theorem dne_val {k : NestedKey} : ∀ {kvs : List (D × D)} {es : List Ent}, DnE w.K w.ct F kvs es → match valN kvs k, valE es k with
    | some d, some v => w.Dn F d v
    | none, none => True
    | _, _ => False
  | [], es, h => by unfold DnE at h; subst h; exact True.intro
  | (kd, d) :: r, es, h => by
    unfold DnE at h
    obtain ⟨kk, b, v, es', rfl, h1, h2, h3, h4, h5⟩ := h
    by_cases e : kk = k
    · have a : valN ((kd, d) :: r) k = some d := by simp [valN, List.find?_cons, isKD, h1, e]
      have b : valE ((kk, b, v) :: es') k = some v := by simp [valE, List.find?_cons, e]
      rw [a, b]; exact h4
    · have a : valN ((kd, d) :: r) k = valN r k := by simp [valN, List.find?_cons, isKD, h1, e]
      have b : valE ((kk, b, v) :: es') k = valE es' k := by simp [valE, List.find?_cons, e]
      rw [a, b]; exact dne_val (kvs := r) h5
theorem dne_isSome {k : NestedKey} {kvs : List (D × D)} {es : List Ent} (h : DnE w.K w.ct F kvs es) : (valE es k).isSome = (valN kvs k).isSome := by
  have q := dne_val (k := k) h
  cases h1 : valN kvs k <;> cases h2 : valE es k <;> rw [h1, h2] at q <;> first | rfl | exact q.elim
theorem dne_len : ∀ {kvs : List (D × D)} {es : List Ent}, DnE w.K w.ct F kvs es → es.length = kvs.length
  | [], es, h => by unfold DnE at h; subst h; rfl
  | (kd, d) :: r, es, h => by
    unfold DnE at h
    obtain ⟨kk, b, v, es', rfl, h1, h2, h3, h4, h5⟩ := h
    have := dne_len (kvs := r) h5
    simp [this]
theorem dne_put {k : NestedKey} {kd d : D} {b : Addr} {v : V} (hk : toK kd = some k) (hd : k.depth ≤ 8) (h3 : w.Dn F kd (.ref b)) (h4 : w.Dn F d v) {kvs : List (D × D)} {es : List Ent} (h : DnE w.K w.ct F kvs es) : DnE w.K w.ct F (putN kvs k kd d) (putE es k b v) := by
  have e : (kvs.find? (isKD k)).isSome = (es.find? fun x => decide (x.1 = k)).isSome := by
    have := dne_isSome (k := k) h
    unfold valE valN at this
    rw [Option.isSome_map, Option.isSome_map] at this
    exact this.symm
  unfold putN putE
  rw [e]
  by_cases q : (es.find? fun x => decide (x.1 = k)).isSome = true
  · rw [if_pos q, if_pos q]
    clear q e
    induction kvs generalizing es with
    | nil => unfold DnE at h; subst h; show DnE w.K w.ct F [] []; unfold DnE; rfl
    | cons p r ih =>
      obtain ⟨pk, pd⟩ := p
      unfold DnE at h
      obtain ⟨kk, b', v', es', rfl, g1, g2, g3, g4, g5⟩ := h
      have t := ih g5
      rw [List.map_cons, List.map_cons]
      by_cases z : kk = k
      · have z1 : isKD k (pk, pd) = true := by unfold isKD; rw [g1]; simp [z]
        rw [if_pos z1, if_pos z]
        unfold DnE
        exact ⟨kk, b', v, _, rfl, g1, g2, g3, h4, t⟩
      · have z1 : ¬ isKD k (pk, pd) = true := by unfold isKD; rw [g1]; simp [z]
        rw [if_neg z1, if_neg z]
        unfold DnE
        exact ⟨kk, b', v', _, rfl, g1, g2, g3, g4, t⟩
  · rw [if_neg q, if_neg q]
    clear q e
    induction kvs generalizing es with
    | nil => unfold DnE at h; subst h; show DnE w.K w.ct F [(kd, d)] [(k, b, v)]; unfold DnE; exact ⟨k, b, v, [], rfl, hk, hd, h3, h4, by unfold DnE; rfl⟩
    | cons p r ih =>
      obtain ⟨pk, pd⟩ := p
      unfold DnE at h
      obtain ⟨kk, b', v', es', rfl, g1, g2, g3, g4, g5⟩ := h
      show DnE w.K w.ct F ((pk, pd) :: (r ++ [(kd, d)])) ((kk, b', v') :: (es' ++ [(k, b, v)]))
      unfold DnE
      exact ⟨kk, b', v', _, rfl, g1, g2, g3, g4, ih g5⟩
theorem putE_keys {es : List Ent} {k : NestedKey} {b : Addr} {v : V} (hn : (es.map (·.1)).Nodup) : ((putE es k b v).map (·.1)).Nodup := by
  unfold putE
  by_cases q : (es.find? fun x => decide (x.1 = k)).isSome = true
  · rw [if_pos q, List.map_map]
    have : (fun x : Ent => x.1) ∘ (fun x : Ent => if x.1 = k then (x.1, x.2.1, v) else x) = fun x => x.1 := by
      funext x
      show (if x.1 = k then (x.1, x.2.1, v) else x).1 = x.1
      split <;> rfl
    rw [this]; exact hn
  · rw [if_neg q, List.map_append]
    refine List.nodup_append.mpr ⟨hn, by simp, fun a ha b' hb' => ?_⟩
    simp at hb'
    subst hb'
    intro z
    subst z
    obtain ⟨x, hx, rfl⟩ := List.mem_map.mp ha
    refine q ?_
    rw [List.find?_isSome]
    exact ⟨x, hx, by simp⟩
theorem putE_len (es : List Ent) (k : NestedKey) (b : Addr) (v : V) : (putE es k b v).length ≤ es.length + 1 := by
  unfold putE
  split
  · simp
  · simp
end
section
variable {w : Wd} {X : Cx} {F H : Hp} {ρ : List Addr} {st : Store} {pins : List (Addr × Obj)} {σ : L2.St} {s : Shared}
mutual
theorem key_is (I : Inv X pins σ H s) (hK : w.K = X.K) (sF : Fle F H) : ∀ (d : D) (v : V) (u : Value) (k : NestedKey), Dn w.K w.ct F d v → toK d = some k → RelV v u → NestedIs s.heap k u
  | .int i, v, u, k, h, e, r => by unfold toK at e; cases e; unfold Dn at h; subst h; obtain ⟨t, rfl⟩ := r; exact .int i t
  | .str x, v, u, k, h, e, r => by unfold toK at e; cases e; unfold Dn at h; subst h; obtain ⟨t, rfl⟩ := r; exact .text x t
  | .tup ds, v, u, k, h, e, r => by
    unfold toK at e
    cases hq : toKs ds with
    | none => rw [hq] at e; cases e
    | some ks =>
      rw [hq] at e; cases e
      unfold Dn at h
      obtain ⟨a, vs, rfl, h1, h2⟩ := h
      obtain rfl : u = Value.ref a := r
      obtain ⟨its, rv, ⟨o, g1, g2, n, g3⟩, _⟩ := I.tuple (hK ▸ fle_t sF h1)
      exact .tup g1 g2 g3 (by simpa using keys_are I hK sF ds vs its ks h2 hq rv)
  | .non, v, u, k, h, e, r => by unfold toK at e; cases e
  | .bl _, v, u, k, h, e, r => by unfold toK at e; cases e
  | .lst _, v, u, k, h, e, r => by unfold toK at e; cases e
  | .scr _, v, u, k, h, e, r => by unfold toK at e; cases e
  | .dct _, v, u, k, h, e, r => by unfold toK at e; cases e
  | .dcn _, v, u, k, h, e, r => by unfold toK at e; cases e
  | .obj _ _, v, u, k, h, e, r => by unfold toK at e; cases e
  | .cls _, v, u, k, h, e, r => by unfold toK at e; cases e
  | .ty _, v, u, k, h, e, r => by unfold toK at e; cases e
  | .adr _, v, u, k, h, e, r => by unfold toK at e; cases e
theorem keys_are (I : Inv X pins σ H s) (hK : w.K = X.K) (sF : Fle F H) : ∀ (ds : List D) (vs : List V) (us : List Value) (ks : List NestedKey), DnL w.K w.ct F ds vs → toKs ds = some ks → Vals vs us → NestedAll s.heap ks us
  | [], vs, us, ks, h, e, r => by unfold toKs at e; cases e; unfold DnL at h; subst h; cases r; exact .nil
  | d :: ds, vs, us, ks, h, e, r => by
    unfold toKs at e
    cases h1 : toK d with
    | none => rw [h1] at e; cases e
    | some k =>
      cases h2 : toKs ds with
      | none => rw [h1, h2] at e; cases e
      | some kt =>
        rw [h1, h2] at e; cases e
        unfold DnL at h
        obtain ⟨v, ws, rfl, g1, g2⟩ := h
        cases r with
        | cons r1 r2 => exact .cons (key_is I hK sF d v _ k g1 h1 r1) (keys_are I hK sF ds ws _ kt g2 h2 r2)
end
/-- a dict that is read at a key -/
structure DAt (w : Wd) (F H : Hp) (a : Addr) (kvs : List (D × D)) (es : Obj × List Ent) : Prop where
  sF : Fle F H
  at_ : H a = some (dnO w.ct a es)
  dn : DnE w.K w.ct F kvs es.2
structure KAt (w : Wd) (F : Hp) (kd : D) (k : NestedKey) (b : Addr) : Prop where
  key : toK kd = some k
  dep : k.depth ≤ 8
  dn : w.Dn F kd (.ref b)
structure Same (w : Wd) (X : Cx) : Prop where
  K : w.K = X.K
  P : w.ct.P = X.prog
  w : w.ct.wd = X.w
theorem keys_all (I : Inv X pins σ H s) (hK : w.K = X.K) (sF : Fle F H) : ∀ {kvs : List (D × D)} {es : List Ent} {xs : List (NestedKey × Addr × Value)}, DnE w.K w.ct F kvs es → Paired PE1 es xs → ∀ x ∈ xs, (nestedKind X.prog X.w).is s.heap x.1 x.2.1
  | [], es, xs, h, r, x, hx => by unfold DnE at h; subst h; cases r; cases hx
  | (kd, d) :: t, es, xs, h, r, x, hx => by
    unfold DnE at h
    obtain ⟨kk, b, v, es', rfl, h1, h2, h3, h4, h5⟩ := h
    cases r with
    | cons r1 r2 =>
      obtain ⟨e1, e2, _⟩ := r1
      rcases List.mem_cons.mp hx with q | q
      · subst q
        rw [← e1, ← e2]
        exact ⟨key_is I hK sF kd _ _ kk h3 h1 rfl, h2⟩
      · exact keys_all I hK sF (kvs := t) h5 r2 x q
theorem dict_of (S : Same w X) (I : Inv X pins σ H s) {a : Addr} {kvs : List (D × D)} {es : Obj × List Ent} (A : DAt w F H a kvs es) : es.2.length ≤ sizeLine ∧ (a == sysModules) = false ∧ (es.2.map (·.1)).Nodup ∧ ∃ xs, Paired PE1 es.2 xs ∧ s.heap.DictOfH (nestedKind X.prog X.w) a xs := by
  obtain ⟨⟨g1, r⟩, _, _⟩ := (show ObjOk X.prog X.w H s.heap a (.ext fun h => h.get? a = some es.1 ∧ DnRaw w.ct.P w.ct.wd a es.1 es.2) from I.hok a _ A.at_)
  obtain ⟨xs, ds, ep, h1, h2, h3⟩ := r.vs
  refine ⟨r.len, r.sys, r.nd, xs, h1, es.1, ds, ep, g1, r.exact_, h2, by rw [← S.P, ← S.w]; exact h3, keys_all I S.K A.sF A.dn h1, ?_⟩
  rw [pe1_keys h1]; exact r.nd
/-- the places where these dicts' rules hold -/
structure SameN (w : Wd) (X : Cx) : Prop where
  s : Same w X
  u : X.A.units + 64 < cLine
theorem room_in1 {A : Around} (h : A.units + 64 < cLine) : (nestedKind X.prog X.w).room A.in1 := by
  show A.in1.units + 8 < cLine
  have : A.in1.units ≤ A.units + 1 := Nat.le_refl _
  omega
variable {a b : Addr} {kvs : List (D × D)} {es : Obj × List Ent} {kd : D} {k : NestedKey} {A : Around} {E : Value → Shared → Prop}
theorem dn_in {Q : Value → Shared → Prop} (S : Same w X) (hu : A.units + 64 < cLine) (I : Inv X pins σ H s) (D : DAt w F H a kvs es) (kk : KAt w F kd k b) (h : ∀ s', Inv X pins σ H s' → Q (.bool (valN kvs k).isSome) s') :
    wpAny (model X.prog X.w) A (compareOp .In (.ref b) (.ref a)) Q E s := by
  obtain ⟨z, hd, _, xs, rel, dd⟩ := dict_of S I D
  refine wpAny_in_heap (room_in1 hu) ⟨key_is I S.K D.sF kd _ _ k kk.dn kk.key rfl, kk.dep⟩ hd dd ?_
  have q := (pe1_val rel k).isSome_eq
  rw [Option.isSome_map] at q
  rw [← q, dne_isSome D.dn]
  exact h _ (I.tok _)
theorem dn_notIn {Q : Value → Shared → Prop} (S : Same w X) (hu : A.units + 64 < cLine) (I : Inv X pins σ H s) (D : DAt w F H a kvs es) (kk : KAt w F kd k b) (h : ∀ s', Inv X pins σ H s' → Q (.bool (!(valN kvs k).isSome)) s') :
    wpAny (model X.prog X.w) A (compareOp .NotIn (.ref b) (.ref a)) Q E s := by
  obtain ⟨z, hd, _, xs, rel, dd⟩ := dict_of S I D
  refine wpAny_notIn_heap (room_in1 hu) ⟨key_is I S.K D.sF kd _ _ k kk.dn kk.key rfl, kk.dep⟩ hd dd ?_
  have q := (pe1_val rel k).isSome_eq
  rw [Option.isSome_map] at q
  rw [← q, dne_isSome D.dn]
  exact h _ (I.tok _)
theorem dn_some (D : DAt w F H a kvs es) {d : VL.D} (hv : valN kvs k = some d) : ∃ v, valE es.2 k = some v ∧ w.Dn F d v := by
  have q := dne_val (k := k) D.dn
  rw [hv] at q
  cases h2 : valE es.2 k with
  | none => rw [h2] at q; exact q.elim
  | some v => rw [h2] at q; exact ⟨v, rfl, q⟩
theorem dn_none (D : DAt w F H a kvs es) (hv : valN kvs k = none) : valE es.2 k = none := by
  have q := dne_isSome (k := k) D.dn
  rw [hv] at q
  cases h2 : valE es.2 k with
  | none => rfl
  | some v => rw [h2] at q; cases q
theorem dn_getItem {d : VL.D} {Q : Value → Shared → Prop} (S : Same w X) (hu : A.units + 64 < cLine) (I : Inv X pins σ H s) (D : DAt w F H a kvs es) (kk : KAt w F kd k b) (hv : valN kvs k = some d) (h : ∀ v w' s', Inv X pins σ H s' → w.Dn F d v → RelV v w' → Q w' s') :
    wpAny (model X.prog X.w) A (getItem (.ref a) (.ref b)) Q E s := by
  obtain ⟨z, hd, _, xs, rel, dd⟩ := dict_of S I D
  obtain ⟨v, hv1, hv2⟩ := dn_some D hv
  obtain ⟨w', hw, rw'⟩ := RelO.some_of (v := v) (o := (atKey xs k).map (·.2)) (by rw [← hv1]; exact pe1_val rel k)
  obtain ⟨p, hp, hp2⟩ := Option.map_eq_some_iff.mp hw
  refine wpAny_getItem_heap (room_in1 hu) ⟨key_is I S.K D.sF kd _ _ k kk.dn kk.key rfl, kk.dep⟩ dd hp ?_
  rw [hp2]
  exact h v w' _ (I.tok _) hv2 rw'
theorem dn_get2 {d : VL.D} {x : V} {r : Value} {Q : Value → Shared → Prop} (S : Same w X) (hu : A.units + 64 < cLine) (I : Inv X pins σ H s) (D : DAt w F H a kvs es) (kk : KAt w F kd k b) (hx : w.Dn F d x) (rx : RelV x r) (h : ∀ v w' s', Inv X pins σ H s' → w.Dn F ((valN kvs k).getD d) v → RelV v w' → Q w' s') :
    wpAny (model X.prog X.w) A (call (.builtin "dict.get") [.ref a, .ref b, r]) Q E s := by
  obtain ⟨z, hd, _, xs, rel, dd⟩ := dict_of S I D
  refine call_meetsIn PySem.F.slot_dict_get dd.typeIs PySem.F.entry_dict_get (PySem.F.args_dict_get_3 _ _ _) (meetsH_dict_get_default (nestedKind X.prog X.w) a b hd r) ⟨room_in1 hu, k, xs, ⟨key_is I S.K D.sF kd _ _ k kk.dn kk.key rfl, kk.dep⟩, dd, ?_⟩
  have q := (pe1_val rel k).getD rx
  cases hv : valN kvs k with
  | none => rw [dn_none D hv] at q; exact h x _ _ (I.tok _) (by rw [hv]; exact hx) q
  | some d' => obtain ⟨v, hv1, hv2⟩ := dn_some D hv; rw [hv1] at q; exact h v _ _ (I.tok _) (by rw [hv]; exact hv2) q
theorem dn_get1 {Q : Value → Shared → Prop} (S : Same w X) (hu : A.units + 64 < cLine) (I : Inv X pins σ H s) (D : DAt w F H a kvs es) (kk : KAt w F kd k b) (h : ∀ v w' s', Inv X pins σ H s' → w.Dn F ((valN kvs k).getD .non) v → RelV v w' → Q w' s') :
    wpAny (model X.prog X.w) A (call (.builtin "dict.get") [.ref a, .ref b]) Q E s := by
  obtain ⟨z, hd, _, xs, rel, dd⟩ := dict_of S I D
  refine call_meetsIn PySem.F.slot_dict_get dd.typeIs PySem.F.entry_dict_get (PySem.F.args_dict_get_2 _ _) (meetsH_dict_get (nestedKind X.prog X.w) a b hd) ⟨room_in1 hu, k, xs, ⟨key_is I S.K D.sF kd _ _ k kk.dn kk.key rfl, kk.dep⟩, dd, ?_⟩
  have q := (pe1_val rel k).getD (d := .non) (d' := .none) rfl
  cases hv : valN kvs k with
  | none => rw [dn_none D hv] at q; exact h .non _ _ (I.tok _) (by rw [hv]; show w.Dn F .non .non; unfold Wd.Dn Dn; rfl) q
  | some d' => obtain ⟨v, hv1, hv2⟩ := dn_some D hv; rw [hv1] at q; exact h v _ _ (I.tok _) (by rw [hv]; exact hv2) q
theorem dnO_ok {P : Program} {wd : World} {H : Hp} {ct : Ct} {h : Heap} {a : Addr} {es : Obj × List Ent} (h1 : h.get? a = some es.1) (h2 : DnRaw ct.P ct.wd a es.1 es.2) : ObjOk P wd H h a (dnO ct a es) :=
  ⟨⟨h1, h2⟩, ⟨_, h1⟩, fun x1 x2 z k => ⟨k _ z.1, z.2⟩⟩
theorem dn_setItem {v : V} {r : Value} {Q : Unit → Shared → Prop} (S : Same w X) (hu : A.units + 64 < cLine) (I : Inv X pins σ H s) (D : DAt w F H a kvs es) (kk : KAt w F kd k b) (rv : RelV v r) (hl : es.2.length < sizeLine) (h : ∀ o s', Inv X pins σ (upd H a (dnO w.ct a (o, putE es.2 k b v))) s' → Q () s') :
    wpAny (model X.prog X.w) A (setItem (.ref a) (.ref b) r) Q E s := by
  obtain ⟨z, hd, hn, xs, rel, dd⟩ := dict_of S I D
  have hz : xs.length ≤ sizeLine := by rw [← Paired.length rel]; exact z
  refine wpAny_setItem_heap (hsz := hz) (room_in1 hu) ⟨key_is I S.K D.sF kd _ _ k kk.dn kk.key rfl, kk.dep⟩ dd fun h' dd' hs => ?_
  obtain ⟨q, ds, ep, hq, h2, h3, h4, _, h5⟩ := dd'
  refine h q _ (d_write I (by rw [D.at_]; exact True.intro) hs ⟨q, hq⟩ (dnO_ok hq ⟨?_, hd, putE_keys hn, h2, _, ds, ep, pe1_put rel k rv, h3, by rw [S.P, S.w]; exact h4⟩))
  have := putE_len es.2 k b v
  show (putE es.2 k b v).length ≤ sizeLine
  omega
end
end VL
set_option Elab.async false
set_option linter.all false
set_option maxRecDepth 100000
set_option maxHeartbeats 4000000
namespace VL
open PySem L2 PyProof.Rows
section
variable {w : Wd} {X : Cx} {W : WX} {F H : Hp} {ρ : List Addr} {st : Store} {Q : VK} {e a b c o f : Expr} {pos apos cpos : Pos} {m ma mb mc mo me mx : MV} {σ : L2.St} {env : Env}
def dict0 : Obj := { cls := .type "dict", data := .dict #[] }
def tDNewN (ct : Ct) : TE := fun _ H Q => ∀ p, H p = none → Q (.ref p) (upd H p (dnO ct p (dict0, [])))
theorem raw0 {P : Program} {wd : World} {p : Addr} (h : (p == sysModules) = false) : DnRaw P wd p dict0 [] := ⟨Nat.zero_le _, h, List.nodup_nil, ⟨rfl, rfl, rfl⟩, [], #[], 0, .nil, rfl, rfl⟩
theorem pe_dnewN (S : Same w X) : PE X (.Dict [] [] pos) (tDNewN w.ct) := ⟨fun pins s σ H Q I h =>
  wpAny_Dict_empty ⟨.ref s.heap.objs.size, _, I.laid (a := s.heap.objs.size) (o := dnO w.ct s.heap.objs.size (dict0, [])) (t' := s.toks) (fun _ _ q => Heap.get?_push_of_some _ q) (Nat.le_refl _)
    (dnO_ok (Heap.get?_push_size _ rfl) (raw0 (beq_eq_false_iff_ne.mpr (Ne.symm (Nat.ne_of_lt I.big))))), rfl, h _ (I.hok.fresh (Nat.le_refl _))⟩⟩
def mDNew : MV := fun _ st => .ok (.own st.length) (st ++ [.dcn true []])
theorem ve_dnew (S : Same w X) : PE X (.Dict [] [] pos) (tE w W mDNew) := by
  refine pe_imp (pe_dnewN S) fun σ H Q ⟨F, ρ, st, env, er, re, h⟩ => fun p hp => ?_
  refine h F (ρ ++ [p]) _ _ ((Ext.refl _ _ _).alloc hp) (re.alloc hp ⟨(dict0, []), upd_same, re.sub.free hp, by unfold DnE; rfl⟩) ⟨p, ?_, rfl⟩
  rw [← re.len]
  simp
/-! ### in, not in -/
def keyD : D → Option NestedKey
  | .tup ds => match toK (.tup ds) with
    | some k => if k.depth ≤ 8 then some k else none
    | none => none
  | _ => none
theorem keyD_ok {d : D} {k : NestedKey} {v : V} (re : Rel w F ρ st H) (h : keyD d = some k) (hv : Vw w F H d v) : ∃ b, v = .ref b ∧ KAt w F d k b := by
  cases d with
  | tup ds =>
    simp only [keyD] at h
    cases hk : toK (.tup ds) with
    | none => rw [hk] at h; cases h
    | some kk =>
      rw [hk] at h
      dsimp only at h
      split at h
      · rename_i hz
        cases h
        have hv' : w.Dn F (.tup ds) v := hv
        obtain ⟨b, vs, rfl, _⟩ := (by unfold Wd.Dn Dn at hv'; exact hv')
        exact ⟨b, rfl, hk, hz, hv⟩
      · cases h
  | _ => cases h
def inD2 (a b : D) : Option D := match b with
  | .dcn kvs => (keyD a).map fun k => .bl (valN kvs k).isSome
  | _ => inD a b
def notInD2 (a b : D) : Option D := match b with
  | .dcn kvs => (keyD a).map fun k => .bl (!(valN kvs k).isSome)
  | _ => notInD a b
theorem op_inN (S : Same w X) (hu : X.A.units + 64 < cLine) : OpR X (compareOp .In) (fun x y H Q => ∃ F kvs es kd k a b, x = .ref b ∧ y = .ref a ∧ DAt w F H a kvs es ∧ KAt w F kd k b ∧ Q (.bl (valN kvs k).isSome) H) := by
  intro pins s σ H x y v u Q I rx ry h
  obtain ⟨F, kvs, es, kd, k, a, b, rfl, rfl, hd, hk, q⟩ := h
  obtain rfl : v = Value.ref b := rx
  obtain rfl : u = Value.ref a := ry
  exact dn_in S hu I hd hk fun s' I' => ⟨.bl (valN kvs k).isSome, H, I', rfl, q⟩
theorem op_notInN (S : Same w X) (hu : X.A.units + 64 < cLine) : OpR X (compareOp .NotIn) (fun x y H Q => ∃ F kvs es kd k a b, x = .ref b ∧ y = .ref a ∧ DAt w F H a kvs es ∧ KAt w F kd k b ∧ Q (.bl (!(valN kvs k).isSome)) H) := by
  intro pins s σ H x y v u Q I rx ry h
  obtain ⟨F, kvs, es, kd, k, a, b, rfl, rfl, hd, hk, q⟩ := h
  obtain rfl : v = Value.ref b := rx
  obtain rfl : u = Value.ref a := ry
  exact dn_notIn S hu I hd hk fun s' I' => ⟨.bl (!(valN kvs k).isSome), H, I', rfl, q⟩
theorem od_in2 (S : Same w X) (hu : X.A.units + 64 < cLine) : OpD w X (compareOp .In) inD2 := by
  obtain ⟨r, h1, h2⟩ := od_in S.K
  refine ⟨_, opr_or h1 (op_inN S hu), fun F ρ st H x y a b d Q re ha hb hg q => ?_⟩
  cases b with
  | dcn kvs =>
    simp only [inD2] at hg
    cases hk : keyD a with
    | none => rw [hk] at hg; cases hg
    | some k =>
      rw [hk] at hg; cases hg
      obtain ⟨b, rfl, kk⟩ := keyD_ok re hk ha
      obtain ⟨p, es, rfl, g1, g2⟩ := hb
      exact .inr ⟨F, kvs, es, a, k, p, b, rfl, rfl, ⟨re.sub, g1, g2⟩, kk, q.sc re mkB⟩
  | _ => exact .inl (h2 F ρ st H x y a _ d Q re ha hb hg q)
theorem od_notIn2 (S : Same w X) (hu : X.A.units + 64 < cLine) : OpD w X (compareOp .NotIn) notInD2 := by
  obtain ⟨r, h1, h2⟩ := od_notIn S.K
  refine ⟨_, opr_or h1 (op_notInN S hu), fun F ρ st H x y a b d Q re ha hb hg q => ?_⟩
  cases b with
  | dcn kvs =>
    simp only [notInD2] at hg
    cases hk : keyD a with
    | none => rw [hk] at hg; cases hg
    | some k =>
      rw [hk] at hg; cases hg
      obtain ⟨b, rfl, kk⟩ := keyD_ok re hk ha
      obtain ⟨p, es, rfl, g1, g2⟩ := hb
      exact .inr ⟨F, kvs, es, a, k, p, b, rfl, rfl, ⟨re.sub, g1, g2⟩, kk, q.sc re mkB⟩
  | _ => exact .inl (h2 F ρ st H x y a _ d Q re ha hb hg q)
/-! ### d[k] -/
def idxD2 (a b : D) : Option D := match a with
  | .dcn kvs => match keyD b with
    | some k => valN kvs k
    | none => none
  | _ => idxD a b
theorem ix_or {X : Cx} {r r' : R2} (a : IxR X r) (b : IxR X r') : IxR X (fun x y H Q => r x y H Q ∨ r' x y H Q) := fun e1 e2 pins s σ H x y v u Q I rx ry h hs => h.elim (fun z => a e1 e2 pins s σ H x y v u Q I rx ry z hs) (fun z => b e1 e2 pins s σ H x y v u Q I rx ry z hs)
theorem ix_dn (S : Same w X) (hu : X.A.units + 64 < cLine) : IxR X (fun x y H Q => ∃ F kvs es kd k a b d, x = .ref a ∧ y = .ref b ∧ DAt w F H a kvs es ∧ KAt w F kd k b ∧ valN kvs k = some d ∧ ∀ v, w.Dn F d v → Q v H) := by
  intro e1 e2 pins s σ H x y v u Q I rx ry h hs
  obtain ⟨F, kvs, es, kd, k, a, b, d, rfl, rfl, hd, hk, hv, q⟩ := h
  obtain rfl : v = Value.ref a := rx
  obtain rfl : u = Value.ref b := ry
  obtain ⟨_, _, _, xs, rel, dd⟩ := dict_of S I hd
  have hT := dd.typeIs
  unfold subscriptTail
  refine wpAny_bind ?_
  rw [getitemInPython_of_ne hT.not_modules]
  refine wpAny_bind (wpAny_specialOf hT PySem.F.slot_dict_getitem.lookup ?_)
  have fin : wpAny (model X.prog X.w) X.A (subscripted e2 false (.ref a) (.ref b)) (fun r s₃ => wpAny (model X.prog X.w) X.A (letTemporaryGo e1 (.ref a) r >>= fun _ => pure r) (EP X pins σ Q) X.xe s₃) X.xe s := by
    rw [hs]
    exact wpAny_operating (dn_getItem S hu I hd hk hv fun v w' s' I' hv' rw' => wpAny_bind (wpAny_letTemporaryGo (wpAny_pure ⟨v, H, I', rw', q v hv'⟩)))
  first
    | exact wpAny_pure (wpAny_bind fin)
    | exact wpAny_bind (wpAny_pure (wpAny_bind fin))
    | exact wpAny_bind fin
theorem id_ix2 (S : Same w X) (hu : X.A.units + 64 < cLine) : IxD w X idxD2 := by
  obtain ⟨r, h1, h2⟩ := id_ix S.K
  refine ⟨_, ix_or h1 (ix_dn S hu), fun F ρ st H x y a b d Q re ha hb hg q => ?_⟩
  cases a with
  | dcn kvs =>
    simp only [idxD2] at hg
    cases hk : keyD b with
    | none => rw [hk] at hg; cases hg
    | some k =>
      rw [hk] at hg
      obtain ⟨b', rfl, kk⟩ := keyD_ok re hk hb
      obtain ⟨p, es, rfl, g1, g2⟩ := ha
      exact .inr ⟨F, kvs, es, b, k, p, b', d, rfl, rfl, ⟨re.sub, g1, g2⟩, kk, hg, fun v hv => q.sc re hv⟩
  | _ => exact .inl (h2 F ρ st H x y _ b d Q re ha hb hg q)
/-! ### d.get(k), d.get(k, x) -/
theorem dn_ty {pins : List (Addr × Obj)} {s : Shared} {p : Addr} {kvs : List (D × D)} {es : Obj × List Ent} (S : Same w X) (I : Inv X pins σ H s) (A : DAt w F H p kvs es) : s.TypeIs (.ref p) "dict" ∧ (∀ b, Value.ref p = .ref b → ∃ ob, s.heap.get? b = some ob ∧ ob.dict = none) := by
  obtain ⟨_, _, _, xs, rel, o, ds, ep, g1, g2, _⟩ := dict_of S I A
  exact ⟨⟨o, g1, g2.1⟩, fun b h => by cases h; exact ⟨o, g1, g2.2.1⟩⟩
def tGetN2 (w : Wd) (td ty tx : TE) : TE := fun σ H Q => td σ H fun x H1 => ∃ F kvs es p, x = .ref p ∧ DAt w F H1 p kvs es ∧ ty σ H1 fun y H2 => tx σ H2 fun z H3 => ∃ F2 kd k b d, y = .ref b ∧ DAt w F2 H3 p kvs es ∧ KAt w F2 kd k b ∧ w.Dn F2 d z ∧ ∀ v, w.Dn F2 ((valN kvs k).getD d) v → Q v H3
theorem pe_getN2 {td ty tx : TE} (S : Same w X) (hu : X.A.units + 64 < cLine) (ho : PE X o td) (he : PE X e ty) (hf : PE X f tx) (m : M2 X o "get" apos e f cpos) : PE X (.Call (.Attribute o "get" apos) [e, f] [] cpos) (tGetN2 w td ty tx) := by
  refine ⟨fun pins s σ H Q I h => ?_⟩
  refine wpAny_Call_method m.base m.few m.line PySem.F.plainAttrs_dict PySem.F.slot_dict_get PySem.F.type_dict_get (thn (ho.run pins s σ H _ I h) fun u s1 ⟨x, H1, I1, rx, F1, kvs, es, p, ex, d, q1⟩ => ?_)
  subst ex
  obtain rfl : u = Value.ref p := rx
  obtain ⟨t1, t2⟩ := dn_ty S I1 d
  refine ⟨t1, t2, ?_⟩
  rw [m.trees]
  refine Calls.callWith_builtin rfl (Calls.evalArgs_plain (Calls.spliced_cons (thn (he.run pins s1 σ H1 _ I1 q1) fun iv s2 ⟨y, H2, I2, ry, q2⟩ =>
    Calls.spliced_cons (thn (hf.run pins s2 σ H2 _ I2 q2) fun fv s3 ⟨z, H3, I3, rz, F3, kd, k, b, dd, ey, d3, hk, hz, q3⟩ => Calls.spliced_nil ?_))))
  subst ey
  obtain rfl : iv = Value.ref b := ry
  exact dn_get2 S hu I3 d3 hk hz rz fun v w' s4 I4 hv rw' => ⟨v, H3, I4, rw', q3 v hv⟩
def tGetN1 (w : Wd) (td ty : TE) : TE := fun σ H Q => td σ H fun x H1 => ∃ F kvs es p, x = .ref p ∧ DAt w F H1 p kvs es ∧ ty σ H1 fun y H3 => ∃ F2 kd k b, y = .ref b ∧ DAt w F2 H3 p kvs es ∧ KAt w F2 kd k b ∧ ∀ v, w.Dn F2 ((valN kvs k).getD .non) v → Q v H3
theorem pe_getN1 {td ty : TE} (S : Same w X) (hu : X.A.units + 64 < cLine) (ho : PE X o td) (he : PE X e ty) (m : M1 X o "get" apos e cpos) : PE X (.Call (.Attribute o "get" apos) [e] [] cpos) (tGetN1 w td ty) := by
  refine ⟨fun pins s σ H Q I h => ?_⟩
  refine wpAny_Call_method m.base m.few m.line PySem.F.plainAttrs_dict PySem.F.slot_dict_get PySem.F.type_dict_get (thn (ho.run pins s σ H _ I h) fun u s1 ⟨x, H1, I1, rx, F1, kvs, es, p, ex, d, q1⟩ => ?_)
  subst ex
  obtain rfl : u = Value.ref p := rx
  obtain ⟨t1, t2⟩ := dn_ty S I1 d
  refine ⟨t1, t2, ?_⟩
  rw [m.trees]
  refine Calls.callWith_builtin rfl (Calls.evalArgs_plain (Calls.spliced_cons (thn (he.run pins s1 σ H1 _ I1 q1) fun iv s2 ⟨y, H3, I3, ry, F3, kd, k, b, ey, d3, hk, q3⟩ => Calls.spliced_nil ?_)))
  subst ey
  obtain rfl : iv = Value.ref b := ry
  exact dn_get1 S hu I3 d3 hk fun v w' s4 I4 hv rw' => ⟨v, H3, I4, rw', q3 v hv⟩
def mGet2 (mo me mx : MV) : MV := fun env st => (mo env st).bind fun s st1 => match s with
  | .d (.dcn kvs) => (me env st1).bind fun t st2 => (mx env st2).bind fun z st3 => match t, z with
    | .d kd, .d x => match keyD kd with
      | some k => .ok (.d ((valN kvs k).getD x)) st3
      | none => .stuck
    | _, _ => .stuck
  | _ => .stuck
def mGet1 (mo me : MV) : MV := fun env st => (mo env st).bind fun s st1 => match s with
  | .d (.dcn kvs) => (me env st1).bind fun t st2 => match t with
    | .d kd => match keyD kd with
      | some k => .ok (.d ((valN kvs k).getD .non)) st2
      | none => .stuck
    | _ => .stuck
  | _ => .stuck
theorem ve_get2 (S : Same w X) (hu : X.A.units + 64 < cLine) (ho : PE X o (tE w W mo)) (he : PE X e (tE w W me)) (hf : PE X f (tE w W mx)) (m : M2 X o "get" apos e f cpos) : PE X (.Call (.Attribute o "get" apos) [e, f] [] cpos) (tE w W (mGet2 mo me mx)) := by
  refine pe_imp (pe_getN2 S hu ho he hf m) fun σ H Q ⟨F, ρ, st, env, er, re, h⟩ => ?_
  rw [mGet2, wpR_bind] at h
  refine tG.use er re h fun s st1 F1 ρ1 H1 x e1 er1 re1 hs h1 => ?_
  cases s with
  | own _ => exact h1.elim
  | d d =>
    cases d with
    | dcn kvs =>
      dsimp only at h1
      unfold SVn Wd.Dn Dn at hs
      obtain ⟨p, es, rfl, g1, g2⟩ := hs
      refine ⟨F1, kvs, es, p, rfl, ⟨re1.sub, re1.sub _ _ g1, g2⟩, ?_⟩
      rw [wpR_bind] at h1
      refine tG.use er1 re1 (wpR.upX e1 h1) fun t st2 F2 ρ2 H2 y e2 er2 re2 ht h2 => ?_
      rw [wpR_bind] at h2
      refine tG.use er2 re2 (wpR.upX (e1.trans e2) h2) fun z st3 F3 ρ3 H3 zz e3 er3 re3 hz h3 => ?_
      cases t with
      | own _ => exact h3.elim
      | d kd =>
        cases z with
        | own _ => exact h3.elim
        | d xd =>
          dsimp only at h3
          cases hk : keyD kd with
          | none => rw [hk] at h3; exact h3.elim
          | some k =>
            rw [hk] at h3
            obtain ⟨b, rfl, kk⟩ := keyD_ok re3 hk (vw_dn re3.sub (ht.ext e3))
            refine ⟨F3, kd, k, b, xd, rfl, ⟨re3.sub, re3.sub _ _ ((e2.trans e3).f _ _ g1), DnE.mono (e2.trans e3).f _ _ g2⟩, kk, hz, fun v hv => ?_⟩
            exact h3 F3 ρ3 H3 v ((e1.trans e2).trans e3) re3 hv
    | _ => exact h1.elim
theorem ve_get1 (S : Same w X) (hu : X.A.units + 64 < cLine) (ho : PE X o (tE w W mo)) (he : PE X e (tE w W me)) (m : M1 X o "get" apos e cpos) : PE X (.Call (.Attribute o "get" apos) [e] [] cpos) (tE w W (mGet1 mo me)) := by
  refine pe_imp (pe_getN1 S hu ho he m) fun σ H Q ⟨F, ρ, st, env, er, re, h⟩ => ?_
  rw [mGet1, wpR_bind] at h
  refine tG.use er re h fun s st1 F1 ρ1 H1 x e1 er1 re1 hs h1 => ?_
  cases s with
  | own _ => exact h1.elim
  | d d =>
    cases d with
    | dcn kvs =>
      dsimp only at h1
      unfold SVn Wd.Dn Dn at hs
      obtain ⟨p, es, rfl, g1, g2⟩ := hs
      refine ⟨F1, kvs, es, p, rfl, ⟨re1.sub, re1.sub _ _ g1, g2⟩, ?_⟩
      rw [wpR_bind] at h1
      refine tG.use er1 re1 (wpR.upX e1 h1) fun t st2 F2 ρ2 H2 y e2 er2 re2 ht h2 => ?_
      cases t with
      | own _ => exact h2.elim
      | d kd =>
        dsimp only at h2
        cases hk : keyD kd with
        | none => rw [hk] at h2; exact h2.elim
        | some k =>
          rw [hk] at h2
          obtain ⟨b, rfl, kk⟩ := keyD_ok re2 hk (vw_dn re2.sub ht)
          exact ⟨F2, kd, k, b, rfl, ⟨re2.sub, re2.sub _ _ (e2.f _ _ g1), DnE.mono e2.f _ _ g2⟩, kk, fun v hv => h2 F2 ρ2 H2 v (e1.trans e2) re2 hv⟩
    | _ => exact h1.elim
end
end VL
set_option Elab.async false
set_option linter.all false
set_option maxRecDepth 100000
set_option maxHeartbeats 4000000
namespace VL
open PySem L2 PyProof.Rows
section
variable {w : Wd} {X : Cx} {W : WX} {F H : Hp} {ρ : List Addr} {st : Store} {Q : VK} {e a b c o i value : Expr} {pos pos' apos cpos : Pos} {m ma mb mc mo mi me mx : MV} {σ : L2.St} {env : Env}
/-! ### d[k] = v -/
def sPutN (w : Wd) (td ty tv : TE) : TS := fun D σ H => tv σ H fun v H1 => td σ H1 fun x H2 => ty σ H2 fun y H3 => ∃ F kvs es kd k a b, x = .ref a ∧ y = .ref b ∧ DAt w F H3 a kvs es ∧ KAt w F kd k b ∧ es.2.length < sizeLine ∧
  ∀ o', D.nx σ (upd H3 a (dnO w.ct a (o', putE es.2 k b v)))
theorem ps_putN {td ty tv : TE} (S : Same w X) (hu : X.A.units + 64 < cLine) (ho : PE X o td) (hi : PE X i ty) (hv : PE X value tv) (hs : swapsWith value (some (.Subscript o i pos')) pos.line X.env = pure false) :
    PS X (.Assign [.Subscript o i pos'] value pos) (sPutN w td ty tv) := by
  refine ⟨fun pins s σ H D I h => ?_⟩
  refine wpAny_Assign_Subscript (thn (hv.run pins s σ H _ I h) fun r s1 ⟨v, H1, I1, rv, q1⟩ => thn (ho.run pins s1 σ H1 _ I1 q1) fun u s2 ⟨x, H2, I2, rx, q2⟩ => thn (hi.run pins s2 σ H2 _ I2 q2) fun iv s3 ⟨y, H3, I3, ry, F, kvs, es, kd, k, a, b, ex, ey, hd, hk, hl, q3⟩ => ?_) hs
  subst ex ey
  obtain rfl : u = Value.ref a := rx
  obtain rfl : iv = Value.ref b := ry
  exact dn_setItem S hu I3 hd hk rv hl fun o' s4 I4 => ⟨σ, _, I4, q3 o'⟩
def mSetIxN (mo mi me : MV) : MS := fun env st => toFl (me env st) env fun t st1 => toFl (mo env st1) env fun s st2 => toFl (mi env st2) env fun k st3 => match t, s, k with
  | .d x, .own l, .d kd => match st3[l]? with
    | some (.dcn true kvs) => match keyD kd with
      | some k => if kvs.length < sizeLine then .nx env (st3.set l (.dcn true (putN kvs k kd x))) else .stuck
      | none => .stuck
    | _ => .stuck
  | _, _, _ => .stuck
theorem vs_setIxN (S : Same w X) (hu : X.A.units + 64 < cLine) (he : PE X value (tE w W me)) (ho : PE X o (tE w W mo)) (hi : PE X i (tE w W mi)) (hs : swapsWith value (some (.Subscript o i pos')) pos.line X.env = pure false := by rfl) :
    PS X (.Assign [.Subscript o i pos'] value pos) (tS w W (mSetIxN mo mi me)) := by
  refine ps_imp (ps_putN S hu ho hi he hs) fun D σ H ⟨F, ρ, st, env, er, re, h⟩ => ?_
  refine tG.useF er re h fun t st1 F1 ρ1 H1 v e1 er1 re1 ht h1 => ?_
  refine tG.useF er1 re1 h1 fun s st2 F2 ρ2 H2 x e2 er2 re2 hs h2 => ?_
  refine tG.useF er2 re2 h2 fun k st3 F3 ρ3 H3 y e3 er3 re3 hk h3 => ?_
  cases t with
  | own _ => exact h3.elim
  | d xd =>
    cases s with
    | d _ => exact h3.elim
    | own l =>
      cases k with
      | own _ => exact h3.elim
      | d kd =>
        obtain ⟨a, ha, rfl⟩ := hs
        dsimp only at h3
        cases hc : st3[l]? with
        | none => rw [hc] at h3; exact h3.elim
        | some cl =>
          rw [hc] at h3
          have ha3 := e3.r l a ha
          have q := re3.cell l a cl ha3 hc
          cases cl with
          | dcn m0 kvs =>
            cases m0 with
            | false => exact h3.elim
            | true =>
              dsimp only at h3
              cases hkd : keyD kd with
              | none => rw [hkd] at h3; exact h3.elim
              | some kk =>
                rw [hkd] at h3
                dsimp only at h3
                by_cases hz : kvs.length < sizeLine
                · rw [if_pos hz] at h3
                  obtain ⟨es, a1, a2, a3⟩ := q
                  obtain ⟨b, rfl, kat⟩ := keyD_ok re3 hkd (vw_dn re3.sub hk)
                  refine ⟨F3, kvs, es, kd, kk, a, b, rfl, rfl, ⟨re3.sub, a1, a3⟩, kat, by rw [dne_len a3]; exact hz, fun o' => ?_⟩
                  exact h3 F3 ρ3 σ _ ((Ext.refl _ _ _).write (List.mem_of_getElem? ha3)) er3 (re3.write ha3 a2 ⟨(o', putE es.2 kk b v), upd_same, a2, dne_put kat.key kat.dep kat.dn (ht.ext (e2.trans e3)) a3⟩)
                · rw [if_neg hz] at h3; exact h3.elim
          | _ => exact h3.elim
/-! ### list(d) -/
theorem dne_keys : ∀ {kvs : List (D × D)} {es : List Ent}, DnE w.K w.ct F kvs es → w.DnL F (kvs.map (·.1)) (es.map fun x => V.ref x.2.1)
  | [], es, h => by unfold DnE at h; subst h; show w.DnL F [] []; unfold Wd.DnL DnL; rfl
  | (kd, d) :: r, es, h => by
    unfold DnE at h
    obtain ⟨kk, b, v, es', rfl, h1, h2, h3, h4, h5⟩ := h
    show DnL _ _ F (kd :: r.map (·.1)) (V.ref b :: es'.map fun x => V.ref x.2.1)
    unfold DnL
    exact ⟨_, _, rfl, h3, dne_keys (kvs := r) h5⟩
theorem vals_keys {es : List Ent} {vs : List (NestedKey × Addr × Value)} (r : Paired PE1 es vs) : Vals (es.map fun x => V.ref x.2.1) (vs.map fun x => Value.ref x.2.1) := by
  induction r with
  | nil => exact .nil
  | cons h t ih => exact .cons (show Value.ref _ = Value.ref _ by rw [h.2.1]) ih
theorem call_listN (hc : X.calm = true) : CallR X (.type "list") (fun xs H Q => ∃ a es, xs = [V.ref a] ∧ H a = some (dnO w.ct a es) ∧ ∀ p, H p = none → Q (.ref p) (upd H p (.lst (es.2.map fun x => V.ref x.2.1)))) := by
  intro pins s σ H xs us Q I r h
  obtain ⟨a, es, rfl, hd, q⟩ := h
  obtain ⟨u, rfl, rx⟩ := r.one
  cases rx
  obtain ⟨⟨g1, r⟩, _, _⟩ := (show ObjOk X.prog X.w H s.heap a (.ext fun h => h.get? a = some es.1 ∧ DnRaw w.ct.P w.ct.wd a es.1 es.2) from I.hok a _ hd)
  obtain ⟨xs, ds, ep, h1, h2, h3⟩ := r.vs
  have l1 : ds.size = xs.length := size_of_entries h3
  have l2 : es.2.length = xs.length := Paired.length h1
  have hlen := r.len
  refine PySem.W.kdl_call (kdl_raw r.sys r.exact_ h2) (I.ok.hd hc) g1 (by omega) fun h' tk acc' c' kp e it => ?_
  have ea : acc'.toList = xs.map fun x => Value.ref x.2.1 := by
    refine List.ext_getElem? fun j => ?_
    rw [List.getElem?_map]
    have hl : acc'.size = ds.size := it.1
    rcases Nat.lt_or_ge j acc'.size with hj | hj
    · have hv : acc'.toList[j]? = some acc'[j] := by simp [hj]
      obtain ⟨en, hen, hv2⟩ := it.2 j acc'[j] (by simp [hj])
      have qe := entry_at h3 j
      rw [hen] at qe
      cases hb : xs[j]? with
      | none => rw [hb] at qe; cases qe
      | some b => rw [hb] at qe; rw [hv, hv2, Option.some.inj qe]; rfl
    · rw [List.getElem?_eq_none (by simpa using hj), List.getElem?_eq_none (by omega)]; rfl
  have hz : (es.2.map fun x => V.ref x.2.1).length ≤ sizeLine := by rw [List.length_map]; exact hlen
  exact ⟨.ref s.heap.objs.size, _, I.laid (t' := tk) (o := .lst (es.2.map fun x => V.ref x.2.1)) kp (Nat.le_refl _) ⟨hz, acc'.toList, c', by rw [ea]; exact vals_keys h1, by rw [Array.toArray_toList]; exact e⟩, rfl, q _ (I.hok.fresh (Nat.le_refl _))⟩
def listD2 : List D → Option D
  | [.dcn kvs] => some (.lst (kvs.map (·.1)))
  | ds => listD ds
theorem cd_list2 (hc : X.calm = true) (hK : w.K = X.K := by rfl) : CallD w X (.type "list") listD2 := by
  obtain ⟨r, h1, h2⟩ := cd_list (w := w) hK
  refine ⟨_, callr_or h1 (call_listN (w := w) hc), fun F ρ st H xs ds d Q re h hg q => ?_⟩
  by_cases hy : ∃ kvs, ds = [.dcn kvs]
  · obtain ⟨kvs, rfl⟩ := hy
    cases hg
    obtain ⟨v, rfl, hv⟩ := vw1 h
    obtain ⟨a, es, rfl, g1, g2⟩ := hv
    exact .inr ⟨a, es, rfl, g1, fun p hp => q.lst re (dne_keys g2) hp⟩
  · have hg' : listD ds = some d := by
      unfold listD2 at hg
      split at hg
      · exact absurd ⟨_, rfl⟩ hy
      · exact hg
    exact .inl (h2 F ρ st H xs ds d Q re h hg' q)
end
end VL
set_option Elab.async false
set_option linter.all false
set_option maxRecDepth 100000
set_option maxHeartbeats 4000000
namespace VL
open PySem L2 PyProof.Rows
/-! ### for k in d -/
def Itn (ct : Ct) (d : Addr) (q : Obj × List Ent) : It :=
  ⟨fun i H => H d = some (dnO ct d q) ∧ i < q.2.length, fun i H x H' => H' = H ∧ ∃ (k : NestedKey) (b : Addr) (v : V), q.2[i]? = some (k, b, v) ∧ x = .ref b, fun i H => H d = some (dnO ct d q) ∧ q.2.length ≤ i⟩
theorem raw_get {P : Program} {wd : World} {a : Addr} {o : Obj} {es : List Ent} (r : DnRaw P wd a o es) : ∃ (ds : Array DictEntry) (ep : Nat), o.data = .dict ds ep ∧ ds.size = es.length ∧ ∀ (i : Nat) (k : NestedKey) (b : Addr) (v : V), es[i]? = some (k, b, v) → ∃ en : DictEntry, ds[i]? = some en ∧ en.key = .ref b := by
  obtain ⟨xs, ds, ep, h1, h2, h3⟩ := r.vs
  have hl : es.length = xs.length := Paired.length h1
  refine ⟨ds, ep, h2, by rw [hl]; exact size_of_entries h3, fun i k b v e => ?_⟩
  have hi : i < xs.length := by rw [← hl]; exact (List.getElem?_eq_some_iff.mp e).1
  refine ⟨_, by rw [entry_at h3 i, List.getElem?_eq_getElem hi]; rfl, ?_⟩
  have key : ∀ {es : List Ent} {xs : List (NestedKey × Addr × Value)}, Paired PE1 es xs → ∀ (i : Nat) (k : NestedKey) (b : Addr) (v : V) (hi : i < xs.length), es[i]? = some (k, b, v) → (xs[i]).2.1 = b := by
    intro es xs r
    induction r with
    | nil => intro i k b v hi e; simp at e
    | cons h t ih =>
      intro i k b v hi e
      cases i with
      | zero => simp at e; subst e; exact h.2.1.symm
      | succ i => exact ih i k b v (by simpa using hi) (by simpa using e)
  show Value.ref (xs[i]).2.1 = Value.ref b
  rw [key h1 i k b v hi e]
theorem dnO_get {X : Cx} {pins : List (Addr × Obj)} {σ : L2.St} {H : Hp} {s : Shared} {ct : Ct} {d : Addr} {q : Obj × List Ent} (I : Inv X pins σ H s) (h : H d = some (dnO ct d q)) : s.heap.get? d = some q.1 ∧ DnRaw ct.P ct.wd d q.1 q.2 := by
  obtain ⟨r, _, _⟩ := (show ObjOk X.prog X.w H s.heap d (.ext fun h => h.get? d = some q.1 ∧ DnRaw ct.P ct.wd d q.1 q.2) from I.hok d _ h)
  exact r
theorem turn_keysN {P : Program} {w : World} {K : PySem.W.Frag} {tg : Expr} {ct : Ct} {d : Addr} {q : Obj × List Ent} {ds : Array DictEntry} {ep : Nat} (it : Addr) (hod : q.1.data = .dict ds ep) : Turn P w K tg (Itn ct d q) [it] it (fun i h => h.IsKeyIter it d i q.2.length ep) where
  mem := by simp
  obj := fun i h st b hb => by
    have e : b = it := by simpa using hb
    subst e
    obtain ⟨oi, e, c, dd⟩ := st
    exact ⟨oi, e, fun v z => by rw [dd] at z; cases z⟩
  keep := fun i h h' st k => st.at fun oi e => k it (by simp) oi e
  item := by
    intro X hP hw hK hc i pins s σ H E I hf st hg
    subst hP hw hK
    obtain ⟨hd, hi⟩ := hg
    obtain ⟨f0, f1, f2, f3, f4, f5⟩ := hf it (by simp)
    obtain ⟨hgd, raw⟩ := dnO_get I hd
    obtain ⟨ds', ep', hdt, hsz, ent⟩ := raw_get raw
    obtain ⟨rfl, rfl⟩ := dict_ep hod hdt
    obtain ⟨⟨k, b, v⟩, hkv⟩ : ∃ p, q.2[i]? = some p := ⟨q.2[i], List.getElem?_eq_getElem hi⟩
    obtain ⟨en, hen, hkey⟩ := ent i k b v hkv
    refine next_key_item st hgd hdt hsz hen fun h' st' sb => ?_
    have I1 : Inv X pins σ H { s with heap := h' } := I.turned (t' := s.toks) (fun b ob hb e => (sb.2 b hb).trans e) f0 f1 f3 f4 f5
    obtain ⟨oi, e, c, dd⟩ := id st'
    exact ⟨en.key, rfl, go_of (s := { s with heap := h' }) e c dd (by decide) ⟨.ref b, H, I1, hkey, ⟨rfl, k, b, v, hkv, rfl⟩, st', fun b hb => (hf b hb).1⟩⟩
  done := by
    intro X hP hw hK hc i pins s σ H E I hf st hg
    subst hP hw hK
    obtain ⟨hd, hi⟩ := hg
    obtain ⟨f0, f1, f2, f3, f4, f5⟩ := hf it (by simp)
    obtain ⟨hgd, raw⟩ := dnO_get I hd
    obtain ⟨ds', ep', hdt, hsz, ent⟩ := raw_get raw
    obtain ⟨rfl, rfl⟩ := dict_ep hod hdt
    exact next_key_end (I.ok.hd hc) st hgd hdt hsz hi fun h' eb => ⟨rfl, I.turned (t' := s.toks) (fun b ob hb e => eb b ob hb e) f0 f1 f3 f4 f5⟩
  self := fun A i s Q E st h => by
    refine wpAny_pyIter_slot st.typeIs F.slot_dict_keyiterator_iter (wpAny_call_entry F.slot_dict_keyiterator_iter st.typeIs F.entry_dict_keyiterator_iter ?_ (F.args_dict_keyiterator_iter_1 _))
    show wpAny _ _ (ret (.ref it)) _ _ s
    exact wpAny_pure ⟨_, rfl, "dict_keyiterator", _, st.typeIs, F.slot_dict_keyiterator_next.lookup, h⟩
section
variable {w : Wd} {X : Cx} {W : WX} {F H : Hp} {ρ : List Addr} {st : Store} {Q : VK} {e : Expr} {pos apos cpos : Pos} {m mk mv : MV} {σ : L2.St} {env : Env}
def iKeysN (ct : Ct) (td : TE) : TI := fun σ H R => td σ H fun x H1 => ∃ d q, x = .ref d ∧ H1 d = some (dnO ct d q) ∧ R (Itn ct d q) H1
theorem pi_keysN {tg : Expr} {td : TE} {ct : Ct} (he : PE X e td) : PI X tg e (iKeysN ct td) := by
  refine ⟨fun pins s σ H R I h => ?_⟩
  refine thn (he.run pins s σ H _ I h) fun u s1 ⟨x, H1, I1, rx, d, q, ex, hd, r⟩ => ?_
  subst ex
  obtain rfl : u = Value.ref d := rx
  obtain ⟨hgd, raw⟩ := dnO_get I1 hd
  obtain ⟨ds, ep, hdt, hsz, ent⟩ := raw_get raw
  refine iter_keys raw.sys hgd raw.exact_ hdt (pi_one (tk := s1.toks) I1 _ (turn_keysN _ hdt) ⟨_, Heap.get?_push_size _ rfl, rfl, ?_⟩ r)
  rw [hsz] <;> rfl
theorem walk_keysN {ct : Ct} {d : Addr} {q : Obj × List Ent} : Walk (Itn ct d q) q.2.length (fun H => H d = some (dnO ct d q)) (fun i H x H' => H' = H ∧ ∃ (k : NestedKey) (b : Addr) (v : V), q.2[i]? = some (k, b, v) ∧ x = .ref b) :=
  ⟨fun _ _ hi h => ⟨h, hi⟩, fun _ h => ⟨h, Nat.le_refl _⟩, fun _ _ _ _ _ _ y => y⟩
theorem dne_get : ∀ {kvs : List (D × D)} {es : List Ent} {i : Nat} {k : NestedKey} {b : Addr} {v : V}, DnE w.K w.ct F kvs es → es[i]? = some (k, b, v) → ∃ kd, (kvs.map (·.1))[i]? = some kd ∧ w.Dn F kd (.ref b)
  | [], es, i, k, b, v, h, e => by unfold DnE at h; subst h; simp at e
  | (kd, d) :: r, es, i, k, b, v, h, e => by
    unfold DnE at h
    obtain ⟨kk, b', v', es', rfl, h1, h2, h3, h4, h5⟩ := h
    cases i with
    | zero => simp at e; obtain ⟨_, rfl, _⟩ := e; exact ⟨kd, rfl, h3⟩
    | succ i => exact dne_get (kvs := r) h5 (by simpa using e)
theorem walkD_keysN {a : Addr} {kvs : List (D × D)} {es : Obj × List Ent} (h : F a = some (dnO w.ct a es)) (hd : DnE w.K w.ct F kvs es.2) : WalkD w F (Itn w.ct a es) (kvs.map (·.1)) := by
  refine ⟨_, _, by rw [List.length_map, ← dne_len hd]; exact walk_keysN, fun F2 H a b => b _ _ (a _ _ h), fun i H x H' F2 hi a b y => ?_⟩
  obtain ⟨rfl, k, b', v, h1, rfl⟩ := y
  obtain ⟨kd, h2, h3⟩ := dne_get hd h1
  exact ⟨F2, kd, fun ρ => Ext.refl _ _ _, fun ρ st r => r, h2, Dn.mono a _ _ h3⟩
def mKeysN (m : MV) : MI := fun env st => (m env st).bind fun s st1 => match s with
  | .d (.dcn kvs) => .ok (kvs.map (·.1)) st1
  | _ => .stuck
theorem vi_keysN {tg : Expr} (he : PE X e (tE w W m)) : VI w X W tg e (mKeysN m) := by
  refine ⟨_, pi_keysN (ct := w.ct) he, fun σ H R F ρ st env er re q => ?_⟩
  rw [mKeysN, wpR_bind] at q
  refine tG.use er re q fun s st1 F1 ρ1 H1 x e1 er1 re1 hs h1 => ?_
  cases s with
  | own l => exact h1.elim
  | d d =>
    cases d with
    | dcn kvs =>
      unfold SVn Wd.Dn Dn at hs
      obtain ⟨a, es, rfl, h2, h3⟩ := hs
      exact ⟨a, es, rfl, re1.sub _ _ h2, h1 F1 ρ1 H1 _ e1 re1 (walkD_keysN h2 h3)⟩
    | _ => exact h1.elim
end
end VL
set_option Elab.async false
set_option linter.all false
set_option maxRecDepth 100000
set_option maxHeartbeats 4000000
namespace VL
open PySem L2 PyProof.Rows
/-! ### {k: v for target in iter}, the keys tuples -/
section
variable {X : Cx} {w : Wd}
def tDcN (w : Wd) (wi : TI) (g : TG) (tk tv : TE) (vs : List Nat) : TE := fun σ H Q => wi σ H fun J H1 => ∀ p, H1 p = none → ∃ Z : Nat → Nat → Hp → Prop, (∃ m, Z 0 m (upd H1 p (dnO w.ct p (dict0, [])))) ∧ ∀ i m H, Z i m H →
  (J.stop i H ∧ Q (.ref p) H) ∨ (J.go i H ∧ ∃ Nx : Hp → Prop, (∀ H', Nx H' → ∃ m', m' < m ∧ Z (i + 1) m' H') ∧ ∀ x H', J.yld i H x H' → g x (wipe σ vs) H' fun σ2 H2 => wipe σ2 vs = wipe σ vs ∧
    tk σ2 H2 fun y H4 => tv σ2 H4 fun z H5 => ∃ F kvs es kd k b, y = .ref b ∧ DAt w F H5 p kvs es ∧ KAt w F kd k b ∧ es.2.length < sizeLine ∧ ∀ o', Nx (upd H5 p (dnO w.ct p (o', putE es.2 k b z))))
theorem dn_dictSet {pins : List (Addr × Obj)} {σ : L2.St} {H F : Hp} {s : Shared} {A : Around} {E : Value → Shared → Prop} {a b : Addr} {kvs : List (D × D)} {es : Obj × List Ent} {kd : D} {k : NestedKey} {v : V} {r : Value} {Q : Unit → Shared → Prop} (S : Same w X) (hu : A.units + 64 < cLine) (I : Inv X pins σ H s)
    (D : DAt w F H a kvs es) (kk : KAt w F kd k b) (rv : RelV v r) (hl : es.2.length < sizeLine) (h : ∀ o s', Inv X pins σ (upd H a (dnO w.ct a (o, putE es.2 k b v))) s' → Q () s') : wpAny (model X.prog X.w) A (dictSet a (.ref b) r) Q E s := by
  obtain ⟨z, hd, hn, xs, rel, dd⟩ := dict_of S I D
  have hz : xs.length ≤ sizeLine := by rw [← Paired.length rel]; exact z
  have room : (nestedKind X.prog X.w).room A := by
    show A.units + 8 < cLine
    omega
  refine wpAny_dictSet_heap (hsz := hz) room ⟨key_is I S.K D.sF kd _ _ k kk.dn kk.key rfl, kk.dep⟩ dd fun h' dd' hs => ?_
  obtain ⟨q, ds, ep, hq, h2, h3, h4, _, h5⟩ := dd'
  refine h q _ (d_write I (by rw [D.at_]; exact True.intro) hs ⟨q, hq⟩ (dnO_ok hq ⟨?_, hd, putE_keys hn, h2, _, ds, ep, pe1_put rel k rv, h3, by rw [S.P, S.w]; exact h4⟩))
  have := putE_len es.2 k b v
  show (putE es.2 k b v).length ≤ sizeLine
  omega
theorem pe_dcN {kx vx tg iter : Expr} {scope : Scope} {own : List (Str × Nat)} {pos : Pos} {wi : TI} {g : TG} {tk tv : TE} (S : Same w X) (hu : X.A.units + 64 < cLine) (hc : X.calm = true) (hN : X.N.Nodup) (hi : PI X tg iter wi) (ok : BlkOk X.N X.env.scope scope own)
    (hg : ∀ (s : Shared) (H : Hp) (C : Addr) (cl : List (Str × Addr)) (fp : List Addr), PG (X.blk s H scope (compEnvC scope cl C X.env) fp) tg g)
    (hk : ∀ (s : Shared) (H : Hp) (C : Addr) (cl : List (Str × Addr)) (fp : List Addr), PE (X.blk s H scope (compEnvC scope cl C X.env) fp) kx tk)
    (he : ∀ (s : Shared) (H : Hp) (C : Addr) (cl : List (Str × Addr)) (fp : List Addr), PE (X.blk s H scope (compEnvC scope cl C X.env) fp) vx tv) (hs : ∀ x, foldedSetIterable iter X.env x = pure x := by intro _; rfl) :
    PE X (.DictComp kx vx [⟨tg, iter, [], 0⟩] scope pos) (tDcN w wi g tk tv (own.map (·.2))) := by
  refine ⟨fun pins s σ H Q I h => ?_⟩
  rw [arm_eval_DictComp]
  have has : ∀ y ∈ scope.names, y.2 = .free → ∃ c, X.env.cells.lookup y.1 = some c := fun y hy e => I.ok.has _ (ok.free y hy e)
  refine wpAny_comprehension_free rfl hs (closure_ok has) ok.kind (fun y hy e => by rw [ok.uniq y hy, e]) (thn (hi.run pins s σ H _ I h) fun xv s1 hx => thn hx fun itv s2 hp => ?_)
  obtain ⟨it, fp, tn, J, H2, rfl, I2, T, st2, f2, q⟩ := hp
  refine wpAny_newObj_type (newEnv_comp ?_)
  generalize hp : s2.heap.objs.size = p
  have hpn : H2 p = none := I2.hok.fresh (Nat.le_of_eq hp)
  obtain ⟨Z, ⟨m0, z0⟩, turn⟩ := q p hpn
  generalize hs3 : ({ s2 with heap := s2.heap.push { cls := .type "dict", data := .dict #[] } } : Shared) = s3
  have h3 : s3.heap = s2.heap.push { cls := .type "dict", data := .dict #[] } := by rw [← hs3]
  have I3 : Inv X pins σ (upd H2 p (dnO w.ct p (dict0, []))) s3 := by
    rw [← hs3, ← hp]
    exact I2.laid (t' := s2.toks) (fun b o e => Heap.get?_push_of_some _ e) (Nat.le_refl _) (dnO_ok (Heap.get?_push_size _ rfl) (raw0 (beq_eq_false_iff_ne.mpr (Ne.symm (Nat.ne_of_lt I2.big)))))
  have f3 : ∀ b ∈ fp, FpOk X pins (upd H2 p (dnO w.ct p (dict0, []))) b ∧ b < s3.heap.objs.size := fun b hb => by
    obtain ⟨o, eo, _⟩ := T.obj _ _ st2 b hb
    have hlt := Heap.lt_size eo
    refine ⟨⟨?_, (f2 b hb).2⟩, by rw [h3, Heap.size_push]; exact Nat.lt_succ_of_lt hlt⟩
    rw [upd_ne (by rw [← hp]; exact Nat.ne_of_lt hlt)]
    exact (f2 b hb).1
  have st3 : tn 0 s3.heap := T.keep _ _ _ st2 fun b _ o e => by rw [h3]; exact Heap.get?_push_of_some _ e
  have I4 := block_start I3 ok hN f3
  generalize hcl : cellsFrom (s3.heap.objs.size + 1) scope.names (cloFrom X.env.cells scope.names []) = cl at I4
  have pg := hg s3 (upd H2 p (dnO w.ct p (dict0, []))) s3.heap.objs.size cl fp
  have pk := hk s3 (upd H2 p (dnO w.ct p (dict0, []))) s3.heap.objs.size cl fp
  have pe := he s3 (upd H2 p (dnO w.ct p (dict0, []))) s3.heap.objs.size cl fp
  have nfp : ∀ b ∈ fp, (upd H2 p (dnO w.ct p (dict0, []))) b = none := fun b hb => (f3 b hb).1.1
  show codeAny _ _ (.compStart (.DictComp kx vx [⟨tg, iter, [], 0⟩] scope pos) 0 (.ref it) (.ref p) (compEnvC scope cl s3.heap.objs.size X.env)) (compPost (model X.prog X.w) X.A X.xe none (EP X pins σ Q) (.ref p) s3.heap.objs.size) { s3 with heap := pushCells (s3.heap.push { cls := .type "dict", data := .dict #[] }) scope.names }
  generalize hce : compEnvC scope cl s3.heap.objs.size X.env = ce at I4 pg pk pe ⊢
  have cL : ce.locals = s3.heap.objs.size := by rw [← hce]; rfl
  generalize hH3 : upd H2 p (dnO w.ct p (dict0, [])) = H3 at I3 I4 pg pk pe z0 nfp f3
  have st4 : tn 0 (pushCells (s3.heap.push { cls := .type "dict", data := .dict #[] }) scope.names) := T.keep _ _ _ st3 fun b _ o e => pushCells_keeps _ _ _ _ (Heap.get?_push_of_some _ e)
  have free : ∀ {σ' : L2.St} {H' : Hp} {s' : Shared}, Inv (X.blk s3 H3 scope ce fp) [] σ' H' s' → (∀ b ∈ fp, H' b = none) → ∀ b ∈ fp, FpOk (X.blk s3 H3 scope ce fp) [] H' b := fun {σ' H' s'} I' hn b hb =>
    ⟨hn b hb, (I'.ok.exf b hb).1, I'.ok.exfs b hb, .inl hb, fun x c e => (I'.ok.exf b hb).2 x c e, fun q hq => absurd (show q ∈ ([] : List (Addr × Obj)) ++ [] from hq) (by simp)⟩
  have loop : codeAny (model X.prog X.w) X.A (.compLoop (.DictComp kx vx [⟨tg, iter, [], 0⟩] scope pos) 0 (.ref it) (.ref p) ce) (compPost (model X.prog X.w) X.A X.xe none (EP X pins σ Q) (.ref p) s3.heap.objs.size) { s3 with heap := pushCells (s3.heap.push { cls := .type "dict", data := .dict #[] }) scope.names } := by
    refine compLoop_anyD (fun n s' => ∃ i H', Inv (X.blk s3 H3 scope ce fp) [] (wipe σ (own.map (·.2))) H' s' ∧ tn i s'.heap ∧ (∀ b ∈ fp, H' b = none) ∧ Z i n H') ?_ m0 ⟨0, H3, I4, st4, nfp, z0⟩
    rintro n s5 ⟨i, H5, I5, st5, n5, z5⟩
    rcases turn i n H5 z5 with ⟨stop, qq⟩ | ⟨go, Nx, hNx, step⟩
    · refine thnF (T.done (X.blk s3 H3 scope ce fp) rfl rfl rfl hc i [] s5 _ H5 (fun _ _ => False) I5 (free I5 n5) st5 stop) fun r s6 ⟨hr, I6⟩ => ?_
      subst hr
      have I7 : Inv X pins σ H5 s6 := I3.call' (ch := fp) I6.os I6.base I6.hok I6.bare fun b hb => ⟨(f3 b hb).1.2.2.2.1, (f3 b hb).1.2.1, (f3 b hb).1.2.2.2.2.1, (f3 b hb).1.2.2.2.2.2⟩
      have nC : H5 s3.heap.objs.size = none := by
        have y : H5 ce.locals = none := I6.free
        rw [cL] at y
        exact y
      obtain ⟨m, hn, _⟩ := I6.loc
      have hn' : s6.heap.Ns ce.locals m := hn
      rw [cL] at hn'
      obtain ⟨g0, g1, g2, g3, g4, g5⟩ := I3.fpOk (H' := H5) (Nat.le_refl _) nC
      exact ⟨m, hn', fun h'' sb => ⟨.ref p, H5, I7.turned (t' := s6.toks) (fun b o hb e => (sb.2 b hb).trans e) g0 g1 g3 g4 g5, rfl, qq⟩⟩
    · refine thnF (T.item (X.blk s3 H3 scope ce fp) rfl rfl rfl hc i [] s5 _ H5 (fun _ _ => False) I5 (free I5 n5) st5 go) fun r s6 ⟨u, hr, h6⟩ => ?_
      subst hr
      refine thnF h6 fun _ s7 ⟨x, H7, I7, r7, y7, st7, n7⟩ => ?_
      refine thnF (pg.run _ s7 _ H7 x u _ (I7.pinned (free I7 n7) (T.obj _ _ st7)) r7 (step x H7 y7)) fun _ s8 ⟨σ8, H8, I8, hw8, q8⟩ => ?_
      refine thnF ((pts_nil (X := X.blk s3 H3 scope ce fp)).run _ s8 σ8 H8 (fun b H => b = true ∧ H = H8) I8 ⟨rfl, rfl⟩) fun b s9 ⟨H9, I9, hb, hH9⟩ => ?_
      subst hb hH9
      simp only [if_true]
      refine thnF (pk.run _ s9 σ8 H9 _ I9 q8) fun y s10 ⟨yk, H10, I10, r10, q10⟩ => ?_
      refine thnF (pe.run _ s10 σ8 H10 _ I10 q10) fun y2 s11 ⟨yv, H11, I11, r11, F, kvs, es, kd, k, b, ek, D, kk, hl, nx⟩ => ?_
      subst ek
      obtain rfl : y = Value.ref b := r10
      refine dn_dictSet (X := X.blk s3 H3 scope ce fp) ⟨S.K, S.P, S.w⟩ hu I11 D kk r11 hl fun o' s12 I12 => ?_
      obtain ⟨m', hm, z'⟩ := hNx _ (nx o')
      have pin' : ∀ b ∈ fp, ∀ o, s7.heap.get? b = some o → s12.heap.get? b = some o ∧ _ := fun b hb o e => I12.pin (b, o) (List.mem_append_right _ (List.mem_append_right _ (mem_pinsAt hb e)))
      have hwl : (wipe σ (own.map (·.2))).length = σ8.length := by rw [← hw8, wipe_length]
      refine ⟨m', hm, i + 1, _, (I12.unpinned (pins := [])).weak hwl (fun j v e => ?_), T.keep _ _ _ st7 fun b hb o e => (pin' b hb o e).1, fun b hb => ?_, z'⟩
      · rw [← hw8] at e
        exact (wipe_some e).1
      · obtain ⟨o, e, _⟩ := T.obj _ _ st7 b hb
        exact (pin' b hb o e).2.1
  exact codeAny_compStart_dict loop (T.self X.A 0 _ _ _ st4 loop)
end
end VL
set_option Elab.async false
set_option linter.all false
set_option maxRecDepth 100000
set_option maxHeartbeats 4000000
namespace VL
open PySem L2 PyProof.Rows
section
variable {w : Wd} {X : Cx} {W : WX} {F H : Hp} {ρ : List Addr} {st : Store} {pos : Pos} {mk mv : MV} {σ : L2.St} {env : Env}
def dcD (t : Tgt) (mk mv : MV) : List D → List (D × D) → Env → Store → R (List (D × D))
  | [], acc, _, st => .ok acc st
  | d :: r, acc, env, st => match bindT t d env with
    | none => .stuck
    | some env' => (noX (mk env' st)).bind fun s st1 => (noX (mv env' st1)).bind fun z st2 => match s, z with
      | .d kd, .d x => match keyD kd with
        | some k => dcD t mk mv r (putN acc k kd x) env st2
        | none => .stuck
      | _, _ => .stuck
def mDc (it : MI) (t : Tgt) (vs : List Nat) (mk mv : MV) : MV := fun env st => (it env st).bind fun ds st1 =>
  if ds.length ≤ sizeLine then (dcD t mk mv ds [] (wipeE env vs) st1).bind fun xs st2 => .ok (.d (.dcn xs)) st2 else .stuck
theorem putN_len (kvs : List (D × D)) (k : NestedKey) (a b : D) : (putN kvs k a b).length ≤ kvs.length + 1 := by
  unfold putN
  split
  · simp
  · simp
theorem dc_read {wi : TI} {it : MI} {t : Tgt} {vs : List Nat} {Q : VK} (hvs : ∀ i ∈ t.slots, i ∈ vs)
    (hw : ∀ (σ : L2.St) (H : Hp) (R : It → Hp → Prop) F ρ st env, EnvRel w F ρ env σ → Rel w F ρ st H → wpR (it env st) (fun ds st1 => ∀ F1 ρ1 H1 J, Ext F ρ H F1 ρ1 H1 → Rel w F1 ρ1 st1 H1 → WalkD w F1 J ds → R J H1) (okX w F ρ H σ W) → wi σ H R)
    (h : tE w W (mDc it t vs mk mv) σ H Q) : tDcN w wi (gTgt w.K t) (tE w W0 mk) (tE w W0 mv) vs σ H Q := by
  obtain ⟨F, ρ, st, env, er, re, h⟩ := h
  rw [mDc, wpR_bind] at h
  refine hw σ H _ F ρ st env er re (wpR_mono h (fun ds st1 h1 => ?_) (fun _ _ z => z))
  intro F1 ρ1 H1 J e1 re1 ⟨G, Y, wk, hG, hY⟩ Da hDa
  have hz : ds.length ≤ sizeLine := by
    by_cases hz : ds.length ≤ sizeLine
    · exact hz
    · simp only [if_neg hz] at h1; exact h1.elim
  simp only [if_pos hz] at h1
  rw [wpR_bind] at h1
  have hFD : F1 Da = none := re1.sub.free hDa
  have hRD : Da ∉ ρ1 := fun m => by obtain ⟨o, ho⟩ := re1.there _ m; rw [hDa] at ho; cases ho
  let Pv : Nat → Hp → Prop := fun i H' => ∃ F2 ρ2 st2 acc q, Ext F1 ρ1 H1 F2 ρ2 H' ∧ Rel w F2 ρ2 st2 H' ∧ H' Da = some (dnO w.ct Da q) ∧ F2 Da = none ∧ (Da ∉ ρ2) ∧ DnE w.K w.ct F2 acc q.2 ∧ acc.length ≤ i ∧
      wpR (dcD t mk mv (ds.drop i) acc (wipeE env vs) st2) (fun xs st3 => okE w F ρ H Q (.d (.dcn xs)) st3) (okX w F ρ H σ W)
  refine ⟨fun i m H' => m = ds.length - i ∧ i ≤ ds.length ∧ Pv i H', ⟨ds.length, by simp, Nat.zero_le _, ?_⟩, ?_⟩
  · exact ⟨F1, ρ1, st1, [], (dict0, []), (Ext.refl F1 ρ1 H1).wr hDa, re1.side hFD hRD, upd_same, hFD, hRD, by unfold DnE; rfl, Nat.le_refl _, h1⟩
  · rintro i m H' ⟨rfl, hi, F2, ρ2, st2, acc, q, e2, re2, hD, hF2, hR2, hdn, hal, h2⟩
    have gH : G H' := hG F2 H' e2.f re2.sub
    by_cases hlt : i < ds.length
    · refine .inr ⟨wk.goes i H' hlt gH, Pv (i + 1), fun H'' p' => ⟨ds.length - (i + 1), by omega, rfl, hlt, p'⟩, fun x H'' y => ?_⟩
      obtain ⟨F3, d, e3, hr, hd, hx⟩ := hY i H' x H'' F2 hlt e2.f re2.sub (wk.yields i H' x H'' hlt gH y)
      have e3' := e3 ρ2
      have re3 := hr ρ2 st2 re2
      have dr : ds.drop i = d :: ds.drop (i + 1) := by
        obtain ⟨hlt, he⟩ := List.getElem?_eq_some_iff.mp hd
        rw [List.drop_eq_getElem_cons hlt, he]
      rw [dr] at h2
      unfold dcD at h2
      obtain ⟨hD3, hF3, hR3⟩ := e3'.side hD hF2 hR2
      cases hbd : bindT t d (wipeE env vs) with
      | none => simp only [hbd] at h2; exact h2.elim
      | some env3 =>
        simp only [hbd] at h2
        have er3 : EnvRel w F3 ρ2 (wipeE env vs) (wipe σ vs) := (((er.ext e1).ext e2).ext e3').wipe
        refine bindT_ok2 (w := w) (ρ := ρ2) re3.sub er3 hvs hx hbd fun σ3 er4 sb => ⟨(wipe_same sb).trans wipe_wipe, ?_⟩
        rw [wpR_bind] at h2
        refine tG.use er4 re3 (noX_ok h2) fun s st4 F4 ρ4 H4 b' e4 er5 re4 hb h3 => ?_
        obtain ⟨hD4, hF4, hR4⟩ := e4.side hD3 hF3 hR3
        rw [wpR_bind] at h3
        refine tG.use er5 re4 (noX_ok h3) fun z st5 F5 ρ5 H5 y5 e5 er6 re5 hs h4 => ?_
        obtain ⟨hD5, hF5, hR5⟩ := e5.side hD4 hF4 hR4
        cases s with
        | own l => exact h4.elim
        | d kd =>
          cases z with
          | own l => exact h4.elim
          | d xd =>
            dsimp only at h4
            cases hk : keyD kd with
            | none => rw [hk] at h4; exact h4.elim
            | some k =>
              rw [hk] at h4
              dsimp only at h4
              obtain ⟨b, rfl, kk⟩ := keyD_ok re5 hk (vw_dn re5.sub (hb.ext e5))
              have hdn5 : DnE w.K w.ct F5 acc q.2 := DnE.mono ((e3'.f.trans e4.f).trans e5.f) _ _ hdn
              refine ⟨F5, acc, q, kd, k, b, rfl, ⟨re5.sub, hD5, hdn5⟩, kk, by rw [dne_len hdn5]; omega, fun o' => ?_⟩
              refine ⟨F5, ρ5, st5, putN acc k kd xd, (o', putE q.2 k b y5), (((e2.trans e3').trans e4).trans e5).wr hDa, re5.side hF5 hR5, upd_same, hF5, hR5, dne_put kk.key kk.dep kk.dn hs hdn5, ?_, h4⟩
              have := putN_len acc k kd xd
              omega
    · have ei : i = ds.length := by omega
      subst ei
      refine .inl ⟨wk.stops H' gH, ?_⟩
      rw [List.drop_length] at h2
      unfold dcD at h2
      have h2 : okE w F ρ H Q (.d (.dcn acc)) st2 := h2
      refine h2 (upd F2 Da (dnO w.ct Da q)) ρ2 H' (.ref Da) (e1.trans (e2.fr hDa hF2)) (re2.froze hD hF2 hR2) ?_
      unfold SVn Wd.Dn Dn
      exact ⟨Da, q, rfl, upd_same, DnE.mono (Fle.new hF2) _ _ hdn⟩
theorem ve_dc {kx vx tg iter : Expr} {scope : Scope} {own : List (Str × Nat)} {it : MI} {t : Tgt} (S : Same w X) (hu : X.A.units + 64 < cLine) (hc : X.calm = true) (nd : X.N.Nodup) (hv : VI w X W tg iter it) (hvs : ∀ i ∈ t.slots, i ∈ own.map (·.2)) (hbk : BlkOk X.N X.env.scope scope own)
    (hg : ∀ (s : Shared) (H : Hp) (C : Addr) (cl : List (Str × Addr)) (fp : List Addr), PG (X.blk s H scope (compEnvC scope cl C X.env) fp) tg (gTgt w.K t))
    (hk : ∀ (s : Shared) (H : Hp) (C : Addr) (cl : List (Str × Addr)) (fp : List Addr), PE (X.blk s H scope (compEnvC scope cl C X.env) fp) kx (tE w W0 mk))
    (he : ∀ (s : Shared) (H : Hp) (C : Addr) (cl : List (Str × Addr)) (fp : List Addr), PE (X.blk s H scope (compEnvC scope cl C X.env) fp) vx (tE w W0 mv))
    (hf : ∀ (x : Value), foldedSetIterable iter X.env x = pure x := by intro _; rfl) : PE X (.DictComp kx vx [⟨tg, iter, [], 0⟩] scope pos) (tE w W (mDc it t (own.map (·.2)) mk mv)) := by
  obtain ⟨wi, hpi, hw⟩ := hv
  exact pe_imp (pe_dcN S hu hc nd hpi hbk hg hk he hf) fun σ H Q h => dc_read hvs hw h
end
end VL
set_option Elab.async false
set_option linter.all false
set_option maxRecDepth 100000
set_option maxHeartbeats 4000000
namespace VL
open PySem L2 PyProof.Rows PySem.W
/-! ### sorted -/
def encD (d : D) : PyData := (toP d).getD .none
structure SortOk (ds : List D) : Prop where
  reads : ∀ d ∈ ds, ∃ p, toP d = some p ∧ p.depth ≤ 32
  alike_ : AllAlike (ds.map encD)
  sortable : Sortable (ds.map encD)
  len : ds.length ≤ sizeLine
def sortD (ds : List D) : List D := ds.mergeSort (dataLe false encD)
open Classical in
noncomputable def sortedD : List D → Option D
  | [.lst ds] => if SortOk ds then some (.lst (sortD ds)) else none
  | [.scr ds] => if SortOk ds then some (.lst (sortD ds)) else none
  | _ => none
section
variable {w : Wd} {X : Cx} {F H : Hp}
abbrev VD := D × V
theorem dnl_pairs : ∀ {ps : List VD}, (∀ p ∈ ps, w.Dn F p.1 p.2) → w.DnL F (ps.map (·.1)) (ps.map (·.2))
  | [], _ => by show w.DnL F [] []; unfold Wd.DnL DnL; rfl
  | p :: r, h => by
    show DnL _ _ F (p.1 :: r.map (·.1)) (p.2 :: r.map (·.2))
    unfold DnL
    exact ⟨_, _, rfl, h p (by simp), dnl_pairs (ps := r) fun q hq => h q (by simp [hq])⟩
theorem pairs_of : ∀ {ds : List D} {vs : List V}, w.DnL F ds vs → ∃ ps : List VD, ps.map (·.1) = ds ∧ ps.map (·.2) = vs ∧ ∀ p ∈ ps, w.Dn F p.1 p.2
  | [], vs, h => by unfold Wd.DnL DnL at h; subst h; exact ⟨[], rfl, rfl, fun p hp => by cases hp⟩
  | d :: r, vs, h => by
    unfold Wd.DnL DnL at h
    obtain ⟨v, ws, rfl, h1, h2⟩ := h
    obtain ⟨ps, e1, e2, h3⟩ := pairs_of (ds := r) h2
    exact ⟨(d, v) :: ps, by simp [e1], by simp [e2], fun p hp => by
      rcases List.mem_cons.mp hp with rfl | hp
      · exact h1
      · exact h3 p hp⟩
theorem each_vals {ps : List VD} : ∀ {us : List Value}, Vals (ps.map (·.2)) us → EachIs (fun u (p : VD) => RelV p.2 u) us ps := by
  induction ps with
  | nil => intro us h; cases h; exact .nil
  | cons p r ih => intro us h; cases h with | cons h1 h2 => exact .cons h1 (ih h2)
theorem vals_each {ps : List VD} : ∀ {us : List Value}, EachIs (fun u (p : VD) => RelV p.2 u) us ps → Vals (ps.map (·.2)) us := by
  induction ps with
  | nil => intro us h; cases h; exact .nil
  | cons p r ih => intro us h; cases h with | cons h1 h2 => exact .cons h1 (ih h2)
theorem each_reads {pins : List (Addr × Obj)} {σ : L2.St} {s : Shared} (I : Inv X pins σ H s) (hK : w.K = X.K) (sF : Fle F H) {ps : List VD} (hd : ∀ p ∈ ps, w.Dn F p.1 p.2) (hr : ∀ p ∈ ps, ∃ q, toP p.1 = some q) :
    ∀ {us : List Value}, Vals (ps.map (·.2)) us → EachIs (fun u (p : VD) => ∃ as, Reads s.heap u (encD p.1) as) us ps := by
  induction ps with
  | nil => intro us h; cases h; exact .nil
  | cons p r ih =>
    intro us h
    cases h with
    | cons h1 h2 =>
      refine .cons ?_ (ih (fun q hq => hd q (by simp [hq])) (fun q hq => hr q (by simp [hq])) h2)
      obtain ⟨q, hq⟩ := hr p (by simp)
      have z := Dp.reads I q p.2 _ (hK ▸ toP_ok sF hq (hd p (by simp))) h1
      unfold encD
      rw [hq]
      exact z
theorem call_sortedN (hK : w.K = X.K) (hu : X.A.units + 64 < cLine) : CallR X (.builtin "sorted") (fun xs H Q => ∃ F a ds vs, xs = [V.ref a] ∧ Fle F H ∧ SqL w.K H a vs ∧ w.DnL F ds vs ∧ SortOk ds ∧ ∀ p ws, H p = none → w.DnL F (sortD ds) ws → Q (.ref p) (upd H p (.lst ws))) := by
  intro pins s σ H xs us Q I r h
  obtain ⟨F, a, ds, vs, rfl, sF, hq, hd, ok, q⟩ := h
  obtain ⟨u, rfl, rx⟩ := r.one
  cases rx
  obtain ⟨ps, rfl, rfl, hp⟩ := pairs_of hd
  obtain ⟨its, rv, p', hz⟩ := I.list (hK ▸ hq)
  have en : (ps.map fun p => encD p.1) = (ps.map (·.1)).map encD := by rw [List.map_map]; rfl
  have hlen : ps.length ≤ sizeLine := by have := ok.len; simpa using this
  refine sorted_data (R := fun u (p : VD) => RelV p.2 u) (enc := fun p : VD => encD p.1) (bs := ps) (vs := its) p'.isList (each_vals rv)
    (each_reads I hK sF hp (fun p hp' => by obtain ⟨q, h1, _⟩ := ok.reads p.1 (List.mem_map.mpr ⟨p, hp', rfl⟩); exact ⟨q, h1⟩) rv) (en ▸ ok.alike_) (en ▸ ok.sortable) hlen ?_ fun out ho hout => ?_
  · intro b hb
    obtain ⟨q, h1, h2⟩ := ok.reads b.1 (List.mem_map.mpr ⟨b, hb, rfl⟩)
    show X.A.units + 2 + (encD b.1).depth < cLine
    unfold encD
    rw [h1]
    show X.A.units + 2 + q.depth < cLine
    omega
  · have e1 : (ps.mergeSort (dataLe false fun p : VD => encD p.1)).map (·.1) = sortD (ps.map (·.1)) := by
      unfold sortD
      exact List.map_mergeSort fun a _ b _ => rfl
    have hperm := List.mergeSort_perm ps (dataLe false fun p : VD => encD p.1)
    have hd2 : w.DnL F (sortD (ps.map (·.1))) ((ps.mergeSort (dataLe false fun p : VD => encD p.1)).map (·.2)) := by
      rw [← e1]
      exact dnl_pairs fun p hp' => hp p (hperm.mem_iff.mp hp')
    obtain ⟨ep, he'⟩ := PyProof.Rows.sortedAll_at s.heap its out.toArray
    have hz2 : ((ps.mergeSort (dataLe false fun p : VD => encD p.1)).map (·.2)).length ≤ sizeLine := by rw [List.length_map, hperm.length_eq]; exact hlen
    exact ⟨.ref _, _, I.laid (t' := s.toks) (o := .lst ((ps.mergeSort (dataLe false fun p : VD => encD p.1)).map (·.2))) (fun _ _ => PyProof.Rows.sortedAll_old) (Nat.le_succ _) ⟨hz2, out, ep, vals_each hout, he'⟩, rfl, q _ _ (I.hok.fresh (Nat.le_succ _)) hd2⟩
theorem cd_sorted (hu : X.A.units + 64 < cLine) (hK : w.K = X.K := by rfl) : CallD w X (.builtin "sorted") sortedD := by
  refine ⟨_, call_sortedN hK hu, fun F ρ st H xs ds d Q re h hg q => ?_⟩
  obtain ⟨x, rfl⟩ := one_of hg (by unfold sortedD; rfl) (fun a b r => by unfold sortedD; cases a <;> rfl)
  obtain ⟨v, rfl, hv⟩ := vw1 h
  cases x with
  | lst ds =>
    unfold sortedD at hg
    dsimp only at hg
    split at hg
    · rename_i ok
      cases hg
      obtain ⟨p, vs, rfl, h4, h5⟩ := dnL re hv
      exact ⟨F, p, ds, vs, rfl, re.sub, h4, h5, ok, fun p ws hp hw => q.lst re hw hp⟩
    · cases hg
  | scr ds =>
    unfold sortedD at hg
    dsimp only at hg
    split at hg
    · rename_i ok
      cases hg
      obtain ⟨p, vs, rfl, h4, h5⟩ := dnSc re hv
      exact ⟨F, p, ds, vs, rfl, re.sub, h4, h5, ok, fun p ws hp hw => q.lst re hw hp⟩
    · cases hg
  | _ => unfold sortedD at hg; cases hg
end
end VL
set_option Elab.async false
set_option linter.all false
set_option maxRecDepth 100000
set_option maxHeartbeats 4000000
namespace VL
open PySem L2 PyProof.Rows
section
variable {w : Wd} {X : Cx} {W : WX} {F H : Hp} {ρ : List Addr} {st : Store} {Q : VK} {e a b : Expr} {pos p : Pos} {m ma mb : MV} {σ : L2.St} {env : Env} {f : Addr} {fd : FuncData} {ps : List Str} {k n : Nat} {run : Run} {sp : Sp}
/-- a def run from within a built-in -/
theorem run_at {pins : List (Addr × Obj)} {s : Shared} {E : L2.St → XK} {A1 : Around} {us : List Value} {vs : List V} (sb : Sub X n A1) (G : FnOk X.prog X.w X.K X.mg X.base (L2.CX X.prog X.w) n f fd ps sp) (hb : Binds X.K fd ps []) (hx : PassesAt (L2.CX X.prog X.w) X σ (E σ))
    (I : Inv X pins σ H s) (r : Vals vs us) (h : sp vs H Q (E σ)) : wpAny (model X.prog X.w) A1 (call (.ref f) us) (EP X pins σ Q) X.xe s := by
  have e0 : Env0 X.prog X.w X.K X.mg X.base A1 X.stack s H := by
    have e := I.env0
    exact ⟨by rw [sb.fr]; exact e.frames, e.mod, e.bs, e.bsz, e.funs, e.frf, e.hok, e.bare⟩
  have hl := G.len _ _ _ _ h
  have bb := hb s us I.kIn (by rw [List.append_nil, ← r.length]; exact hl)
  rw [List.append_nil] at bb
  refine wpAny_call (codeAny_mono (G.run A1 X.stack s H ⟨us, []⟩ us vs Q (E σ) sb.room e0 bb r h) fun r s' hq => ?_)
  cases r with
  | error e => exact hx pins H s e s' I hq
  | ok fl =>
    cases fl with
    | ret u => exact I.after hq
    | next => exact False.elim hq
    | brk => exact False.elim hq
    | cont => exact False.elim hq
/-- the promise of a def, from the mirror -/
theorem sp_of {ar : Nat} {ss : List SV} {vs : List V} (hrun : ∀ ss st, ss.length ≠ ar → run ss st = .stuck) (re : Rel w F ρ st H) (hs : SVL w F ρ ss vs) (h : wpR (run ss st) (okE w F ρ H Q) (okX w F ρ H σ W)) : spOf w ar run vs H Q (WE W σ) := by
  have hss : ss.length = ar := by
    by_cases q : ss.length = ar
    · exact q
    · rw [hrun ss st q] at h; exact h.elim
  exact ⟨hs.length.trans hss, F, ρ, st, ss, re, hs, h⟩
/-! ### a op b by an own dunder -/
structure DunC (K : PySem.W.Frag) (C f : Addr) (name : Str) : Prop where
  cl : Cls K C
  first : PySem.W.selfFirst K C = true
  at_ : PySem.W.findIn K (.ref C) name = some (some (.ref f))
  fn : PySem.W.isFn K (.ref f) = true
def sOps (c : Nat) (s t : SV) (st : Store) : Bool := match insOf st s, insOf st t with
  | some (c1, _), some (c2, _) => c1 == c && c2 == c
  | _, _ => false
def mBinO (c : Nat) (run : Run) (ma mb : MV) : MV := fun env st => (ma env st).bind fun s st1 => (mb env st1).bind fun t st2 => if sOps c s t st2 = true then run [s, t] st2 else .stuck
theorem insOf_at {s : SV} {v : V} {cc : Nat} {ns : List Str} (re : Rel w F ρ st H) (hs : SVn w F ρ s v) (hi : insOf st s = some (cc, ns)) : ∃ a dx ws, v = .ref a ∧ H a = some (.ins (w.ct cc) dx ws) := by
  cases s with
  | own l =>
    obtain ⟨a, ha, rfl⟩ := hs
    unfold insOf at hi
    dsimp only at hi
    cases hl : st[l]? with
    | none => rw [hl] at hi; cases hi
    | some cl =>
      rw [hl] at hi
      have q := re.cell l a cl ha hl
      cases cl with
      | obj c fs => cases hi; obtain ⟨dx, ws, a1, a2, a3⟩ := q; exact ⟨a, dx, ws, rfl, a1⟩
      | _ => cases hi
  | d d =>
    cases d with
    | obj c fs =>
      cases hi
      unfold SVn Wd.Dn Dn at hs
      obtain ⟨a, dx, ws, rfl, a1, a3⟩ := hs
      exact ⟨a, dx, ws, rfl, re.sub _ _ a1⟩
    | _ => cases hi
theorem sOps_ok {c : Nat} {s t : SV} {x y : V} (re : Rel w F ρ st H) (hs : SVn w F ρ s x) (ht : SVn w F ρ t y) (h : sOps c s t st = true) : ∃ a dx ws b dy us, x = .ref a ∧ H a = some (.ins (w.ct c) dx ws) ∧ y = .ref b ∧ H b = some (.ins (w.ct c) dy us) := by
  unfold sOps at h
  cases h1 : insOf st s with
  | none => rw [h1] at h; cases h
  | some p =>
    cases h2 : insOf st t with
    | none => rw [h1, h2] at h; cases h
    | some q =>
      obtain ⟨c1, n1⟩ := p
      obtain ⟨c2, n2⟩ := q
      rw [h1, h2] at h
      simp only [Bool.and_eq_true, beq_iff_eq] at h
      obtain ⟨rfl, rfl⟩ := h
      obtain ⟨a, dx, ws, e1, e2⟩ := insOf_at re hs h1
      obtain ⟨b, dy, us, e3, e4⟩ := insOf_at re ht h2
      exact ⟨a, dx, ws, b, dy, us, e1, e2, e3, e4⟩
theorem cmpBack {Q : Value → Shared → Prop} {v : V} {u : Value} {s : Shared} (r : RelV v u) (q : Q u s) : PySem.W.CmpBack Q u s := by
  cases v <;> first | (obtain ⟨t, rfl⟩ := r; exact q) | (cases r; exact q)
def tBinO (C : Addr) (sp : Sp) (E : L2.St → XK) (ta tb : TE) : TE := fun σ H Q => ta σ H fun x H1 => tb σ H1 fun y H2 => ∃ a dx ws b dy us, x = .ref a ∧ H2 a = some (.ins C dx ws) ∧ y = .ref b ∧ H2 b = some (.ins C dy us) ∧ sp [.ref a, .ref b] H2 Q (E σ)
theorem pe_binO {op : Operator} {C : Addr} {ta tb : TE} (D : DunC X.K C f (PySem.dunder op.info.2)) (G : FnOk X.prog X.w X.K X.mg X.base (L2.CX X.prog X.w) k f fd ps sp) (hr : Room k X.A) (hb : Binds X.K fd ps []) (tk : Takes X W) (ha : PE X a ta) (hbb : PE X b tb) : PE X (.BinOp a op b pos) (tBinO C sp (WE W) ta tb) := by
  refine ⟨fun pins s σ H Q I h => ?_⟩
  refine wpAny_BinOp (thn (ha.run pins s σ H _ I h) fun u s1 ⟨x, H1, I1, rx, q1⟩ => thn (hbb.run pins s1 σ H1 _ I1 q1) fun v s2 ⟨y, H2, I2, ry, a, dx, ws, b, dy, us, ex, ha', ey, hb', hsp⟩ => ?_)
  subst ex ey
  obtain rfl : u = Value.ref a := rx
  obtain rfl : v = Value.ref b := ry
  obtain ⟨mA, J, _⟩ := ins_get I2.hok ha'
  obtain ⟨mB, J', _⟩ := ins_get I2.hok hb'
  obtain ⟨od, J, _⟩ := J.look
  obtain ⟨od', J', _⟩ := J'.look
  obtain ⟨m, hF⟩ := I2.fr
  refine PySem.W.binop_K hF I2.ok.mod.kin J J'.type D.first D.at_ D.fn (wpAny_mono (run_at (vs := [.ref a, .ref b]) ⟨hr, rfl⟩ G hb (passAt tk σ) I2 (.cons rfl (.cons rfl .nil)) hsp) (fun r s3 ⟨z, H3, I3, rz, q3⟩ => cmpBack (Q := EP X pins σ Q) rz ⟨z, H3, I3, rz, q3⟩) fun _ _ z => z)
theorem binO_read {c ar : Nat} (hrun : ∀ ss st, ss.length ≠ ar → run ss st = .stuck) (h : tE w W (mBinO c run ma mb) σ H Q) : tBinO (w.ct c) (spOf w ar run) (WE W) (tE w W ma) (tE w W mb) σ H Q := by
  obtain ⟨F, ρ, st, env, er, re, h⟩ := h
  rw [mBinO, wpR_bind] at h
  refine tG.use er re h fun s st1 F1 ρ1 H1 x e1 er1 re1 hs h1 => ?_
  rw [wpR_bind] at h1
  refine tG.use er1 re1 (wpR.upX e1 h1) fun t st2 F2 ρ2 H2 y e2 er2 re2 ht h2 => ?_
  by_cases hz : sOps c s t st2 = true
  · rw [if_pos hz] at h2
    have hs2 := hs.ext e2
    obtain ⟨a, dx, ws, b, dy, us, rfl, g1, rfl, g2⟩ := sOps_ok re2 hs2 ht hz
    refine ⟨a, dx, ws, b, dy, us, rfl, g1, rfl, g2, sp_of hrun re2 (ss := [s, t]) ?_ (wpR.up (e1.trans e2) h2)⟩
    unfold SVL
    refine ⟨_, _, rfl, hs2, ?_⟩
    unfold SVL
    exact ⟨_, _, rfl, ht, by unfold SVL; rfl⟩
  · rw [if_neg hz] at h2; exact h2.elim
/-- a | b, a + b by an own def -/
theorem ve_binO {op : Operator} {c : Nat} (D : DunC X.K (w.ct c) f (PySem.dunder op.info.2)) (G : FnOk X.prog X.w X.K X.mg X.base (L2.CX X.prog X.w) k f fd ps (spOf w ps.length run)) (hr : Room k X.A) (hb : Binds X.K fd ps []) (tk : Takes X W) (ha : PE X a (tE w W ma)) (hbb : PE X b (tE w W mb))
    (hrun : ∀ ss st, ss.length ≠ ps.length → run ss st = .stuck) : PE X (.BinOp a op b pos) (tE w W (mBinO c run ma mb)) :=
  pe_imp (pe_binO D G hr hb tk ha hbb) fun σ H Q h => binO_read hrun h
theorem pe_eqO {C : Addr} {ta tb : TE} (D : DunC X.K C f "__eq__") (G : FnOk X.prog X.w X.K X.mg X.base (L2.CX X.prog X.w) k f fd ps sp) (hr : Room k X.A) (hb : Binds X.K fd ps []) (tk : Takes X W) (ha : PE X a ta) (hbb : PE X b tb) (hm : behindInMarks .Eq b = false := by rfl) : PE X (.Compare a [.Eq] [b] pos) (tBinO C sp (WE W) ta tb) := by
  refine ⟨fun pins s σ H Q I h => ?_⟩
  refine wpAny_Compare1 (thn (ha.run pins s σ H _ I h) fun u s1 ⟨x, H1, I1, rx, q1⟩ => thn (hbb.run pins s1 σ H1 _ I1 q1) fun v s2 ⟨y, H2, I2, ry, a, dx, ws, b, dy, us, ex, ha', ey, hb', hsp⟩ => ?_) hm
  subst ex ey
  obtain rfl : u = Value.ref a := rx
  obtain rfl : v = Value.ref b := ry
  obtain ⟨mA, J, _⟩ := ins_get I2.hok ha'
  obtain ⟨mB, J', _⟩ := ins_get I2.hok hb'
  obtain ⟨od, J, _⟩ := J.look
  obtain ⟨od', J', _⟩ := J'.look
  obtain ⟨m, hF⟩ := I2.fr
  show wpAny (model X.prog X.w) X.A (richCompare .Eq (.ref a) (.ref b)) _ _ _
  exact PySem.W.cmp_K (op := .Eq) (tb := .ref C) hr.units0 hF I2.ok.mod.kin J J'.type (by simp [PySem.W.notFirst]) D.at_ D.fn (wpAny_mono (run_at (vs := [.ref a, .ref b]) ⟨hr, rfl⟩ G hb (passAt tk σ) I2 (.cons rfl (.cons rfl .nil)) hsp) (fun r s3 ⟨z, H3, I3, rz, q3⟩ => cmpBack (Q := EP X pins σ Q) rz ⟨z, H3, I3, rz, q3⟩) fun _ _ z => z)
/-- a == b by an own def -/
theorem ve_eqO {c : Nat} (D : DunC X.K (w.ct c) f "__eq__") (G : FnOk X.prog X.w X.K X.mg X.base (L2.CX X.prog X.w) k f fd ps (spOf w ps.length run)) (hr : Room k X.A) (hb : Binds X.K fd ps []) (tk : Takes X W) (ha : PE X a (tE w W ma)) (hbb : PE X b (tE w W mb))
    (hrun : ∀ ss st, ss.length ≠ ps.length → run ss st = .stuck) (hm : behindInMarks .Eq b = false := by rfl) : PE X (.Compare a [.Eq] [b] pos) (tE w W (mBinO c run ma mb)) :=
  pe_imp (pe_eqO D G hr hb tk ha hbb hm) fun σ H Q h => binO_read hrun h
/-! ### len(o), str(o) by own defs -/
def one1 (P : V → Hp → Prop) : List V → Hp → Prop
  | [x], H => P x H
  | _, _ => False
theorem one1_at {P : V → Hp → Prop} {vs : List V} {H : Hp} (h : one1 P vs H) : ∃ v, vs = [v] ∧ P v H := by
  match vs, h with
  | [x], h => exact ⟨x, rfl, h⟩
def tUnO (C : Addr) (sp : Sp) (ok : V → Prop) (E : L2.St → XK) (ta : TE) : TE := fun σ H Q => ta σ H fun x H1 => ∃ a dx ws, x = .ref a ∧ H1 a = some (.ins C dx ws) ∧ sp [.ref a] H1 (fun v H2 => ok v ∧ Q v H2) (E σ)
def okLen (v : V) : Prop := ∃ i : Int, v = .int i ∧ 0 ≤ i ∧ i < 2 ^ 63
def okStr (v : V) : Prop := ∃ x : Str, v = .str x
theorem pe_lenO {C : Addr} {ta : TE} (D : DunC X.K C f "__len__") (G : FnOk X.prog X.w X.K X.mg X.base (L2.CX X.prog X.w) k f fd ps sp) (hr : Room (k + 1) X.A) (hb : Binds X.K fd ps []) (tk : Takes X W) (hg : Gl X "len") (hm : X.mg "len" = none) (ha : PE X e ta)
    (he : starEach [e] X.env = [(false, eval e X.env)] := by rfl) : PE X (.Call (.Name "len" p) [e] [] pos) (tUnO C sp okLen (WE W) ta) := by
  refine ⟨fun pins s σ H Q I h => ?_⟩
  refine wpAny_Call_Name_kw (ld_blt I hg hm boot_len ?_ (by decide) (by decide))
  refine PyProof.Rows.callWith_builtin1 (thn ((pa_cons ha pa_nil (hs := he)).run pos pins s σ H (one1 fun x H1 => ∃ a dx ws, x = .ref a ∧ H1 a = some (.ins C dx ws) ∧ sp [.ref a] H1 (fun v H2 => okLen v ∧ Q v H2) (WE W σ)) I h) fun us s1 ⟨vs, H1, I1, r1, q⟩ => ?_) he rfl
  obtain ⟨v, rfl, a, dx, ws, ex, ha', hsp⟩ := one1_at q
  subst ex
  obtain ⟨u, rfl, ru⟩ := r1.one
  obtain rfl : u = Value.ref a := ru
  obtain ⟨mA, J, _⟩ := ins_get I1.hok ha'
  obtain ⟨od, J, _⟩ := J.look
  obtain ⟨m, hF⟩ := I1.fr
  refine PySem.W.len_K hF I1.ok.mod.kin J D.at_ D.fn (wpAny_mono (run_at (vs := [.ref a]) (Sub.in1 (⟨hr, rfl⟩ : Sub X (k + 1) X.A)) G hb (passAt tk σ) I1 (.cons rfl .nil) hsp) (fun r s3 ⟨z, H3, I3, rz, ⟨i, ez, h0, h1⟩, q3⟩ => ?_) fun _ _ z => z)
  subst ez
  obtain ⟨t, rfl⟩ := rz
  exact ⟨⟨h0, h1⟩, .int i, H3, I3.tok _, ⟨_, rfl⟩, q3⟩
open Builtin Builtin.Str in
theorem str_own {A : Around} {E : Value → Shared → Prop} {s : Shared} {K : PySem.W.Frag} {x C : Addr} {ox : Obj} {od : Option Obj} {Q : Value → Shared → Prop} (hu : A.in1.in1.units < cLine) (Xk : K.In s.heap) (I : PySem.W.InstAt s.heap x ox C od) (hs : PySem.W.findIn K (.ref C) "__str__" = some (some (.ref f))) (hf : PySem.W.isFn K (.ref f) = true)
    (h : wpAny (model X.prog X.w) A.in1.in1 (call (.ref f) [.ref x]) (PySem.W.StrBack Q) E s) : wpAny (model X.prog X.w) A (call (.type "str") [.ref x]) Q E s := by
  refine callType_codes (T := "str") (Bi := Builtin.«object.__init__») (Q₁ := fun r s₁ => ∃ y u, r = .str y u ∧ Q r s₁) PySem.F.called_str (PySem.F.typeCall_str_1 _) PySem.F.entry_object_init (codeAny_of_tree ?_) ?_
  · show wpAny _ A.in1.in1 (do checkBuiltinCall "str.__new__" ⟨[.type "str", .ref x], []⟩; again (.builtin "str.__new__" ⟨[.type "str", .ref x], []⟩)) _ _ s
    refine wpAny_bind (wpAny_of_eq (PySem.F.newCall_str_1 _) (wpAny_pure ⟨plainId_quiet (by decide +kernel) _, codeAny_builtin PySem.F.entry_str_new ?_⟩))
    rw [Around.under_plainId (by decide +kernel) _, str_new_tree]
    refine wpAny_bind (wpAny_pure (wpAny_bind (wpAny_of_eq isSubtype_str_str ?_)))
    have key : wpAny (model X.prog X.w) A.in1.in1 (PySem.Builtin.Str.strOf (.ref x)) (fun r s₁ => ∃ y u, r = .str y u ∧ Q r s₁) E s := by
      unfold PySem.Builtin.Str.strOf
      rw [show isExactStr (.ref x) = false from rfl]
      refine wpAny_bind (m := cRoomFor _ _) (wpAny_cRoomFor hu (wpAny_bind (m := callSpecial? (.ref x) (Str.ofString "__str__")) (PySem.W.special_fn Xk I hs (beq_iff_eq.mp hf) (wpAny_mono h (fun r s' z => ?_) fun _ _ y => y))))
      cases r <;> first | exact z.elim | exact wpAny_pure ⟨_, _, rfl, z⟩
    exact wpAny_bind (wpAny_mono key (fun r s₁ hr => wpAny_pure hr) fun _ _ y => y)
  · rintro obj s₁ ⟨y, u, rfl, hq⟩
    exact ⟨typeIs_str _ _ _, PySem.F.args_object_init_2 _ _, object_init_meets PySem.F.called_str.init.lookup PySem.F.called_str.made (by decide) X.prog X.w A.in1 _ s₁ ⟨typeIs_str _ _ _, rfl, hq⟩⟩
theorem pe_strO {C : Addr} {ta : TE} (D : DunC X.K C f "__str__") (G : FnOk X.prog X.w X.K X.mg X.base (L2.CX X.prog X.w) k f fd ps sp) (hr : Room (k + 2) X.A) (hb : Binds X.K fd ps []) (tk : Takes X W) (hg : Gl X "str") (hm : X.mg "str" = none) (ha : PE X e ta)
    (he : starEach [e] X.env = [(false, eval e X.env)] := by rfl) : PE X (.Call (.Name "str" p) [e] [] pos) (tUnO C sp okStr (WE W) ta) := by
  refine ⟨fun pins s σ H Q I h => ?_⟩
  refine wpAny_Call_Name_kw (ld_blt I hg hm boot_str ?_ (by decide) (by decide))
  refine PyProof.Rows.callWith_type1 (thn ((pa_cons ha pa_nil (hs := he)).run pos pins s σ H (one1 fun x H1 => ∃ a dx ws, x = .ref a ∧ H1 a = some (.ins C dx ws) ∧ sp [.ref a] H1 (fun v H2 => okStr v ∧ Q v H2) (WE W σ)) I h) fun us s1 ⟨vs, H1, I1, r1, q⟩ => ?_) he rfl
  obtain ⟨v, rfl, a, dx, ws, ex, ha', hsp⟩ := one1_at q
  subst ex
  obtain ⟨u, rfl, ru⟩ := r1.one
  obtain rfl : u = Value.ref a := ru
  obtain ⟨mA, J, _⟩ := ins_get I1.hok ha'
  obtain ⟨od, J, _⟩ := J.look
  have sb : Sub X k X.A.in1.in1 := Sub.in1 (Sub.in1 (⟨hr, rfl⟩ : Sub X (k + 2) X.A))
  refine str_own sb.room.units0 I1.kIn J D.at_ D.fn (wpAny_mono (run_at (vs := [.ref a]) sb G hb (passAt tk σ) I1 (.cons rfl .nil) hsp) (fun r s3 ⟨z, H3, I3, rz, ⟨i, ez⟩, q3⟩ => ?_) fun _ _ z => z)
  subst ez
  obtain ⟨t, rfl⟩ := rz
  exact ⟨.str i, H3, I3, ⟨_, rfl⟩, q3⟩
def mUnO (c : Nat) (ok : D → Bool) (run : Run) (m : MV) : MV := fun env st => (m env st).bind fun s st1 => match insOf st1 s with
  | some (c', _) => if c' = c then (run [s] st1).bind fun r st2 => match r with
    | .d x => if ok x = true then .ok (.d x) st2 else .stuck
    | .own _ => .stuck
    else .stuck
  | none => .stuck
def okLenD : D → Bool
  | .int i => decide (0 ≤ i ∧ i < 2 ^ 63)
  | _ => false
def okStrD : D → Bool
  | .str _ => true
  | _ => false
theorem unO_read {c ar : Nat} {ok : V → Prop} {okD' : D → Bool} (hok : ∀ F x v, okD' x = true → w.Dn F x v → ok v) (hrun : ∀ ss st, ss.length ≠ ar → run ss st = .stuck) (h : tE w W (mUnO c okD' run m) σ H Q) : tUnO (w.ct c) (spOf w ar run) ok (WE W) (tE w W m) σ H Q := by
  obtain ⟨F, ρ, st, env, er, re, h⟩ := h
  rw [mUnO, wpR_bind] at h
  refine tG.use er re h fun s st1 F1 ρ1 H1 x e1 er1 re1 hs h1 => ?_
  cases hi : insOf st1 s with
  | none => rw [hi] at h1; exact h1.elim
  | some p =>
    obtain ⟨c', ns⟩ := p
    rw [hi] at h1
    dsimp only at h1
    by_cases hc : c' = c
    · rw [if_pos hc] at h1
      subst hc
      obtain ⟨a, dx, ws, rfl, g1⟩ := insOf_at re1 hs hi
      rw [wpR_bind] at h1
      refine ⟨a, dx, ws, rfl, g1, sp_of hrun re1 (ss := [s]) (by unfold SVL; exact ⟨_, _, rfl, hs, by unfold SVL; rfl⟩) (wpR.upX e1 (wpR_mono h1 (fun r st2 z => ?_) fun _ _ z => z))⟩
      intro F2 ρ2 H2 v e2 re2 hv
      cases r with
      | own _ => exact z.elim
      | d y =>
        dsimp only at z
        by_cases hy : okD' y = true
        · rw [if_pos hy] at z
          exact ⟨hok F2 y v hy hv, z F2 ρ2 H2 v (e1.trans e2) re2 hv⟩
        · rw [if_neg hy] at z; exact z.elim
    · rw [if_neg hc] at h1; exact h1.elim
theorem ve_lenO {c : Nat} (D : DunC X.K (w.ct c) f "__len__") (G : FnOk X.prog X.w X.K X.mg X.base (L2.CX X.prog X.w) k f fd ps (spOf w ps.length run)) (hr : Room (k + 1) X.A) (hb : Binds X.K fd ps []) (tk : Takes X W) (hg : Gl X "len") (hm : X.mg "len" = none) (ha : PE X e (tE w W m))
    (hrun : ∀ ss st, ss.length ≠ ps.length → run ss st = .stuck) (he : starEach [e] X.env = [(false, eval e X.env)] := by rfl) : PE X (.Call (.Name "len" p) [e] [] pos) (tE w W (mUnO c okLenD run m)) :=
  pe_imp (pe_lenO D G hr hb tk hg hm ha he) fun σ H Q h => unO_read (fun F x v h1 h2 => by
    cases x with
    | int i => unfold okLenD at h1; unfold Wd.Dn Dn at h2; exact ⟨i, h2, (of_decide_eq_true h1).1, (of_decide_eq_true h1).2⟩
    | _ => cases h1) hrun h
theorem ve_strO {c : Nat} (D : DunC X.K (w.ct c) f "__str__") (G : FnOk X.prog X.w X.K X.mg X.base (L2.CX X.prog X.w) k f fd ps (spOf w ps.length run)) (hr : Room (k + 2) X.A) (hb : Binds X.K fd ps []) (tk : Takes X W) (hg : Gl X "str") (hm : X.mg "str" = none) (ha : PE X e (tE w W m))
    (hrun : ∀ ss st, ss.length ≠ ps.length → run ss st = .stuck) (he : starEach [e] X.env = [(false, eval e X.env)] := by rfl) : PE X (.Call (.Name "str" p) [e] [] pos) (tE w W (mUnO c okStrD run m)) :=
  pe_imp (pe_strO D G hr hb tk hg hm ha he) fun σ H Q h => unO_read (fun F x v h1 h2 => by
    cases x with
    | str i => unfold Wd.Dn Dn at h2; exact ⟨i, h2⟩
    | _ => cases h1) hrun h
end
end VL
set_option Elab.async false
set_option linter.all false
set_option maxRecDepth 100000
set_option maxHeartbeats 4000000
namespace VL
open PySem L2 PyProof.Rows PySem.Calls NdefX
/-! ### super().__init__(e), the first line of an own error's __init__ -/
section
variable {X : Cx} {pins : List (Addr × Obj)} {σ : L2.St} {H : Hp} {s : Shared} {a C u : Addr}
theorem mw_call {us : List Value} {Q : Value → Shared → Prop} (T : OexC X.K C) (I : Inv X pins σ H s) (e : H a = some (exo a C none)) (hu : s.heap.get? u = some (PySem.W.kxs_mw "ValueError.__init__" a)) (hl : us.length ≤ sizeLine) (h : ∀ s', Inv X pins σ H s' → Q .none s') :
    wpAny (model X.prog X.w) X.A (call (.ref u) us) Q X.xe s := by
  obtain ⟨nm, q, N, bs, bm, sn, sub, ab, col, dd, k0, k1, k2, k3, k5, hC, hbm⟩ := T.cls
  have hC' := I.kIn _ _ hC
  obtain ⟨t1, ho⟩ := exo_at I.hok e
  obtain ⟨hp, g, d, t, os⟩ := s
  refine wpAny_call (codeAny_of_tree ?_)
  show wpAny _ X.A.in1 (callAny (.ref u) ⟨us, []⟩) _ _ _
  simp only [callAny]
  refine wpAny_bind (wpAny_load hu ?_)
  simp only [PySem.W.kxs_mw, show (Value.type "method-wrapper" == Value.type "method" || Value.type "method-wrapper" == Value.type "builtin_function_or_method" || Value.type "method-wrapper" == Value.type "method-wrapper") = true by decide, if_true]
  refine PySem.W.KFB.if_so (by decide) ?_
  refine wpAny_bind (PySem.W.check_bound_init F.excBase_ValueError.toExcCallFacts hC' ho rfl ?_)
  refine wpAny_bind (wpAny_pure (wpAny_pure ?_))
  refine ⟨plainId_quiet F.excBase_ValueError.init.plain _, codeAny_builtin F.excBase_ValueError.initEntry ?_⟩
  refine PySem.W.exc_init_tree (cls := .ref C) (t0 := t1) (dv := none) (c2 := .none) (c3 := .none) (b4 := .bool false) ho hl fun h' k e' t' => ?_
  have J := I.write (t' := t) (x := a) (e := a) (o := exo a C none) (by rw [e]; exact True.intro) (.inl rfl) k ⟨_, e'⟩ (exo_ok e')
  have eu : upd H a (exo a C none) = H := by
    funext b
    by_cases hb : b = a
    · rw [hb, upd_same, e]
    · rw [upd_ne hb]
  rw [eu] at J
  exact h _ J
end
/-- what the written part says of such an __init__ (its cell at cc holds the class at D) and of the class at C that is made -/
structure SupC (P : Program) (K : PySem.W.Frag) (mg : Str → Option Value) (c cc D C : Addr) : Prop where
  code : ∃ ccl cdd vs ccs file tf, K.lookup c = some ⟨ccl, cdd, .fields vs, ccs⟩ ∧ vs[2]? = some (.str file tf) ∧ ((P.main.file : Str) == file) = true
  cell : ∃ cl cld csl, K.lookup cc = some ⟨cl, cld, .cell (some (.ref D)), csl⟩
  cls : ∃ cd, PySem.W.clsIn K D = some cd
  sub : PySem.W.mroIn K C (.ref D) = some true
  sup : mg "super" = none
  top : (P.main.scope.names.lookup ("super" : Str)).isSome = false
  opq : PySem.W.nsIn K PySem.cStatics "thirdparty.any" = some none
  along : PySem.W.ks_superIn K C D "__init__" = some (some (.builtin "ValueError.__init__"))
  val : PySem.W.subIn K (.ref C) (.type "ValueError") = some true
section
variable {CX : CXT} {P : Program} {wd : World} {K : PySem.W.Frag} {mg : Str → Option Value} {base : Heap} {N : List Str} {F : NF} {f : Addr} {A : Around} {outer : List PySem.Env} {s0 : Shared} {H0 : Hp} {E : XK} {C D cc : Addr}
theorem exo_inst {X : Cx} {pins : List (Addr × Obj)} {σ : L2.St} {H : Hp} {s : Shared} {a : Addr} (I : Inv X pins σ H s) (e : H a = some (exo a C none)) : ∃ ox, PySem.W.InstAt s.heap a ox C none := by
  obtain ⟨t1, ho⟩ := exo_at I.hok e
  exact ⟨_, ho, rfl, rfl, trivial⟩
theorem sup_base {fd : FuncData} {oc : Value} {od : Option Addr} {osl : Array (Option Value)} {ar : Arg} {a : Addr} {p0 p1 : Pos} {whole : Sem Value} {pins : List (Addr × Obj)} {σ : L2.St} {H : Hp} {s : Shared} {Q : Value → Shared → Prop} (SC : SupC P K mg F.c cc D C) (hcl : F.cl = [(("__class__" : Str), cc)])
    (lk : K.lookup f = some ⟨oc, od, .func fd, osl⟩) (hp : (fd.params.posonlyargs ++ fd.params.args).head? = some ar) (hN : N[0]? = some ar.arg) (hk : F.scope.kind = .function) (hks : F.scope.names.lookup ("super" : Str) = some .globalImplicit) (hkc : F.scope.names.lookup ("__class__" : Str) = some .free) (hka : F.scope.names.lookup ar.arg = some .local)
    (I : Inv (ncx CX P wd K mg base N F f A outer s0 H0 E) pins σ H s) (hσ : σ[0]? = some (some (.ref a))) (ha : H a = some (exo a C none))
    (h : ∀ so s', Inv (ncx CX P wd K mg base N F f A outer s0 H0 E) pins σ H s' → s'.heap.get? so = some (PySem.W.ks_superObj D a C) → Q (.ref so) s') :
    _root_.PySem.wpAt (model P wd) (ncx CX P wd K mg base N F f A outer s0 H0 E).A (.func F.body (envF F f s0.heap.objs.size)) (attributeBase (.Call (.Name "super" p0) [] [] p1) "__init__" (envF F f s0.heap.objs.size) whole) Q (ncx CX P wd K mg base N F f A outer s0 H0 E).xe s := by
  have XK : K.In s.heap := I.kIn
  obtain ⟨ccl, cdd, vs, ccs, file, tf, hcode, hvs, hfile⟩ := SC.code
  obtain ⟨cl, cld, csl, hcell⟩ := SC.cell
  obtain ⟨cdD, hD⟩ := SC.cls
  obtain ⟨oD, hD1, hD2⟩ : ∃ oD, s.heap.get? D = some oD ∧ oD.data = .cls cdD := by
    unfold PySem.W.clsIn at hD
    split at hD
    · rename_i c d cd' sl ho
      cases hD
      exact ⟨_, XK _ _ ho, rfl⟩
    · cases hD
  obtain ⟨t1, ho⟩ := exo_at I.hok ha
  refine ks_wpAt_super_base (env := envF F f s0.heap.objs.size) hks hkc (by decide) rfl (XK _ _ lk) rfl hp rfl (XK _ _ hcode) rfl hvs hfile SC.top ?_
  obtain ⟨mb, hb1, hb2⟩ := I.mod.blt
  refine PySem.W.ks_loadName_global hk hks (Calls.loadGlobal_builtin (env := envF F f s0.heap.objs.size) (I.mod.glob.keeps I.bk) SC.sup (hb1.keeps I.bk) ((hb2 "super" (by decide)).trans (by decide +kernel)) ⟨rfl, ?_⟩)
  refine wpAny_loadName_free hk hkc (show (envF F f s0.heap.objs.size).cells.lookup ("__class__" : Str) = some cc by show F.cl.lookup ("__class__" : Str) = some cc; rw [hcl]; rfl) ⟨_, XK _ _ hcell, rfl⟩ ?_
  obtain ⟨m, hn, hl⟩ := I.loc
  obtain ⟨u, ru, lu⟩ := hl 0 ar.arg (.ref a) hN hσ (.inl hka)
  obtain rfl : u = Value.ref a := ru
  have hm : m ar.arg = some (.ref a) := by
    rcases lu with ⟨_, z⟩ | ⟨z, _⟩
    · exact z
    · exfalso
      have hka' : (envF F f s0.heap.objs.size).kindOf ar.arg = some .local := hka
      rcases z with z | z
      · exact nomatch hka'.symm.trans z
      · exact nomatch hka'.symm.trans z
  refine wpAny_loadName_local hk hka hn hm ?_
  refine ks_wpAny_isType_cls hD1 hD2 ⟨rfl, ?_⟩
  obtain ⟨hh, g, d, t, os⟩ := s
  refine ks_wpAny_call_super hD1 hD2 ho rfl (fun c e => nomatch e) (PySem.W.looks_mroIn XK SC.sub) fun h' e k => ?_
  exact h _ _ (I.kept (t' := t) k) e
theorem sup_stmt {fd : FuncData} {oc : Value} {od : Option Addr} {osl : Array (Option Value)} {ar : Arg} {a : Addr} {p0 p1 p2 p3 p4 : Pos} {e : Expr} {te : TE} {pins : List (Addr × Obj)} {σ : L2.St} {H : Hp} {s : Shared} {q : Hp → Prop} (T : OexC K C) (SC : SupC P K mg F.c cc D C) (hcl : F.cl = [(("__class__" : Str), cc)])
    (lk : K.lookup f = some ⟨oc, od, .func fd, osl⟩) (hp : (fd.params.posonlyargs ++ fd.params.args).head? = some ar) (hN : N[0]? = some ar.arg) (hk : F.scope.kind = .function) (hks : F.scope.names.lookup ("super" : Str) = some .globalImplicit) (hkc : F.scope.names.lookup ("__class__" : Str) = some .free) (hka : F.scope.names.lookup ar.arg = some .local)
    (he : PE (ncx CX P wd K mg base N F f A outer s0 H0 E) e te) (I : Inv (ncx CX P wd K mg base N F f A outer s0 H0 E) pins σ H s) (hσ : σ[0]? = some (some (.ref a))) (ha : H a = some (exo a C none))
    (h : te σ H fun x H1 => H1 a = some (exo a C none) ∧ q H1) (hs : starEach [e] (envF F f s0.heap.objs.size) = [(false, eval e (envF F f s0.heap.objs.size))] := by rfl)
    (hi : interactive (envF F f s0.heap.objs.size) = false := by rfl) (hsw : swapsWith (.Call (.Attribute (.Call (.Name "super" p0) [] [] p1) "__init__" p2) [e] [] p3) none p4.line (envF F f s0.heap.objs.size) = pure false := by rfl)
    (pl : Sem Bool) (hev : eval (.Call (.Attribute (.Call (.Name "super" p0) [] [] p1) "__init__" p2) [e] [] p3) (envF F f s0.heap.objs.size) = (do
      let ov ← attributeBase (.Call (.Name "super" p0) [] [] p1) "__init__" (envF F f s0.heap.objs.size) (eval (.Call (.Name "super" p0) [] [] p1) (envF F f s0.heap.objs.size))
      standAt p2.atName
      let (f', first) ← holding [ov] (getMethod ov "__init__" pl)
      callWith p3 f' first (backTo p3 (starEach [e] (envF F f s0.heap.objs.size))) [])) :
    _root_.PySem.wpAt (model P wd) (ncx CX P wd K mg base N F f A outer s0 H0 E).A (.func F.body (envF F f s0.heap.objs.size)) (exec (.Expr (.Call (.Attribute (.Call (.Name "super" p0) [] [] p1) "__init__" p2) [e] [] p3) p4) (envF F f s0.heap.objs.size))
      (fun fl s' => fl = .next ∧ ∃ H', Inv (ncx CX P wd K mg base N F f A outer s0 H0 E) pins σ H' s' ∧ q H') (ncx CX P wd K mg base N F f A outer s0 H0 E).xe s := by
  refine ks_wpAt_Expr_any (ks_wpAt_MethodCall (pl := pl) (sup_base SC hcl lk hp hN hk hks hkc hka I hσ ha fun so s1 I1 hso => ?_) hev) hi hsw
  obtain ⟨ox, J⟩ := exo_inst I1 ha
  have XK : K.In s1.heap := I1.kIn
  have hI : PySem.W.Looks (model P wd) s1.heap (isInstance (.ref a) (.type "ValueError")) true := J.type.andThen (PySem.W.looks_subIn XK SC.val)
  obtain ⟨cd, hc⟩ : ∃ cd, PySem.W.clsIn K C = some cd := by
    have z := SC.along
    unfold PySem.W.ks_superIn at z
    cases q : PySem.W.clsIn K C with
    | none => rw [q] at z; cases z
    | some cd => exact ⟨cd, rfl⟩
  have hm := SC.along
  unfold PySem.W.ks_superIn at hm
  rw [hc] at hm
  have hno := PySem.W.looks_opaque (M := model P wd) (C := C) XK SC.opq
  obtain ⟨hh, g, d, t, os⟩ := s1
  refine PySem.W.kxs_getMethod PySem.W.kxs_ValueError hso hno (l₀ := cd.mro) (fun A Q E s k q => wpAny_bind ((PySem.W.looks_clsIn XK hc) A _ E s k (wpAny_pure q))) rfl XK hm hI (PySem.W.ks_ne XK J hc) (by decide) ?_
  -- the wrapper stands at the end of the heap
  have I2 : Inv (ncx CX P wd K mg base N F f A outer s0 H0 E) pins σ H ⟨hh.push (PySem.W.kxs_mw "ValueError.__init__" a), g, d, t + 1, os⟩ := I1.kept (t' := t + 1) fun b o z => Heap.get?_push_of_some _ z
  have hu : (hh.push (PySem.W.kxs_mw "ValueError.__init__" a)).get? hh.objs.size = some (PySem.W.kxs_mw "ValueError.__init__" a) := Heap.get?_push_size _ rfl
  have I3 := I2.pinned (fp := [hh.objs.size]) (fun b hb => by
    have z : b = hh.objs.size := by simpa using hb
    subst z
    exact I1.fpOk (Nat.le_refl _) (I1.hok.fresh (Nat.le_refl _))) (fun b hb => by
    have z : b = hh.objs.size := by simpa using hb
    subst z
    exact ⟨_, hu, fun v z => nomatch z⟩)
  show wpAny _ _ (callWith p3 (.ref hh.objs.size) [] (backTo p3 (starEach [e] (envF F f s0.heap.objs.size))) []) _ _ _
  rw [hs]
  refine PySem.W.kxs_callWith (i := "ValueError.__init__") (x := a) rfl ?_
  have pa := (pa_cons (X := ncx CX P wd K mg base N F f A outer s0 H0 E) he pa_nil (hs := hs)).run p3 _ _ σ H (one1 fun x H1 => H1 a = some (exo a C none) ∧ q H1) I3 h
  rw [show starEach [e] (ncx CX P wd K mg base N F f A outer s0 H0 E).env = [(false, eval e (envF F f s0.heap.objs.size))] from hs] at pa
  refine evalArgs_plain (wpAny_mono pa (fun us s4 ⟨vs, H1, I4, r1, qq⟩ => ?_) fun _ _ z => z)
  obtain ⟨v, rfl, ha4, hq4⟩ := one1_at qq
  have pin := I4.pin (hh.objs.size, PySem.W.kxs_mw "ValueError.__init__" a) (List.mem_append_right _ (List.mem_append_right _ (mem_pinsAt (by simp) hu)))
  refine ⟨pin.1, ?_⟩
  refine mw_call (X := ncx CX P wd K mg base N F f A outer s0 H0 E) T I4 ha4 pin.1 (by show us.length ≤ sizeLine; rw [← r1.length]; show 1 ≤ sizeLine; decide) fun s' I' => ⟨rfl, H1, I'.unpinned, hq4⟩
end
end VL
set_option Elab.async false
set_option linter.all false
set_option maxRecDepth 100000
set_option maxHeartbeats 4000000
namespace VL
open PySem L2 PyProof.Rows PySem.Calls NdefX
section
variable {P : Program} {wd : World} {K : PySem.W.Frag} {mg : Str → Option Value} {base : Heap} {N ps : List Str} {F : NF} {f : Addr} {C D cc : Addr}
/-- THE RULE for the __init__ of an own error whose first line is super().__init__(e) -/
theorem fn_okX {fd : FuncData} {oc dV kV doc pm ct : Value} {od an : Option Addr} {osl : Array (Option Value)} {ar : Arg} {p0 p1 p2 p3 p4 : Pos} {e : Expr} {rest : List Stmt} {sp : Sp} {k : Nat}
    (hfd : fd = PySem.W.fnX F.name F.qual F.params F.body F.scope F.cl dV kV doc pm an (.ref F.c) ct) (lk : K.lookup f = some ⟨oc, od, .func fd, osl⟩) (hcd : PySem.W.codeIn K (.ref F.c) F.qual = true)
    (hbd : F.body = .Expr (.Call (.Attribute (.Call (.Name "super" p0) [] [] p1) "__init__" p2) [e] [] p3) p4 :: rest)
    (hcl : F.cl = [(("__class__" : Str), cc)]) (S : NScope N ps ["__class__"] F.scope) (hcc : ∃ cl cld csl, K.lookup cc = some ⟨cl, cld, .cell (some (.ref D)), csl⟩)
    (hp : (F.params.posonlyargs ++ F.params.args).head? = some ar) (hN : N[0]? = some ar.arg) (hks : F.scope.names.lookup ("super" : Str) = some .globalImplicit) (hkc : F.scope.names.lookup ("__class__" : Str) = some .free) (hka : F.scope.names.lookup ar.arg = some .local)
    (len : ∀ vs H Q E, sp vs H Q E → vs.length = ps.length)
    (hbody : ∀ (A : Around) (outer : List PySem.Env) (s : Shared) (H : Hp) (vs : List V) (Q : VK) (E : XK), Room k (A.deeper (envF F f s.heap.objs.size)) → sp vs H Q E →
      ∃ te ts a C, OexC K C ∧ SupC P K mg F.c cc D C ∧ (startF N vs [some (.ref D)])[0]? = some (some (.ref a)) ∧ H a = some (exo a C none) ∧ PE (ncx (L2.CX P wd) P wd K mg base N F f A outer s H E) e te ∧ PSs (ncx (L2.CX P wd) P wd K mg base N F f A outer s H E) rest ts ∧
        te (startF N vs [some (.ref D)]) H fun x H1 => H1 a = some (exo a C none) ∧ ts { nx := fun _ H' => Q .non H', rt := Q } (startF N vs [some (.ref D)]) H1)
    (hs : ∀ L, starEach [e] (envF F f L) = [(false, eval e (envF F f L))] := by intro _; rfl) (hi : ∀ L, interactive (envF F f L) = false := by intro _; rfl)
    (hsw : ∀ L, swapsWith (.Call (.Attribute (.Call (.Name "super" p0) [] [] p1) "__init__" p2) [e] [] p3) none p4.line (envF F f L) = pure false := by intro _; rfl)
    (pl : Nat → Sem Bool) (hev : ∀ L, eval (.Call (.Attribute (.Call (.Name "super" p0) [] [] p1) "__init__" p2) [e] [] p3) (envF F f L) = (do
      let ov ← attributeBase (.Call (.Name "super" p0) [] [] p1) "__init__" (envF F f L) (eval (.Call (.Name "super" p0) [] [] p1) (envF F f L))
      standAt p2.atName
      let (f', first) ← holding [ov] (getMethod ov "__init__" (pl L))
      callWith p3 f' first (backTo p3 (starEach [e] (envF F f L))) [])) :
    FnOk P wd K mg base (L2.CX P wd) (k + 1) f fd ps sp := by
  refine ⟨len, fun A outer s H args us vs Q E hr e0 hb r hsp => ?_⟩
  have hl := len _ _ _ _ hsp
  have KX : K.In s.heap := e0.mod.kin.keeps fun b o e => (e0.bs b o e).1
  have lim : s.heap.NoLimit := e0.mod.nolimit.keeps fun b o e => (e0.bs b o e).1
  have hHc : H cc = none := by
    obtain ⟨cl, cld, csl, h⟩ := hcc
    exact (e0.bs _ _ (e0.mod.kin _ _ h)).2
  have CA : CellsAt F.cl ["__class__"] [some (.ref D)] s.heap H := by
    obtain ⟨cl, cld, csl, h⟩ := hcc
    have hcell : s.heap.IsCell cc (some (.ref D)) := ⟨_, KX _ _ h, rfl⟩
    refine ⟨rfl, fun y c hy => ?_, fun x y c hx hy => ?_, fun i y hy => ?_⟩
    · rw [hcl] at hy
      have : c = cc := by
        simp only [List.lookup] at hy
        split at hy
        · exact (Option.some.inj hy).symm
        · cases hy
      subst this
      exact ⟨hHc, _, hcell⟩
    · rw [hcl] at hx hy
      simp only [List.lookup] at hx hy
      split at hx
      · rename_i e1
        split at hy
        · rename_i e2
          exact (beq_iff_eq.mp e1).trans (beq_iff_eq.mp e2).symm
        · cases hy
      · cases hx
    · have : y = ("__class__" : Str) := by
        cases i with
        | zero => simp at hy; exact hy.symm
        | succ i => simp at hy
      subst this
      refine ⟨cc, by rw [hcl]; rfl, fun v hv => ?_⟩
      cases i with
      | zero => simp at hv; subst hv; exact ⟨_, rfl, hcell⟩
      | succ i => simp at hv
  subst hfd
  refine ks_codeAny_call_defAt (fd := PySem.W.fnX F.name F.qual F.params F.body F.scope F.cl dV kV doc pm an (.ref F.c) ct) (body := F.body) (binds := ps.zip us) hr.depth (KX _ _ lk) rfl lim (PySem.W.codeRec_of KX hcd) rfl hb S.nocell (fun ⟨n, _⟩ hy => S.par n (List.of_mem_zip hy).1) (fun h₁ hns kp => ?_) S.co S.gen S.kind
  obtain ⟨te, ts, a, C, T, SC, hσ, ha, pe, pss, hq⟩ := hbody A outer s H vs Q E (hr.deeper _) hsp
  have I : Inv (ncx (L2.CX P wd) P wd K mg base N F f A outer s H E) [] (startF N vs [some (.ref D)]) H { s with heap := h₁, toks := s.toks + (ps.zip us).length } := inv_startN S hr.hd e0 hl r CA hns kp
  have fin : ∀ {σ' : L2.St} {H' : Hp} {v : V} {u : Value} {s' : Shared}, Inv (ncx (L2.CX P wd) P wd K mg base N F f A outer s H E) [] σ' H' s' → L2.RelV v u → Q v H' → CE outer P wd H s Q u s' :=
    fun {σ' H' v u s'} J rv q => ⟨v, H', J.os, J.bare, J.base, J.hok, rv, q⟩
  have st := sup_stmt (pins := []) (te := te) T SC hcl lk hp hN S.kind hks hkc hka pe I hσ ha hq (hs _) (hi _) (hsw _) (pl _) (hev _)
  show _root_.PySem.wpAt (model P wd) (A.deeper (envF F f s.heap.objs.size)) (.func F.body (envF F f s.heap.objs.size)) (execs F.body (envF F f s.heap.objs.size)) _ _ _
  have key : _root_.PySem.wpAt (model P wd) (A.deeper (envF F f s.heap.objs.size)) (.func F.body (envF F f s.heap.objs.size)) (execs (.Expr (.Call (.Attribute (.Call (.Name "super" p0) [] [] p1) "__init__" p2) [e] [] p3) p4 :: rest) (envF F f s.heap.objs.size))
      (fun fl s' => CR (L2.CX P wd) outer P wd H s Q E (.ok (.ret (match fl with | .ret v => v | _ => .none))) s') (ncx (L2.CX P wd) P wd K mg base N F f A outer s H E).xe { s with heap := h₁, toks := s.toks + (ps.zip us).length } := by
    refine ks_wpAt_execs_cons (ks_wpAt_mono st (fun fl s' ⟨hfl, H', I', hts⟩ => ?_) fun _ _ z => z)
    subst hfl
    refine wpAt_of_wpAny (wpAny_mono (pss.run [] s' _ H' _ I' hts) (fun fl s'' hs'' => ?_) fun _ _ z => z)
    cases fl with
    | ret u =>
      obtain ⟨v, σ', H'', J, rv, q⟩ := hs''
      exact fin J rv q
    | next =>
      obtain ⟨σ', H'', J, q⟩ := hs''
      exact fin (v := V.non) (u := Value.none) J rfl q
    | brk =>
      obtain ⟨_, _, _, q⟩ := hs''
      exact False.elim q
    | cont =>
      obtain ⟨_, _, _, q⟩ := hs''
      exact False.elim q
  rw [← hbd] at key
  exact key
end
end VL
set_option Elab.async false
set_option linter.all false
set_option maxRecDepth 100000
set_option maxHeartbeats 4000000
namespace VL
open PySem L2 PyProof.Rows PySem.Calls
/-! ### f-strings whose text is dropped: a bound of its length -/
section
variable {w : Wd} {X : Cx} {W : WX} {F H : Hp} {ρ : List Addr} {st : Store} {Q : VK} {e : Expr} {pos : Pos} {m : MV} {σ : L2.St} {env : Env}
abbrev MN := Env → Store → R Nat
def RLN : Hp → List Addr → Nat → V → Prop := fun _ _ n v => ∃ y : Str, v = .str y ∧ y.length ≤ n
abbrev tBd (w : Wd) (W : WX) (m : MN) : TE := tG w RLN W m
def mBdC (x : Str) : MN := fun _ st => .ok x.length st
theorem vb_c {x : Str} (h : PE X e (tC (.str x))) : PE X e (tBd w W (mBdC x)) := pe_imp h fun σ H Q ⟨F, ρ, st, env, er, re, q⟩ => q F ρ H (.str x) (Ext.refl _ _ _) re ⟨x, rfl, Nat.le_refl _⟩
/-- ints of a tuple: the signs of their texts -/
def intsText : List D → Option (List Str)
  | [] => some []
  | .int i :: r => if i.natAbs.log2 < 1920 then (intsText r).map fun t => toString i :: t else none
  | _ :: _ => none
def bdD : D → Option Nat
  | .str y => if y.length ≤ sizeLine then some y.length else none
  | .int i => if i.natAbs.log2 < 1920 then some (Str.length (toString i)) else none
  | .tup ds => match intsText ds with
    | some ts => if (tupleText ts).length ≤ sizeLine then some ((tupleText ts).length + 5) else none
    | none => none
  | _ => none
def mBd (g : D → Option Nat) (m : MV) : MN := fun env st => (m env st).bind fun s st1 => match s with
  | .d d => match g d with
    | some n => .ok n st1
    | none => .stuck
  | .own _ => .stuck
theorem ints_repr {prog : Program} {wd : World} : ∀ {ds : List D} {vs : List V} {its : List Value} {ts : List Str}, w.DnL F ds vs → Vals vs its → intsText ds = some ts → ReprAll prog wd its ts
  | [], vs, its, ts, h, r, e => by unfold Wd.DnL DnL at h; subst h; cases r; cases e; exact .nil
  | d :: ds, vs, its, ts, h, r, e => by
    unfold Wd.DnL DnL at h
    obtain ⟨v, ws, rfl, h1, h2⟩ := h
    cases r with
    | cons r1 r2 =>
      cases d with
      | int i =>
        unfold intsText at e
        split at e
        · rename_i hz
          cases ht : intsText ds with
          | none => rw [ht] at e; cases e
          | some t =>
            rw [ht] at e; cases e
            unfold Dn at h1
            subst h1
            obtain ⟨tk, rfl⟩ := r1
            exact .cons (ReprIs.int tk hz) (ints_repr h2 r2 ht)
        · cases e
      | _ => unfold intsText at e; cases e
theorem vb_fmt (hK : w.K = X.K) (hu : X.A.units + 64 < cLine) (he : PE X e (tE w W m)) : PE X (.FormattedValue e (-1) none pos) (tBd w W (mBd bdD m)) := by
  refine ⟨fun pins s σ H Q I ⟨F, ρ, st, env, er, re, h⟩ => ?_⟩
  rw [mBd, wpR_bind] at h
  refine wpAny_FormattedValue_plain (thn (he.run pins s σ H (fun v H1 => ∃ n : Nat, (∃ x : Str, v = .str x ∧ x.length ≤ sizeLine ∧ n = x.length) ∧ (∀ y : Str, y.length ≤ n → Q (.str y) H1) ∨ (∃ i : Int, v = .int i ∧ i.natAbs.log2 < 1920 ∧ n = Str.length (toString i)) ∧ (∀ y : Str, y.length ≤ n → Q (.str y) H1) ∨
    (∃ (F : Hp) (a : Addr) (ds : List D) (vs : List V) (ts : List Str), v = .ref a ∧ SqT w.K H1 a vs ∧ w.DnL F ds vs ∧ intsText ds = some ts ∧ (tupleText ts).length ≤ sizeLine ∧ n = (tupleText ts).length + 5) ∧ (∀ y : Str, y.length ≤ n → Q (.str y) H1)) I ?_) fun v s1 hv => ?_)
  · refine tG.use er re h fun s' st1 F1 ρ1 H1 x e1 er1 re1 hs h1 => ?_
    cases s' with
    | own _ => exact h1.elim
    | d d =>
      dsimp only at h1
      cases hg : bdD d with
      | none => rw [hg] at h1; exact h1.elim
      | some n =>
        rw [hg] at h1
        have qq : ∀ y : Str, y.length ≤ n → Q (.str y) H1 := fun y hy => h1 F1 ρ1 H1 (.str y) e1 re1 ⟨y, rfl, hy⟩
        cases d with
        | str y =>
          unfold SVn Wd.Dn Dn at hs
          simp only [bdD] at hg
          split at hg
          · rename_i hz; cases hg; exact ⟨_, .inl ⟨⟨y, hs, hz, rfl⟩, qq⟩⟩
          · cases hg
        | int i =>
          unfold SVn Wd.Dn Dn at hs
          simp only [bdD] at hg
          split at hg
          · rename_i hz; cases hg; exact ⟨_, .inr (.inl ⟨⟨i, hs, hz, rfl⟩, qq⟩)⟩
          · cases hg
        | tup ds =>
          unfold SVn Wd.Dn Dn at hs
          obtain ⟨a, vs, rfl, g1, g2⟩ := hs
          simp only [bdD] at hg
          cases ht : intsText ds with
          | none => rw [ht] at hg; cases hg
          | some ts =>
            rw [ht] at hg
            dsimp only at hg
            split at hg
            · rename_i hz; cases hg; exact ⟨_, .inr (.inr ⟨⟨F1, a, ds, vs, ts, rfl, fle_t re1.sub g1, g2, ht, hz, rfl⟩, qq⟩)⟩
            · cases hg
        | _ => cases hg
  · obtain ⟨x, H1, I1, r1, n, q⟩ := hv
    rcases q with ⟨⟨y, rfl, hz, rfl⟩, q⟩ | ⟨⟨i, rfl, hz, rfl⟩, q⟩ | ⟨⟨F1, a, ds, vs, ts, rfl, ht, hd, hts, hz, rfl⟩, q⟩
    · obtain ⟨t, rfl⟩ := r1
      exact wpAny_formatField_str ⟨.str y, H1, I1, ⟨t, rfl⟩, q y (Nat.le_refl _)⟩ ⟨.str y, H1, I1.tok _, ⟨_, rfl⟩, q y (Nat.le_refl _)⟩ hz
    · obtain ⟨t, rfl⟩ := r1
      exact wpAny_formatField_int hz ⟨.str (toString i), H1, I1.tok _, ⟨_, rfl⟩, q _ (Nat.le_refl _)⟩
    · cases r1
      obtain ⟨its, rv, ⟨o, ho, hcl, n, hd'⟩, _⟩ := I1.tuple (hK ▸ ht)
      exact fmt_tuple (ts := ts) (by omega) ho hcl hd' (by simpa using ints_repr hd rv hts) hz fun m u tk hm => ⟨.str m, H1, I1.tok _, ⟨u, rfl⟩, q m hm⟩
def mBdJ : List MN → Nat → Env → Store → R Unit
  | [], n, _, st => .ok () st
  | m :: ms, n, env, st => (m env st).bind fun k st1 => if n + k ≤ sizeLine then mBdJ ms (n + k) env st1 else .stuck
def RLU : Hp → List Addr → Unit → V → Prop := fun _ _ _ v => ∃ y : Str, v = .str y
abbrev MU := Env → Store → R Unit
abbrev tAnyS (w : Wd) (W : WX) (m : MU) : TE := tG w RLU W m
theorem bdj_ok : ∀ (ms : List MN) (acc : Str) (n : Nat) {F ρ st H env} {Q : Str → Hp → Prop}, acc.length ≤ n → EnvRel w F ρ env σ → Rel w F ρ st H →
    wpR (mBdJ ms n env st) (fun _ st1 => ∀ F1 ρ1 H1 x, Ext F ρ H F1 ρ1 H1 → Rel w F1 ρ1 st1 H1 → Q x H1) (okX w F ρ H σ W) → tJs (ms.map (tBd w W)) acc σ H Q
  | [], acc, n, F, ρ, st, H, env, Q, ha, er, re, h => h F ρ H acc (Ext.refl _ _ _) re
  | m :: ms, acc, n, F, ρ, st, H, env, Q, ha, er, re, h => by
    rw [mBdJ, wpR_bind] at h
    refine tG.use er re h fun k st1 F1 ρ1 H1 x e1 er1 re1 hs h1 => ?_
    obtain ⟨y, rfl, hy⟩ := hs
    by_cases hz : n + k ≤ sizeLine
    · rw [if_pos hz] at h1
      have hl : (acc ++ y).length ≤ n + k := by rw [strLen_append]; omega
      exact ⟨y, rfl, Nat.le_trans hl hz, bdj_ok ms (acc ++ y) (n + k) hl er1 re1 (wpR_mono h1 (fun x st2 z F2 ρ2 H2 x' e2 re2 => z F2 ρ2 H2 x' (e1.trans e2) re2) fun ex st2 z => z.up e1)⟩
    · rw [if_neg hz] at h1; exact h1.elim
theorem vb_joined {v1 v2 : Expr} {rest : List Expr} {ms : List MN} (h : PJ X (v1 :: v2 :: rest) (ms.map (tBd w W))) : PE X (.JoinedStr (v1 :: v2 :: rest) pos) (tAnyS w W (mBdJ ms 0)) := by
  refine pe_imp (pe_joined h) fun σ H Q ⟨F, ρ, st, env, er, re, h⟩ => ?_
  exact bdj_ok ms Str.empty 0 (Nat.le_refl _) er re (wpR_mono h (fun x st1 z F1 ρ1 H1 y e1 re1 => z F1 ρ1 H1 (.str y) e1 re1 ⟨y, rfl⟩) fun _ _ z => z)
theorem vbj_nil : PJ X [] (([] : List MN).map (tBd w W)) := PJ.nil
theorem vbj_cons {es : List Expr} {mn : MN} {ms : List MN} (h : PE X e (tBd w W mn)) (r : PJ X es (ms.map (tBd w W))) : PJ X (e :: es) ((mn :: ms).map (tBd w W)) := PJ.cons h r
/-! ### the fields of an error that is made -/
def mFlds : List (Str × MV) → List (Str × D) → Env → Store → R (List (Str × D))
  | [], acc, _, st => if acc.isEmpty = true then .stuck else .ok acc st
  | (f, me) :: r, acc, env, st => (noX (me env st)).bind fun s st1 => match s with
    | .d x => if acc.length ≤ 900 then mFlds r ((f, x) :: acc) env st1 else .stuck
    | .own _ => .stuck
/-- the error at a is under way: its fields so far -/
def ErrAt (w : Wd) (F H H0 : Hp) (ρ : List Addr) (a C : Addr) (acc : List (Str × D)) : Prop :=
  (acc = [] ∧ H a = some (exo a C none)) ∨ ∃ dx ws, H a = some (exo a C (some dx)) ∧ H dx = some (exd dx ws) ∧ DnF w.K w.ct F acc ws ∧ dx ∉ ρ ∧ F dx = none ∧ H0 dx = none ∧ dx ≠ a
def tFlds (w : Wd) (K : PySem.W.Frag) : List (Str × MV) → TS
  | [] => tNext
  | (f, me) :: r => tSeq (tOst K f (tVar 0) (tE w W0 me)) (tFlds w K r)
theorem DnF.length : ∀ {fs : List (Str × D)} {ws : List (Str × V)}, DnF w.K w.ct F fs ws → ws.length = fs.length
  | [], ws, h => by unfold DnF at h; subst h; rfl
  | (g, x) :: r, ws, h => by
    unfold DnF at h
    obtain ⟨v, ws, rfl, h1, h2⟩ := h
    have := DnF.length (fs := r) h2
    simp [this]
theorem flds_read {K : PySem.W.Frag} {C a : Addr} {D : Ends} {F0 H0 : Hp} {ρ0 : List Addr} (T : OexC K C) (hσ : σ[0]? = some (some (.ref a))) (h0 : H0 a = none) : ∀ {fl : List (Str × MV)} {acc : List (Str × VL.D)} {F ρ st H}, (∀ p ∈ fl, PySem.W.findIn K (.ref C) p.1 = some none) → EnvRel w F ρ env σ → Rel w F ρ st H → Ext F0 ρ0 H0 F ρ H → a ∉ ρ → F a = none → ErrAt w F H H0 ρ a C acc →
    wpR (mFlds fl acc env st) (fun fs st' => ∀ F' ρ' H' dx ws, Ext F0 ρ0 H0 F' ρ' H' → Rel w F' ρ' st' H' → H' a = some (exo a C (some dx)) → H' dx = some (exd dx ws) → DnF w.K w.ct F' fs ws → dx ∉ ρ' → F' dx = none → H0 dx = none → dx ≠ a → a ∉ ρ' → F' a = none → D.nx σ H') (fun _ _ => False) → tFlds w K fl D σ H
  | [], acc, F, ρ, st, H, hno, er, re, ex, ha, hF, hE, h => by
    unfold mFlds at h
    by_cases hz : acc.isEmpty = true
    · rw [if_pos hz] at h; exact h.elim
    · rw [if_neg hz] at h
      rcases hE with ⟨rfl, _⟩ | ⟨dx, ws, g1, g2, g3, g4, g5, g6, g7⟩
      · exact absurd rfl hz
      · exact h F ρ H dx ws ex re g1 g2 g3 g4 g5 g6 g7 ha hF
  | (f, me) :: r, acc, F, ρ, st, H, hno, er, re, ex, ha, hF, hE, h => by
    rw [mFlds, wpR_bind] at h
    show tE w W0 me σ H _
    refine tG.use er re (noX_ok h) fun s st1 F1 ρ1 H1 y e1 er1 re1 hs h1 => ?_
    cases s with
    | own _ => exact h1.elim
    | d x =>
      dsimp only at h1
      by_cases hl : acc.length ≤ 900
      · rw [if_pos hl] at h1
        have hx : w.Dn F1 x y := hs
        refine ⟨.ref a, hσ, a, C, rfl, T, hno (f, me) (by simp), ?_⟩
        rcases hE with ⟨rfl, g1⟩ | ⟨dx, ws, g1, g2, g3, g4, g5, g6, g7⟩
        · obtain ⟨k1, k2, k3⟩ := e1.side g1 hF ha
          refine .inl ⟨k1, fun dx hdx hne => ?_⟩
          have hFd : F1 dx = none := re1.sub.free hdx
          have hRd : dx ∉ ρ1 := fun m => by obtain ⟨o, ho⟩ := re1.there _ m; rw [hdx] at ho; cases ho
          have hd0 : H0 dx = none := by
            cases q : H0 dx with
            | none => rfl
            | some o =>
              by_cases hm : dx ∈ ρ0
              · exact absurd ((e1.r.trans (Rle.refl _) |> fun _ => (ex.trans e1).r) |> fun rr => by
                  obtain ⟨l, hlt, hle⟩ := List.mem_iff_getElem.mp hm
                  exact List.mem_of_getElem? (rr l dx (by rw [List.getElem?_eq_getElem hlt, hle]))) hRd
              · rw [(ex.trans e1).keep dx o q hm] at hdx; cases hdx
          have er2 : EnvRel w F1 ρ1 env σ := er1
          refine flds_read T hσ h0 (fl := r) (acc := [(f, x)]) (fun p hp => hno p (by simp [hp])) er2 ((re1.side (o := exd dx [(f, y)]) hFd hRd).side (o := exo a C (some dx)) k2 k3) (((ex.trans e1).wr hd0).wr h0) k3 k2 (.inr ⟨dx, [(f, y)], upd_same, by rw [upd_ne hne]; exact upd_same, ?_, hRd, hFd, hd0, hne⟩) h1
          unfold DnF
          exact ⟨y, [], rfl, hx, by unfold DnF; rfl⟩
        · obtain ⟨k1, k2, k3⟩ := e1.side g1 hF ha
          obtain ⟨j1, j2, j3⟩ := e1.side g2 g5 g4
          refine .inr ⟨dx, ws, k1, j1, by rw [DnF.length g3]; exact hl, ?_⟩
          refine flds_read T hσ h0 (fl := r) (acc := (f, x) :: acc) (fun p hp => hno p (by simp [hp])) er1 (re1.side (o := exd dx ((f, y) :: ws)) j2 j3) ((ex.trans e1).wr g6) k3 k2 (.inr ⟨dx, (f, y) :: ws, by rw [upd_ne (Ne.symm g7)]; exact k1, upd_same, ?_, j3, j2, g6, g7⟩) h1
          unfold DnF
          exact ⟨y, ws, rfl, hx, DnF.mono e1.f _ _ g3⟩
      · rw [if_neg hl] at h1; exact h1.elim
end
end VL
set_option Elab.async false
set_option linter.all false
set_option maxRecDepth 100000
set_option maxHeartbeats 4000000
namespace VL
open PySem L2 PyProof.Rows PySem.Calls NdefX
section
variable {w : Wd} {F H : Hp} {ρ : List Addr} {st : Store}
abbrev RunX := List SV → Store → R (List (Str × D))
def initEnvX (ss : List SV) (n : Nat) : Env := none :: (ss.map some ++ List.replicate (n - 1 - ss.length) none)
def runX (ar n : Nat) (me : MU) (fl : List (Str × MV)) : RunX := fun ss st => if ss.length + 1 = ar then (noX (me (initEnvX ss n) st)).bind fun _ st1 => mFlds fl [] (initEnvX ss n) st1 else .stuck
/-- what the __init__ of an own error promises -/
def spX (w : Wd) (P : Program) (mg : Str → Option Value) (c cc D : Addr) (ns : List Str) (ar : Nat) (run : RunX) : Sp := fun vs H Q _ => vs.length = ar ∧ ∃ F ρ st ss H0 a C vt, vs = .ref a :: vt ∧ OexC w.K C ∧ SupC P w.K mg c cc D C ∧ (∀ f ∈ ns, PySem.W.findIn w.K (.ref C) f = some none) ∧
  H0 a = none ∧ H = upd H0 a (exo a C none) ∧ Rel w F ρ st H0 ∧ SVL w F ρ ss vt ∧
  wpR (run ss st) (fun fs st' => ∀ F' ρ' H' dx ws, Ext F ρ H0 F' ρ' H' → Rel w F' ρ' st' H' → H' a = some (exo a C (some dx)) → H' dx = some (exd dx ws) → DnF w.K w.ct F' fs ws → dx ∉ ρ' → F' dx = none → H0 dx = none → dx ≠ a → a ∉ ρ' → F' a = none → Q .non H') (fun _ _ => False)
theorem initX_rel {ss : List SV} {vs : List V} {N : List Str} {a D : Addr} (hn : vs.length + 2 ≤ N.length) (h : SVL w F ρ ss vs) : EnvRel w F ρ (initEnvX ss N.length) (startF N (.ref a :: vs) [some (.ref D)]) := by
  have hl := h.length
  unfold initEnvX startF
  refine ⟨by simp; omega, fun i s hi => ?_⟩
  cases i with
  | zero => cases hi
  | succ i =>
    simp only [List.getElem?_cons_succ] at hi
    by_cases hlt : i < ss.length
    · rw [List.getElem?_append_left (by simpa using hlt), List.getElem?_map] at hi
      cases hs : ss[i]? with
      | none => rw [hs] at hi; cases hi
      | some s' =>
        rw [hs] at hi
        cases hi
        obtain ⟨v, hv, hsv⟩ := h.get hs
        refine ⟨v, ?_, hsv⟩
        show (some (.ref a) :: (vs.map some) ++ _)[i + 1]? = _
        rw [List.cons_append, List.getElem?_cons_succ, List.getElem?_append_left (by simp; omega), List.getElem?_map, hv]
        rfl
    · rw [List.getElem?_append_right (by simpa using hlt), List.getElem?_replicate] at hi
      split at hi <;> cases hi
theorem Ext.side0 {p : Addr} {o : HO} (hp : H p = none) : Ext F ρ H F ρ (upd H p o) := (Ext.refl F ρ H).wr hp
theorem SVL.mem_none {H0 : Hp} {p : Addr} (re : Rel w F ρ st H0) (hp : H0 p = none) : p ∉ ρ := fun m => by obtain ⟨o, ho⟩ := re.there _ m; rw [hp] at ho; cases ho
/-- the body of such an __init__, from its promise -/
theorem initX_read {P : Program} {mg : Str → Option Value} {c cc D : Addr} {ns : List Str} {ar : Nat} {N : List Str} {me : MU} {fl : List (Str × MV)} {vs : List V} {Q : VK} {E : XK} (hN : ar + 1 ≤ N.length) (hns : ∀ p ∈ fl, p.1 ∈ ns)
    (h : spX w P mg c cc D ns ar (runX ar N.length me fl) vs H Q E) : ∃ a C, OexC w.K C ∧ SupC P w.K mg c cc D C ∧ (startF N vs [some (.ref D)])[0]? = some (some (.ref a)) ∧ H a = some (exo a C none) ∧
      tAnyS w W0 me (startF N vs [some (.ref D)]) H fun x H1 => H1 a = some (exo a C none) ∧ tFlds w w.K fl { nx := fun _ H' => Q .non H', rt := Q } (startF N vs [some (.ref D)]) H1 := by
  obtain ⟨hl, F, ρ, st, ss, H0, a, C, vt, rfl, T, SC, hno, h0, rfl, re, hs, hw⟩ := h
  have hss : ss.length + 1 = ar := by
    have := hs.length
    simp only [List.length_cons] at hl
    omega
  have hvl := hs.length
  unfold runX at hw
  rw [if_pos hss, wpR_bind] at hw
  have hF : F a = none := re.sub.free h0
  have ha := SVL.mem_none re h0
  have re' : Rel w F ρ st (upd H0 a (exo a C none)) := re.side hF ha
  have er : EnvRel w F ρ (initEnvX ss N.length) (startF N (.ref a :: vt) [some (.ref D)]) := initX_rel (by omega) hs
  refine ⟨a, C, T, SC, rfl, upd_same, ?_⟩
  refine tG.use er re' (noX_ok hw) fun u st1 F1 ρ1 H1 b e1 er1 re1 _ h1 => ?_
  obtain ⟨k1, k2, k3⟩ := e1.side upd_same hF ha
  exact ⟨k1, flds_read T rfl h0 (fun p hp => hno p.1 (hns p hp)) er1 re1 ((Ext.side0 h0).trans e1) k3 k2 (.inl ⟨rfl, k1⟩) h1⟩
end
section
variable {w : Wd} {P : Program} {wd : World} {mg : Str → Option Value} {base : Heap} {N ps : List Str} {Fx : NF} {f : Addr} {D cc : Addr}
/-- THE RULE for the __init__ of an own error -/
theorem fn_initX {fd : FuncData} {oc dV kV doc pm ct : Value} {od an : Option Addr} {osl : Array (Option Value)} {ar : Arg} {p0 p1 p2 p3 p4 : Pos} {e : Expr} {rest : List Stmt} {k n : Nat} {ns : List Str} {me : MU} {fl : List (Str × MV)}
    (hfd : fd = PySem.W.fnX Fx.name Fx.qual Fx.params Fx.body Fx.scope Fx.cl dV kV doc pm an (.ref Fx.c) ct) (lk : w.K.lookup f = some ⟨oc, od, .func fd, osl⟩) (hcd : PySem.W.codeIn w.K (.ref Fx.c) Fx.qual = true)
    (hbd : Fx.body = .Expr (.Call (.Attribute (.Call (.Name "super" p0) [] [] p1) "__init__" p2) [e] [] p3) p4 :: rest)
    (hcl : Fx.cl = [(("__class__" : Str), cc)]) (S : NScope N ps ["__class__"] Fx.scope) (hcc : ∃ cl cld csl, w.K.lookup cc = some ⟨cl, cld, .cell (some (.ref D)), csl⟩)
    (hp : (Fx.params.posonlyargs ++ Fx.params.args).head? = some ar) (hN : N[0]? = some ar.arg) (hks : Fx.scope.names.lookup ("super" : Str) = some .globalImplicit) (hkc : Fx.scope.names.lookup ("__class__" : Str) = some .free) (hka : Fx.scope.names.lookup ar.arg = some .local)
    (hns : ∀ p ∈ fl, p.1 ∈ ns) (hlen : ps.length + 1 ≤ N.length) (hn : n = N.length)
    (hb : ∀ (A : Around) (outer : List PySem.Env) (s : Shared) (H : Hp) (E : XK), Room k (ncx (L2.CX P wd) P wd w.K mg base N Fx f A outer s H E).A →
      PE (ncx (L2.CX P wd) P wd w.K mg base N Fx f A outer s H E) e (tAnyS w W0 me) ∧ PSs (ncx (L2.CX P wd) P wd w.K mg base N Fx f A outer s H E) rest (tFlds w w.K fl))
    (hs : ∀ L, starEach [e] (envF Fx f L) = [(false, eval e (envF Fx f L))] := by intro _; rfl) (hi : ∀ L, interactive (envF Fx f L) = false := by intro _; rfl)
    (hsw : ∀ L, swapsWith (.Call (.Attribute (.Call (.Name "super" p0) [] [] p1) "__init__" p2) [e] [] p3) none p4.line (envF Fx f L) = pure false := by intro _; rfl)
    (pl : Nat → Sem Bool) (hev : ∀ L, eval (.Call (.Attribute (.Call (.Name "super" p0) [] [] p1) "__init__" p2) [e] [] p3) (envF Fx f L) = (do
      let ov ← attributeBase (.Call (.Name "super" p0) [] [] p1) "__init__" (envF Fx f L) (eval (.Call (.Name "super" p0) [] [] p1) (envF Fx f L))
      standAt p2.atName
      let (f', first) ← holding [ov] (getMethod ov "__init__" (pl L))
      callWith p3 f' first (backTo p3 (starEach [e] (envF Fx f L))) [])) :
    FnOk P wd w.K mg base (L2.CX P wd) (k + 1) f fd ps (spX w P mg Fx.c cc D ns ps.length (runX ps.length n me fl)) := by
  subst hn
  refine fn_okX (k := k) hfd lk hcd hbd hcl S hcc hp hN hks hkc hka (fun vs H Q E h => h.1) (fun A outer s H vs Q E hr hsp => ?_) hs hi hsw pl hev
  obtain ⟨a, C, T, SC, h1, h2, h3⟩ := initX_read hlen hns hsp
  obtain ⟨q1, q2⟩ := hb A outer s H E hr
  exact ⟨_, _, a, C, T, SC, h1, h2, q1, q2, h3⟩
end
/-! ### raise C(e, ..) -/
section
variable {w : Wd} {X : Cx} {W : WX} {F H : Hp} {ρ : List Addr} {st : Store} {σ : L2.St} {env : Env} {e : Expr} {es : List Expr} {pos p pos2 : Pos} {ml : ML}
theorem passes_none : Passes (L2.CX X.prog X.w) X (fun _ _ _ => False) := fun pins σ H s e s' I c => by
  obtain ⟨a, B, H', cls, d, rfl, fl, hok, ub, na, os, ag, hE⟩ := c
  exact hE.elim
def mRaiseX (c : Nat) (run : RunX) (ml : ML) : MS := fun env st => match ml env st with
  | .ok ss st1 => match run ss st1 with
    | .ok fs st2 => .exn ⟨c, fs⟩ env st2
    | _ => .stuck
  | .exn e st1 => .exn e env st1
  | .stuck => .stuck
theorem Rel.gone {a : Addr} (re : Rel w F ρ st H) (ha : a ∉ ρ) (hF : F a = none) : Rel w F ρ st (del H a) := by
  refine ⟨fun b o e => ?_, re.len, fun b hb => ?_, fun l b c h1 h2 => ?_, re.nd, re.lo⟩
  · have ne : b ≠ a := fun z => by subst z; rw [hF] at e; cases e
    rw [del_ne ne]; exact re.sub b o e
  · have ne : b ≠ a := fun z => by subst z; exact ha hb
    rw [del_ne ne]; exact re.there b hb
  · have ne : b ≠ a := fun z => by subst z; exact ha (List.mem_of_getElem? h1)
    have q := re.cell l b c h1 h2
    cases c with
    | lst m ds =>
      cases m with
      | true => obtain ⟨vs, a1, a2, a3⟩ := q; exact ⟨vs, by rw [del_ne ne]; exact a1, a2, a3⟩
      | false => exact q
    | dct m ds =>
      cases m with
      | true => obtain ⟨vs, a1, a2, a3⟩ := q; exact ⟨vs, by rw [del_ne ne]; exact a1, a2, a3⟩
      | false => exact q
    | dcn m ds =>
      cases m with
      | true => obtain ⟨vs, a1, a2, a3⟩ := q; exact ⟨vs, by rw [del_ne ne]; exact a1, a2, a3⟩
      | false => exact q
    | obj cc fs => obtain ⟨dx, ws, a1, a2, a3⟩ := q; exact ⟨dx, ws, by rw [del_ne ne]; exact a1, a2, a3⟩
    | dead => trivial
theorem Ext.gone {F1 H1 : Hp} {ρ1 : List Addr} {a : Addr} (x : Ext F ρ H F1 ρ1 H1) (ha : H a = none) : Ext F ρ H F1 ρ1 (del H1 a) :=
  ⟨x.f, x.r, fun b o e n => by rw [del_ne (ne_of_none e ha)]; exact x.keep b o e n, x.newR, x.newF⟩
theorem vs_raiseX {x : Str} {c : Nat} {co cc D fI : Addr} {fd : FuncData} {ps ns : List Str} {k : Nat} {run : RunX} (hK : w.K = X.K) (hc : X.calm = true) (tk : Takes X W) (T : OexC X.K (w.ct c)) (SC : SupC X.prog X.K X.mg co cc D (w.ct c)) (hno : ∀ f ∈ ns, PySem.W.findIn X.K (.ref (w.ct c)) f = some none)
    (iC : PySem.W.findIn X.K (.ref (w.ct c)) "__init__" = some (some (.ref fI))) (tI : PySem.W.typeIn X.K (.ref fI) = some (.type "function"))
    (G : FnOk X.prog X.w X.K X.mg X.base (L2.CX X.prog X.w) k fI fd ps (spX w X.prog X.mg co cc D ns ps.length run)) (hr : Room (k + 1) X.A) (hb : Binds X.K fd ps []) (hg : Gl X x) (hm : X.mg x = some (.ref (w.ct c))) (ha : PA X (e :: es) (tA w W ml))
    (hrun : ∀ ss st, ss.length + 1 ≠ ps.length → run ss st = .stuck) (hps : ps.length ≤ 1000)
    (hdb : (x == ("__debug__" : Str)) = false := by decide) (he : starEach (e :: es) X.env = (false, eval e X.env) :: starEach es X.env := by rfl) (hpl : (backTo pos (starEach es X.env)).any (·.1) = false := by rfl) :
    PS X (.Raise (some (.Call (.Name x p) (e :: es) [] pos)) none pos2) (tS w W (mRaiseX c run ml)) := by
  refine ps_imp (ps_raise hc tk (pmk_oex (dvs := []) T iC tI G hr hb .nil passes_none hg hm ha hdb he hpl)) fun D' σ H ⟨F, ρ, st, env, er, re, h⟩ => ?_
  unfold mRaiseX at h
  cases hml : ml env st with
  | stuck => rw [hml] at h; exact h.elim
  | exn ex st1 =>
    rw [hml] at h
    refine ⟨F, ρ, st, env, er, re, ?_⟩
    rw [hml]
    exact fun F1 ρ1 H1 cls d e1 re1 hx => h F1 ρ1 σ H1 cls d e1 (er.ext e1) re1 hx
  | ok ss st1 =>
    rw [hml] at h
    dsimp only at h
    refine ⟨F, ρ, st, env, er, re, ?_⟩
    rw [hml]
    intro F1 ρ1 H1 vs e1 re1 hs
    have hvl := hs.length
    cases hru : run ss st1 with
    | stuck => rw [hru] at h; exact h.elim
    | exn ex st2 => rw [hru] at h; exact h.elim
    | ok fs st2 =>
      rw [hru] at h
      have hss : ss.length + 1 = ps.length := by
        by_cases q : ss.length + 1 = ps.length
        · exact q
        · rw [hrun ss st1 q] at hru; cases hru
      refine ⟨by omega, fun a h0 => ⟨by simp; omega, F1, ρ1, st1, ss, H1, a, w.ct c, vs ++ [], rfl, hK ▸ T, hK ▸ SC, hK ▸ hno, h0, rfl, re1, by rw [List.append_nil]; exact hs, ?_⟩⟩
      rw [hru]
      intro F2 ρ2 H2 dx ws e2 re2 g1 g2 g3 g4 g5 g6 g7 g8 g9
      refine ⟨rfl, dx, ws, g1, g2, g6, ?_⟩
      refine h (upd F2 dx (.xd ws)) ρ2 σ _ _ _ (e1.trans (((e2.gone h0).wr g6).fr g6 g5)) ((er.ext (e1.trans e2)).mono (Fle.new g5) (Rle.refl _)) (((re2.gone g8 g9).side g5 g4).froze upd_same g5 g4) ⟨rfl, .inr ⟨dx, ws, rfl, upd_same, DnF.mono (Fle.new g5) _ _ g3⟩⟩
end
end VL
set_option Elab.async false
set_option linter.all false
set_option maxRecDepth 100000
set_option maxHeartbeats 4000000
namespace VL
open PySem L2 PyProof.Rows PySem.Calls
section
variable {w : Wd} {X : Cx} {W : WX} {F H : Hp} {ρ : List Addr} {st : Store} {Q : VK} {e a b : Expr} {pos p pos2 : Pos} {m ma mb : MV} {ml : ML} {σ : L2.St} {env : Env} {f : Addr} {fd : FuncData} {ps : List Str} {k : Nat} {run : Run} {fx : Str}
/-! ### what is not told -/
def mStuckV : MV := fun _ _ => .stuck
def mStuckS : MS := fun _ _ => .stuck
theorem ve_stuck : PE X e (tE w W mStuckV) := ⟨fun pins s σ H Q I ⟨F, ρ, st, env, er, re, h⟩ => h.elim⟩
theorem vs_stuck {s : Stmt} : PS X s (tS w W mStuckS) := ⟨fun pins s σ H D I ⟨F, ρ, st, env, er, re, h⟩ => h.elim⟩
theorem mkTy {t : String} {F : Hp} : w.Dn F (.ty t) (.ty t) := by unfold Wd.Dn Dn; rfl
theorem mkCls {c : Nat} {F : Hp} : w.Dn F (.cls c) (.ref (w.ct c)) := by unfold Wd.Dn Dn; rfl
theorem ve_negc {i : Int} {kk : Nat} {p2 : Pos} : PE X (.UnaryOp .USub (.Constant (.int i) kk p2) pos) (tE w W (mC (.int (-i)))) :=
  pe_imp (pe_un un_neg pe_int) fun σ H Q ⟨F, ρ, st, env, er, re, h⟩ => ⟨i, rfl, h F ρ H (.int (-i)) (Ext.refl _ _ _) re (show w.Dn F (.int (-i)) (.int (-i)) from mkI)⟩
/-! ### f() -/
theorem pe_callS0 {sp : Sp} (G : FnOk X.prog X.w X.K X.mg X.base (L2.CX X.prog X.w) k f fd [] sp) (hr : Room k X.A) (hg : Gl X fx) (hm : X.mg fx = some (.ref f)) (hk : PySem.W.keepIn X.K (.ref f) = true) (hb : Binds X.K fd [] []) (tk : Takes X W) (hdb : (fx == ("__debug__" : Str)) = false := by decide) :
    PE X (.Call (.Name fx p) [] [] pos) (fun σ H Q => sp [] H Q (WE W σ)) := by
  refine ⟨fun pins s σ H Q I h => ?_⟩
  refine wpAny_Call_Name_kw (ld_glob I hg hm ?_ hdb)
  exact PySem.W.callWith_K0 (first := []) I.kIn hk (run_fnS (us := []) (vs := []) G hr hb (passAt tk σ) I .nil h)
theorem ve_call0 (G : FnOk X.prog X.w X.K X.mg X.base (L2.CX X.prog X.w) k f fd [] (spOf w 0 run)) (hr : Room k X.A) (hg : Gl X fx) (hm : X.mg fx = some (.ref f)) (hk : PySem.W.keepIn X.K (.ref f) = true) (hb : Binds X.K fd [] []) (tk : Takes X W) (hdb : (fx == ("__debug__" : Str)) = false := by decide) :
    PE X (.Call (.Name fx p) [] [] pos) (tE w W (mCall run mNil)) :=
  pe_imp (pe_callS0 G hr hg hm hk hb tk hdb) fun σ H Q ⟨F, ρ, st, env, er, re, h⟩ => ⟨rfl, F, ρ, st, [], re, by unfold SVL; rfl, h⟩
/-! ### lists that will change: xs + ys, list(xs) -/
def mAddM (ma mb : MV) : MV := fun env st => (ma env st).bind fun s st1 => (mb env st1).bind fun t st2 => match view st2 s, view st2 t with
  | some (.lst xs), some (.lst ys) => if xs.length + ys.length ≤ sizeLine then .ok (.own st2.length) (st2 ++ [.lst true (xs ++ ys)]) else .stuck
  | _, _ => .stuck
theorem ve_addM (hK : w.K = X.K) (ha : PE X a (tE w W ma)) (hb : PE X b (tE w W mb)) : PE X (.BinOp a .Add b pos) (tE w W (mAddM ma mb)) := by
  refine pe_imp (pe_op op_cat ha hb) fun σ H Q ⟨F, ρ, st, env, er, re, h⟩ => ?_
  rw [mAddM, wpR_bind] at h
  refine tG.use er re h fun s st1 F1 ρ1 H1 x e1 er1 re1 hs h1 => ?_
  rw [wpR_bind] at h1
  refine tG.use er1 re1 (wpR.upX e1 h1) fun t st2 F2 ρ2 H2 y e2 er2 re2 ht h2 => ?_
  cases v1 : view st2 s with
  | none => rw [v1] at h2; exact h2.elim
  | some d1 =>
    cases v2 : view st2 t with
    | none => rw [v1, v2] at h2; cases d1 <;> exact h2.elim
    | some d2 =>
      rw [v1, v2] at h2
      have hx := view_ok re2 (hs.ext e2) v1
      have hy := view_ok re2 ht v2
      cases d1 with
      | lst xs =>
        cases d2 with
        | lst ys =>
          dsimp only at h2
          by_cases hz : xs.length + ys.length ≤ sizeLine
          · rw [if_pos hz] at h2
            obtain ⟨l, vs, rfl, g1, g2⟩ := hx
            obtain ⟨m, ws, rfl, g3, g4⟩ := hy
            refine ⟨l, m, vs, ws, rfl, rfl, g1, g3, by rw [DnL.length g2, DnL.length g4]; exact hz, fun q hq => ?_⟩
            refine h2 F2 (ρ2 ++ [q]) _ _ ((e1.trans e2).alloc hq) (re2.alloc hq ⟨vs ++ ws, upd_same, re2.sub.free hq, g2.append g4⟩) ⟨q, ?_, rfl⟩
            rw [← re2.len]
            simp
          · rw [if_neg hz] at h2; exact h2.elim
        | _ => exact h2.elim
      | _ => exact h2.elim
def mListM (m : MV) : MV := fun env st => (m env st).bind fun s st1 => match view st1 s with
  | some x => match listD [x] with
    | some (.lst ds) => .ok (.own st1.length) (st1 ++ [.lst true ds])
    | _ => .stuck
  | none => .stuck
theorem ve_listM (hK : w.K = X.K) (hg : Gl X "list") (hm : X.mg "list" = none) (ha : PE X e (tE w W m)) (he : starEach [e] X.env = [(false, eval e X.env)] := by rfl) : PE X (.Call (.Name "list" p) [e] [] pos) (tE w W (mListM m)) := by
  refine pe_imp (pe_callTy call_list_of hg hm (by decide +kernel) (pa_cons ha pa_nil (hs := he)) (by decide) (by decide) he rfl) fun σ H Q ⟨F, ρ, st, env, er, re, h⟩ => ?_
  rw [mListM, wpR_bind] at h
  refine tG.use er re h fun s st1 F1 ρ1 H1 x e1 er1 re1 hs h1 => ?_
  cases hv : view st1 s with
  | none => rw [hv] at h1; exact h1.elim
  | some d =>
    rw [hv] at h1
    have hx := view_ok re1 hs hv
    have fin : ∀ {p : Addr} {vs : List V} {ds : List D}, x = .ref p → (SqL X.K H1 p vs ∨ SqT X.K H1 p vs) → w.DnL F1 ds vs → wpR (.ok (.own st1.length) (st1 ++ [.lst true ds]) : R SV) (okE w F ρ H Q) (okX w F ρ H σ W) →
        ∃ p ys, [x] = [V.ref p] ∧ (SqL X.K H1 p ys ∨ SqT X.K H1 p ys) ∧ ∀ l, H1 l = none → Q (.ref l) (upd H1 l (.lst ys)) := by
      intro p vs ds ex hq hd h2
      refine ⟨p, vs, by rw [ex], hq, fun l hl => ?_⟩
      refine h2 F1 (ρ1 ++ [l]) _ _ (e1.alloc hl) (re1.alloc hl ⟨vs, upd_same, re1.sub.free hl, hd⟩) ⟨l, ?_, rfl⟩
      rw [← re1.len]
      simp
    cases d with
    | lst ds =>
      obtain ⟨p, vs, ex, g1, g2⟩ := dnL re1 hx
      exact fin ex (.inl (hK ▸ g1)) g2 h1
    | scr ds =>
      obtain ⟨p, vs, ex, g1, g2⟩ := dnSc re1 hx
      exact fin ex (.inl (hK ▸ g1)) g2 h1
    | tup ds =>
      obtain ⟨p, vs, ex, g1, g2⟩ := dnT re1 hx
      exact fin ex (.inr (hK ▸ g1)) g2 h1
    | _ => exact h1.elim
/-! ### sep.join(xs) -/
def strsOf : List D → Option (List Str)
  | [] => some []
  | .str x :: r => (strsOf r).map fun t => x :: t
  | _ :: _ => none
theorem strs_ok : ∀ {ds : List D} {ys : List Str} {vs : List V}, w.DnL F ds vs → strsOf ds = some ys → vs = ys.map V.str
  | [], ys, vs, h, e => by cases e; unfold Wd.DnL DnL at h; exact h
  | d :: r, ys, vs, h, e => by
    cases d with
    | str x =>
      unfold strsOf at e
      cases hr : strsOf r with
      | none => rw [hr] at e; cases e
      | some t =>
        rw [hr] at e; cases e
        unfold Wd.DnL DnL at h
        obtain ⟨v, ws, rfl, h1, h2⟩ := h
        unfold Dn at h1
        subst h1
        rw [strs_ok h2 hr]
        rfl
    | _ => unfold strsOf at e; cases e
def joinD (x y : D) : Option D := match x, y with
  | .str a, .lst ds => match strsOf ds with
    | some ys => if (ys.map (·.length)).sum + ys.length * a.length ≤ 16777216 then some (.str (Txt.join a ys)) else none
    | none => none
  | .str a, .tup ds => match strsOf ds with
    | some ys => if (ys.map (·.length)).sum + ys.length * a.length ≤ 16777216 then some (.str (Txt.join a ys)) else none
    | none => none
  | _, _ => none
def mJoin (ma mb : MV) : MV := fun env st => (ma env st).bind fun s st1 => match s with
  | .d (.str a) => (mb env st1).bind fun t st2 => match view st2 t with
    | some y => match joinD (.str a) y with
      | some d => .ok (.d d) st2
      | none => .stuck
    | none => .stuck
  | _ => .stuck
theorem ve_join {apos : Pos} (hK : w.K = X.K) (ha : PE X a (tE w W ma)) (hb : PE X b (tE w W mb)) (hs : starEach [b] X.env = [(false, eval b X.env)] := by rfl) (hbase : attributeBase a "join" X.env (eval a X.env) = eval a X.env := by rfl) (hline : (apos.endLine == pos.line) = true := by rfl) :
    PE X (.Call (.Attribute a "join" apos) [b] [] pos) (tE w W (mJoin ma mb)) := by
  refine pe_imp (pe_join ha hb hs hbase hline) fun σ H Q ⟨F, ρ, st, env, er, re, h⟩ => ?_
  rw [mJoin, wpR_bind] at h
  refine tG.use er re h fun s st1 F1 ρ1 H1 x e1 er1 re1 hs h1 => ?_
  cases s with
  | own _ => exact h1.elim
  | d d =>
    cases d with
    | str z =>
      unfold SVn Wd.Dn Dn at hs
      subst hs
      dsimp only at h1
      rw [wpR_bind] at h1
      refine ⟨⟨z, rfl⟩, tG.use er1 re1 (wpR.upX e1 h1) fun t st2 F2 ρ2 H2 y e2 er2 re2 ht h2 => ?_⟩
      cases hv : view st2 t with
      | none => rw [hv] at h2; exact h2.elim
      | some yd =>
        rw [hv] at h2
        have hy := view_ok re2 ht hv
        cases yd with
        | lst ds =>
          simp only [joinD] at h2
          cases hq : strsOf ds with
          | none => rw [hq] at h2; exact h2.elim
          | some ys =>
            rw [hq] at h2
            dsimp only at h2
            by_cases hz : (ys.map (·.length)).sum + ys.length * z.length ≤ 16777216
            · rw [if_pos hz] at h2
              obtain ⟨p, vs, rfl, g1, g2⟩ := dnL re2 hy
              have := strs_ok g2 hq
              subst this
              exact ⟨z, p, ys, rfl, rfl, .inl (hK ▸ g1), hz, h2 F2 ρ2 H2 (.str (Txt.join z ys)) (e1.trans e2) re2 (show w.Dn F2 (.str (Txt.join z ys)) (.str (Txt.join z ys)) from mkS)⟩
            · rw [if_neg hz] at h2; exact h2.elim
        | tup ds =>
          simp only [joinD] at h2
          cases hq : strsOf ds with
          | none => rw [hq] at h2; exact h2.elim
          | some ys =>
            rw [hq] at h2
            dsimp only at h2
            by_cases hz : (ys.map (·.length)).sum + ys.length * z.length ≤ 16777216
            · rw [if_pos hz] at h2
              obtain ⟨p, vs, rfl, g1, g2⟩ := dnT re2 hy
              have := strs_ok g2 hq
              subst this
              exact ⟨z, p, ys, rfl, rfl, .inr (hK ▸ g1), hz, h2 F2 ρ2 H2 (.str (Txt.join z ys)) (e1.trans e2) re2 (show w.Dn F2 (.str (Txt.join z ys)) (.str (Txt.join z ys)) from mkS)⟩
            · rw [if_neg hz] at h2; exact h2.elim
        | _ => exact h2.elim
    | _ => exact h1.elim
end
end VL
namespace VL
open PySem L2
theorem Same.up {w : Wd} {X : Cx} {s : Shared} {H : Hp} {sc : Scope} {e : PySem.Env} {fp : List Addr} (S : Same w X) : Same w (X.blk s H sc e fp) := ⟨S.K, S.P, S.w⟩
end VL
set_option Elab.async false
set_option linter.all false
set_option maxRecDepth 100000
set_option maxHeartbeats 4000000
namespace VL
open PySem L2 PyProof.Rows PySem.Calls
section
variable {w : Wd} {X : Cx} {W : WX} {F H : Hp} {ρ : List Addr} {st : Store} {σ : L2.St} {env : Env} {pos p pos2 : Pos}
/-! ### raise C(), C without an own __init__ -/
theorem pmk_own0 {C : Addr} {bmB : List Value} {B newId initId : String} {x : Str} (Fb : ExcBaseFacts B newId initId bmB) (q : PySem.W.excIn X.K C bmB newId = true) (gC : X.mg x = some (.ref C))
    (kC : PySem.W.keepIn X.K (.ref C) = true) (r : Raises X (.ref C)) (hg : Gl X x) (hdb : (x == ("__debug__" : Str)) = false := by decide) :
    PMk X (.Call (.Name x p) [] [] pos) (fun σ H Q => Q (.ref C) none H) := by
  intro pins s σ H Q I h
  refine wpAny_Call_Name_kw (ld_glob I hg gC ?_ hdb)
  refine PySem.W.callWith_K0 (first := []) I.kIn kC ?_
  show wpAny _ _ (call (.ref C) []) _ _ _
  obtain ⟨bm, N, nm, qn, bs, hdct, sn, sub, ab, col, dd, k0, k1, k2, k3, k5, mN, hC, hN, hni, T⟩ := exc_obj I.kIn q
  refine wpAny_call_exc_subT Fb T hC hN hni (fun h' e hm => ?_) (Nat.zero_le _)
  exact mk_of I hm r h (I.hok.gone hm.new)
def mRaise0 (c : Nat) : MS := fun env st => .exn ⟨c, []⟩ env st
theorem vs_raise0 {c : Nat} {bmB : List Value} {B newId initId : String} {x : Str} (hc : X.calm = true) (tk : Takes X W) (Fb : ExcBaseFacts B newId initId bmB) (q : PySem.W.excIn X.K (w.ct c) bmB newId = true) (gC : X.mg x = some (.ref (w.ct c)))
    (kC : PySem.W.keepIn X.K (.ref (w.ct c)) = true) (r : Raises X (.ref (w.ct c))) (hg : Gl X x) (hdb : (x == ("__debug__" : Str)) = false := by decide) : PS X (.Raise (some (.Call (.Name x p) [] [] pos)) none pos2) (tS w W (mRaise0 c)) :=
  ps_imp (ps_raise hc tk (pmk_own0 Fb q gC kC r hg hdb)) fun D σ H ⟨F, ρ, st, env, er, re, h⟩ => h F ρ σ H _ none (Ext.refl _ _ _) er re ⟨rfl, .inl ⟨rfl, rfl⟩⟩
end
end VL
set_option Elab.async false
set_option linter.all false
set_option maxRecDepth 100000
set_option maxHeartbeats 4000000
namespace VL
open PySem L2 PyProof.Rows PySem.Calls
/-! ### in the suite of an except clause: the caught error e -/
def Wd.up (w : Wd) (lo : Hp) : Wd := { w with lo := lo }
section
variable {w : Wd} {X : Cx} {F F0 H : Hp} {ρ : List Addr} {st : Store} {Q : VK} {σ : L2.St} {env : Env} {e : Expr} {es : List Expr} {pos p : Pos} {me : MV} {ml : ML} {a : Addr} {oe : Obj} {cls : Value} {d : Option Addr} {pn : List (Addr × Obj)}
/-- what is known of the caught error -/
structure Caught (w : Wd) (F0 : Hp) (ex : Exn) (cls : Value) (d : Option Addr) : Prop where
  cls : cls = .ref (w.ct ex.c)
  fs : (ex.fs = [] ∧ d = none) ∨ ∃ dd ws, d = some dd ∧ F0 dd = some (.xd ws) ∧ DnF w.K w.ct F0 ex.fs ws
def mExcFld (a : Addr) (x : D) (me : MV) : MV := fun env st => (me env st).bind fun s st1 => match s with
  | .d (.adr b) => if b = a then .ok (.d x) st1 else .stuck
  | _ => .stuck
theorem ve_excFld {ex : Exn} {n : Str} {x : D} {W : WX} (hK : w.K = X.K) (Ca : Caught w F0 ex cls d) (T : XfC X.K (w.ct ex.c)) (hno : PySem.W.findIn X.K (.ref (w.ct ex.c)) n = some none) (hz : Zc cls d oe) (hf : ∃ vs, oe.data = .fields vs) (hl : ex.fs.lookup n = some x)
    (he : PE (X.suite a ((a, oe) :: pn)) e (tE (w.up F0) W me)) (hb : attributeBase e n X.env (eval e X.env) = eval e X.env := by rfl) : PE (X.suite a ((a, oe) :: pn)) (.Attribute e n pos) (tE (w.up F0) W (mExcFld a x me)) := by
  refine pe_imp (pe_xf T hno hz hf he hb) fun σ H Q ⟨F, ρ, st, env, er, re, h⟩ => ?_
  rw [mExcFld, wpR_bind] at h
  refine tG.use er re h fun s st1 F1 ρ1 H1 y e1 er1 re1 hs h1 => ?_
  cases s with
  | own _ => exact h1.elim
  | d dd =>
    cases dd with
    | adr b =>
      dsimp only at h1
      by_cases hab : b = a
      · rw [if_pos hab] at h1
        subst hab
        have hy : y = .ref b := by unfold SVn Wd.Dn Dn at hs; exact hs
        rcases Ca.fs with ⟨hn, _⟩ | ⟨dd, ws, ed, g1, g2⟩
        · rw [hn] at hl; cases hl
        · obtain ⟨v, hv, hd⟩ := DnF.get g2 hl
          have lo : Fle F0 F1 := re1.lo
          exact ⟨hy, Ca.cls, dd, ws, v, ed, re1.sub _ _ (lo _ _ g1), hv, h1 F1 ρ1 H1 v e1 re1 (Dn.mono lo _ _ hd)⟩
      · rw [if_neg hab] at h1; exact h1.elim
    | _ => exact h1.elim
/-- isinstance(e, c), isinstance(e, (c, ..)) -/
def rIsX (K : PySem.W.Frag) (D a : Addr) : List V → Hp → VK → Prop := fun xs H Q => (∃ (c : V) (u : Value) (b : Bool), xs = [.ref a, c] ∧ ClsV c u ∧ PySem.W.kitOne K (.ref D) u = some b ∧ Q (.bl b) H) ∨
  ∃ (tp : Addr) (cs : List V) (us : List Value) (b : Bool), xs = [.ref a, .ref tp] ∧ SqT K H tp cs ∧ Paired ClsV cs us ∧ PySem.W.kitAny K (.ref D) us = some b ∧ Q (.bl b) H
theorem exc_at {pins : List (Addr × Obj)} {σ : L2.St} {H : Hp} {s : Shared} {D : Addr} (I : Inv (X.suite a ((a, oe) :: pn)) pins σ H s) (hz : Zc (.ref D) d oe) (hf : ∃ vs, oe.data = .fields vs) (hd : ∀ dd, d = some dd → ∃ ws, H dd = some (.xd ws)) :
    ∃ od, PySem.W.InstAt s.heap a oe D od := by
  obtain ⟨hget, _⟩ := I.pin (a, oe) (List.mem_append.mpr (.inl List.mem_cons_self))
  obtain ⟨vs, hv⟩ := hf
  obtain ⟨h1, h2⟩ := hz
  cases hdd : d with
  | none =>
    refine ⟨none, hget, h1, by unfold PySem.W.notCls; rw [hv] <;> rfl, ?_⟩
    rw [h2, hdd]
    trivial
  | some dd =>
    obtain ⟨ws, hx⟩ := hd dd hdd
    obtain ⟨mA, hns, _⟩ := (show ObjOk X.prog X.w H s.heap dd (.xd ws) from I.hok dd _ hx)
    obtain ⟨od, ho, _⟩ := lookIn_ns hns
    refine ⟨some od, hget, h1, by unfold PySem.W.notCls; rw [hv] <;> rfl, ?_⟩
    rw [h2, hdd]
    exact ho
theorem call_isX {D : Addr} (C : ExcC X.K D) (hz : Zc (.ref D) d oe) (hf : ∃ vs, oe.data = .fields vs) : CallR (X.suite a ((a, oe) :: pn)) (.builtin "isinstance") (fun xs H Q => (∀ dd, d = some dd → ∃ ws, H dd = some (.xd ws)) ∧ rIsX X.K D a xs H Q) := by
  intro pins s σ H xs us Q I r ⟨hd, h⟩
  obtain ⟨od, J⟩ := exc_at I hz hf hd
  have hcl : (PySem.W.clsIn X.K D).isSome = true := by
    obtain ⟨cd, hc, _⟩ := PySem.W.any_some C.hd
    rw [hc]; rfl
  have kx := PySem.W.kitx_exc (K := X.K) (x := a) (ox := oe) (od := od) hcl C.hg C.hk C.hs C.ha C.hn C.ht C.hm
  rcases h with ⟨c, u, b, rfl, k, e, q⟩ | ⟨tp, cs, ws, b, rfl, hT, k, e, q⟩
  · obtain ⟨u1, u2, rfl, r1, r2⟩ := vals2 r
    cases (show u1 = Value.ref a from r1)
    have e2 := k.eq r2
    subst e2
    exact PySem.W.kia_one kx I.kIn J e (fun z => nomatch z) fun tk => ⟨.bl b, H, I.kept (t' := tk) fun _ _ z => z, rfl, q⟩
  · obtain ⟨u1, u2, rfl, r1, r2⟩ := vals2 r
    cases (show u1 = Value.ref a from r1)
    cases (show u2 = Value.ref tp from r2)
    obtain ⟨its, rv, ⟨o, h1, h2, n, h3⟩, _⟩ := I.tuple hT
    have e3 := ClsV.all k rv
    subst e3
    obtain ⟨oc, od', dt, sl⟩ := o
    simp only at h2 h3
    subst h2 h3
    exact PySem.W.kia_tup kx I.kIn J h1 e (fun z => nomatch z) fun tk => ⟨.bl b, H, I.kept (t' := tk) fun _ _ z => z, rfl, q⟩
def excArgs : List SV → Option (Addr × D)
  | [s, t] => match s, t with
    | .d (.adr b), .d y => some (b, y)
    | _, _ => none
  | _ => none
theorem excArgs_ok {ss : List SV} {b : Addr} {y : D} (h : excArgs ss = some (b, y)) : ss = [.d (.adr b), .d y] := by
  match ss, h with
  | [], h => cases h
  | [_], h => cases h
  | [s, t], h =>
    cases s with
    | own _ => cases h
    | d x =>
      cases t with
      | own _ => cases x <;> cases h
      | d z =>
        cases x with
        | adr c => cases h; rfl
        | _ => cases h
  | _ :: _ :: _ :: _, h => cases h
def isXD (T : IsiT) (c : Nat) (y : D) : Option Bool := match y with
  | .tup cs => if cs.all (fun c => (clsD c).isSome) = true then kitsD T (.own c) cs else none
  | y => match clsD y with
    | some t => kitD T (.own c) t
    | none => none
def mIsX (a : Addr) (T : IsiT) (c : Nat) (ml : ML) : MV := fun env st => (ml env st).bind fun ss st1 => match excArgs ss with
  | some (b, y) => if b = a then match isXD T c y with
    | some r => .ok (.d (.bl r)) st1
    | none => .stuck
    else .stuck
  | none => .stuck
theorem ve_isX {ex : Exn} {T : IsiT} {W : WX} {p : Pos} {c : Expr} (O : IsiOk w T) (hK : w.K = X.K) (Ca : Caught w F0 ex cls d) (C : ExcC X.K (w.ct ex.c)) (hz : Zc cls d oe) (hf : ∃ vs, oe.data = .fields vs) (hg : Gl (X.suite a ((a, oe) :: pn)) "isinstance") (hm : X.mg "isinstance" = none)
    (ha : PA (X.suite a ((a, oe) :: pn)) [e, c] (tA (w.up F0) W ml)) (he : starEach [e, c] X.env = (false, eval e X.env) :: starEach [c] X.env := by rfl) (hpl : (backTo pos (starEach [c] X.env)).any (·.1) = false := by rfl) :
    PE (X.suite a ((a, oe) :: pn)) (.Call (.Name "isinstance" p) [e, c] [] pos) (tE (w.up F0) W (mIsX a T ex.c ml)) := by
  have hz' : Zc (.ref (w.ct ex.c)) d oe := Ca.cls ▸ hz
  refine pe_imp (pe_callB (call_isX C hz' hf) hg hm boot_isinstance ha (by decide) (by decide) he hpl) fun σ H Q ⟨F, ρ, st, env, er, re, h⟩ => ?_
  rw [mIsX, wpR_bind] at h
  refine tG.use er re h fun ss st1 F1 ρ1 H1 vs e1 er1 re1 hs h1 => ?_
  have lo : Fle F0 F1 := re1.lo
  refine ⟨fun dd hdd => ?_, ?_⟩
  · rcases Ca.fs with ⟨_, hn⟩ | ⟨d2, ws, ed, g1, g2⟩
    · rw [hn] at hdd; cases hdd
    · rw [ed] at hdd; cases hdd; exact ⟨ws, re1.sub _ _ (lo _ _ g1)⟩
  · cases hx : excArgs ss with
    | none => rw [hx] at h1; exact h1.elim
    | some q =>
      obtain ⟨b, y⟩ := q
      rw [hx] at h1
      dsimp only at h1
      have := excArgs_ok hx
      subst this
      unfold SVL at hs
      obtain ⟨v, r1, rfl, hv, hs⟩ := hs
      unfold SVL at hs
      obtain ⟨u, r2, rfl, hu, hs⟩ := hs
      unfold SVL at hs
      subst hs
      have hv' : v = .ref b := by unfold SVn Wd.Dn Dn at hv; exact hv
      subst hv'
      by_cases hab : b = a
      · rw [if_pos hab] at h1
        subst hab
        have hu' : w.Dn F1 y u := hu
        cases hk : isXD T ex.c y with
        | none => rw [hk] at h1; exact h1.elim
        | some r =>
          rw [hk] at h1
          have q1 : Q (.bl r) H1 := h1 F1 ρ1 H1 (.bl r) e1 re1 (show w.Dn F1 (.bl r) (.bl r) from mkB)
          by_cases hy : ∃ cs, y = .tup cs
          · obtain ⟨cs, rfl⟩ := hy
            simp only [isXD] at hk
            split at hk
            · rename_i hall
              unfold Wd.Dn Dn at hu'
              obtain ⟨tp, ws, rfl, g1, g2⟩ := hu'
              obtain ⟨us, pr, k⟩ := kitsD_ok (w := w) (F := F1) O g2 hall hk
              exact .inr ⟨tp, ws, us, r, rfl, hK ▸ fle_t re1.sub g1, pr, hK ▸ k, q1⟩
            · cases hk
          · have hk' : (match clsD y with
                | some t => kitD T (.own ex.c) t
                | none => none) = some r := by
              cases y with
              | tup cs => exact absurd ⟨cs, rfl⟩ hy
              | _ => exact hk
            cases hc : clsD y with
            | none => rw [hc] at hk'; cases hk'
            | some t =>
              rw [hc] at hk'
              exact .inl ⟨u, ctyV w t, r, rfl, clsD_ok (w := w) hu' hc, hK ▸ kitD_ok (w := w) O hk', q1⟩
      · rw [if_neg hab] at h1; exact h1.elim
end
end VL
set_option Elab.async false
set_option linter.all false
set_option maxRecDepth 100000
set_option maxHeartbeats 4000000
namespace VL
open PySem L2 PyProof.Rows PySem.Calls
/-! ### try: .. except C as e: .. except C2 as e2: .. -/
abbrev Hand := Value × Nat × (Addr → Value → Option Addr → TS)
def endsWithout (D : Ends) (i : Nat) : Ends := { nx := fun σ' H' => D.nx (σ'.set i none) H', rt := D.rt, bk := fun σ' H' => D.bk (σ'.set i none) H', ct := fun σ' H' => D.ct (σ'.set i none) H' }
def wClauses (K : PySem.W.Frag) (Wout : WX) (D : Ends) : List Hand → WX
  | [] => Wout
  | (c, i, ts) :: r => fun cls d σ H => ∃ b, PySem.W.exmOne K cls c = some b ∧ (b = true → ∀ a, H a = none → ts a cls d (endsWithout D i) (σ.set i (some (.ref a))) H) ∧ (b = false → wClauses K Wout D r cls d σ H)
inductive Clauses (X : Cx) : List ExceptHandler → List Hand → Prop
  | nil : Clauses X [] []
  | cons {x n : Str} {c : Value} {i : Nat} {ts : Addr → Value → Option Addr → TS} {b₀ : Stmt} {suite : List Stmt} {np pos' : Pos} {hds : List ExceptHandler} {l : List Hand} (hc : Names X x c) (hi : X.N[i]? = some n) (hln : X.env.kindOf n = some .local)
      (hsu : ∀ (a : Addr) (oe : Obj) (cls : Value) (d : Option Addr) (pn : List (Addr × Obj)), Zc cls d oe → (∃ vs, oe.data = .fields vs) → PSs (X.suite a ((a, oe) :: pn)) (b₀ :: suite) (ts a cls d)) (r : Clauses X hds l) :
      Clauses X (.ExceptHandler (some (.Name x np)) (some n) (b₀ :: suite) pos' :: hds) ((c, i, ts) :: l)
section
variable {X : Cx} {body : List Stmt} {h₀ : ExceptHandler} {hds : List ExceptHandler} {l : List Hand} {pos : Pos} {tb : WX → TS} {Wout : WX}
theorem ps_clauses (hs : X.stack = X.env :: X.outer) (hf : X.env.frame = some X.env.locals) (hN : X.N.Nodup) (tk : Takes X Wout)
    (hb : ∀ (W : WX) (pn : List (Addr × Obj)) (xe : Value → Shared → Prop), Takes (X.tr pn xe) W → PassesOwn (model X.prog X.w) X.A X.env xe → PSs (X.tr pn xe) body (tb W))
    (hh : Clauses X (h₀ :: hds) l) : PS X (.Try body (h₀ :: hds) [] [] pos) (fun D σ H => tb (wClauses X.K Wout D l) D σ H) := by
  refine ⟨fun pins s σ H D I h => ?_⟩
  have ok := I.ok
  have hfr : X.A.frames = some (X.env :: X.outer) := by rw [ok.frames, hs]
  refine wpAny_Try_except ?_
  refine wpAny_mono ((hb (wClauses X.K Wout D l) (X.pn ++ pins) (fun e s₁ => wpAny (model X.prog X.w) X.A (noteFrame e X.env) (fun _ s₂ => wpAny (model X.prog X.w) X.A (setFlight e none) (fun _ s₃ =>
    wpAny (model X.prog X.w) X.A (handleBy e X.env (h₀ :: hds)) (SP X pins D) X.xe s₃) X.xe s₂) X.xe s₁) (fun u s' xx => ?_) PassesOwn.looking).run [] s σ H D (I.toTry _) h) (fun f s1 hsp => ?_) (fun e s1 he => he)
  · obtain ⟨a, B, sI, pins', σ', H', cls, d, rfl, J', nb, up, sky, na, os, ag, wish⟩ := xx
    have J : Inv X pins σ' H' sI := J'.ofTry ok
    have sky' : Sky B (X.env :: X.outer) a (Zc cls d) X.env.locals s'.heap := by rw [← hs]; exact sky
    refine Sky.land Zc.steady hfr hf sky' fun h3 fl3 up3 => ?_
    have J3 : Inv X pins σ' H' { s' with heap := h3 } := J.landed nb fl3.1 (up.trans up3) os ag
    obtain ⟨oe3, vs3, he3, hz3, hd3⟩ := fl3.there
    have nfr : a ∉ frs (X.env :: X.outer) := fun hm => by
      obtain ⟨_, o', e', hnf⟩ := fl3.2.2.1.mem hm
      rw [he3] at e'; cases e'
      exact hnf _ hd3
    have nL : a ≠ X.env.locals := fun z => nfr (List.mem_filterMap.mpr ⟨X.env, List.mem_cons_self, by rw [hf, z]⟩)
    have nF : a ∉ X.fs := fun hm => by
      obtain ⟨e, he, q⟩ := List.mem_filterMap.mp hm
      exact nfr (List.mem_filterMap.mpr ⟨e, List.mem_cons_of_mem _ he, q⟩)
    have S3 := J3.suite he3 hd3 na nL nF
    have LT : PySem.W.Looks (model X.prog X.w) h3 (typeOf (.ref a)) cls := fun A Q E s k q => wpAny_typeOf_ref (k _ _ he3) (by rw [hz3.1]; exact q)
    have go : ∀ {hs' : List ExceptHandler} {l' : List Hand}, Clauses X hs' l' → wClauses X.K Wout D l' cls d σ' H' → wpAny (model X.prog X.w) X.A (handleBy (.ref a) X.env hs') (SP X pins D) X.xe { s' with heap := h3 } := by
      intro hs' l' hk
      induction hk with
      | nil =>
        intro wish
        refine wpAny_handleBy_nil ?_
        obtain ⟨k1, k2, k3, oe, vs, T, oT, ts', he, hz, hd, h1, hr⟩ := id fl3
        unfold PySem.passOn
        refine wpAny_bind (wpAny_field he hd h1 ?_)
        rw [if_neg (show ¬ ((Value.ref T == Value.none) = true) from by simp)]
        have fin : wpAny (model X.prog X.w) X.A (setFlight (.ref a) X.env.frame) (fun _ s4 => wpAny (model X.prog X.w) X.A (throw (.ref a) : Sem Flow) (SP X pins D) X.xe s4) X.xe { s' with heap := h3 } := by
          rw [hf]
          refine HandSPX.setFlight_upZ fl3 fun h4 hh4 up4 => wpAny_throw (tk _ _ ?_)
          exact ⟨a, B, sI, pins, σ', H', cls, d, rfl, J, nb, (up.trans up3).trans up4, .inr (.inr (by rw [hs]; exact hh4)), na, os, ag, wish⟩
        first
          | exact wpAny_bind (wpAny_pure (wpAny_bind fin))
          | exact wpAny_bind fin
      | @cons x n c i ts b₀ suite np pos' hds2 l2 hc hi hln hsu r ih =>
        intro wish
        obtain ⟨b, hb1, hyes, hno⟩ := wish
        refine wpAny_handleBy_cons (codeAny_handlers_test ?_) (by intro q; cases q)
        have LM := PySem.W.exm_one (M := model X.prog X.w) (J3.kIn) LT hb1
        have test : ∀ {Q : Value → Shared → Prop} {E : Value → Shared → Prop}, Q c { s' with heap := h3 } → wpAny (model X.prog X.w) (X.A.mark (some (.ref a))) (eval (.Name x np) X.env) Q E { s' with heap := h3 } := fun {Q E} q => by
          obtain ⟨hg, hdbg, hm | ⟨hm, hv, hnn⟩⟩ := hc
          · exact ld_glob (X := X.suite a ((a, oe3) :: (X.pn ++ pins))) S3 hg hm q hdbg
          · exact ld_blt (X := X.suite a ((a, oe3) :: (X.pn ++ pins))) S3 hg hm hv q hnn hdbg
        refine test (LM.here ?_)
        cases b with
        | false => exact ih (hno rfl)
        | true =>
          refine codeAny_handlers_suite_as ?_
          refine HandSPX.lands_againZ fl3 fun h4 fl4 up4 => ?_
          have J4 : Inv X pins σ' H' { s' with heap := h4 } := J.landed nb fl4.1 ((up.trans up3).trans up4) os ag
          obtain ⟨oe4, vs4, he4, hz4, hd4⟩ := fl4.there
          have S4 := J4.suite he4 hd4 na nL nF
          refine store_ok (X := X.suite a ((a, oe4) :: (X.pn ++ pins))) (v := .ref a) S4 hN hi (.inl hln) rfl (fun s5 S5 => ?_) (.inr hln)
          refine wpAny_mono ((hsu a oe4 cls d (X.pn ++ pins) hz4 ⟨_, hd4⟩).run [] s5 _ H' _ S5 (hyes rfl a na)) (fun f s6 hsp => ?_) (fun _ _ z => False.elim z)
          have end_ : ∀ {σ6 : L2.St} {H6 : Hp} {Q : Shared → Prop}, Inv (X.suite a ((a, oe4) :: (X.pn ++ pins))) [] σ6 H6 s6 → (∀ s7, Inv X pins (σ6.set i none) H6 s7 → Q s7) →
              wpAny (model X.prog X.w) X.A (do bindName X.env n .none; unbindBehindTheSuite X.env n pos') (fun _ s7 => Q s7) X.xe s6 := fun {σ6 H6 Q} S6 hq => gone_ok (S6.unsuite ok) hN hi hln hq
          cases f with
          | next => obtain ⟨σ6, H6, S6, q6⟩ := hsp; exact end_ S6 fun s7 J7 => ⟨_, _, J7, q6⟩
          | brk => obtain ⟨σ6, H6, S6, q6⟩ := hsp; exact end_ S6 fun s7 J7 => ⟨_, _, J7, q6⟩
          | cont => obtain ⟨σ6, H6, S6, q6⟩ := hsp; exact end_ S6 fun s7 J7 => ⟨_, _, J7, q6⟩
          | ret u => obtain ⟨v6, σ6, H6, S6, r6, q6⟩ := hsp; exact end_ S6 fun s7 J7 => ⟨_, _, _, J7, r6, q6⟩
    exact go hh wish
  · cases f with
    | next => obtain ⟨σ', H', J', q⟩ := hsp; exact wpAny_execs_nil ⟨σ', H', J'.ofTry ok, q⟩
    | brk => obtain ⟨σ', H', J', q⟩ := hsp; exact ⟨σ', H', J'.ofTry ok, q⟩
    | cont => obtain ⟨σ', H', J', q⟩ := hsp; exact ⟨σ', H', J'.ofTry ok, q⟩
    | ret u => obtain ⟨v, σ', H', J', r, q⟩ := hsp; exact ⟨v, σ', H', J'.ofTry ok, r, q⟩
end
end VL
set_option Elab.async false
set_option linter.all false
set_option maxRecDepth 100000
set_option maxHeartbeats 4000000
namespace VL
open PySem L2 PyProof.Rows PySem.Calls
/-! ### the statement try, by mirrors -/
/-- a clause: its class, its name's slot, what it matches, its suite (with e's address, e) -/
structure HandM where
  c : Nat
  i : Nat
  test : Nat → Option Bool
  ms : Addr → Exn → MS
def strip (i : Nat) : Fl → Fl
  | .nx env st => .nx (env.set i none) st
  | .rt s st => .rt s st
  | .bk env st => .bk (env.set i none) st
  | .ct env st => .ct (env.set i none) st
  | .exn _ _ _ => .stuck
  | .stuck => .stuck
def inSuite (h : HandM) (a : Addr) (e : Exn) (env : Env) (st : Store) : Fl := strip h.i (h.ms a e (env.set h.i (some (.d (.adr a)))) st)
open Classical in
noncomputable def mHands : List HandM → Exn → MS
  | [], e, env, st => .exn e env st
  | h :: r, e, env, st => match h.test e.c with
    | some true => if ∀ a, inSuite h a e env st = inSuite h 0 e env st then inSuite h 0 e env st else .stuck
    | some false => mHands r e env st
    | none => .stuck
noncomputable def mTry (mb : MS) (hs : List HandM) : MS := fun env st => match mb env st with
  | .exn e env' st' => mHands hs e env' st'
  | f => f
section
variable {w : Wd} {X : Cx} {W : WX} {F F' H H' : Hp} {ρ ρ' : List Addr} {st st' : Store} {σ σ' : L2.St} {env env' : Env} {D : Ends}
def tsH (w : Wd) (h : HandM) (a : Addr) (cls : Value) (d : Option Addr) : TS := fun D σ H => ∃ e F0, Caught w F0 e cls d ∧ tS (w.up F0) W0 (h.ms a e) D σ H
def handOf (w : Wd) (h : HandM) : Hand := (.ref (w.ct h.c), h.i, tsH w h)
theorem SVF.lo (F0 : Hp) : ∀ (fs : List (Str × SV)) (ws : List (Str × V)), SVF (w.up F0) F ρ fs ws ↔ SVF w F ρ fs ws
  | [], _ => by unfold SVF; exact Iff.rfl
  | (k, s) :: r, vs => by
    unfold SVF
    constructor
    · rintro ⟨v, ws, e1, e2, e3⟩
      exact ⟨v, ws, e1, e2, (SVF.lo F0 r ws).mp e3⟩
    · rintro ⟨v, ws, e1, e2, e3⟩
      exact ⟨v, ws, e1, e2, (SVF.lo F0 r ws).mpr e3⟩
theorem CellAt.lo (F0 : Hp) {a : Addr} {c : Cell} : CellAt (w.up F0) F ρ a H c ↔ CellAt w F ρ a H c := by
  cases c with
  | obj c fs =>
    unfold CellAt
    constructor
    · rintro ⟨dx, ws, h1, h2, h3⟩
      exact ⟨dx, ws, h1, h2, (SVF.lo F0 fs ws).mp h3⟩
    · rintro ⟨dx, ws, h1, h2, h3⟩
      exact ⟨dx, ws, h1, h2, (SVF.lo F0 fs ws).mpr h3⟩
  | lst b ds => cases b <;> (unfold CellAt; exact Iff.rfl)
  | dct b ds => cases b <;> (unfold CellAt; exact Iff.rfl)
  | dcn b ds => cases b <;> (unfold CellAt; exact Iff.rfl)
  | dead => unfold CellAt; exact Iff.rfl
theorem Rel.upTo (re : Rel w F ρ st H) : Rel (w.up F) F ρ st H := ⟨re.sub, re.len, re.there, fun l a c h1 h2 => (CellAt.lo F).mpr (re.cell l a c h1 h2), re.nd, Fle.refl F⟩
theorem Rel.down {F0 : Hp} (hl : Fle w.lo F0) (hf : Fle F0 F) (re : Rel (w.up F0) F ρ st H) : Rel w F ρ st H := ⟨re.sub, re.len, re.there, fun l a c h1 h2 => (CellAt.lo F0).mp (re.cell l a c h1 h2), re.nd, hl.trans hf⟩
theorem suite_ok {h : HandM} {a : Addr} {e : Exn} (x : Ext F ρ H F' ρ' H') (er : EnvRel w F' ρ' env' σ') (re : Rel w F' ρ' st' H') (hw : wpF w F ρ H D W (inSuite h a e env' st')) :
    tS (w.up F') W0 (h.ms a e) (endsWithout D h.i) (σ'.set h.i (some (.ref a))) H' := by
  refine ⟨F', ρ', st', env'.set h.i (some (.d (.adr a))), er.set (s := .d (.adr a)) (by unfold SVn Wd.Dn Dn; rfl), re.upTo, ?_⟩
  unfold inSuite at hw
  have lo := re.lo
  cases hm : h.ms a e (env'.set h.i (some (.d (.adr a)))) st' with
  | nx env2 st2 =>
    rw [hm] at hw
    intro F2 ρ2 σ2 H2 e2 er2 re2
    exact hw F2 ρ2 (σ2.set h.i none) H2 (x.trans e2) (EnvRel.unset (w := w) er2) (re2.down lo e2.f)
  | rt s st2 =>
    rw [hm] at hw
    intro F2 ρ2 H2 v e2 re2 hv
    exact hw F2 ρ2 H2 v (x.trans e2) (re2.down lo e2.f) hv
  | bk env2 st2 =>
    rw [hm] at hw
    intro F2 ρ2 σ2 H2 e2 er2 re2
    exact hw F2 ρ2 (σ2.set h.i none) H2 (x.trans e2) (EnvRel.unset (w := w) er2) (re2.down lo e2.f)
  | ct env2 st2 =>
    rw [hm] at hw
    intro F2 ρ2 σ2 H2 e2 er2 re2
    exact hw F2 ρ2 (σ2.set h.i none) H2 (x.trans e2) (EnvRel.unset (w := w) er2) (re2.down lo e2.f)
  | exn _ _ _ => rw [hm] at hw; exact hw.elim
  | stuck => rw [hm] at hw; exact hw.elim
theorem hands_ok {K : PySem.W.Frag} {e : Exn} {cls : Value} {d : Option Addr} (x : Ext F ρ H F' ρ' H') (er : EnvRel w F' ρ' env' σ') (re : Rel w F' ρ' st' H') (hx : ExnAt w F' H' e cls d) :
    ∀ {hs : List HandM}, (∀ h ∈ hs, ∀ c b, h.test c = some b → PySem.W.exmOne K (.ref (w.ct c)) (.ref (w.ct h.c)) = some b) → wpF w F ρ H D W (mHands hs e env' st') → wClauses K W D (hs.map (handOf w)) cls d σ' H'
  | [], ht, h => h F' ρ' σ' H' cls d x er re hx
  | h :: r, ht, hw => by
    unfold mHands at hw
    cases hb : h.test e.c with
    | none => rw [hb] at hw; exact hw.elim
    | some b =>
      rw [hb] at hw
      refine ⟨b, by rw [hx.1]; exact ht h (by simp) e.c b hb, fun hbt a ha => ?_, fun hbf => ?_⟩
      · subst hbt
        dsimp only at hw
        split at hw
        · rename_i hu
          rw [← hu a] at hw
          exact ⟨e, F', ⟨hx.1, hx.2⟩, suite_ok x er re hw⟩
        · exact hw.elim
      · subst hbf
        exact hands_ok x er re hx (hs := r) (fun h' hm => ht h' (by simp [hm])) hw
theorem vs_try {body : List Stmt} {h₀ : ExceptHandler} {hds : List ExceptHandler} {pos : Pos} {mb : MS} {hs : List HandM} (hK : w.K = X.K) (hst : X.stack = X.env :: X.outer) (hf : X.env.frame = some X.env.locals) (hN : X.N.Nodup) (tk : Takes X W)
    (hb : ∀ (W : WX) (pn : List (Addr × Obj)) (xe : Value → Shared → Prop), Takes (X.tr pn xe) W → PassesOwn (model X.prog X.w) X.A X.env xe → PSs (X.tr pn xe) body (tS w W mb))
    (hh : Clauses X (h₀ :: hds) (hs.map (handOf w))) (ht : ∀ h ∈ hs, ∀ c b, h.test c = some b → PySem.W.exmOne X.K (.ref (w.ct c)) (.ref (w.ct h.c)) = some b) :
    PS X (.Try body (h₀ :: hds) [] [] pos) (tS w W (mTry mb hs)) := by
  refine ps_imp (ps_clauses (tb := fun W => tS w W mb) hst hf hN tk hb hh) fun D σ H ⟨F, ρ, st, env, er, re, h⟩ => ?_
  refine ⟨F, ρ, st, env, er, re, ?_⟩
  unfold mTry at h
  cases hm : mb env st with
  | nx a b => rw [hm] at h; exact h
  | rt a b => rw [hm] at h; exact h
  | bk a b => rw [hm] at h; exact h
  | ct a b => rw [hm] at h; exact h
  | stuck => rw [hm] at h; exact h
  | exn e env' st' =>
    rw [hm] at h
    intro F' ρ' σ' H' cls d x er' re' hx
    exact hands_ok x er' re' hx ht h
end
end VL
set_option Elab.async false
set_option linter.all false
set_option maxRecDepth 100000
set_option maxHeartbeats 4000000
namespace VL
open PySem L2 PyProof.Rows PySem.Calls
section
variable {w : Wd} {X : Cx} {W : WX} {pos p pos2 : Pos}
/-! ### raise C(), with the facts of the written part in one structure -/
structure Err0 (K : PySem.W.Frag) (C : Addr) : Prop where
  ex : PySem.W.excIn K C [.type "ValueError", .type "Exception", .type "BaseException", .type "object"] "ValueError.__new__" = true
  kp : PySem.W.keepIn K (.ref C) = true
  sb : PySem.W.subIn K (.ref C) (.type "BaseException") = some true
  ty : PySem.W.typeIn K (.ref C) = some (.type "type")
theorem vs_raiseV {c : Nat} {x : Str} (hK : w.K = X.K) (e : Err0 w.K (w.ct c)) (hc : X.calm = true) (tk : Takes X W) (gC : X.mg x = some (.ref (w.ct c))) (hg : Gl X x) (hdb : (x == ("__debug__" : Str)) = false := by decide) :
    PS X (.Raise (some (.Call (.Name x p) [] [] pos)) none pos2) (tS w W (mRaise0 c)) :=
  have e' : Err0 X.K (w.ct c) := hK ▸ e
  vs_raise0 hc tk PySem.F.excBase_ValueError e'.ex gC e'.kp (raises_own e'.sb e'.ty) hg hdb
end
end VL
set_option Elab.async false
set_option linter.all false
set_option maxRecDepth 100000
set_option maxHeartbeats 4000000
namespace VL
open PySem L2 PyProof.Rows PySem.Spec ItX
/-! ### list(o), o an own object whose __iter__ is `return iter(self.f)`, f a tuple, with an own __len__ -/
section
variable {w : Wd} {X : Cx} {W : WX} {F H : Hp} {ρ : List Addr} {st : Store} {Q : VK} {e a b : Expr} {pos p : Pos} {m : MV} {σ : L2.St} {env : Env} {f : Addr} {fd : FuncData} {ps : List Str} {k n : Nat} {run : Run} {sp : Sp}
/-- an iterator over the tuple at t, the next place is i -/
def ItT (t it : Addr) (i : Nat) : HO := .ext fun h => h.IsTupleIter it t i
theorem itT_ok {P : Program} {wd : World} {H : Hp} {h : Heap} {t it : Addr} {i : Nat} (e : h.IsTupleIter it t i) : ObjOk P wd H h it (ItT t it i) :=
  ⟨e, (let ⟨o, ho, _⟩ := e; ⟨o, ho⟩), fun h1 h2 q k => q.at fun o e => k o e⟩
theorem itT_get {pins : List (Addr × Obj)} {s : Shared} {t it : Addr} {i : Nat} (I : Inv X pins σ H s) (e : H it = some (ItT t it i)) : s.heap.IsTupleIter it t i := (I.hok it _ e).1
/-- younger than all that is tracked -/
def Young (H : Hp) (it : Addr) : Prop := H it = none ∧ ∀ a o, H a = some o → a < it
theorem young_at {pins : List (Addr × Obj)} {s : Shared} (I : Inv X pins σ H s) : Young H s.heap.objs.size :=
  ⟨I.hok.fresh (Nat.le_refl _), fun a o e => Nat.lt_of_not_le fun z => by have q := I.hok.fresh z; rw [e] at q; cases q⟩
def rIterT (K : PySem.W.Frag) : List V → Hp → VK → Prop := fun xs H Q => ∃ (t : Addr) (zs : List V), xs = [.ref t] ∧ SqT K H t zs ∧ ∀ it, Young H it → Q (.ref it) (upd H it (ItT t it 0))
theorem call_iterT : CallR X (.builtin "iter") (rIterT X.K) := by
  intro pins s σ H xs us Q I r h
  obtain ⟨l, zs, rfl, hq, q⟩ := h
  obtain rfl := Vals.ref1 r
  obtain ⟨its, rv, pl, hz⟩ := I.tuple hq
  refine Calls.call_function_entry (by decide +kernel) (by decide +kernel) PySem.W.kdk_entry_iter (PySem.W.kdk_args_iter _) ?_
  unfold Builtin.«iter»
  refine wpAny_bind (m := someArgs "iter" 1 2 _) (wpAny_of_eq (a := [Value.ref l]) (by first | rfl | kernel_rfl!) ?_)
  show wpAny _ _ (pyIter (.ref l) >>= _) _ _ _
  refine wpAny_bind (wpAny_pyIter_tuple pl ?_)
  refine wpAny_pure ⟨_, rfl, ⟨.ref s.heap.objs.size, _, I.laid (t' := s.toks) (fun b u e => Heap.get?_push_of_some _ e) (Nat.le_refl _) (itT_ok ⟨_, Heap.get?_push_size _ rfl, rfl, rfl⟩), rfl, q _ (young_at I)⟩⟩
/-- what such an __iter__ promises -/
def spIt (K : PySem.W.Frag) (C : Addr) (fld : Str) : Sp := fun vs H Q _ => ∃ a dx ws t xs, vs = [.ref a] ∧ H a = some (.ins C dx ws) ∧ ws.lookup fld = some (.ref t) ∧ SqT K H t xs ∧ ∀ it, Young H it → Q (.ref it) (upd H it (ItT t it 0))
theorem it_read {K : PySem.W.Frag} {C : Addr} {fld : Str} {vs : List V} {Q : VK} {E : XK} (hc : Cls K C) (hn : NoAttr K C fld) (h : spIt K C fld vs H Q E) : tRet (tCB (rIterT K) (tCons (tFld K (tVar 0) fld) tNil)) { nx := fun _ H' => Q .non H', rt := Q } (L2.start ["self"] vs) H := by
  obtain ⟨a, dx, ws, t, xs, rfl, h1, h2, h3, h4⟩ := h
  exact ⟨_, rfl, a, C, dx, ws, _, rfl, h1, hc, hn, h2, t, xs, rfl, h3, h4⟩
/-- such a class -/
structure LitC (K : PySem.W.Frag) (C fi fl : Addr) : Prop where
  it : PySem.W.findIn K (.ref C) "__iter__" = some (some (.ref fi))
  itF : PySem.W.isFn K (.ref fi) = true
  len : PySem.W.findIn K (.ref C) "__len__" = some (some (.ref fl))
  lenF : PySem.W.isFn K (.ref fl) = true
theorem len_hint {M : Program} {wd : World} {A : Around} {E : Value → Shared → Prop} {R : Bool → Shared → Prop} {K : PySem.W.Frag} {ox : Obj} {od : Option Obj} {s : Shared} {h0 : Heap} {L x C fi fl : Addr} {mm : Str → Option Value} (hc : LitC K C fi fl) (hF : Fr h0 L s.heap mm) (hk : K.In h0) (J : PySem.W.InstAt s.heap x ox C od)
    (h : wpAny (model M wd) A.in1 (call (.ref fl) [.ref x]) (PySem.W.LenBack fun v s' => ∃ (i : Int) (u : Tok), v = .int i u ∧ i ≤ sizeLine ∧ ∀ b, R b s') (fun _ _ => False) s) : wpAny (model M wd) A (Builtin.List.listLengthHint (.ref x)) R E s := by
  have hK := hk.keeps hF.keep
  unfold Builtin.List.listLengthHint
  refine wpAny_bind (wpAny_bind (J.type.here ((PySem.W.looks_findIn hK hc.len).here ?_)))
  refine PySem.W.KFB.if_not rfl ?_
  refine PySem.W.KFB.if_so rfl ?_
  refine wpAny_bind (wpAny_rule ?_)
  refine wpAny_bind (wpAny_attempt (PySem.W.len_K hF hk J hc.len hc.lenF (wpAny_mono h (fun r s' hr => ?_) fun _ _ z => z.elim)))
  cases r with
  | int i u =>
    obtain ⟨h0, i', u', e, hi, hR⟩ := hr
    cases e
    refine ⟨h0, ?_⟩
    refine wpAny_bind (wpAny_pure ?_)
    have hl : Builtin.List.listTooLong i.toNat = false := by
      unfold Builtin.List.listTooLong
      exact decide_eq_false (by omega)
    refine PySem.W.KFB.if_not hl ?_
    exact wpAny_pure (hR _)
  | _ => exact hr.elim
theorem rd_upd {H : Hp} {t q : Addr} {u o : HO} (h : Rd H t u) (hq : ∀ v, H q = some v → v ≠ u ∧ ∀ o', v ≠ .frz o' u) : Rd (upd H q o) t u := by
  have ht : t ≠ q := fun z => by
    subst z
    rcases h with h | ⟨o', h⟩
    · exact (hq _ h).1 rfl
    · exact (hq _ h).2 o' rfl
  rcases h with h | ⟨o', h⟩
  · exact .inl (by rw [upd_ne ht]; exact h)
  · exact .inr ⟨o', by rw [upd_ne ht]; exact h⟩
theorem sqT_upd {K : PySem.W.Frag} {H : Hp} {t q : Addr} {xs : List V} {o : HO} (h : SqT K H t xs) (hq : ∀ v, H q = some v → (∀ zs, v ≠ .tup zs) ∧ ∀ o' zs, v ≠ .frz o' (.tup zs)) : SqT K (upd H q o) t xs := by
  rcases h with h | h
  · exact .inl (rd_upd h fun v hv => ⟨(hq v hv).1 _, fun o' => (hq v hv).2 o' _⟩)
  · exact .inr h
theorem upd_comm {H : Hp} {a b : Addr} {o u : HO} (h : a ≠ b) : upd (upd H a o) b u = upd (upd H b u) a o := by
  funext c
  by_cases ha : c = a
  · rw [ha, upd_ne h, upd_same, upd_same]
  · by_cases hb : c = b
    · rw [hb, upd_same, upd_ne (Ne.symm h), upd_same]
    · rw [upd_ne hb, upd_ne ha, upd_ne ha, upd_ne hb]
theorem itT_loop {pins : List (Addr × Obj)} {A1 : Around} {q it t : Addr} {xs : List V} {Rs : Result → Shared → Prop} {H0 : Hp} (hh : A1.in1.handled = none) (hqi : q ≠ it) (hn : X.s_0.heap.objs.size ≤ it) (h0 : H0 it = none) (hz : xs.length ≤ sizeLine) :
    ∀ (n i : Nat) (s : Shared), xs.length - i = n → i ≤ xs.length → Inv X pins σ (upd (upd H0 q (.lst (xs.take i))) it (ItT t it i)) s → SqT X.K (upd (upd H0 q (.lst (xs.take i))) it (ItT t it i)) t xs →
      (∀ s', Inv X pins σ (upd H0 q (.lst xs)) s' → Rs (.ok (.ret .none)) s') → codeAny (model X.prog X.w) A1 (.builtin "list.extend.loop" ⟨[.ref q, .ref it, .none], []⟩) Rs s := by
  intro n
  induction n with
  | zero =>
    intro i s hk hi I ht hR
    have e : i = xs.length := by omega
    subst e
    refine codeAny_builtin PySem.F.entry_extend_loop ?_
    rw [Around.under_plainId PySem.F.plain_extend_loop _]
    show wpAny _ A1.in1 (pyNext (.ref it) >>= _) _ _ s
    obtain ⟨its, rv, pl, hz'⟩ := I.tuple ht
    have eit : upd (upd H0 q (.lst (xs.take xs.length))) it (ItT t it xs.length) it = some (ItT t it xs.length) := upd_same
    refine wpAny_bind (wpAny_pyNext_tuple_end hh (itT_get I eit) pl (by simp [rv.length]) fun h' eb => ?_)
    have I2 := inv_drop I (φ := fun h => h.IsTupleIter it t xs.length) eit
    have fp := inv_fp I eit hn
    have I3 := I2.turned (h' := h') (t' := s.toks) (it := it) (fun b o nb z => eb b o nb z) fp.1 fp.2.1 fp.2.2.2.1 fp.2.2.2.2.1 fp.2.2.2.2.2
    rw [dropH_upd (by rw [upd_ne (Ne.symm hqi)]; exact h0), List.take_length] at I3
    exact wpAny_pure (hR _ I3)
  | succ n ih =>
    intro i s hk hi I ht hR
    have hlt : i < xs.length := by omega
    refine codeAny_builtin PySem.F.entry_extend_loop ?_
    rw [Around.under_plainId PySem.F.plain_extend_loop _]
    show wpAny _ A1.in1 (pyNext (.ref it) >>= _) _ _ s
    obtain ⟨its, rv, pl, hz'⟩ := I.tuple ht
    have eit : upd (upd H0 q (.lst (xs.take i))) it (ItT t it i) it = some (ItT t it i) := upd_same
    obtain ⟨u, hu, ru⟩ := rv.get (List.getElem?_eq_getElem hlt)
    refine wpAny_bind (wpAny_pyNext_tuple_item (itT_get I eit) pl (x := u) (by rw [List.getElem?_toArray]; exact hu) fun h' hit' sb => ?_)
    have I2 := I.write (h' := h') (t' := s.toks) (x := it) (e := it) (o := ItT t it (i + 1)) (by rw [eit]; exact True.intro) (.inl rfl) (fun b o nb z => (sb.2 b nb).trans z) (let ⟨o, ho, _⟩ := hit'; ⟨o, ho⟩) (itT_ok hit')
    rw [upd_upd] at I2
    have eq : upd (upd H0 q (.lst (xs.take i))) it (ItT t it (i + 1)) q = some (.lst (xs.take i)) := by rw [upd_ne hqi, upd_same]
    show wpAny _ A1.in1 (updateSeq q (·.push u) >>= _) _ _ _
    obtain ⟨z, its2, c, r2, hl, e⟩ := I2.lstM eq
    have hti : (xs.take i).length = i := by simp; omega
    refine wpAny_bind (wpAny_updateSeq e rfl (wpAny_pure ⟨plainId_quiet PySem.F.plain_extend_loop _, ?_⟩) (by rw [List.size_toArray]; omega) (by show (its2.toArray.push u).size ≤ sizeLine + 1; rw [Array.size_push, List.size_toArray]; omega))
    have I3 := I2.lset (f := (·.push u)) (its' := its2 ++ [u]) (ys := xs.take i ++ [xs[i]]) (t' := s.toks) eq e (by simp) (r2.append (.cons ru .nil)) (by rw [List.length_append, List.length_singleton]; omega)
    have ets : xs.take i ++ [xs[i]] = xs.take (i + 1) := by rw [List.take_succ, List.getElem?_eq_getElem hlt]; rfl
    rw [ets, upd_comm (Ne.symm hqi), upd_upd] at I3
    refine ih (i + 1) _ (by omega) hlt I3 ?_ hR
    have ht2 : SqT X.K (upd (upd (upd H0 q (.lst (xs.take i))) it (ItT t it i)) it (ItT t it (i + 1))) t xs := sqT_upd ht fun v hv => by
      rw [eit] at hv
      cases hv
      exact ⟨fun _ z => (nomatch z), fun _ _ z => (nomatch z)⟩
    rw [upd_upd] at ht2
    have ht3 : SqT X.K (upd (upd (upd H0 q (.lst (xs.take i))) it (ItT t it (i + 1))) q (.lst (xs.take (i + 1)))) t xs := sqT_upd ht2 fun v hv => by
      rw [eq] at hv
      cases hv
      exact ⟨fun _ z => (nomatch z), fun _ _ z => (nomatch z)⟩
    rw [upd_comm (Ne.symm hqi), upd_upd] at ht3
    exact ht3
/-- list(o) -/
def rLit (K : PySem.W.Frag) (C : Addr) (fld : Str) (spL : Sp) : List V → Hp → VK → Prop := fun vs H Q => ∃ a dx ws t xs, vs = [.ref a] ∧ H a = some (.ins C dx ws) ∧ ws.lookup fld = some (.ref t) ∧ SqT K H t xs ∧
  ∀ q it, H q = none → Young (upd H q (.lst [])) it → spL [.ref a] (upd (upd H q (.lst [])) it (ItT t it 0)) (fun v H2 => ∃ i : Int, v = .int i ∧ 0 ≤ i ∧ i ≤ sizeLine ∧ H2 q = some (.lst []) ∧ H2 it = some (ItT t it 0) ∧ SqT K H2 t xs ∧ Q (.ref q) (upd (dropH H2 it) q (.lst xs))) fun _ _ _ => False
/-- a def run from within a built-in that raises nothing -/
theorem run_at0 {pins : List (Addr × Obj)} {s : Shared} {A1 : Around} {us : List Value} {vs : List V} (sb : Sub X n A1) (G : FnOk X.prog X.w X.K X.mg X.base (L2.CX X.prog X.w) n f fd ps sp) (hb : Binds X.K fd ps [])
    (I : Inv X pins σ H s) (r : Vals vs us) (h : sp vs H Q fun _ _ _ => False) : wpAny (model X.prog X.w) A1 (call (.ref f) us) (EP X pins σ Q) (fun _ _ => False) s := by
  have e0 : Env0 X.prog X.w X.K X.mg X.base A1 X.stack s H := by
    have e := I.env0
    exact ⟨by rw [sb.fr]; exact e.frames, e.mod, e.bs, e.bsz, e.funs, e.frf, e.hok, e.bare⟩
  have hl := G.len _ _ _ _ h
  have bb := hb s us I.kIn (by rw [List.append_nil, ← r.length]; exact hl)
  rw [List.append_nil] at bb
  refine wpAny_call (codeAny_mono (G.run A1 X.stack s H ⟨us, []⟩ us vs Q _ sb.room e0 bb r h) fun r s' hq => ?_)
  cases r with
  | error e =>
    obtain ⟨_, _, _, _, _, _, _, _, _, _, _, _, hE⟩ := hq
    exact hE
  | ok fl =>
    cases fl with
    | ret u => exact I.after hq
    | next => exact False.elim hq
    | brk => exact False.elim hq
    | cont => exact False.elim hq
variable {C fi fl : Addr} {fdI fdL : FuncData} {psI psL : List Str} {spL : Sp} {fld : Str} {kI kL : Nat}
theorem lit_extend {pins : List (Addr × Obj)} {A1 : Around} {q x dx t : Addr} {ws : List (Str × V)} {xs : List V} {Rs : Result → Shared → Prop} {s : Shared} (sb : Sub X (n + 1) A1.in1) (hc : LitC X.K C fi fl)
    (FI : FnOk X.prog X.w X.K X.mg X.base (L2.CX X.prog X.w) n fi fdI psI (spIt X.K C fld)) (bI : Binds X.K fdI psI []) (FL : FnOk X.prog X.w X.K X.mg X.base (L2.CX X.prog X.w) n fl fdL psL spL) (bL : Binds X.K fdL psL [])
    (hdone : ∀ H' s', Inv X pins σ H' s' → Q (.ref q) H' → Rs (.ok (.ret .none)) s')
    (I : Inv X pins σ (upd H q (.lst [])) s) (hqn : H q = none) (hN : X.s_0.heap.objs.size ≤ q) (ha : H x = some (.ins C dx ws)) (hf : ws.lookup fld = some (.ref t)) (ht : SqT X.K H t xs)
    (hq : ∀ it, Young (upd H q (.lst [])) it → spL [.ref x] (upd (upd H q (.lst [])) it (ItT t it 0)) (fun v H2 => ∃ i : Int, v = .int i ∧ 0 ≤ i ∧ i ≤ sizeLine ∧ H2 q = some (.lst []) ∧ H2 it = some (ItT t it 0) ∧ SqT X.K H2 t xs ∧ Q (.ref q) (upd (dropH H2 it) q (.lst xs))) fun _ _ _ => False) :
    wpAny (model X.prog X.w) A1.in1 (Builtin.List.listExtendWith (.ref q) (.ref x) .none)
      (fun fin s' => match fin with | .done f => Rs (.ok f) s' | .again c' => c'.quiet = true ∧ codeAny (model X.prog X.w) A1 c' Rs s') (fun e s' => Rs (.error e) s') s := by
  have hne : q ≠ x := fun z => by rw [z, ha] at hqn; cases hqn
  have ha1 : upd H q (.lst []) x = some (.ins C dx ws) := by rw [upd_ne (Ne.symm hne)]; exact ha
  have ht1 : SqT X.K (upd H q (.lst [])) t xs := sqT_upd ht fun v hv => by rw [hqn] at hv; cases hv
  obtain ⟨mA, J, _⟩ := ins_get I.hok ha1
  obtain ⟨od, J, _⟩ := J.look
  obtain ⟨m0, hF⟩ := I.fr
  unfold Builtin.List.listExtendWith
  refine wpAny_bind (J.type.here ?_)
  have h1 : Builtin.List.listSameRef (.ref q) (.ref x) = false := by simp [Builtin.List.listSameRef, hne]
  have h2 : (Value.ref C == Value.type "list") = false := rfl
  have h3 : (Value.ref C == Value.type "tuple") = false := rfl
  simp only [h1, h2, h3, Bool.or_false, Bool.false_eq_true, if_false]
  have sbn : Sub X n A1.in1 := sb.mono (Nat.le_succ n)
  refine wpAny_bind (PySem.W.owit_iter hF I.ok.mod.kin J hc.it hc.itF (wpAny_mono (run_at0 (vs := [.ref x]) sbn FI bI I (.cons rfl .nil) (Q := fun v H' => ∃ it, v = .ref it ∧ Young (upd H q (.lst [])) it ∧ H' = upd (upd H q (.lst [])) it (ItT t it 0))
    ⟨x, dx, ws, t, xs, rfl, ha1, hf, ht1, fun it hy => ⟨it, rfl, hy, rfl⟩⟩) (fun r s' hr => ?_) fun e s' he => he.elim))
  obtain ⟨v, H', I', rv, it, ev, hy, eH⟩ := hr
  subst ev
  obtain rfl : r = Value.ref it := rv
  subst eH
  have eit : upd (upd H q (.lst [])) it (ItT t it 0) it = some (ItT t it 0) := upd_same
  have hit := itT_get I' eit
  have hqi : q ≠ it := Nat.ne_of_lt (hy.2 q _ upd_same)
  have hxi : x ≠ it := Nat.ne_of_lt (hy.2 x _ ha1)
  refine wpAny_specialOf hit.typeIs PySem.F.slot_tuple_iterator_next.lookup ?_
  have ha2 : upd (upd H q (.lst [])) it (ItT t it 0) x = some (.ins C dx ws) := by rw [upd_ne hxi]; exact ha1
  obtain ⟨mA', J', _⟩ := ins_get I'.hok ha2
  obtain ⟨od', J', _⟩ := J'.look
  obtain ⟨m1, hF'⟩ := I'.fr
  have sbl : Sub X n A1.in1.in1 := sb.in1
  refine wpAny_bind (wpAny_holding (len_hint hc hF' I'.ok.mod.kin J' (wpAny_mono (run_at0 (vs := [.ref x]) sbl FL bL I' (.cons rfl .nil) (hq it hy)) (fun r s2 hr => ?_) fun e s' he => he.elim)))
  obtain ⟨v, H2, I2, rv, i, ev, hi0, hi1, g1, g2, g3, hQ⟩ := hr
  subst ev
  obtain ⟨u, rfl⟩ := rv
  refine ⟨⟨hi0, ?_⟩, i, _, rfl, hi1, fun b => ?_⟩
  · have : (sizeLine : Int) < 2 ^ 63 := by rw [sizeLine_eq]; decide
    omega
  have I3 : Inv X pins σ H2 { s2 with toks := s2.toks + 1 } := I2.tok _
  have eH2 : H2 = upd (upd (dropH H2 it) q (.lst (xs.take 0))) it (ItT t it 0) := by
    funext c
    by_cases hb : c = it
    · rw [hb, upd_same, g2]
    · rw [upd_ne hb]
      by_cases hb2 : c = q
      · rw [hb2, upd_same, g1]; rfl
      · rw [upd_ne hb2, dropH_ne hb]
  have hz : xs.length ≤ sizeLine := (I2.tuple g3).choose_spec.2.2
  have fin : ∀ s3, Inv X pins σ H2 s3 → codeAny (model X.prog X.w) A1 (.builtin "list.extend.loop" ⟨[.ref q, .ref it, .none], []⟩) Rs s3 := fun s3 I4 => by
    have g3' := g3
    rw [eH2] at I4 g3'
    exact itT_loop (A1 := A1) (H0 := dropH H2 it) (n := xs.length) (i := 0) (s := s3) sb.room.hd hqi (Nat.le_trans hN (Nat.le_of_lt (hy.2 q _ upd_same))) dropH_same hz rfl (Nat.zero_le _) I4 g3' fun s' I5 => hdone _ s' I5 hQ
  refine wpAny_ite_split (fun _ => ?_) (fun _ => wpAny_pure ⟨plainId_quiet PySem.F.plain_extend_loop _, fin _ I3⟩)
  obtain ⟨z, its, k, r3, hl3, e3⟩ := I3.lstM g1
  cases r3
  refine wpAny_bind (wpAny_rule ?_)
  refine wpAny_bind ?_
  show wpAny _ _ (updateSeq q (·.push .none) >>= fun _ => updateSeq q (·.pop)) _ _ _
  refine wpAny_bind (wpAny_updateSeq e3 rfl ?_)
  have I4 := I3.lset (f := (·.push Value.none)) (its' := [Value.none]) (ys := [.non]) (t' := s2.toks + 1) g1 e3 (by simp) (.cons rfl .nil) (by rw [List.length_singleton, sizeLine_eq]; decide)
  obtain ⟨z4, its4, k4, r4, hl4, e4⟩ := I4.lstM upd_same
  obtain ⟨u4, rfl, ru4⟩ := r4.one
  refine wpAny_updateSeq e4 rfl ?_ (by show 1 ≤ sizeLine; rw [sizeLine_eq]; decide) (by show 0 ≤ sizeLine + 1; exact Nat.zero_le _)
  refine wpAny_pure ⟨plainId_quiet PySem.F.plain_extend_loop _, fin _ ?_⟩
  have I5 := I4.lset (f := (·.pop)) (its := [u4]) (its' := []) (ys := []) (t' := s2.toks + 1) upd_same e4 (by rfl) .nil (Nat.zero_le _)
  rw [upd_upd] at I5
  have hH : upd H2 q (.lst []) = H2 := by
    funext b
    by_cases hb : b = q
    · rw [hb, upd_same, g1]
    · rw [upd_ne hb]
  rw [hH] at I5
  exact I5
theorem call_lit (hc : LitC X.K C fi fl) (FI : FnOk X.prog X.w X.K X.mg X.base (L2.CX X.prog X.w) n fi fdI psI (spIt X.K C fld)) (bI : Binds X.K fdI psI []) (FL : FnOk X.prog X.w X.K X.mg X.base (L2.CX X.prog X.w) n fl fdL psL spL) (bL : Binds X.K fdL psL []) (hr : Room (n + 3) X.A) :
    CallR X (.type "list") (rLit X.K C fld spL) := by
  intro pins s σ H xs us Q I rv h
  obtain ⟨a, dx, ws, t, zs, rfl, ha, hf, ht, hq⟩ := h
  obtain ⟨u, rfl, ru⟩ := rv.one
  cases ru
  have sb : Sub X (n + 1) X.A.in1.in1 := (Sub.in1 (Sub.in1 (⟨hr, rfl⟩ : Sub X (n + 3) X.A)))
  refine callType_codes (Q₁ := fun obj s₁ => obj = .ref s.heap.objs.size ∧ s₁ = { s with heap := s.heap.push { cls := .type "list", data := .seq #[] } }) PySem.F.called_list (PySem.F.typeCall_list_1 _) PySem.F.entry_list_init
    (code_list_new _ ⟨rfl, rfl⟩) fun obj s₁ h₁ => ?_
  obtain ⟨rfl, rfl⟩ := h₁
  have hS : (s.heap.push { cls := .type "list", data := .seq #[] }).get? s.heap.objs.size = some { cls := .type "list", data := .seq #[] } := Heap.get?_push_size _ rfl
  refine ⟨⟨_, hS, rfl⟩, PySem.F.args_list_init_2 _ _, ?_⟩
  have fr : H s.heap.objs.size = none := I.hok.fresh (Nat.le_refl _)
  have I1 : Inv X pins σ (upd H s.heap.objs.size (.lst [])) { s with heap := s.heap.push { cls := .type "list", data := .seq #[] } } := I.lnew (its := []) (t' := s.toks) .nil (Nat.zero_le _)
  show wpAny _ _ (do let old ← Builtin.List.listItems (.ref s.heap.objs.size); Builtin.List.listUpdate (.ref s.heap.objs.size) (fun _ => #[]); letGo old.toList.reverse; Builtin.List.listExtendWith (.ref s.heap.objs.size) (.ref a) .none) _ _ _
  refine wpAny_bind ?_
  unfold Builtin.List.listItems
  refine wpAny_bind (wpAny_seqItems hS rfl (wpAny_pure ?_))
  show wpAny _ _ (updateSeq s.heap.objs.size (fun _ => #[]) >>= fun _ => letGo (#[] : Array Value).toList.reverse >>= fun _ => Builtin.List.listExtendWith (.ref s.heap.objs.size) (.ref a) .none) _ _ _
  refine wpAny_bind (wpAny_updateSeq hS rfl ?_)
  have I2 := I1.lset (f := fun _ => #[]) (its := []) (its' := []) (ys := []) (t' := s.toks) upd_same hS rfl .nil (Nat.zero_le _)
  rw [upd_upd] at I2
  refine wpAny_bind (wpAny_letGo ?_)
  exact lit_extend (Q := Q) (A1 := X.A.in1) (Rs := wants (fun r s₂ => r = .none ∧ EP X pins σ Q (.ref s.heap.objs.size) s₂) X.xe) sb hc FI bI FL bL
    (fun H' s' I' hQ => ⟨rfl, .ref s.heap.objs.size, H', I', rfl, hQ⟩) I2 fr I.sz ha hf ht fun it hy => hq _ it fr hy
end
end VL
set_option Elab.async false
set_option linter.all false
set_option maxRecDepth 100000
set_option maxHeartbeats 4000000
namespace VL
open PySem L2 PyProof.Rows PySem.Spec ItX
section
variable {w : Wd} {X : Cx} {W : WX} {F H : Hp} {ρ : List Addr} {st : Store} {Q : VK} {e a b : Expr} {pos p : Pos} {m : MV} {σ : L2.St} {env : Env} {f : Addr} {fd : FuncData} {ps : List Str} {k n : Nat} {run : Run} {sp : Sp}
/-- what is tracked besides does not matter -/
theorem Rel.free_of {a : Addr} (re : Rel w F ρ st H) (hF : F a = none) (hρ : a ∉ ρ) {H' : Hp} (h : ∀ b, b ≠ a → H' b = H b) : Rel w F ρ st H' := by
  refine ⟨fun b u e => ?_, re.len, fun b hb => ?_, fun l b c h1 h2 => ?_, re.nd, re.lo⟩
  · have hb : b ≠ a := fun z => by rw [z, hF] at e; cases e
    rw [h b hb]; exact re.sub b u e
  · have hb2 : b ≠ a := fun z => hρ (z ▸ hb)
    rw [h b hb2]; exact re.there b hb
  · have hb : b ≠ a := fun z => hρ (z ▸ List.mem_of_getElem? h1)
    have hc := re.cell l b c h1 h2
    cases c with
    | lst m ds => cases m with
      | true => obtain ⟨vs, a1, a2, a3⟩ := hc; exact ⟨vs, by rw [h b hb]; exact a1, a2, a3⟩
      | false => exact hc
    | dct m ds => cases m with
      | true => obtain ⟨vs, a1, a2, a3⟩ := hc; exact ⟨vs, by rw [h b hb]; exact a1, a2, a3⟩
      | false => exact hc
    | dcn m ds => cases m with
      | true => obtain ⟨vs, a1, a2, a3⟩ := hc; exact ⟨vs, by rw [h b hb]; exact a1, a2, a3⟩
      | false => exact hc
    | obj cc fs => obtain ⟨dx, ws, a1, a2, a3⟩ := hc; exact ⟨dx, ws, by rw [h b hb]; exact a1, a2, a3⟩
    | dead => trivial
theorem Rel.notmem {a : Addr} (re : Rel w F ρ st H) (h : H a = none) : a ∉ ρ := fun z => by
  obtain ⟨o, e⟩ := re.there a z
  rw [h] at e; cases e
def mListO (c : Nat) (fld : Str) (run : Run) (m : MV) : MV := fun env st => (m env st).bind fun s st1 => match s with
  | .d (.obj c' fs) => if c' = c then match fs.lookup fld with
    | some (.tup ds) => match run [.d (.obj c' fs)] st1 with
      | .ok (.d (.int i)) st2 => if 0 ≤ i ∧ i ≤ sizeLine then .ok (.d (.lst ds)) st2 else .stuck
      | _ => .stuck
    | _ => .stuck
    else .stuck
  | _ => .stuck
theorem listO_read {c ar : Nat} {fld : Str} (hK : w.K = X.K) (hrun : ∀ ss st, ss.length ≠ ar → run ss st = .stuck) (h : tE w W (mListO c fld run m) σ H Q) : tE w W m σ H fun x H1 => rLit X.K (w.ct c) fld (spOf w ar run) [x] H1 Q := by
  obtain ⟨F, ρ, st, env, er, re, h⟩ := h
  rw [mListO, wpR_bind] at h
  refine tG.use er re h fun s st1 F1 ρ1 H1 x e1 er1 re1 hs h1 => ?_
  cases s with
  | own _ => exact h1.elim
  | d d =>
    cases d with
    | obj c' fs =>
      dsimp only at h1
      by_cases hc : c' = c
      · rw [if_pos hc] at h1
        subst hc
        cases hl : fs.lookup fld with
        | none => rw [hl] at h1; exact h1.elim
        | some y =>
          rw [hl] at h1
          cases y with
          | tup ds =>
            dsimp only at h1
            cases hr : run [.d (.obj c' fs)] st1 with
            | stuck => rw [hr] at h1; exact h1.elim
            | exn _ _ => rw [hr] at h1; exact h1.elim
            | ok r st2 =>
              rw [hr] at h1
              cases r with
              | own _ => exact h1.elim
              | d r =>
                cases r with
                | int i =>
                  dsimp only at h1
                  by_cases hi : 0 ≤ i ∧ i ≤ sizeLine
                  · rw [if_pos hi] at h1
                    have hs0 := hs
                    unfold SVn Wd.Dn Dn at hs
                    obtain ⟨a, dx, ws, rfl, a1, a3⟩ := hs
                    obtain ⟨v, hv, hy⟩ := DnF.get a3 hl
                    unfold Wd.Dn Dn at hy
                    obtain ⟨t, vs, rfl, ht, hd⟩ := hy
                    refine ⟨a, dx, ws, t, vs, rfl, re1.sub _ _ a1, hv, hK ▸ fle_t re1.sub ht, fun q it hq hy => ?_⟩
                    have hqi : q ≠ it := Nat.ne_of_lt (hy.2 q _ upd_same)
                    have hi1 : H1 it = none := by have z := hy.1; rwa [upd_ne (Ne.symm hqi)] at z
                    have r1 : Rel w F1 ρ1 st1 (upd H1 q (.lst [])) := re1.free_of (re1.sub.free hq) (re1.notmem hq) fun b hb => upd_ne hb
                    have r2 : Rel w F1 ρ1 st1 (upd (upd H1 q (.lst [])) it (ItT t it 0)) := r1.free_of (re1.sub.free hi1) (re1.notmem hi1) fun b hb => upd_ne hb
                    refine sp_of hrun (σ := σ) (W := fun _ _ _ _ => False) r2 (ss := [.d (.obj c' fs)]) (by unfold SVL; exact ⟨_, _, rfl, hs0, by unfold SVL; rfl⟩) ?_
                    rw [hr]
                    intro F3 ρ3 H3 v e3 re3 hv3
                    have hv3 : w.Dn F3 (.int i) v := hv3
                    unfold Wd.Dn Dn at hv3
                    have live : ∀ b, H1 b = none → b ∉ ρ1 := fun b hb => re1.notmem hb
                    have gq : H3 q = some (.lst []) := e3.keep q _ (by rw [upd_ne hqi, upd_same]) (live q hq)
                    have gi : H3 it = some (ItT t it 0) := e3.keep it _ upd_same (live it hi1)
                    have F3no : ∀ b, H1 b = none → (∃ o, upd (upd H1 q (.lst [])) it (ItT t it 0) b = some o) → F3 b = none := fun b hb ⟨o, ho⟩ => by
                      cases z : F3 b with
                      | none => rfl
                      | some u =>
                        rcases e3.newF b u z with y | y | y
                        · rw [re1.sub.free hb] at y; cases y
                        · rw [ho] at y; cases y
                        · exact absurd y (live b hb)
                    have ρ3no : ∀ b, H1 b = none → (∃ o, upd (upd H1 q (.lst [])) it (ItT t it 0) b = some o) → b ∉ ρ3 := fun b hb ⟨o, ho⟩ z => by
                      rcases e3.newR b z with y | y
                      · exact live b hb y
                      · rw [ho] at y; cases y
                    have fq := F3no q hq ⟨_, by rw [upd_ne hqi, upd_same]⟩
                    have fi := F3no it hi1 ⟨_, upd_same⟩
                    have nq := ρ3no q hq ⟨_, by rw [upd_ne hqi, upd_same]⟩
                    have ni := ρ3no it hi1 ⟨_, upd_same⟩
                    have r4 : Rel w F3 ρ3 st2 (dropH H3 it) := re3.free_of fi ni fun b hb => dropH_ne hb
                    have r5 : Rel w F3 ρ3 st2 (dropH (dropH H3 it) q) := r4.free_of fq nq fun b hb => dropH_ne hb
                    have r6 : Rel w (upd F3 q (.lst vs)) ρ3 st2 (upd (dropH (dropH H3 it) q) q (.lst vs)) := r5.new dropH_same
                    have eH : upd (dropH (dropH H3 it) q) q (.lst vs) = upd (dropH H3 it) q (.lst vs) := by
                      funext b
                      by_cases hb : b = q
                      · rw [hb, upd_same, upd_same]
                      · rw [upd_ne hb, upd_ne hb, dropH_ne hb]
                    rw [eH] at r6
                    have ex : Ext F1 ρ1 H1 (upd F3 q (.lst vs)) ρ3 (upd (dropH H3 it) q (.lst vs)) := by
                      refine ⟨e3.f.trans (Fle.new fq), e3.r, fun b o hb hn => ?_, fun b hb => ?_, fun b o hb => ?_⟩
                      · have h1' : b ≠ q := ne_of_none hb hq
                        have h2' : b ≠ it := ne_of_none hb hi1
                        rw [upd_ne h1', dropH_ne h2']
                        exact e3.keep b o (by rw [upd_ne h2', upd_ne h1']; exact hb) hn
                      · rcases e3.newR b hb with y | y
                        · exact .inl y
                        · have h2' : b ≠ it := fun z => by rw [z, upd_same] at y; cases y
                          rw [upd_ne h2'] at y
                          have h1' : b ≠ q := fun z => by rw [z, upd_same] at y; cases y
                          rw [upd_ne h1'] at y
                          exact .inr y
                      · by_cases hbq : b = q
                        · exact .inr (.inl (hbq ▸ hq))
                        · rw [upd_ne hbq] at hb
                          rcases e3.newF b o hb with y | y | y
                          · exact .inl y
                          · have h2' : b ≠ it := fun z => by rw [z, upd_same] at y; cases y
                            rw [upd_ne h2', upd_ne hbq] at y
                            exact .inr (.inl y)
                          · exact .inr (.inr y)
                    refine ⟨i, hv3, hi.1, hi.2, gq, gi, hK ▸ fle_t (e3.f.trans re3.sub) ht, ?_⟩
                    refine h1 _ ρ3 _ (.ref q) (e1.trans ex) r6 ?_
                    show w.Dn _ (.lst ds) _
                    unfold Wd.Dn Dn
                    exact ⟨q, vs, rfl, upd_same, DnL.mono (e3.f.trans (Fle.new fq)) _ _ hd⟩
                  · rw [if_neg hi] at h1; exact h1.elim
                | _ => exact h1.elim
          | _ => exact h1.elim
      · rw [if_neg hc] at h1; exact h1.elim
    | _ => exact h1.elim
/-- list(o) of an own object -/
theorem ve_listO {c : Nat} {fld : Str} {fi fl : Addr} {fdI fdL : FuncData} {psI psL : List Str} (hK : w.K = X.K) (hc : LitC X.K (w.ct c) fi fl) (FI : FnOk X.prog X.w X.K X.mg X.base (L2.CX X.prog X.w) k fi fdI psI (spIt X.K (w.ct c) fld)) (bI : Binds X.K fdI psI [])
    (FL : FnOk X.prog X.w X.K X.mg X.base (L2.CX X.prog X.w) k fl fdL psL (spOf w psL.length run)) (bL : Binds X.K fdL psL []) (hr : Room (k + 3) X.A) (hg : Gl X "list") (hm : X.mg "list" = none) (ha : PE X e (tE w W m))
    (hrun : ∀ ss st, ss.length ≠ psL.length → run ss st = .stuck) (he : starEach [e] X.env = [(false, eval e X.env)] := by rfl) : PE X (.Call (.Name "list" p) [e] [] pos) (tE w W (mListO c fld run m)) := by
  refine pe_imp (pe_callTy (call_lit hc FI bI FL bL hr) hg hm (by decide +kernel) (pa_cons ha pa_nil (hs := he)) (by decide) (by decide) he rfl) fun σ H Q h => ?_
  exact listO_read hK hrun h
end
end VL
set_option Elab.async false
set_option linter.all false
set_option maxRecDepth 100000
set_option maxHeartbeats 4000000
namespace VL
open PySem L2 PyProof.Rows PySem.Calls
/-! ### the statement try: what the generator writes -/
def mWhen (b : Bool) (m : MS) : MS := fun env st => if b = true then m env st else .stuck
def mOpt (o : Option D) (k : D → MS) : MS := fun env st => match o with
  | some x => k x env st
  | none => .stuck
def tstOf (l : List (Nat × Bool)) : Nat → Option Bool := fun c => l.lookup c
section
variable {w : Wd} {X : Cx} {W : WX} {F F0 H : Hp} {ss : List Stmt} {cls : Value} {d : Option Addr} {a : Addr}
theorem pss_suite {h : HandM} (k : ∀ (e : Exn) (F0 : Hp), Caught w F0 e cls d → PSs X ss (tS (w.up F0) W0 (h.ms a e))) : PSs X ss (tsH w h a cls d) :=
  ⟨fun pins s σ H D I ⟨e, F0, Ca, q⟩ => (k e F0 Ca).run pins s σ H D I q⟩
theorem pss_when {c n : Nat} {m : MS} (k : c = n → PSs X ss (tS w W m)) : PSs X ss (tS w W (mWhen (c == n) m)) := by
  refine ⟨fun pins s σ H D I ⟨F, ρ, st, env, er, re, h⟩ => ?_⟩
  by_cases hc : c = n
  · refine (k hc).run pins s σ H D I ⟨F, ρ, st, env, er, re, ?_⟩
    unfold mWhen at h
    rw [if_pos (beq_iff_eq.mpr hc)] at h
    exact h
  · unfold mWhen at h
    rw [if_neg (fun z => hc (beq_iff_eq.mp z))] at h
    exact h.elim
theorem pss_opt {o : Option D} {m : D → MS} (k : ∀ x, o = some x → PSs X ss (tS w W (m x))) : PSs X ss (tS w W (mOpt o m)) := by
  refine ⟨fun pins s σ H D I ⟨F, ρ, st, env, er, re, h⟩ => ?_⟩
  cases o with
  | none => exact h.elim
  | some x => exact (k x rfl).run pins s σ H D I ⟨F, ρ, st, env, er, re, h⟩
/-- what is known of which class is which -/
def Xm (K : PySem.W.Frag) (ct : Ct) (h : Nat) (l : List (Nat × Bool)) : Prop := ∀ p ∈ l, PySem.W.exmOne K (.ref (ct p.1)) (.ref (ct h)) = some p.2
theorem Xm.nil {K : PySem.W.Frag} {ct : Ct} {h : Nat} : Xm K ct h [] := fun p hp => nomatch hp
theorem Xm.cons {K : PySem.W.Frag} {ct : Ct} {h c : Nat} {b : Bool} {l : List (Nat × Bool)} (h1 : PySem.W.exmOne K (.ref (ct c)) (.ref (ct h)) = some b) (r : Xm K ct h l) : Xm K ct h ((c, b) :: l) := fun p hp => by
  rcases List.mem_cons.mp hp with e | e
  · rw [e]; exact h1
  · exact r p e
theorem tst_mem {l : List (Nat × Bool)} {c : Nat} {b : Bool} (h : tstOf l c = some b) : (c, b) ∈ l := by
  induction l with
  | nil => cases h
  | cons p r ih =>
    obtain ⟨c', b'⟩ := p
    unfold tstOf at h ih
    by_cases hc : (c == c') = true
    · simp only [List.lookup, hc] at h
      cases h
      rw [beq_iff_eq.mp hc]
      exact List.mem_cons_self
    · have hc' : (c == c') = false := by simpa using hc
      simp only [List.lookup, hc'] at h
      exact List.mem_cons_of_mem _ (ih h)
def HtOk (K : PySem.W.Frag) (ct : Ct) (hs : List HandM) : Prop := ∀ h ∈ hs, ∀ c b, h.test c = some b → PySem.W.exmOne K (.ref (ct c)) (.ref (ct h.c)) = some b
theorem HtOk.nil {K : PySem.W.Frag} {ct : Ct} : HtOk K ct [] := fun p hp => nomatch hp
theorem HtOk.cons {K : PySem.W.Frag} {ct : Ct} {c i : Nat} {l : List (Nat × Bool)} {ms : Addr → Exn → MS} {hs : List HandM} (h1 : Xm K ct c l) (r : HtOk K ct hs) : HtOk K ct (⟨c, i, tstOf l, ms⟩ :: hs) := fun h hm c' b ht => by
  rcases List.mem_cons.mp hm with e | e
  · subst e
    exact h1 _ (tst_mem ht)
  · exact r h e c' b ht
end
end VL
set_option Elab.async false
set_option linter.all false
set_option maxRecDepth 100000
set_option maxHeartbeats 4000000
namespace VL
open PySem L2 PyProof.Rows PySem.Calls
section
variable {w : Wd} {X : Cx} {W : WX} {F H : Hp} {ρ : List Addr} {st : Store} {e : Expr} {m : MV}
/-! ### an own object that is made and changes no more -/
def mFrzO (m : MV) : MV := fun env st => (m env st).bind fun s st1 => match s with
  | .d x => .ok (.d x) st1
  | .own l => match st1[l]? with
    | some (.obj c fs) => match dataF fs with
      | some t => .ok (.d (.obj c t)) (st1.set l .dead)
      | none => .stuck
    | _ => .stuck
theorem dataF_dn : ∀ {fs : List (Str × SV)} {t : List (Str × D)} {ws : List (Str × V)}, dataF fs = some t → SVF w F ρ fs ws → DnF w.K w.ct F t ws
  | [], t, ws, h, e => by
    cases h
    unfold SVF at e
    unfold DnF
    exact e
  | (f, .d x) :: r, t, ws, h, e => by
    unfold dataF at h
    cases hr : dataF r with
    | none => rw [hr] at h; cases h
    | some u =>
      rw [hr] at h; cases h
      unfold SVF at e
      obtain ⟨v, ws', rfl, h1, h2⟩ := e
      unfold DnF
      exact ⟨v, ws', rfl, h1, dataF_dn hr h2⟩
  | (_, .own _) :: _, t, ws, h, e => by unfold dataF at h; cases h
theorem ve_frzO (h : PE X e (tE w W m)) : PE X e (tE w W (mFrzO m)) := by
  refine pe_imp h fun σ H Q ⟨F, ρ, st, env, er, re, h⟩ => ?_
  rw [mFrzO, wpR_bind] at h
  refine ⟨F, ρ, st, env, er, re, wpR_mono h (fun s st1 h1 => ?_) (fun _ _ z => z)⟩
  intro F1 ρ1 H1 v e1 re1 hs
  cases s with
  | d x => exact h1 F1 ρ1 H1 v e1 re1 hs
  | own l =>
    obtain ⟨a, ha, rfl⟩ := hs
    cases hc : st1[l]? with
    | none => simp only [hc] at h1; exact h1.elim
    | some cl =>
      simp only [hc] at h1
      have q := re1.cell l a cl ha hc
      cases cl with
      | obj c fs =>
        dsimp only at h1
        cases hd : dataF fs with
        | none => rw [hd] at h1; exact h1.elim
        | some t =>
          rw [hd] at h1
          obtain ⟨dx, ws, a1, a2, a3⟩ := q
          have hn : DnF w.K w.ct (upd F1 a (.ins (w.ct c) dx ws)) t ws := DnF.mono (Fle.new a2) _ _ (dataF_dn hd a3)
          refine h1 (upd F1 a (.ins (w.ct c) dx ws)) ρ1 H1 _ (e1.frzCell (List.mem_of_getElem? ha) a2) (re1.frzCell ha a1 a2 trivial) ?_
          unfold SVn Wd.Dn Dn
          exact ⟨a, dx, ws, rfl, upd_same, hn⟩
      | _ => exact h1.elim
end
end VL
set_option Elab.async false
set_option linter.all false
set_option maxRecDepth 100000
set_option maxHeartbeats 4000000
namespace VL
open PySem L2 PyProof.Rows PySem.Calls
section
variable {w : Wd} {X : Cx}
/-! ### x in xs, nested data -/
def inD3 (a b : D) : Option D := match inD2 a b with
  | some r => some r
  | none => match toP a, toP b with
    | some p, some (.list ds) => if SeqAt.shaped p = true ∧ SeqAt.shaped (.list ds) = true then some (.bl (ds.any fun z => PyData.eqv z p)) else none
    | _, _ => none
theorem od_in3 (S : Same w X) (hu : X.A.units + 64 < cLine) (hv : X.A.units + 65 < cLine) : OpD w X (compareOp .In) inD3 := by
  obtain ⟨r, h1, h2⟩ := od_in2 S hu
  refine ⟨_, opr_or h1 (op_inD hv), fun F ρ st H x y a b d Q re ha hb hg q => ?_⟩
  unfold inD3 at hg
  cases h : inD2 a b with
  | some c => rw [h] at hg; cases hg; exact .inl (h2 F ρ st H x y a b _ Q re ha hb h q)
  | none =>
    rw [h] at hg
    dsimp only at hg
    cases h3 : toP a with
    | none => rw [h3] at hg; cases hg
    | some p =>
      cases h4 : toP b with
      | none => rw [h3, h4] at hg; cases hg
      | some s =>
        rw [h3, h4] at hg
        cases s with
        | list ds =>
          dsimp only at hg
          by_cases hs : SeqAt.shaped p = true ∧ SeqAt.shaped (.list ds) = true
          · rw [if_pos hs] at hg
            cases hg
            exact .inr ⟨p, ds, S.K ▸ toP_vw re h3 ha, S.K ▸ toP_vw re h4 hb, hs.1, hs.2, q.sc re mkB⟩
          · rw [if_neg hs] at hg; cases hg
        | _ => cases hg
theorem _root_.L2.Room.units65 {k : Nat} {A : Around} (r : Room k A) : A.units + 65 < cLine := by have := r.un; omega
end
end VL
set_option Elab.async false
set_option linter.all false
set_option maxRecDepth 100000
set_option maxHeartbeats 4000000
namespace K17
open PySem L2 VL PyProof.Rows
def topS (i : Nat) : Stmt := PySem.Challenge.pw_rightatlast_k17_guesses_joined.main.body.getD i (.Pass ⟨0, 0, 0, 0⟩)
inductive Fid | _law_new | _law_take | _law_same | _law_number | _law_draw_entry | _law_find | _law_draw_rows | _law_row_text | _law_others | _law_all_rows | _law_due_join | _law_part | _law_draw_second | _spelt | is_choice | key_text | entry_text | can_be_entry | Guesses___init__ | Guesses_as_table | Guesses_at | Guesses_has | Guesses_within | Guesses___or__ | Guesses___len__ | Guesses___eq__ | Guesses___str__ | _law_is_right | _law_join | _law_pair | _law_two_right | _law_large_right | law
inductive Xid | Clash___init__
abbrev s__law_new : Stmt := topS 29
abbrev N__law_new : List Str := ["script", "cell"]
theorem sc__law_new : FnScope N__law_new ["script"] (defScope s__law_new) := ⟨rfl, rfl, rfl, by decide +kernel, rfl, by decide +kernel, by decide +kernel⟩
abbrev s__law_take : Stmt := topS 30
abbrev N__law_take : List Str := ["p", "many", "digit"]
theorem sc__law_take : FnScope N__law_take ["p", "many"] (defScope s__law_take) := ⟨rfl, rfl, rfl, by decide +kernel, rfl, by decide +kernel, by decide +kernel⟩
abbrev s__law_same : Stmt := topS 31
abbrev N__law_same : List Str := ["told", "due", "k"]
theorem sc__law_same : FnScope N__law_same ["told", "due"] (defScope s__law_same) := ⟨rfl, rfl, rfl, by decide +kernel, rfl, by decide +kernel, by decide +kernel⟩
abbrev s__law_number : Stmt := topS 32
abbrev N__law_number : List Str := ["p", "small"]
theorem sc__law_number : FnScope N__law_number ["p"] (defScope s__law_number) := ⟨rfl, rfl, rfl, by decide +kernel, rfl, by decide +kernel, by decide +kernel⟩
abbrev s__law_draw_entry : Stmt := topS 33
abbrev N__law_draw_entry : List Str := ["p", "turn", "large", "small", "name", "k", "numbers", "number"]
theorem sc__law_draw_entry : FnScope N__law_draw_entry ["p", "turn"] (defScope s__law_draw_entry) := ⟨rfl, rfl, rfl, by decide +kernel, rfl, by decide +kernel, by decide +kernel⟩
abbrev s__law_find : Stmt := topS 34
abbrev N__law_find : List Str := ["rows", "name", "numbers", "k"]
theorem sc__law_find : FnScope N__law_find ["rows", "name", "numbers"] (defScope s__law_find) := ⟨rfl, rfl, rfl, by decide +kernel, rfl, by decide +kernel, by decide +kernel⟩
abbrev s__law_draw_rows : Stmt := topS 35
abbrev N__law_draw_rows : List Str := ["p", "many", "rows", "k", "entry"]
theorem sc__law_draw_rows : FnScope N__law_draw_rows ["p", "many"] (defScope s__law_draw_rows) := ⟨rfl, rfl, rfl, by decide +kernel, rfl, by decide +kernel, by decide +kernel⟩
abbrev s__law_row_text : Stmt := topS 36
abbrev N__law_row_text : List Str := ["row", "text", "number"]
theorem sc__law_row_text : FnScope N__law_row_text ["row"] (defScope s__law_row_text) := ⟨rfl, rfl, rfl, by decide +kernel, rfl, by decide +kernel, by decide +kernel⟩
abbrev s__law_others : Stmt := topS 37
abbrev N__law_others : List Str := ["rows", "found", "row", "key"]
theorem sc__law_others : FnScope N__law_others ["rows"] (defScope s__law_others) := ⟨rfl, rfl, rfl, by decide +kernel, rfl, by decide +kernel, by decide +kernel⟩
abbrev s__law_all_rows : Stmt := topS 40
abbrev N__law_all_rows : List Str := ["rows", "others", "found", "row"]
theorem sc__law_all_rows : FnScope N__law_all_rows ["rows", "others"] (defScope s__law_all_rows) := ⟨rfl, rfl, rfl, by decide +kernel, rfl, by decide +kernel, by decide +kernel⟩
abbrev s__law_due_join : Stmt := topS 41
abbrev N__law_due_join : List Str := ["rows", "others", "row", "at"]
theorem sc__law_due_join : FnScope N__law_due_join ["rows", "others"] (defScope s__law_due_join) := ⟨rfl, rfl, rfl, by decide +kernel, rfl, by decide +kernel, by decide +kernel⟩
abbrev s__law_part : Stmt := topS 42
abbrev N__law_part : List Str := ["rows", "others", "row"]
theorem sc__law_part : FnScope N__law_part ["rows", "others"] (defScope s__law_part) := ⟨rfl, rfl, rfl, by decide +kernel, rfl, by decide +kernel, by decide +kernel⟩
abbrev s__law_draw_second : Stmt := topS 43
abbrev N__law_draw_second : List Str := ["p", "rows", "turn", "found", "row", "kind", "k", "at"]
theorem sc__law_draw_second : FnScope N__law_draw_second ["p", "rows", "turn"] (defScope s__law_draw_second) := ⟨rfl, rfl, rfl, by decide +kernel, rfl, by decide +kernel, by decide +kernel⟩
abbrev s__spelt : Stmt := topS 13
abbrev N__spelt : List Str := ["text", "characters", "most", "one"]
theorem sc__spelt : FnScope N__spelt ["text", "characters", "most"] (defScope s__spelt) := ⟨rfl, rfl, rfl, by decide +kernel, rfl, by decide +kernel, by decide +kernel⟩
abbrev s_is_choice : Stmt := topS 14
abbrev N_is_choice : List Str := ["text"]
theorem sc_is_choice : FnScope N_is_choice ["text"] (defScope s_is_choice) := ⟨rfl, rfl, rfl, by decide +kernel, rfl, by decide +kernel, by decide +kernel⟩
abbrev s_key_text : Stmt := topS 20
abbrev N_key_text : List Str := ["name", "numbers", "inner", "number"]
theorem sc_key_text : FnScope N_key_text ["name", "numbers"] (defScope s_key_text) := ⟨rfl, rfl, rfl, by decide +kernel, rfl, by decide +kernel, by decide +kernel⟩
abbrev s_entry_text : Stmt := topS 21
abbrev N_entry_text : List Str := ["name", "numbers", "number"]
theorem sc_entry_text : FnScope N_entry_text ["name", "numbers", "number"] (defScope s_entry_text) := ⟨rfl, rfl, rfl, by decide +kernel, rfl, by decide +kernel, by decide +kernel⟩
abbrev s_can_be_entry : Stmt := topS 22
abbrev N_can_be_entry : List Str := ["name", "numbers", "number", "one"]
theorem sc_can_be_entry : FnScope N_can_be_entry ["name", "numbers", "number"] (defScope s_can_be_entry) := ⟨rfl, rfl, rfl, by decide +kernel, rfl, by decide +kernel, by decide +kernel⟩
abbrev s_Guesses___init__ : Stmt := inClass (topS 27) 0
abbrev N_Guesses___init__ : List Str := ["self", "rows", "table", "entry", "name", "numbers", "number"]
theorem sc_Guesses___init__ : FnScope N_Guesses___init__ ["self", "rows"] (defScope s_Guesses___init__) := ⟨rfl, rfl, rfl, by decide +kernel, rfl, by decide +kernel, by decide +kernel⟩
abbrev s_Guesses_as_table : Stmt := inClass (topS 27) 2
abbrev N_Guesses_as_table : List Str := ["self", "key"]
theorem sc_Guesses_as_table : FnScope N_Guesses_as_table ["self"] (defScope s_Guesses_as_table) := ⟨rfl, rfl, rfl, by decide +kernel, rfl, by decide +kernel, by decide +kernel⟩
abbrev s_Guesses_at : Stmt := inClass (topS 27) 3
abbrev N_Guesses_at : List Str := ["self", "name", "numbers"]
theorem sc_Guesses_at : FnScope N_Guesses_at ["self", "name", "numbers"] (defScope s_Guesses_at) := ⟨rfl, rfl, rfl, by decide +kernel, rfl, by decide +kernel, by decide +kernel⟩
abbrev s_Guesses_has : Stmt := inClass (topS 27) 4
abbrev N_Guesses_has : List Str := ["self", "name", "numbers"]
theorem sc_Guesses_has : FnScope N_Guesses_has ["self", "name", "numbers"] (defScope s_Guesses_has) := ⟨rfl, rfl, rfl, by decide +kernel, rfl, by decide +kernel, by decide +kernel⟩
abbrev s_Guesses_within : Stmt := inClass (topS 27) 7
abbrev N_Guesses_within : List Str := ["self", "other", "table", "name", "numbers", "number"]
theorem sc_Guesses_within : FnScope N_Guesses_within ["self", "other"] (defScope s_Guesses_within) := ⟨rfl, rfl, rfl, by decide +kernel, rfl, by decide +kernel, by decide +kernel⟩
abbrev s_Guesses___or__ : Stmt := inClass (topS 27) 8
abbrev N_Guesses___or__ : List Str := ["self", "other", "name", "numbers", "number", "more", "row"]
theorem sc_Guesses___or__ : FnScope N_Guesses___or__ ["self", "other"] (defScope s_Guesses___or__) := ⟨rfl, rfl, rfl, by decide +kernel, rfl, by decide +kernel, by decide +kernel⟩
abbrev s_Guesses___len__ : Stmt := inClass (topS 27) 9
abbrev N_Guesses___len__ : List Str := ["self"]
theorem sc_Guesses___len__ : FnScope N_Guesses___len__ ["self"] (defScope s_Guesses___len__) := ⟨rfl, rfl, rfl, by decide +kernel, rfl, by decide +kernel, by decide +kernel⟩
abbrev s_Guesses___eq__ : Stmt := inClass (topS 27) 11
abbrev N_Guesses___eq__ : List Str := ["self", "other"]
theorem sc_Guesses___eq__ : FnScope N_Guesses___eq__ ["self", "other"] (defScope s_Guesses___eq__) := ⟨rfl, rfl, rfl, by decide +kernel, rfl, by decide +kernel, by decide +kernel⟩
abbrev s_Guesses___str__ : Stmt := inClass (topS 27) 12
abbrev N_Guesses___str__ : List Str := ["self"]
theorem sc_Guesses___str__ : FnScope N_Guesses___str__ ["self"] (defScope s_Guesses___str__) := ⟨rfl, rfl, rfl, by decide +kernel, rfl, by decide +kernel, by decide +kernel⟩
abbrev s__law_is_right : Stmt := topS 38
abbrev N__law_is_right : List Str := ["guesses", "rows", "due", "text", "row", "told", "key"]
theorem sc__law_is_right : FnScope N__law_is_right ["guesses", "rows"] (defScope s__law_is_right) := ⟨rfl, rfl, rfl, by decide +kernel, rfl, by decide +kernel, by decide +kernel⟩
abbrev s__law_join : Stmt := topS 39
abbrev N__law_join : List Str := ["first", "second", "e", "both", "other", "key"]
theorem sc__law_join : FnScope N__law_join ["first", "second"] (defScope s__law_join) := ⟨rfl, rfl, rfl, by decide +kernel, rfl, by decide +kernel, by decide +kernel⟩
abbrev s__law_pair : Stmt := topS 44
abbrev N__law_pair : List Str := ["first", "second"]
theorem sc__law_pair : FnScope N__law_pair ["first", "second"] (defScope s__law_pair) := ⟨rfl, rfl, rfl, by decide +kernel, rfl, by decide +kernel, by decide +kernel⟩
abbrev s__law_two_right : Stmt := topS 45
abbrev N__law_two_right : List Str := ["first", "rows", "second", "others", "due", "told", "both"]
theorem sc__law_two_right : FnScope N__law_two_right ["first", "rows", "second", "others"] (defScope s__law_two_right) := ⟨rfl, rfl, rfl, by decide +kernel, rfl, by decide +kernel, by decide +kernel⟩
abbrev s__law_large_right : Stmt := topS 46
abbrev N__law_large_right : List Str := ["first", "k", "rows", "both", "told", "large", "more", "clash"]
theorem sc__law_large_right : FnScope N__law_large_right [] (defScope s__law_large_right) := ⟨rfl, rfl, rfl, by decide +kernel, rfl, by decide +kernel, by decide +kernel⟩
abbrev s_law : Stmt := topS 47
abbrev N_law : List Str := ["script", "p", "rows", "first", "seconds", "turn", "others", "second", "one", "two"]
theorem sc_law : FnScope N_law ["script"] (defScope s_law) := ⟨rfl, rfl, rfl, by decide +kernel, rfl, by decide +kernel, by decide +kernel⟩
abbrev si_Guesses : Stmt := inClass (topS 27) 10
theorem sci_Guesses : FnScope ["self"] ["self"] (defScope si_Guesses) := ⟨rfl, rfl, rfl, by decide +kernel, rfl, by decide +kernel, by decide +kernel⟩
def psOf : Fid → List Str
  | ._law_new => ["script"]
  | ._law_take => ["p", "many"]
  | ._law_same => ["told", "due"]
  | ._law_number => ["p"]
  | ._law_draw_entry => ["p", "turn"]
  | ._law_find => ["rows", "name", "numbers"]
  | ._law_draw_rows => ["p", "many"]
  | ._law_row_text => ["row"]
  | ._law_others => ["rows"]
  | ._law_all_rows => ["rows", "others"]
  | ._law_due_join => ["rows", "others"]
  | ._law_part => ["rows", "others"]
  | ._law_draw_second => ["p", "rows", "turn"]
  | ._spelt => ["text", "characters", "most"]
  | .is_choice => ["text"]
  | .key_text => ["name", "numbers"]
  | .entry_text => ["name", "numbers", "number"]
  | .can_be_entry => ["name", "numbers", "number"]
  | .Guesses___init__ => ["self", "rows"]
  | .Guesses_as_table => ["self"]
  | .Guesses_at => ["self", "name", "numbers"]
  | .Guesses_has => ["self", "name", "numbers"]
  | .Guesses_within => ["self", "other"]
  | .Guesses___or__ => ["self", "other"]
  | .Guesses___len__ => ["self"]
  | .Guesses___eq__ => ["self", "other"]
  | .Guesses___str__ => ["self"]
  | ._law_is_right => ["guesses", "rows"]
  | ._law_join => ["first", "second"]
  | ._law_pair => ["first", "second"]
  | ._law_two_right => ["first", "rows", "second", "others"]
  | ._law_large_right => []
  | .law => ["script"]
def psX : Xid → List Str
  | .Clash___init__ => ["self", "name", "numbers"]
abbrev Rec := Fid → VL.Run
abbrev RecX := Xid → RunX
noncomputable section
abbrev isiL : List ((Nat × Nat) × Bool) := [((7, 7), true), ((6, 1), false), ((6, 4), false), ((6, 5), false), ((6, 2), false), ((6, 0), true), ((1, 6), false), ((1, 4), false), ((1, 5), false), ((1, 2), false), ((1, 0), true)]
def isiT : IsiT := ⟨fun c d => isiL.lookup (c, d), fun c => c == 7⟩
abbrev hs__law_join : List HandM := [⟨6, 2, tstOf [(6, true), (1, false)], fun a e => (mWhen (e.c == 6) (mOpt (e.fs.lookup ("name" : Str)) fun x_name => (mOpt (e.fs.lookup ("numbers" : Str)) fun x_numbers => (mSeq (mAsg 4 (mIsX a isiT e.c (mCons (mVar 2) (mCons (mTup (mCons (mC (.cls 1)) (mCons (mC (.cls 4)) (mCons (mC (.cls 5)) (mCons (mC (.cls 2)) mNil))))) mNil))))
    (mSeq (mAsg 5 (mTup (mCons (mExcFld a x_name (mVar 2)) (mCons (mExcFld a x_numbers (mVar 2)) mNil))))
    (mRet (mTup (mCons (mC (.str "refused")) (mCons (mC (.str "Clash")) (mCons (mVar 5) (mCons (mIsX a isiT e.c (mCons (mVar 2) (mCons (mC (.cls 0)) mNil))) (mCons (mVar 4) mNil))))))))))))⟩,
    ⟨1, 2, tstOf [(6, false), (1, true)], fun a e => (mWhen (e.c == 1) (mSeq (mAsg 4 (mIsX a isiT e.c (mCons (mVar 2) (mCons (mTup (mCons (mC (.cls 6)) (mCons (mC (.cls 4)) (mCons (mC (.cls 5)) (mCons (mC (.cls 2)) mNil))))) mNil))))
    (mRet (mTup (mCons (mC (.str "refused")) (mCons (mC (.str "TooLarge")) (mCons (mC (.int 0)) (mCons (mIsX a isiT e.c (mCons (mVar 2) (mCons (mC (.cls 0)) mNil))) (mCons (mVar 4) mNil)))))))))⟩]
def m__law_new (rec : Rec) (recX : RecX) : MS := (mRet (mLstM (mCons (mLc (mItems (mSlice (mVar 0) mNoPart (mPart (mC (.int 63))))) (.nm 1) [1] mYes (mB absD (mCons (mVar 1) mNil))) (mCons (mC (.int 0)) (mCons (mC (.int 0)) (mCons (mC (.int 0)) mNil))))))
def m__law_take (rec : Rec) (recX : RecX) : MS := (mSeq (mIfS (mTest (mBin eqD (mBin idxD2 (mVar 0) (mC (.int 2))) (mC (.int 0)))) (mSeq (mIfS (mNot (mTruth (mBin idxD2 (mVar 0) (mC (.int 0))))) (mRet (mC (.int 0))) mNext)
    (mSeq (mIfS (mTest (mBin eqD (mBin idxD2 (mVar 0) (mC (.int 1))) (mB lenD (mCons (mBin idxD2 (mVar 0) (mC (.int 0))) mNil)))) (mSeq (mSetIx (mVar 0) (mC (.int 1)) (mC (.int 0)))
    (mSetIx (mVar 0) (mC (.int 3)) (mBin addD (mBin idxD2 (mVar 0) (mC (.int 3))) (mC (.int 1))))) mNext)
    (mSeq (mSetIx (mVar 0) (mC (.int 2)) (mBin addD (mBin idxD2 (mBin idxD2 (mVar 0) (mC (.int 0))) (mBin idxD2 (mVar 0) (mC (.int 1)))) (mBin mulD (mBin idxD2 (mVar 0) (mC (.int 3))) (mC (.int 7919)))))
    (mSetIx (mVar 0) (mC (.int 1)) (mBin addD (mBin idxD2 (mVar 0) (mC (.int 1))) (mC (.int 1))))))) mNext)
    (mSeq (mAsg 2 (mBin modD (mB intD (mCons (mBin idxD2 (mVar 0) (mC (.int 2))) mNil)) (mVar 1)))
    (mSeq (mSetIx (mVar 0) (mC (.int 2)) (mBin fdivD (mB intD (mCons (mBin idxD2 (mVar 0) (mC (.int 2))) mNil)) (mVar 1)))
    (mRet (mVar 2)))))
def m__law_same (rec : Rec) (recX : RecX) : MS := (mSeq (mIfS (mTruth (mB (isiD isiT) (mCons (mVar 1) (mCons (mC (.ty "bool")) mNil)))) (mRet (mAndV (mB (isiD isiT) (mCons (mVar 0) (mCons (mC (.ty "bool")) mNil))) (mBin eqD (mVar 0) (mVar 1)))) mNext)
    (mSeq (mIfS (mTruth (mB (isiD isiT) (mCons (mVar 1) (mCons (mC (.ty "int")) mNil)))) (mRet (mAndV (mB (isiD isiT) (mCons (mVar 0) (mCons (mC (.ty "int")) mNil))) (mAndV (mNotV (mB (isiD isiT) (mCons (mVar 0) (mCons (mC (.ty "bool")) mNil)))) (mBin eqD (mVar 0) (mVar 1))))) mNext)
    (mSeq (mIfS (mTruth (mB (isiD isiT) (mCons (mVar 1) (mCons (mC (.ty "str")) mNil)))) (mRet (mAndV (mB (isiD isiT) (mCons (mVar 0) (mCons (mC (.ty "str")) mNil))) (mBin eqD (mVar 0) (mVar 1)))) mNext)
    (mSeq (mIfS (mTest (mBin isND (mVar 1) (mC (.non)))) (mRet (mBin isND (mVar 0) (mC (.non)))) mNext)
    (mSeq (mIfS (mOr (mNot (mTruth (mB (isiD isiT) (mCons (mVar 0) (mCons (mC (.ty "tuple")) mNil))))) (mTest (mBin neD (mB lenD (mCons (mVar 0) mNil)) (mB lenD (mCons (mVar 1) mNil))))) (mRet (mC (.bl false))) mNext)
    (mSeq (mFor (mRange1 (mB lenD (mCons (mVar 1) mNil))) (.nm 2) (mIfS (mNot (mTruth (mCall (rec ._law_same) (mCons (mBin idxD2 (mVar 0) (mVar 2)) (mCons (mBin idxD2 (mVar 1) (mVar 2)) mNil))))) (mRet (mC (.bl false))) mNext))
    (mRet (mC (.bl true)))))))))
def m__law_number (rec : Rec) (recX : RecX) : MS := (mSeq (mAsg 1 (mCall (rec ._law_take) (mCons (mVar 0) (mCons (mC (.int 13)) mNil))))
    (mSeq (mIfS (mTest (mBin ltD (mVar 1) (mC (.int 12)))) (mRet (mVar 1)) mNext)
    (mRet (mBin idxD2 (mLst (mCons (mC (.int 99999)) (mCons (mC (.int 99998)) (mCons (mC (.int 100)) (mCons (mC (.int 1000)) (mCons (mC (.int 12345)) mNil)))))) (mCall (rec ._law_take) (mCons (mVar 0) (mCons (mC (.int 5)) mNil)))))))
def m__law_draw_entry (rec : Rec) (recX : RecX) : MS := (mSeq (mAsg 2 (mC (.str "ABCDEFGHIJKLMNOPQRSTUVWXYZ")))
    (mSeq (mAsg 3 (mC (.str "abcdefghijklmnopqrstuvwxyz")))
    (mSeq (mAsg 4 (mBin idxD2 (mLst (mCons (mC (.str "Low")) (mCons (mC (.str "Ca")) (mCons (mC (.str "Pick")) (mCons (mC (.str "Cab")) (mCons (mC (.str "Cb")) (mCons (mC (.str "Zz")) (mCons (mC (.str "Abcdefgh")) mNil)))))))) (mBin modD (mB intD (mCons (mBin addD (mCall (rec ._law_take) (mCons (mVar 0) (mCons (mC (.int 7)) mNil))) (mVar 1)) mNil)) (mC (.int 7)))))
    (mSeq (mIfS (mTest (mBin eqD (mCall (rec ._law_take) (mCons (mVar 0) (mCons (mC (.int 5)) mNil))) (mC (.int 4)))) (mSeq (mAsg 4 (mBin idxD2 (mVar 2) (mCall (rec ._law_take) (mCons (mVar 0) (mCons (mC (.int 26)) mNil)))))
    (mFor (mRange1 (mBin addD (mC (.int 1)) (mCall (rec ._law_take) (mCons (mVar 0) (mCons (mC (.int 7)) mNil))))) (.nm 5) (mAsg 4 (mBin addD (mVar 4) (mBin idxD2 (mVar 3) (mCall (rec ._law_take) (mCons (mVar 0) (mCons (mC (.int 26)) mNil)))))))) mNext)
    (mSeq (mAsg 6 (mLstM mNil))
    (mSeq (mFor (mRange1 (mBin idxD2 (mLst (mCons (mC (.int 1)) (mCons (mC (.int 0)) (mCons (mC (.int 2)) (mCons (mC (.int 1)) (mCons (mC (.int 3)) (mCons (mC (.int 6)) (mCons (mC (.int 4)) (mCons (mC (.int 5)) mNil))))))))) (mBin modD (mB intD (mCons (mBin addD (mCall (rec ._law_take) (mCons (mVar 0) (mCons (mC (.int 8)) mNil))) (mVar 1)) mNil)) (mC (.int 8))))) (.nm 5) (mDrop (mAppend (mVar 6) (mCall (rec ._law_number) (mCons (mVar 0) mNil)))))
    (mSeq (mAsg 7 (mCall (rec ._law_number) (mCons (mVar 0) mNil)))
    (mSeq (mIfS (mTest (mBin ltD (mVar 7) (mC (.int 12)))) (mAsg 7 (mBin modD (mB intD (mCons (mBin addD (mBin addD (mVar 7) (mVar 1)) (mC (.int 1))) mNil)) (mC (.int 12)))) mNext)
    (mRet (mTup (mCons (mVar 4) (mCons (mB tupleD (mCons (mVar 6) mNil)) (mCons (mVar 7) mNil)))))))))))))
def m__law_find (rec : Rec) (recX : RecX) : MS := (mSeq (mFor (mRange1 (mB lenD (mCons (mVar 0) mNil))) (.nm 3) (mIfS (mAnd (mTest (mBin eqD (mBin idxD2 (mBin idxD2 (mVar 0) (mVar 3)) (mC (.int 0))) (mVar 1))) (mTest (mBin eqD (mBin idxD2 (mBin idxD2 (mVar 0) (mVar 3)) (mC (.int 1))) (mVar 2)))) (mRet (mVar 3)) mNext))
    (mRet (mC (.int (-1)))))
def m__law_draw_rows (rec : Rec) (recX : RecX) : MS := (mSeq (mAsg 2 (mLstM mNil))
    (mSeq (mFor (mRange1 (mVar 1)) (.nm 3) (mSeq (mAsg 4 (mCall (rec ._law_draw_entry) (mCons (mVar 0) (mCons (mVar 3) mNil))))
    (mSeq (mIfS (mAnd (mTest (mBin gtD (mB lenD (mCons (mVar 2) mNil)) (mC (.int 0)))) (mTest (mBin eqD (mCall (rec ._law_take) (mCons (mVar 0) (mCons (mC (.int 3)) mNil))) (mC (.int 2))))) (mAsg 4 (mTup (mCons (mBin idxD2 (mBin idxD2 (mVar 2) (mC (.int 0))) (mC (.int 0))) (mCons (mBin idxD2 (mVar 4) (mC (.int 1))) (mCons (mBin idxD2 (mVar 4) (mC (.int 2))) mNil))))) mNext)
    (mIfS (mTest (mBin ltD (mCall (rec ._law_find) (mCons (mVar 2) (mCons (mBin idxD2 (mVar 4) (mC (.int 0))) (mCons (mBin idxD2 (mVar 4) (mC (.int 1))) mNil)))) (mC (.int 0)))) (mDrop (mAppend (mVar 2) (mVar 4))) mNext))))
    (mRet (mVar 2))))
def m__law_row_text (rec : Rec) (recX : RecX) : MS := (mSeq (mAsg 1 (mBin idxD2 (mVar 0) (mC (.int 0))))
    (mSeq (mIfS (mTest (mBin gtD (mB lenD (mCons (mBin idxD2 (mVar 0) (mC (.int 1))) mNil)) (mC (.int 0)))) (mAsg 1 (mBin addD (mBin addD (mBin addD (mVar 1) (mC (.str "("))) (mJoin (mC (.str ", ")) (mLc (mItems (mBin idxD2 (mVar 0) (mC (.int 1)))) (.nm 2) [2] mYes (mB strD (mCons (mVar 2) mNil))))) (mC (.str ")")))) mNext)
    (mRet (mBin addD (mBin addD (mVar 1) (mC (.str " = "))) (mB strD (mCons (mBin idxD2 (mVar 0) (mC (.int 2))) mNil))))))
def m__law_others (rec : Rec) (recX : RecX) : MS := (mSeq (mAsg 1 (mLstM (mCons (mTup (mCons (mC (.str "low")) (mCons (mTup (mCons (mC (.int 1)) (mCons (mC (.int 2)) (mCons (mC (.int 3)) (mCons (mC (.int 4)) (mCons (mC (.int 5)) (mCons (mC (.int 6)) (mCons (mC (.int 7)) mNil)))))))) mNil))) (mCons (mTup (mCons (mC (.str "")) (mCons (mTup mNil) mNil))) (mCons (mTup (mCons (mC (.str "Low")) (mCons (mTup (mCons (mC (.int 100000)) mNil)) mNil))) (mCons (mTup (mCons (mC (.str "Cb")) (mCons (mTup (mCons (mC (.int 9)) mNil)) mNil))) mNil))))))
    (mSeq (mFor (mItems (mVar 0)) (.nm 2) (mSeq (mAsg 1 (mAddM (mVar 1) (mLst (mCons (mTup (mCons (mBin idxD2 (mVar 2) (mC (.int 0))) (mCons (mBin addD (mBin idxD2 (mVar 2) (mC (.int 1))) (mTup (mCons (mC (.int 0)) mNil))) mNil))) (mCons (mTup (mCons (mBin idxD2 (mVar 2) (mC (.int 0))) (mCons (mSlice (mBin idxD2 (mVar 2) (mC (.int 1))) mNoPart (mPart (mC (.int (-1))))) mNil))) mNil)))))
    (mSeq (mDrop (mAppend (mVar 1) (mTup (mCons (mC (.str "Qu")) (mCons (mBin idxD2 (mVar 2) (mC (.int 1))) mNil)))))
    (mIfS (mTest (mBin gtD (mB lenD (mCons (mBin idxD2 (mVar 2) (mC (.int 1))) mNil)) (mC (.int 0)))) (mDrop (mAppend (mVar 1) (mTup (mCons (mBin idxD2 (mVar 2) (mC (.int 0))) (mCons (mBin addD (mTup (mCons (mBin addD (mBin idxD2 (mBin idxD2 (mVar 2) (mC (.int 1))) (mC (.int 0))) (mC (.int 1))) mNil)) (mSlice (mBin idxD2 (mVar 2) (mC (.int 1))) (mPart (mC (.int 1))) mNoPart)) mNil))))) mNext))))
    (mRet (mLc (mItems (mFrz (mVar 1))) (.nm 3) [3] (mTest (mBin ltD (mCall (rec ._law_find) (mCons (mVar 0) (mCons (mBin idxD2 (mVar 3) (mC (.int 0))) (mCons (mBin idxD2 (mVar 3) (mC (.int 1))) mNil)))) (mC (.int 0)))) (mVar 3)))))
def m__law_all_rows (rec : Rec) (recX : RecX) : MS := (mSeq (mAsg 2 (mListM (mVar 0)))
    (mSeq (mFor (mItems (mVar 1)) (.nm 3) (mIfS (mTest (mBin ltD (mCall (rec ._law_find) (mCons (mVar 0) (mCons (mBin idxD2 (mVar 3) (mC (.int 0))) (mCons (mBin idxD2 (mVar 3) (mC (.int 1))) mNil)))) (mC (.int 0)))) (mDrop (mAppend (mVar 2) (mVar 3))) mNext))
    (mRet (mB sortedD (mCons (mVar 2) mNil)))))
def m__law_due_join (rec : Rec) (recX : RecX) : MS := (mSeq (mFor (mItems (mB sortedD (mCons (mVar 0) mNil))) (.nm 2) (mSeq (mAsg 3 (mCall (rec ._law_find) (mCons (mVar 1) (mCons (mBin idxD2 (mVar 2) (mC (.int 0))) (mCons (mBin idxD2 (mVar 2) (mC (.int 1))) mNil)))))
    (mIfS (mAnd (mTest (mBin geD (mVar 3) (mC (.int 0)))) (mTest (mBin neD (mBin idxD2 (mBin idxD2 (mVar 1) (mVar 3)) (mC (.int 2))) (mBin idxD2 (mVar 2) (mC (.int 2)))))) (mRet (mTup (mCons (mC (.str "refused")) (mCons (mC (.str "Clash")) (mCons (mTup (mCons (mBin idxD2 (mVar 2) (mC (.int 0))) (mCons (mBin idxD2 (mVar 2) (mC (.int 1))) mNil))) (mCons (mC (.bl true)) (mCons (mC (.bl false)) mNil))))))) mNext)))
    (mRet (mTup (mCons (mC (.str "told")) (mCons (mB tupleD (mCons (mCall (rec ._law_all_rows) (mCons (mVar 0) (mCons (mVar 1) mNil))) mNil)) mNil)))))
def m__law_part (rec : Rec) (recX : RecX) : MS := (mRet (mB allD (mCons (mLc (mItems (mVar 0)) (.nm 2) [2] mYes (mBin inD3 (mVar 2) (mVar 1))) mNil)))
def m__law_draw_second (rec : Rec) (recX : RecX) : MS := (mSeq (mAsg 3 (mLstM mNil))
    (mSeq (mFor (mItems (mVar 1)) (.nm 4) (mSeq (mAsg 5 (mBin modD (mB intD (mCons (mBin addD (mCall (rec ._law_take) (mCons (mVar 0) (mCons (mC (.int 5)) mNil))) (mVar 2)) mNil)) (mC (.int 5))))
    (mIfS (mTest (mBin eqD (mVar 5) (mC (.int 1)))) (mDrop (mAppend (mVar 3) (mTup (mCons (mBin idxD2 (mVar 4) (mC (.int 0))) (mCons (mBin idxD2 (mVar 4) (mC (.int 1))) (mCons (mBin modD (mB intD (mCons (mBin addD (mBin addD (mBin idxD2 (mVar 4) (mC (.int 2))) (mC (.int 1))) (mCall (rec ._law_take) (mCons (mVar 0) (mCons (mC (.int 5)) mNil)))) mNil)) (mC (.int 100000))) mNil)))))) (mIfS (mTest (mBin neD (mVar 5) (mC (.int 3)))) (mDrop (mAppend (mVar 3) (mVar 4))) mNext))))
    (mSeq (mFor (mRange1 (mBin idxD2 (mLst (mCons (mC (.int 1)) (mCons (mC (.int 0)) (mCons (mC (.int 2)) (mCons (mC (.int 3)) mNil))))) (mCall (rec ._law_take) (mCons (mVar 0) (mCons (mC (.int 4)) mNil))))) (.nm 6) (mSeq (mAsg 4 (mCall (rec ._law_draw_entry) (mCons (mVar 0) (mCons (mBin addD (mVar 6) (mBin mulD (mC (.int 2)) (mVar 2))) mNil))))
    (mIfS (mTest (mBin ltD (mCall (rec ._law_find) (mCons (mVar 3) (mCons (mBin idxD2 (mVar 4) (mC (.int 0))) (mCons (mBin idxD2 (mVar 4) (mC (.int 1))) mNil)))) (mC (.int 0)))) (mDrop (mAppend (mVar 3) (mVar 4))) mNext)))
    (mSeq (mAsg 7 (mCall (rec ._law_take) (mCons (mVar 0) (mCons (mBin addD (mB lenD (mCons (mVar 3) mNil)) (mC (.int 1))) mNil))))
    (mRet (mBin addD (mSlice (mVar 3) (mPart (mVar 7)) mNoPart) (mSlice (mVar 3) mNoPart (mPart (mVar 7)))))))))
def m__spelt (rec : Rec) (recX : RecX) : MS := (mRet (mAndV (mChain leD leD (mC (.int 1)) (mB lenD (mCons (mVar 0) mNil)) (mVar 2)) (mB allD (mCons (mLc (mItems (mVar 0)) (.nm 3) [3] mYes (mBin inD3 (mVar 3) (mVar 1))) mNil))))
def m_is_choice (rec : Rec) (recX : RecX) : MS := (mRet (mAndV (mCall (rec ._spelt) (mCons (mSlice (mVar 0) mNoPart (mPart (mC (.int 1)))) (mCons (mC (.str "ABCDEFGHIJKLMNOPQRSTUVWXYZ")) (mCons (mC (.int 1)) mNil)))) (mCall (rec ._spelt) (mCons (mSlice (mVar 0) (mPart (mC (.int 1))) mNoPart) (mCons (mC (.str "abcdefghijklmnopqrstuvwxyz")) (mCons (mC (.int 7)) mNil))))))
def m_key_text (rec : Rec) (recX : RecX) : MS := (mSeq (mIfS (mTest (mBin eqD (mB lenD (mCons (mVar 1) mNil)) (mC (.int 0)))) (mRet (mVar 0)) mNext)
    (mSeq (mAsg 2 (mJoin (mC (.str ", ")) (mLc (mItems (mVar 1)) (.nm 3) [3] mYes (mB strD (mCons (mVar 3) mNil)))))
    (mRet (mJoined [(mFmt (mVar 0)), (mC (.str "(")), (mFmt (mVar 2)), (mC (.str ")"))]))))
def m_entry_text (rec : Rec) (recX : RecX) : MS := (mRet (mJoined [(mFmt (mCall (rec .key_text) (mCons (mVar 0) (mCons (mVar 1) mNil)))), (mC (.str " = ")), (mFmt (mVar 2))]))
def m_can_be_entry (rec : Rec) (recX : RecX) : MS := (mSeq (mIfS (mOr (mNot (mTruth (mCall (rec .is_choice) (mCons (mVar 0) mNil)))) (mTest (mBin gtD (mB lenD (mCons (mVar 1) mNil)) (mC (.int 6))))) (mRet (mC (.bl false))) mNext)
    (mRet (mAndV (mBin leD (mVar 2) (mC (.int 99999))) (mB allD (mCons (mLc (mItems (mVar 1)) (.nm 3) [3] mYes (mBin leD (mVar 3) (mC (.int 99999)))) mNil)))))
def m_Guesses___init__ (rec : Rec) (recX : RecX) : MS := (mSeq (mIfS (mTest (mBin gtD (mB lenD (mCons (mVar 1) mNil)) (mC (.int 5000)))) (mRaise0 1) mNext)
    (mSeq (mAsg 2 mDNew)
    (mSeq (mFor (mEnumK 1 (mVar 1)) (.et 3 [4, 5, 6]) (mSeq (mIfS (mOr (mNot (mTruth (mCall (rec .can_be_entry) (mCons (mVar 4) (mCons (mVar 5) (mCons (mVar 6) mNil)))))) (mTest (mBin inD3 (mTup (mCons (mVar 4) (mCons (mVar 5) mNil))) (mVar 2)))) mStuckS mNext)
    (mSetIxN (mVar 2) (mTup (mCons (mVar 4) (mCons (mVar 5) mNil))) (mVar 6))))
    (mSeq (mSetFld 7 "_table" (mVar 0) (mFrz (mVar 2)))
    (mSeq (mSetFld 7 "rows" (mVar 0) (mB tupleD (mCons (mLc (mItems (mB sortedD (mCons (mB listD2 (mCons (mVar 2) mNil)) mNil))) (.tp [4, 5]) [4, 5] mYes (mTup (mCons (mVar 4) (mCons (mVar 5) (mCons (mBin idxD2 (mVar 2) (mTup (mCons (mVar 4) (mCons (mVar 5) mNil)))) mNil))))) mNil)))
    (mSetFld 7 "text" (mVar 0) (mJoin (mC (.str "\n")) (mLc (mItems (mFld [7] "rows" (mVar 0))) (.tp [4, 5, 6]) [4, 5, 6] mYes (mCall (rec .entry_text) (mCons (mVar 4) (mCons (mVar 5) (mCons (mVar 6) mNil))))))))))))
def m_Guesses_as_table (rec : Rec) (recX : RecX) : MS := (mRet (mDc (mKeysN (mFld [7] "_table" (mVar 0))) (.nm 1) [1] (mVar 1) (mBin idxD2 (mFld [7] "_table" (mVar 0)) (mVar 1))))
def m_Guesses_at (rec : Rec) (recX : RecX) : MS := (mRet (mGet2 (mFld [7] "_table" (mVar 0)) (mTup (mCons (mVar 1) (mCons (mVar 2) mNil))) (mC (.int 0))))
def m_Guesses_has (rec : Rec) (recX : RecX) : MS := (mRet (mBin inD3 (mTup (mCons (mVar 1) (mCons (mVar 2) mNil))) (mFld [7] "_table" (mVar 0))))
def m_Guesses_within (rec : Rec) (recX : RecX) : MS := (mSeq (mAsg 2 (mMeth 7 "as_table" (rec .Guesses_as_table) (mVar 1) mNil))
    (mRet (mB allD (mCons (mLc (mItems (mFld [7] "rows" (mVar 0))) (.tp [3, 4, 5]) [3, 4, 5] mYes (mBin eqD (mGet1 (mVar 2) (mTup (mCons (mVar 3) (mCons (mVar 4) mNil)))) (mVar 5))) mNil))))
def m_Guesses___or__ (rec : Rec) (recX : RecX) : MS := (mSeq (mFor (mItems (mFld [7] "rows" (mVar 0))) (.tp [2, 3, 4]) (mIfS (mAnd (mTruth (mMeth 7 "has" (rec .Guesses_has) (mVar 1) (mCons (mVar 2) (mCons (mVar 3) mNil)))) (mTest (mBin neD (mMeth 7 "at" (rec .Guesses_at) (mVar 1) (mCons (mVar 2) (mCons (mVar 3) mNil))) (mVar 4)))) (mRaiseX 6 (recX .Clash___init__) (mCons (mVar 2) (mCons (mVar 3) mNil))) mNext))
    (mSeq (mAsg 5 (mLc (mItems (mFld [7] "rows" (mVar 1))) (.nm 6) [6] (mNot (mTruth (mMeth 7 "has" (rec .Guesses_has) (mVar 0) (mCons (mBin idxD2 (mVar 6) (mC (.int 0))) (mCons (mBin idxD2 (mVar 6) (mC (.int 1))) mNil))))) (mVar 6)))
    (mRet (mFrzO (mMake 7 (rec .Guesses___init__) (mCons (mBin addD (mB listD2 (mCons (mFld [7] "rows" (mVar 0)) mNil)) (mVar 5)) mNil))))))
def m_Guesses___len__ (rec : Rec) (recX : RecX) : MS := (mRet (mB lenD (mCons (mFld [7] "rows" (mVar 0)) mNil)))
def m_Guesses___eq__ (rec : Rec) (recX : RecX) : MS := (mRet (mAndV (mB (isiD isiT) (mCons (mVar 1) (mCons (mC (.cls 7)) mNil))) (mBin eqD (mFld [7] "text" (mVar 0)) (mFld [7] "text" (mVar 1)))))
def m_Guesses___str__ (rec : Rec) (recX : RecX) : MS := (mRet (mB strD (mCons (mFld [7] "text" (mVar 0)) mNil)))
def m__law_is_right (rec : Rec) (recX : RecX) : MS := (mSeq (mAsg 2 (mB tupleD (mCons (mB sortedD (mCons (mVar 1) mNil)) mNil)))
    (mSeq (mAsg 3 (mJoin (mC (.str "\n")) (mLc (mItems (mVar 2)) (.nm 4) [4] mYes (mCall (rec ._law_row_text) (mCons (mVar 4) mNil)))))
    (mSeq (mIfS (mNot (mTruth (mB (isiD isiT) (mCons (mVar 0) (mCons (mC (.cls 7)) mNil))))) (mRet (mC (.bl false))) mNext)
    (mSeq (mIfS (mNot (mTruth (mCall (rec ._law_same) (mCons (mTup (mCons (mFld [7] "rows" (mVar 0)) (mCons (mFld [7] "text" (mVar 0)) (mCons (mUnO 7 okStrD (rec .Guesses___str__) (mVar 0)) mNil)))) (mCons (mTup (mCons (mVar 2) (mCons (mVar 3) (mCons (mVar 3) mNil)))) mNil))))) (mRet (mC (.bl false))) mNext)
    (mSeq (mIfS (mNot (mTruth (mCall (rec ._law_same) (mCons (mTup (mCons (mUnO 7 okLenD (rec .Guesses___len__) (mVar 0)) (mCons (mB tupleD (mCons (mListO 7 "rows" (rec .Guesses___len__) (mVar 0)) mNil)) mNil))) (mCons (mTup (mCons (mB lenD (mCons (mVar 2) mNil)) (mCons (mVar 2) mNil))) mNil))))) (mRet (mC (.bl false))) mNext)
    (mSeq (mFor (mItems (mVar 1)) (.nm 4) (mSeq (mAsg 5 (mTup (mCons (mMeth 7 "at" (rec .Guesses_at) (mVar 0) (mCons (mBin idxD2 (mVar 4) (mC (.int 0))) (mCons (mBin idxD2 (mVar 4) (mC (.int 1))) mNil))) (mCons (mMeth 7 "has" (rec .Guesses_has) (mVar 0) (mCons (mBin idxD2 (mVar 4) (mC (.int 0))) (mCons (mBin idxD2 (mVar 4) (mC (.int 1))) mNil))) mNil))))
    (mIfS (mNot (mTruth (mCall (rec ._law_same) (mCons (mVar 5) (mCons (mTup (mCons (mBin idxD2 (mVar 4) (mC (.int 2))) (mCons (mC (.bl true)) mNil))) mNil))))) (mRet (mC (.bl false))) mNext)))
    (mSeq (mFor (mItems (mCall (rec ._law_others) (mCons (mVar 1) mNil))) (.nm 6) (mSeq (mAsg 5 (mTup (mCons (mMeth 7 "at" (rec .Guesses_at) (mVar 0) (mCons (mBin idxD2 (mVar 6) (mC (.int 0))) (mCons (mBin idxD2 (mVar 6) (mC (.int 1))) mNil))) (mCons (mMeth 7 "has" (rec .Guesses_has) (mVar 0) (mCons (mBin idxD2 (mVar 6) (mC (.int 0))) (mCons (mBin idxD2 (mVar 6) (mC (.int 1))) mNil))) mNil))))
    (mIfS (mNot (mTruth (mCall (rec ._law_same) (mCons (mVar 5) (mCons (mTup (mCons (mC (.int 0)) (mCons (mC (.bl false)) mNil))) mNil))))) (mRet (mC (.bl false))) mNext)))
    (mRet (mC (.bl true))))))))))
def m__law_join (rec : Rec) (recX : RecX) : MS := (mSeq (mTry (mAsg 3 (mFrz (mBinO 7 (rec .Guesses___or__) (mVar 0) (mVar 1)))) hs__law_join)
    (mRet (mTup (mCons (mC (.str "told")) (mCons (mFld [7] "rows" (mVar 3)) mNil)))))
def m__law_pair (rec : Rec) (recX : RecX) : MS := (mRet (mTup (mCons (mCall (rec ._law_join) (mCons (mVar 0) (mCons (mVar 1) mNil))) (mCons (mCall (rec ._law_join) (mCons (mVar 1) (mCons (mVar 0) mNil))) mNil))))
def m__law_two_right (rec : Rec) (recX : RecX) : MS := (mSeq (mAsg 4 (mCall (rec ._law_due_join) (mCons (mVar 1) (mCons (mVar 3) mNil))))
    (mSeq (mIfS (mNot (mTruth (mCall (rec ._law_same) (mCons (mCall (rec ._law_pair) (mCons (mVar 0) (mCons (mVar 2) mNil))) (mCons (mTup (mCons (mVar 4) (mCons (mVar 4) mNil))) mNil))))) (mRet (mC (.bl false))) mNext)
    (mSeq (mAsg 5 (mTup (mCons (mMeth 7 "within" (rec .Guesses_within) (mVar 0) (mCons (mVar 2) mNil)) (mCons (mMeth 7 "within" (rec .Guesses_within) (mVar 2) (mCons (mVar 0) mNil)) mNil))))
    (mSeq (mIfS (mNot (mTruth (mCall (rec ._law_same) (mCons (mVar 5) (mCons (mTup (mCons (mCall (rec ._law_part) (mCons (mVar 1) (mCons (mVar 3) mNil))) (mCons (mCall (rec ._law_part) (mCons (mVar 3) (mCons (mVar 1) mNil))) mNil))) mNil))))) (mRet (mC (.bl false))) mNext)
    (mSeq (mIfS (mTest (mBin eqD (mBin idxD2 (mVar 4) (mC (.int 0))) (mC (.str "told")))) (mSeq (mAsg 6 (mFrz (mBinO 7 (rec .Guesses___or__) (mVar 0) (mVar 2))))
    (mSeq (mIfS (mNot (mTruth (mCall (rec ._law_is_right) (mCons (mVar 6) (mCons (mB listD2 (mCons (mBin idxD2 (mVar 4) (mC (.int 1))) mNil)) mNil))))) (mRet (mC (.bl false))) mNext)
    (mSeq (mIfS (mNot (mTruth (mCall (rec ._law_same) (mCons (mCall (rec ._law_pair) (mCons (mVar 6) (mCons (mVar 0) mNil))) (mCons (mTup (mCons (mVar 4) (mCons (mVar 4) mNil))) mNil))))) (mRet (mC (.bl false))) mNext)
    (mSeq (mAsg 5 (mTup (mCons (mMeth 7 "within" (rec .Guesses_within) (mVar 0) (mCons (mVar 6) mNil)) (mCons (mMeth 7 "within" (rec .Guesses_within) (mVar 2) (mCons (mVar 6) mNil)) (mCons (mMeth 7 "within" (rec .Guesses_within) (mVar 6) (mCons (mVar 0) mNil)) mNil)))))
    (mSeq (mIfS (mNot (mTruth (mCall (rec ._law_same) (mCons (mVar 5) (mCons (mTup (mCons (mC (.bl true)) (mCons (mC (.bl true)) (mCons (mCall (rec ._law_part) (mCons (mVar 3) (mCons (mVar 1) mNil))) mNil)))) mNil))))) (mRet (mC (.bl false))) mNext)
    (mIfS (mNot (mTruth (mCall (rec ._law_same) (mCons (mBinO 7 (rec .Guesses___eq__) (mVar 6) (mFrz (mBinO 7 (rec .Guesses___or__) (mVar 2) (mVar 0)))) (mCons (mC (.bl true)) mNil))))) (mRet (mC (.bl false))) mNext)))))) mNext)
    (mRet (mAndV (mCall (rec ._law_is_right) (mCons (mVar 0) (mCons (mVar 1) mNil))) (mCall (rec ._law_is_right) (mCons (mVar 2) (mCons (mVar 3) mNil))))))))))
def m__law_large_right (rec : Rec) (recX : RecX) : MS := (mSeq (mAsg 0 (mFrzO (mMake 7 (rec .Guesses___init__) (mCons (mLc (mRange1 (mC (.int 3000))) (.nm 1) [1] mYes (mTup (mCons (mC (.str "Ca")) (mCons (mTup (mCons (mVar 1) mNil)) (mCons (mC (.int 1)) mNil))))) mNil))))
    (mSeq (mAsg 2 (mLc (mRange1 (mC (.int 2000))) (.nm 1) [1] mYes (mTup (mCons (mC (.str "Cb")) (mCons (mTup (mCons (mVar 1) mNil)) (mCons (mC (.int 2)) mNil))))))
    (mSeq (mAsg 3 (mFrz (mBinO 7 (rec .Guesses___or__) (mVar 0) (mFrzO (mMake 7 (rec .Guesses___init__) (mCons (mBin addD (mVar 2) (mLst (mCons (mTup (mCons (mC (.str "Ca")) (mCons (mTup (mCons (mC (.int 2999)) mNil)) (mCons (mC (.int 1)) mNil)))) (mCons (mTup (mCons (mC (.str "Ca")) (mCons (mTup (mCons (mC (.int 0)) mNil)) (mCons (mC (.int 1)) mNil)))) mNil)))) mNil))))))
    (mSeq (mAsg 4 (mTup (mCons (mUnO 7 okLenD (rec .Guesses___len__) (mVar 3)) (mCons (mBin idxD2 (mFld [7] "rows" (mVar 3)) (mC (.int 2999))) (mCons (mBin idxD2 (mFld [7] "rows" (mVar 3)) (mC (.int 3000))) mNil)))))
    (mSeq (mIfS (mNot (mTruth (mCall (rec ._law_same) (mCons (mVar 4) (mCons (mTup (mCons (mC (.int 5000)) (mCons (mTup (mCons (mC (.str "Ca")) (mCons (mTup (mCons (mC (.int 2999)) mNil)) (mCons (mC (.int 1)) mNil)))) (mCons (mTup (mCons (mC (.str "Cb")) (mCons (mTup (mCons (mC (.int 0)) mNil)) (mCons (mC (.int 2)) mNil)))) mNil)))) mNil))))) (mRet (mC (.bl false))) mNext)
    (mSeq (mIfS (mNot (mTruth (mCall (rec ._law_same) (mCons (mTup (mCons (mMeth 7 "within" (rec .Guesses_within) (mVar 3) (mCons (mVar 0) mNil)) (mCons (mMeth 7 "within" (rec .Guesses_within) (mVar 0) (mCons (mVar 3) mNil)) mNil))) (mCons (mTup (mCons (mC (.bl false)) (mCons (mC (.bl true)) mNil))) mNil))))) (mRet (mC (.bl false))) mNext)
    (mSeq (mAsg 5 (mTup (mCons (mC (.str "refused")) (mCons (mC (.str "TooLarge")) (mCons (mC (.int 0)) (mCons (mC (.bl true)) (mCons (mC (.bl false)) mNil)))))))
    (mSeq (mAsg 6 (mFrzO (mMake 7 (rec .Guesses___init__) (mCons (mBin addD (mVar 2) (mLst (mCons (mTup (mCons (mC (.str "Cb")) (mCons (mTup (mCons (mC (.int 99999)) mNil)) (mCons (mC (.int 2)) mNil)))) mNil))) mNil))))
    (mSeq (mIfS (mNot (mTruth (mCall (rec ._law_same) (mCons (mCall (rec ._law_pair) (mCons (mVar 0) (mCons (mVar 6) mNil))) (mCons (mTup (mCons (mVar 5) (mCons (mVar 5) mNil))) mNil))))) (mRet (mC (.bl false))) mNext)
    (mSeq (mAsg 2 (mBin addD (mVar 2) (mLst (mCons (mTup (mCons (mC (.str "Cb")) (mCons (mTup (mCons (mC (.int 99999)) mNil)) (mCons (mC (.int 2)) mNil)))) (mCons (mTup (mCons (mC (.str "Ca")) (mCons (mTup (mCons (mC (.int 2999)) mNil)) (mCons (mC (.int 0)) mNil)))) mNil)))))
    (mSeq (mAsg 6 (mFrzO (mMake 7 (rec .Guesses___init__) (mCons (mBin addD (mVar 2) (mLst (mCons (mTup (mCons (mC (.str "Ca")) (mCons (mTup (mCons (mC (.int 71)) mNil)) (mCons (mC (.int 2)) mNil)))) mNil))) mNil))))
    (mSeq (mAsg 7 (mTup (mCons (mC (.str "refused")) (mCons (mC (.str "Clash")) (mCons (mTup (mCons (mC (.str "Ca")) (mCons (mTup (mCons (mC (.int 71)) mNil)) mNil))) (mCons (mC (.bl true)) (mCons (mC (.bl false)) mNil)))))))
    (mRet (mCall (rec ._law_same) (mCons (mCall (rec ._law_pair) (mCons (mVar 0) (mCons (mVar 6) mNil))) (mCons (mTup (mCons (mVar 7) (mCons (mVar 7) mNil))) mNil))))))))))))))))
def m_law (rec : Rec) (recX : RecX) : MS := (mSeq (mAsg 1 (mCall (rec ._law_new) (mCons (mVar 0) mNil)))
    (mSeq (mIfS (mTest (mBin eqD (mCall (rec ._law_take) (mCons (mVar 1) (mCons (mC (.int 50)) mNil))) (mC (.int 49)))) (mRet (mCall (rec ._law_large_right) mNil)) mNext)
    (mSeq (mAsg 2 (mCall (rec ._law_draw_rows) (mCons (mVar 1) (mCons (mBin idxD2 (mLst (mCons (mC (.int 3)) (mCons (mC (.int 2)) (mCons (mC (.int 4)) (mCons (mC (.int 1)) (mCons (mC (.int 0)) (mCons (mC (.int 5)) (mCons (mC (.int 6)) mNil)))))))) (mCall (rec ._law_take) (mCons (mVar 1) (mCons (mC (.int 7)) mNil)))) mNil))))
    (mSeq (mAsg 3 (mFrzO (mMake 7 (rec .Guesses___init__) (mCons (mB listD2 (mCons (mVar 2) mNil)) mNil))))
    (mSeq (mIfS (mNot (mTruth (mCall (rec ._law_two_right) (mCons (mVar 3) (mCons (mVar 2) (mCons (mVar 3) (mCons (mVar 2) mNil))))))) (mRet (mC (.bl false))) mNext)
    (mSeq (mIfS (mNot (mTruth (mCall (rec ._law_two_right) (mCons (mVar 3) (mCons (mVar 2) (mCons (mFrzO (mMake 7 (rec .Guesses___init__) (mCons (mLst mNil) mNil))) (mCons (mLst mNil) mNil))))))) (mRet (mC (.bl false))) mNext)
    (mSeq (mAsg 4 (mLstM mNil))
    (mSeq (mFor (mRange1 (mC (.int 4))) (.nm 5) (mSeq (mAsg 6 (mCall (rec ._law_draw_second) (mCons (mVar 1) (mCons (mVar 2) (mCons (mVar 5) mNil)))))
    (mSeq (mAsg 7 (mFrzO (mMake 7 (rec .Guesses___init__) (mCons (mB listD2 (mCons (mVar 6) mNil)) mNil))))
    (mSeq (mIfS (mNot (mTruth (mCall (rec ._law_two_right) (mCons (mVar 3) (mCons (mVar 2) (mCons (mVar 7) (mCons (mVar 6) mNil))))))) (mRet (mC (.bl false))) mNext)
    (mDrop (mAppend (mVar 4) (mLst (mCons (mVar 7) (mCons (mVar 6) mNil)))))))))
    (mSeq (mAsg 8 (mBin idxD2 (mVar 4) (mCall (rec ._law_take) (mCons (mVar 1) (mCons (mC (.int 4)) mNil)))))
    (mSeq (mAsg 9 (mBin idxD2 (mVar 4) (mCall (rec ._law_take) (mCons (mVar 1) (mCons (mC (.int 4)) mNil)))))
    (mSeq (mIfS (mNot (mTruth (mCall (rec ._law_two_right) (mCons (mBin idxD2 (mVar 8) (mC (.int 0))) (mCons (mBin idxD2 (mVar 8) (mC (.int 1))) (mCons (mBin idxD2 (mVar 9) (mC (.int 0))) (mCons (mBin idxD2 (mVar 9) (mC (.int 1))) mNil))))))) (mRet (mC (.bl false))) mNext)
    (mRet (mCall (rec ._law_is_right) (mCons (mVar 3) (mCons (mVar 2) mNil)))))))))))))))
def runs (recX : RecX) : Nat → Rec
  | 0, _ => fun _ _ => .stuck
  | n + 1, ._law_new => runDef true 1 2 (m__law_new (runs recX n) recX)
  | n + 1, ._law_take => runDef false 2 3 (m__law_take (runs recX n) recX)
  | n + 1, ._law_same => runDef false 2 3 (m__law_same (runs recX n) recX)
  | n + 1, ._law_number => runDef false 1 2 (m__law_number (runs recX n) recX)
  | n + 1, ._law_draw_entry => runDef false 2 8 (m__law_draw_entry (runs recX n) recX)
  | n + 1, ._law_find => runDef false 3 4 (m__law_find (runs recX n) recX)
  | n + 1, ._law_draw_rows => runDef false 2 5 (m__law_draw_rows (runs recX n) recX)
  | n + 1, ._law_row_text => runDef false 1 3 (m__law_row_text (runs recX n) recX)
  | n + 1, ._law_others => runDef false 1 4 (m__law_others (runs recX n) recX)
  | n + 1, ._law_all_rows => runDef false 2 4 (m__law_all_rows (runs recX n) recX)
  | n + 1, ._law_due_join => runDef false 2 4 (m__law_due_join (runs recX n) recX)
  | n + 1, ._law_part => runDef false 2 3 (m__law_part (runs recX n) recX)
  | n + 1, ._law_draw_second => runDef false 3 8 (m__law_draw_second (runs recX n) recX)
  | n + 1, ._spelt => runDef false 3 4 (m__spelt (runs recX n) recX)
  | n + 1, .is_choice => runDef false 1 1 (m_is_choice (runs recX n) recX)
  | n + 1, .key_text => runDef false 2 4 (m_key_text (runs recX n) recX)
  | n + 1, .entry_text => runDef false 3 3 (m_entry_text (runs recX n) recX)
  | n + 1, .can_be_entry => runDef false 3 4 (m_can_be_entry (runs recX n) recX)
  | n + 1, .Guesses___init__ => runDef false 2 7 (m_Guesses___init__ (runs recX n) recX)
  | n + 1, .Guesses_as_table => runDef false 1 2 (m_Guesses_as_table (runs recX n) recX)
  | n + 1, .Guesses_at => runDef false 3 3 (m_Guesses_at (runs recX n) recX)
  | n + 1, .Guesses_has => runDef false 3 3 (m_Guesses_has (runs recX n) recX)
  | n + 1, .Guesses_within => runDef false 2 6 (m_Guesses_within (runs recX n) recX)
  | n + 1, .Guesses___or__ => runDef false 2 7 (m_Guesses___or__ (runs recX n) recX)
  | n + 1, .Guesses___len__ => runDef false 1 1 (m_Guesses___len__ (runs recX n) recX)
  | n + 1, .Guesses___eq__ => runDef false 2 2 (m_Guesses___eq__ (runs recX n) recX)
  | n + 1, .Guesses___str__ => runDef false 1 1 (m_Guesses___str__ (runs recX n) recX)
  | n + 1, ._law_is_right => runDef false 2 7 (m__law_is_right (runs recX n) recX)
  | n + 1, ._law_join => runDef false 2 6 (m__law_join (runs recX n) recX)
  | n + 1, ._law_pair => runDef false 2 2 (m__law_pair (runs recX n) recX)
  | n + 1, ._law_two_right => runDef false 4 7 (m__law_two_right (runs recX n) recX)
  | n + 1, ._law_large_right => runDef false 0 8 (m__law_large_right (runs recX n) recX)
  | n + 1, .law => runDef false 1 10 (m_law (runs recX n) recX)
theorem run_len {recX : RecX} (i : Fid) (n : Nat) (ss : List SV) (st : Store) (h : ss.length ≠ (psOf i).length) : runs recX n i ss st = .stuck := by
  cases n with
  | zero => cases i <;> rfl
  | succ n => cases i <;> exact runDef_len ss st h
end
section
variable {P : Program} {wd : World} {w : Wd} {mg : Str → Option Value} {base : Heap}
def fldX : Xid → List Str
  | .Clash___init__ => ["name", "numbers"]
def clsX : Xid → Nat
  | .Clash___init__ => 6
structure Txt (P : Program) (wd : World) (w : Wd) (mg : Str → Option Value) (fa : Fid → Addr) (fdat : Fid → FuncData) (fx : Xid → Addr) (fdx : Xid → FuncData) (cod cel : Xid → Addr) (fi : Addr) (fdi : FuncData) : Prop where
  sP : w.ct.P = P
  sw : w.ct.wd = wd
  isi : IsiOk w isiT
  fn__law_new : Fun w.K "_law_new" "_law_new" s__law_new (fa ._law_new) (fdat ._law_new)
  bnd__law_new : Binds w.K (fdat ._law_new) ["script"] []
  g__law_new : mg "_law_new" = some (.ref (fa ._law_new))
  fn__law_take : Fun w.K "_law_take" "_law_take" s__law_take (fa ._law_take) (fdat ._law_take)
  bnd__law_take : Binds w.K (fdat ._law_take) ["p", "many"] []
  g__law_take : mg "_law_take" = some (.ref (fa ._law_take))
  fn__law_same : Fun w.K "_law_same" "_law_same" s__law_same (fa ._law_same) (fdat ._law_same)
  bnd__law_same : Binds w.K (fdat ._law_same) ["told", "due"] []
  g__law_same : mg "_law_same" = some (.ref (fa ._law_same))
  fn__law_number : Fun w.K "_law_number" "_law_number" s__law_number (fa ._law_number) (fdat ._law_number)
  bnd__law_number : Binds w.K (fdat ._law_number) ["p"] []
  g__law_number : mg "_law_number" = some (.ref (fa ._law_number))
  fn__law_draw_entry : Fun w.K "_law_draw_entry" "_law_draw_entry" s__law_draw_entry (fa ._law_draw_entry) (fdat ._law_draw_entry)
  bnd__law_draw_entry : Binds w.K (fdat ._law_draw_entry) ["p", "turn"] []
  g__law_draw_entry : mg "_law_draw_entry" = some (.ref (fa ._law_draw_entry))
  fn__law_find : Fun w.K "_law_find" "_law_find" s__law_find (fa ._law_find) (fdat ._law_find)
  bnd__law_find : Binds w.K (fdat ._law_find) ["rows", "name", "numbers"] []
  g__law_find : mg "_law_find" = some (.ref (fa ._law_find))
  fn__law_draw_rows : Fun w.K "_law_draw_rows" "_law_draw_rows" s__law_draw_rows (fa ._law_draw_rows) (fdat ._law_draw_rows)
  bnd__law_draw_rows : Binds w.K (fdat ._law_draw_rows) ["p", "many"] []
  g__law_draw_rows : mg "_law_draw_rows" = some (.ref (fa ._law_draw_rows))
  fn__law_row_text : Fun w.K "_law_row_text" "_law_row_text" s__law_row_text (fa ._law_row_text) (fdat ._law_row_text)
  bnd__law_row_text : Binds w.K (fdat ._law_row_text) ["row"] []
  g__law_row_text : mg "_law_row_text" = some (.ref (fa ._law_row_text))
  fn__law_others : Fun w.K "_law_others" "_law_others" s__law_others (fa ._law_others) (fdat ._law_others)
  bnd__law_others : Binds w.K (fdat ._law_others) ["rows"] []
  g__law_others : mg "_law_others" = some (.ref (fa ._law_others))
  fn__law_all_rows : Fun w.K "_law_all_rows" "_law_all_rows" s__law_all_rows (fa ._law_all_rows) (fdat ._law_all_rows)
  bnd__law_all_rows : Binds w.K (fdat ._law_all_rows) ["rows", "others"] []
  g__law_all_rows : mg "_law_all_rows" = some (.ref (fa ._law_all_rows))
  fn__law_due_join : Fun w.K "_law_due_join" "_law_due_join" s__law_due_join (fa ._law_due_join) (fdat ._law_due_join)
  bnd__law_due_join : Binds w.K (fdat ._law_due_join) ["rows", "others"] []
  g__law_due_join : mg "_law_due_join" = some (.ref (fa ._law_due_join))
  fn__law_part : Fun w.K "_law_part" "_law_part" s__law_part (fa ._law_part) (fdat ._law_part)
  bnd__law_part : Binds w.K (fdat ._law_part) ["rows", "others"] []
  g__law_part : mg "_law_part" = some (.ref (fa ._law_part))
  fn__law_draw_second : Fun w.K "_law_draw_second" "_law_draw_second" s__law_draw_second (fa ._law_draw_second) (fdat ._law_draw_second)
  bnd__law_draw_second : Binds w.K (fdat ._law_draw_second) ["p", "rows", "turn"] []
  g__law_draw_second : mg "_law_draw_second" = some (.ref (fa ._law_draw_second))
  fn__spelt : Fun w.K "_spelt" "_spelt" s__spelt (fa ._spelt) (fdat ._spelt)
  bnd__spelt : Binds w.K (fdat ._spelt) ["text", "characters", "most"] []
  g__spelt : mg "_spelt" = some (.ref (fa ._spelt))
  fn_is_choice : Fun w.K "is_choice" "is_choice" s_is_choice (fa .is_choice) (fdat .is_choice)
  bnd_is_choice : Binds w.K (fdat .is_choice) ["text"] []
  g_is_choice : mg "is_choice" = some (.ref (fa .is_choice))
  fn_key_text : Fun w.K "key_text" "key_text" s_key_text (fa .key_text) (fdat .key_text)
  bnd_key_text : Binds w.K (fdat .key_text) ["name", "numbers"] []
  g_key_text : mg "key_text" = some (.ref (fa .key_text))
  fn_entry_text : Fun w.K "entry_text" "entry_text" s_entry_text (fa .entry_text) (fdat .entry_text)
  bnd_entry_text : Binds w.K (fdat .entry_text) ["name", "numbers", "number"] []
  g_entry_text : mg "entry_text" = some (.ref (fa .entry_text))
  fn_can_be_entry : Fun w.K "can_be_entry" "can_be_entry" s_can_be_entry (fa .can_be_entry) (fdat .can_be_entry)
  bnd_can_be_entry : Binds w.K (fdat .can_be_entry) ["name", "numbers", "number"] []
  g_can_be_entry : mg "can_be_entry" = some (.ref (fa .can_be_entry))
  fn_Guesses___init__ : Fun w.K "__init__" "Guesses.__init__" s_Guesses___init__ (fa .Guesses___init__) (fdat .Guesses___init__)
  bnd_Guesses___init__ : Binds w.K (fdat .Guesses___init__) ["self", "rows"] []
  fn_Guesses_as_table : Fun w.K "as_table" "Guesses.as_table" s_Guesses_as_table (fa .Guesses_as_table) (fdat .Guesses_as_table)
  bnd_Guesses_as_table : Binds w.K (fdat .Guesses_as_table) ["self"] []
  fn_Guesses_at : Fun w.K "at" "Guesses.at" s_Guesses_at (fa .Guesses_at) (fdat .Guesses_at)
  bnd_Guesses_at : Binds w.K (fdat .Guesses_at) ["self", "name", "numbers"] []
  fn_Guesses_has : Fun w.K "has" "Guesses.has" s_Guesses_has (fa .Guesses_has) (fdat .Guesses_has)
  bnd_Guesses_has : Binds w.K (fdat .Guesses_has) ["self", "name", "numbers"] []
  fn_Guesses_within : Fun w.K "within" "Guesses.within" s_Guesses_within (fa .Guesses_within) (fdat .Guesses_within)
  bnd_Guesses_within : Binds w.K (fdat .Guesses_within) ["self", "other"] []
  fn_Guesses___or__ : Fun w.K "__or__" "Guesses.__or__" s_Guesses___or__ (fa .Guesses___or__) (fdat .Guesses___or__)
  bnd_Guesses___or__ : Binds w.K (fdat .Guesses___or__) ["self", "other"] []
  fn_Guesses___len__ : Fun w.K "__len__" "Guesses.__len__" s_Guesses___len__ (fa .Guesses___len__) (fdat .Guesses___len__)
  bnd_Guesses___len__ : Binds w.K (fdat .Guesses___len__) ["self"] []
  fn_Guesses___eq__ : Fun w.K "__eq__" "Guesses.__eq__" s_Guesses___eq__ (fa .Guesses___eq__) (fdat .Guesses___eq__)
  bnd_Guesses___eq__ : Binds w.K (fdat .Guesses___eq__) ["self", "other"] []
  fn_Guesses___str__ : Fun w.K "__str__" "Guesses.__str__" s_Guesses___str__ (fa .Guesses___str__) (fdat .Guesses___str__)
  bnd_Guesses___str__ : Binds w.K (fdat .Guesses___str__) ["self"] []
  fn__law_is_right : Fun w.K "_law_is_right" "_law_is_right" s__law_is_right (fa ._law_is_right) (fdat ._law_is_right)
  bnd__law_is_right : Binds w.K (fdat ._law_is_right) ["guesses", "rows"] []
  g__law_is_right : mg "_law_is_right" = some (.ref (fa ._law_is_right))
  fn__law_join : Fun w.K "_law_join" "_law_join" s__law_join (fa ._law_join) (fdat ._law_join)
  bnd__law_join : Binds w.K (fdat ._law_join) ["first", "second"] []
  g__law_join : mg "_law_join" = some (.ref (fa ._law_join))
  fn__law_pair : Fun w.K "_law_pair" "_law_pair" s__law_pair (fa ._law_pair) (fdat ._law_pair)
  bnd__law_pair : Binds w.K (fdat ._law_pair) ["first", "second"] []
  g__law_pair : mg "_law_pair" = some (.ref (fa ._law_pair))
  fn__law_two_right : Fun w.K "_law_two_right" "_law_two_right" s__law_two_right (fa ._law_two_right) (fdat ._law_two_right)
  bnd__law_two_right : Binds w.K (fdat ._law_two_right) ["first", "rows", "second", "others"] []
  g__law_two_right : mg "_law_two_right" = some (.ref (fa ._law_two_right))
  fn__law_large_right : Fun w.K "_law_large_right" "_law_large_right" s__law_large_right (fa ._law_large_right) (fdat ._law_large_right)
  bnd__law_large_right : Binds w.K (fdat ._law_large_right) [] []
  g__law_large_right : mg "_law_large_right" = some (.ref (fa ._law_large_right))
  fn_law : Fun w.K "law" "law" s_law (fa .law) (fdat .law)
  bnd_law : Binds w.K (fdat .law) ["script"] []
  g_law : mg "law" = some (.ref (fa .law))
  b_abs : mg "abs" = none
  b_all : mg "all" = none
  b_bool : mg "bool" = none
  b_enumerate : mg "enumerate" = none
  b_int : mg "int" = none
  b_isinstance : mg "isinstance" = none
  b_iter : mg "iter" = none
  b_len : mg "len" = none
  b_list : mg "list" = none
  b_range : mg "range" = none
  b_sorted : mg "sorted" = none
  b_str : mg "str" = none
  b_tuple : mg "tuple" = none
  g_CAPITALS : ∃ u, mg "CAPITALS" = some u ∧ RelV (.str "ABCDEFGHIJKLMNOPQRSTUVWXYZ") u
  g_MOST_ENTERED : ∃ u, mg "MOST_ENTERED" = some u ∧ RelV (.int 99999) u
  g_MOST_ENTRIES : ∃ u, mg "MOST_ENTRIES" = some u ∧ RelV (.int 5000) u
  g_MOST_KEY_NUMBERS : ∃ u, mg "MOST_KEY_NUMBERS" = some u ∧ RelV (.int 6) u
  g_SMALL : ∃ u, mg "SMALL" = some u ∧ RelV (.str "abcdefghijklmnopqrstuvwxyz") u
  c_BadEntry : mg "BadEntry" = some (.ref (w.ct 4))
  c_Clash : mg "Clash" = some (.ref (w.ct 6))
  c_Guesses : mg "Guesses" = some (.ref (w.ct 7))
  c_RightatlastError : mg "RightatlastError" = some (.ref (w.ct 0))
  c_RowError : mg "RowError" = some (.ref (w.ct 2))
  c_Standing : mg "Standing" = some (.ref (w.ct 5))
  c_TooLarge : mg "TooLarge" = some (.ref (w.ct 1))
  dun_Guesses___eq__ : DunC w.K (w.ct 7) (fa .Guesses___eq__) "__eq__"
  dun_Guesses___len__ : DunC w.K (w.ct 7) (fa .Guesses___len__) "__len__"
  dun_Guesses___or__ : DunC w.K (w.ct 7) (fa .Guesses___or__) "__or__"
  dun_Guesses___str__ : DunC w.K (w.ct 7) (fa .Guesses___str__) "__str__"
  ox_Clash : OexC w.K (w.ct 6)
  su_Clash : SupC P w.K mg (cod .Clash___init__) (cel .Clash___init__) (w.ct 6) (w.ct 6)
  nf_Clash : ∀ f ∈ fldX .Clash___init__, PySem.W.findIn w.K (.ref (w.ct 6)) f = some none
  iC_Clash : PySem.W.findIn w.K (.ref (w.ct 6)) "__init__" = some (some (.ref (fx .Clash___init__)))
  iT_Clash : PySem.W.typeIn w.K (.ref (fx .Clash___init__)) = some (.type "function")
  bnd_Clash___init__ : Binds w.K (fdx .Clash___init__) (psX .Clash___init__) []
  e0_TooLarge : Err0 w.K (w.ct 1)
  mk_Guesses : Mk w.K (w.ct 7) (fa .Guesses___init__)
  me_Guesses_as_table : Meth w.K (w.ct 7) "as_table" (fa .Guesses_as_table)
  me_Guesses_at : Meth w.K (w.ct 7) "at" (fa .Guesses_at)
  me_Guesses_has : Meth w.K (w.ct 7) "has" (fa .Guesses_has)
  me_Guesses_within : Meth w.K (w.ct 7) "within" (fa .Guesses_within)
  lit_Guesses : LitC w.K (w.ct 7) fi (fa .Guesses___len__)
  bndi_Guesses : Binds w.K fdi ["self"] []
  fni_Guesses : Fun w.K "__iter__" "Guesses.__iter__" si_Guesses fi fdi
  xc_Clash : ExcC w.K (w.ct 6)
  xc_TooLarge : ExcC w.K (w.ct 1)
  xf_Clash : XfC w.K (w.ct 6)
  xn_Clash_name : PySem.W.findIn w.K (.ref (w.ct 6)) "name" = some none
  xn_Clash_numbers : PySem.W.findIn w.K (.ref (w.ct 6)) "numbers" = some none
  xm_Clash_Clash : PySem.W.exmOne w.K (.ref (w.ct 6)) (.ref (w.ct 6)) = some true
  xm_Clash_TooLarge : PySem.W.exmOne w.K (.ref (w.ct 6)) (.ref (w.ct 1)) = some false
  xm_TooLarge_Clash : PySem.W.exmOne w.K (.ref (w.ct 1)) (.ref (w.ct 6)) = some false
  xm_TooLarge_TooLarge : PySem.W.exmOne w.K (.ref (w.ct 1)) (.ref (w.ct 1)) = some true
  cl_Guesses : Cls w.K (w.ct 7)
  na_Guesses__table : NoAttr w.K (w.ct 7) "_table"
  na_Guesses_rows : NoAttr w.K (w.ct 7) "rows"
  na_Guesses_text : NoAttr w.K (w.ct 7) "text"
variable {fa : Fid → Addr} {fdat : Fid → FuncData} {fx : Xid → Addr} {fdx : Xid → FuncData} {cod cel : Xid → Addr} {recX : RecX} {fi : Addr} {fdi : FuncData}
def AllOk (P : Program) (wd : World) (w : Wd) (mg : Str → Option Value) (base : Heap) (fa : Fid → Addr) (fdat : Fid → FuncData) (recX : RecX) (n : Nat) : Prop := ∀ i, FnOk P wd w.K mg base (L2.CX P wd) (5 * n) (fa i) (fdat i) (psOf i) (spOf w (psOf i).length (runs recX n i))
def AllX (P : Program) (wd : World) (w : Wd) (mg : Str → Option Value) (base : Heap) (fx : Xid → Addr) (fdx : Xid → FuncData) (cod cel : Xid → Addr) (recX : RecX) (n : Nat) : Prop := ∀ i, FnOk P wd w.K mg base (L2.CX P wd) (5 * n + 1) (fx i) (fdx i) (psX i) (spX w P mg (cod i) (cel i) (w.ct (clsX i)) (fldX i) (psX i).length (recX i))
theorem fi_Guesses (T : Txt P wd w mg fa fdat fx fdx cod cel fi fdi) {k : Nat} : FnOk P wd w.K mg base (L2.CX P wd) (k + 1) fi fdi ["self"] (spIt w.K (w.ct 7) "rows") :=
  T.fni_Guesses.okX sci_Guesses (fun vs H Q E h => by obtain ⟨_, _, _, _, _, rfl, _⟩ := h; rfl) fun cdv A outer s' H vs Q E hr hsp => ⟨_, pss_one (ps_ret (pe_callB call_iterT rfl T.b_iter (by decide +kernel) (pa_cons (pe_fld (pv 0) rfl) pa_nil))), it_read T.cl_Guesses T.na_Guesses_rows hsp⟩
theorem ok__law_new (T : Txt P wd w mg fa fdat fx fdx cod cel fi fdi) {n : Nat} (G : AllOk P wd w mg base fa fdat recX n) (GX : AllX P wd w mg base fx fdx cod cel recX n) (runX_len : ∀ i ss st, ss.length + 1 ≠ (psX i).length → recX i ss st = .stuck) : FnOk P wd w.K mg base (L2.CX P wd) (5 * n + 4 + 1) (fa ._law_new) (fdat ._law_new) ["script"] (spOf w 1 (runDef true 1 2 (m__law_new (runs recX n) recX))) :=
  fn_okC T.fn__law_new sc__law_new fun cdv A outer s' H E tk hp hr4 =>
    have hu := hr4.units
    have hu5 := hr4.units65
    have hr := hr4.mono (Nat.add_le_add_left (show 2 ≤ 4 by decide) (5 * n))
    have hr0 := hr4.mono (Nat.le_add_right (5 * n) 4)
    have hr1 := hr4.mono (Nat.add_le_add_left (show 1 ≤ 4 by decide) (5 * n))
    have S : Same w (cxD P wd w.K mg base N__law_new "_law_new" s__law_new (fa ._law_new) cdv A outer s' H E) := ⟨rfl, T.sP, T.sw⟩
    (vss_one (vs_ret (ve_lstM (va_cons (ve_lc (own := [("cell", 1)]) rfl sc__law_new.nd (vi_data (ve_slice (ve_var (pv 0)) vp_none (vp_some (ve_c (d := .int 63) pe_int fun _ => mkI)))) (by decide) (blkOk_by (N := N__law_new) (sc := defScope s__law_new) (by decide +kernel)) (fun _ _ _ _ _ => (pg_name (i := 1) sc__law_new.nd rfl (Or.inl rfl))) (fun _ _ _ _ _ => vpts_nil) (fun _ _ _ _ _ => (ve_callB cd_abs rfl T.b_abs boot_abs (va_cons (ve_var (pv 1)) va_nil)))) (va_cons (ve_c (d := .int 0) pe_int fun _ => mkI) (va_cons (ve_c (d := .int 0) pe_int fun _ => mkI) (va_cons (ve_c (d := .int 0) pe_int fun _ => mkI) va_nil)))))))
theorem ok__law_take (T : Txt P wd w mg fa fdat fx fdx cod cel fi fdi) {n : Nat} (G : AllOk P wd w mg base fa fdat recX n) (GX : AllX P wd w mg base fx fdx cod cel recX n) (runX_len : ∀ i ss st, ss.length + 1 ≠ (psX i).length → recX i ss st = .stuck) : FnOk P wd w.K mg base (L2.CX P wd) (5 * n + 4 + 1) (fa ._law_take) (fdat ._law_take) ["p", "many"] (spOf w 2 (runDef false 2 3 (m__law_take (runs recX n) recX))) :=
  fn_okC T.fn__law_take sc__law_take fun cdv A outer s' H E tk hp hr4 =>
    have hu := hr4.units
    have hu5 := hr4.units65
    have hr := hr4.mono (Nat.add_le_add_left (show 2 ≤ 4 by decide) (5 * n))
    have hr0 := hr4.mono (Nat.le_add_right (5 * n) 4)
    have hr1 := hr4.mono (Nat.add_le_add_left (show 1 ≤ 4 by decide) (5 * n))
    have S : Same w (cxD P wd w.K mg base N__law_take "_law_take" s__law_take (fa ._law_take) cdv A outer s' H E) := ⟨rfl, T.sP, T.sw⟩
    (vss_cons (vs_if (vt_cmp (od_eq hu) (ve_ix (id_ix2 S hu) (ve_var (pv 0)) (ve_c (d := .int 2) pe_int fun _ => mkI) (fun _ _ => rfl)) (ve_c (d := .int 0) pe_int fun _ => mkI) (nomark _)) (vss_cons (vs_if (vt_not (vt_truth (ve_ix (id_ix2 S hu) (ve_var (pv 0)) (ve_c (d := .int 0) pe_int fun _ => mkI) (fun _ _ => rfl)))) (vss_one (vs_ret (ve_c (d := .int 0) pe_int fun _ => mkI))) vss_nil)
      (vss_cons (vs_if (vt_cmp (od_eq hu) (ve_ix (id_ix2 S hu) (ve_var (pv 0)) (ve_c (d := .int 1) pe_int fun _ => mkI) (fun _ _ => rfl)) (ve_callB cd_len rfl T.b_len boot_len (va_cons (ve_ix (id_ix2 S hu) (ve_var (pv 0)) (ve_c (d := .int 0) pe_int fun _ => mkI) (fun _ _ => rfl)) va_nil)) (nomark _)) (vss_cons (vs_setIx (ve_c (d := .int 0) pe_int fun _ => mkI) (ve_var (pv 0)) (ve_c (d := .int 1) pe_int fun _ => mkI))
      (vss_one (vs_setIx (ve_op od_add (ve_ix (id_ix2 S hu) (ve_var (pv 0)) (ve_c (d := .int 3) pe_int fun _ => mkI) (fun _ _ => rfl)) (ve_c (d := .int 1) pe_int fun _ => mkI)) (ve_var (pv 0)) (ve_c (d := .int 3) pe_int fun _ => mkI)))) vss_nil)
      (vss_cons (vs_setIx (ve_op od_add (ve_ix (id_ix2 S hu) (ve_ix (id_ix2 S hu) (ve_var (pv 0)) (ve_c (d := .int 0) pe_int fun _ => mkI) (fun _ _ => rfl)) (ve_ix (id_ix2 S hu) (ve_var (pv 0)) (ve_c (d := .int 1) pe_int fun _ => mkI) (fun _ _ => rfl)) (fun _ _ => rfl)) (ve_op od_mul (ve_ix (id_ix2 S hu) (ve_var (pv 0)) (ve_c (d := .int 3) pe_int fun _ => mkI) (fun _ _ => rfl)) (ve_c (d := .int 7919) pe_int fun _ => mkI))) (ve_var (pv 0)) (ve_c (d := .int 2) pe_int fun _ => mkI))
      (vss_one (vs_setIx (ve_op od_add (ve_ix (id_ix2 S hu) (ve_var (pv 0)) (ve_c (d := .int 1) pe_int fun _ => mkI) (fun _ _ => rfl)) (ve_c (d := .int 1) pe_int fun _ => mkI)) (ve_var (pv 0)) (ve_c (d := .int 1) pe_int fun _ => mkI)))))) vss_nil)
      (vss_cons (vs_set (i := 2) sc__law_take.nd rfl (by first | exact Or.inl rfl | exact Or.inr rfl) (ve_op od_mod (ve_callTy cd_int rfl T.b_int (by decide +kernel) (va_cons (ve_ix (id_ix2 S hu) (ve_var (pv 0)) (ve_c (d := .int 2) pe_int fun _ => mkI) (fun _ _ => rfl)) va_nil)) (ve_var (pv 1))))
      (vss_cons (vs_setIx (ve_op od_fdiv (ve_callTy cd_int rfl T.b_int (by decide +kernel) (va_cons (ve_ix (id_ix2 S hu) (ve_var (pv 0)) (ve_c (d := .int 2) pe_int fun _ => mkI) (fun _ _ => rfl)) va_nil)) (ve_var (pv 1))) (ve_var (pv 0)) (ve_c (d := .int 2) pe_int fun _ => mkI))
      (vss_one (vs_ret (ve_var (pv 2)))))))
theorem ok__law_same (T : Txt P wd w mg fa fdat fx fdx cod cel fi fdi) {n : Nat} (G : AllOk P wd w mg base fa fdat recX n) (GX : AllX P wd w mg base fx fdx cod cel recX n) (runX_len : ∀ i ss st, ss.length + 1 ≠ (psX i).length → recX i ss st = .stuck) : FnOk P wd w.K mg base (L2.CX P wd) (5 * n + 4 + 1) (fa ._law_same) (fdat ._law_same) ["told", "due"] (spOf w 2 (runDef false 2 3 (m__law_same (runs recX n) recX))) :=
  fn_okC T.fn__law_same sc__law_same fun cdv A outer s' H E tk hp hr4 =>
    have hu := hr4.units
    have hu5 := hr4.units65
    have hr := hr4.mono (Nat.add_le_add_left (show 2 ≤ 4 by decide) (5 * n))
    have hr0 := hr4.mono (Nat.le_add_right (5 * n) 4)
    have hr1 := hr4.mono (Nat.add_le_add_left (show 1 ≤ 4 by decide) (5 * n))
    have S : Same w (cxD P wd w.K mg base N__law_same "_law_same" s__law_same (fa ._law_same) cdv A outer s' H E) := ⟨rfl, T.sP, T.sw⟩
    (vss_cons (vs_if (vt_truth (ve_callB (cd_isi T.isi) rfl T.b_isinstance boot_isinstance (va_cons (ve_var (pv 1)) (va_cons (ve_c (d := .ty "bool") (pe_bltn (v := .ty "bool") rfl T.b_bool boot_bool rfl) fun _ => mkTy) va_nil)))) (vss_one (vs_ret (ve_and (ve_callB (cd_isi T.isi) rfl T.b_isinstance boot_isinstance (va_cons (ve_var (pv 0)) (va_cons (ve_c (d := .ty "bool") (pe_bltn (v := .ty "bool") rfl T.b_bool boot_bool rfl) fun _ => mkTy) va_nil))) (pe_one (ve_cmp (od_eq hu) (ve_var (pv 0)) (ve_var (pv 1)) (nomark _)))))) vss_nil)
      (vss_cons (vs_if (vt_truth (ve_callB (cd_isi T.isi) rfl T.b_isinstance boot_isinstance (va_cons (ve_var (pv 1)) (va_cons (ve_c (d := .ty "int") (pe_bltn (v := .ty "int") rfl T.b_int boot_int rfl) fun _ => mkTy) va_nil)))) (vss_one (vs_ret (ve_and (ve_callB (cd_isi T.isi) rfl T.b_isinstance boot_isinstance (va_cons (ve_var (pv 0)) (va_cons (ve_c (d := .ty "int") (pe_bltn (v := .ty "int") rfl T.b_int boot_int rfl) fun _ => mkTy) va_nil))) (ve_and (ve_not (ve_callB (cd_isi T.isi) rfl T.b_isinstance boot_isinstance (va_cons (ve_var (pv 0)) (va_cons (ve_c (d := .ty "bool") (pe_bltn (v := .ty "bool") rfl T.b_bool boot_bool rfl) fun _ => mkTy) va_nil)))) (pe_one (ve_cmp (od_eq hu) (ve_var (pv 0)) (ve_var (pv 1)) (nomark _))))))) vss_nil)
      (vss_cons (vs_if (vt_truth (ve_callB (cd_isi T.isi) rfl T.b_isinstance boot_isinstance (va_cons (ve_var (pv 1)) (va_cons (ve_c (d := .ty "str") (pe_bltn (v := .ty "str") rfl T.b_str boot_str rfl) fun _ => mkTy) va_nil)))) (vss_one (vs_ret (ve_and (ve_callB (cd_isi T.isi) rfl T.b_isinstance boot_isinstance (va_cons (ve_var (pv 0)) (va_cons (ve_c (d := .ty "str") (pe_bltn (v := .ty "str") rfl T.b_str boot_str rfl) fun _ => mkTy) va_nil))) (pe_one (ve_cmp (od_eq hu) (ve_var (pv 0)) (ve_var (pv 1)) (nomark _)))))) vss_nil)
      (vss_cons (vs_if (vt_cmp od_isN (ve_var (pv 1)) (ve_c (d := .non) pe_non fun _ => mkN) (nomark _)) (vss_one (vs_ret (ve_cmp od_isN (ve_var (pv 0)) (ve_c (d := .non) pe_non fun _ => mkN) (nomark _)))) vss_nil)
      (vss_cons (vs_if (PW.pt (vw_or (vt_not (vt_truth (ve_callB (cd_isi T.isi) rfl T.b_isinstance boot_isinstance (va_cons (ve_var (pv 0)) (va_cons (ve_c (d := .ty "tuple") (pe_bltn (v := .ty "tuple") rfl T.b_tuple boot_tuple rfl) fun _ => mkTy) va_nil))))) (vw_or1 (vt_cmp (od_ne hu) (ve_callB cd_len rfl T.b_len boot_len (va_cons (ve_var (pv 0)) va_nil)) (ve_callB cd_len rfl T.b_len boot_len (va_cons (ve_var (pv 1)) va_nil)) (nomark _))))) (vss_one (vs_ret (ve_c (d := .bl false) pe_bl fun _ => mkB))) vss_nil)
      (vss_cons (vs_for hp rfl (vi_range1 (ve_callB cd_len rfl T.b_len boot_len (va_cons (ve_var (pv 1)) va_nil)) rfl T.b_range) (pg_name (i := 2) sc__law_same.nd rfl (Or.inl rfl)) (vss_one (vs_if (vt_not (vt_truth (ve_call (G ._law_same) hr0 rfl T.g__law_same T.fn__law_same.kp T.bnd__law_same tk (va_cons (ve_ix (id_ix2 S hu) (ve_var (pv 0)) (ve_var (pv 2)) (fun _ _ => rfl)) (va_cons (ve_ix (id_ix2 S hu) (ve_var (pv 1)) (ve_var (pv 2)) (fun _ _ => rfl)) va_nil)) (run_len ._law_same n)))) (vss_one (vs_ret (ve_c (d := .bl false) pe_bl fun _ => mkB))) vss_nil)))
      (vss_one (vs_ret (ve_c (d := .bl true) pe_bl fun _ => mkB)))))))))
theorem ok__law_number (T : Txt P wd w mg fa fdat fx fdx cod cel fi fdi) {n : Nat} (G : AllOk P wd w mg base fa fdat recX n) (GX : AllX P wd w mg base fx fdx cod cel recX n) (runX_len : ∀ i ss st, ss.length + 1 ≠ (psX i).length → recX i ss st = .stuck) : FnOk P wd w.K mg base (L2.CX P wd) (5 * n + 4 + 1) (fa ._law_number) (fdat ._law_number) ["p"] (spOf w 1 (runDef false 1 2 (m__law_number (runs recX n) recX))) :=
  fn_okC T.fn__law_number sc__law_number fun cdv A outer s' H E tk hp hr4 =>
    have hu := hr4.units
    have hu5 := hr4.units65
    have hr := hr4.mono (Nat.add_le_add_left (show 2 ≤ 4 by decide) (5 * n))
    have hr0 := hr4.mono (Nat.le_add_right (5 * n) 4)
    have hr1 := hr4.mono (Nat.add_le_add_left (show 1 ≤ 4 by decide) (5 * n))
    have S : Same w (cxD P wd w.K mg base N__law_number "_law_number" s__law_number (fa ._law_number) cdv A outer s' H E) := ⟨rfl, T.sP, T.sw⟩
    (vss_cons (vs_set (i := 1) sc__law_number.nd rfl (by first | exact Or.inl rfl | exact Or.inr rfl) (ve_call (G ._law_take) hr0 rfl T.g__law_take T.fn__law_take.kp T.bnd__law_take tk (va_cons (ve_var (pv 0)) (va_cons (ve_c (d := .int 13) pe_int fun _ => mkI) va_nil)) (run_len ._law_take n)))
      (vss_cons (vs_if (vt_cmp od_lt (ve_var (pv 1)) (ve_c (d := .int 12) pe_int fun _ => mkI) (nomark _)) (vss_one (vs_ret (ve_var (pv 1)))) vss_nil)
      (vss_one (vs_ret (ve_ix (id_ix2 S hu) (ve_lst (va_cons (ve_c (d := .int 99999) pe_int fun _ => mkI) (va_cons (ve_c (d := .int 99998) pe_int fun _ => mkI) (va_cons (ve_c (d := .int 100) pe_int fun _ => mkI) (va_cons (ve_c (d := .int 1000) pe_int fun _ => mkI) (va_cons (ve_c (d := .int 12345) pe_int fun _ => mkI) va_nil)))))) (ve_call (G ._law_take) hr0 rfl T.g__law_take T.fn__law_take.kp T.bnd__law_take tk (va_cons (ve_var (pv 0)) (va_cons (ve_c (d := .int 5) pe_int fun _ => mkI) va_nil)) (run_len ._law_take n)) (fun _ _ => rfl))))))
theorem ok__law_draw_entry (T : Txt P wd w mg fa fdat fx fdx cod cel fi fdi) {n : Nat} (G : AllOk P wd w mg base fa fdat recX n) (GX : AllX P wd w mg base fx fdx cod cel recX n) (runX_len : ∀ i ss st, ss.length + 1 ≠ (psX i).length → recX i ss st = .stuck) : FnOk P wd w.K mg base (L2.CX P wd) (5 * n + 4 + 1) (fa ._law_draw_entry) (fdat ._law_draw_entry) ["p", "turn"] (spOf w 2 (runDef false 2 8 (m__law_draw_entry (runs recX n) recX))) :=
  fn_okC T.fn__law_draw_entry sc__law_draw_entry fun cdv A outer s' H E tk hp hr4 =>
    have hu := hr4.units
    have hu5 := hr4.units65
    have hr := hr4.mono (Nat.add_le_add_left (show 2 ≤ 4 by decide) (5 * n))
    have hr0 := hr4.mono (Nat.le_add_right (5 * n) 4)
    have hr1 := hr4.mono (Nat.add_le_add_left (show 1 ≤ 4 by decide) (5 * n))
    have S : Same w (cxD P wd w.K mg base N__law_draw_entry "_law_draw_entry" s__law_draw_entry (fa ._law_draw_entry) cdv A outer s' H E) := ⟨rfl, T.sP, T.sw⟩
    (vss_cons (vs_set (i := 2) sc__law_draw_entry.nd rfl (by first | exact Or.inl rfl | exact Or.inr rfl) (ve_c (d := .str "ABCDEFGHIJKLMNOPQRSTUVWXYZ") pe_str fun _ => mkS))
      (vss_cons (vs_set (i := 3) sc__law_draw_entry.nd rfl (by first | exact Or.inl rfl | exact Or.inr rfl) (ve_c (d := .str "abcdefghijklmnopqrstuvwxyz") pe_str fun _ => mkS))
      (vss_cons (vs_set (i := 4) sc__law_draw_entry.nd rfl (by first | exact Or.inl rfl | exact Or.inr rfl) (ve_ix (id_ix2 S hu) (ve_lst (va_cons (ve_c (d := .str "Low") pe_str fun _ => mkS) (va_cons (ve_c (d := .str "Ca") pe_str fun _ => mkS) (va_cons (ve_c (d := .str "Pick") pe_str fun _ => mkS) (va_cons (ve_c (d := .str "Cab") pe_str fun _ => mkS) (va_cons (ve_c (d := .str "Cb") pe_str fun _ => mkS) (va_cons (ve_c (d := .str "Zz") pe_str fun _ => mkS) (va_cons (ve_c (d := .str "Abcdefgh") pe_str fun _ => mkS) va_nil)))))))) (ve_op od_mod (ve_callTy cd_int rfl T.b_int (by decide +kernel) (va_cons (ve_op od_add (ve_call (G ._law_take) hr0 rfl T.g__law_take T.fn__law_take.kp T.bnd__law_take tk (va_cons (ve_var (pv 0)) (va_cons (ve_c (d := .int 7) pe_int fun _ => mkI) va_nil)) (run_len ._law_take n)) (ve_var (pv 1))) va_nil)) (ve_c (d := .int 7) pe_int fun _ => mkI)) (fun _ _ => rfl)))
      (vss_cons (vs_if (vt_cmp (od_eq hu) (ve_call (G ._law_take) hr0 rfl T.g__law_take T.fn__law_take.kp T.bnd__law_take tk (va_cons (ve_var (pv 0)) (va_cons (ve_c (d := .int 5) pe_int fun _ => mkI) va_nil)) (run_len ._law_take n)) (ve_c (d := .int 4) pe_int fun _ => mkI) (nomark _)) (vss_cons (vs_set (i := 4) sc__law_draw_entry.nd rfl (by first | exact Or.inl rfl | exact Or.inr rfl) (ve_ix (id_ix2 S hu) (ve_var (pv 2)) (ve_call (G ._law_take) hr0 rfl T.g__law_take T.fn__law_take.kp T.bnd__law_take tk (va_cons (ve_var (pv 0)) (va_cons (ve_c (d := .int 26) pe_int fun _ => mkI) va_nil)) (run_len ._law_take n)) (fun _ _ => rfl)))
      (vss_one (vs_for hp rfl (vi_range1 (ve_op od_add (ve_c (d := .int 1) pe_int fun _ => mkI) (ve_call (G ._law_take) hr0 rfl T.g__law_take T.fn__law_take.kp T.bnd__law_take tk (va_cons (ve_var (pv 0)) (va_cons (ve_c (d := .int 7) pe_int fun _ => mkI) va_nil)) (run_len ._law_take n))) rfl T.b_range) (pg_name (i := 5) sc__law_draw_entry.nd rfl (Or.inl rfl)) (vss_one (vs_set (i := 4) sc__law_draw_entry.nd rfl (by first | exact Or.inl rfl | exact Or.inr rfl) (ve_op od_add (ve_var (pv 4)) (ve_ix (id_ix2 S hu) (ve_var (pv 3)) (ve_call (G ._law_take) hr0 rfl T.g__law_take T.fn__law_take.kp T.bnd__law_take tk (va_cons (ve_var (pv 0)) (va_cons (ve_c (d := .int 26) pe_int fun _ => mkI) va_nil)) (run_len ._law_take n)) (fun _ _ => rfl)))))))) vss_nil)
      (vss_cons (vs_set (i := 6) sc__law_draw_entry.nd rfl (by first | exact Or.inl rfl | exact Or.inr rfl) (ve_lstM va_nil))
      (vss_cons (vs_for hp rfl (vi_range1 (ve_ix (id_ix2 S hu) (ve_lst (va_cons (ve_c (d := .int 1) pe_int fun _ => mkI) (va_cons (ve_c (d := .int 0) pe_int fun _ => mkI) (va_cons (ve_c (d := .int 2) pe_int fun _ => mkI) (va_cons (ve_c (d := .int 1) pe_int fun _ => mkI) (va_cons (ve_c (d := .int 3) pe_int fun _ => mkI) (va_cons (ve_c (d := .int 6) pe_int fun _ => mkI) (va_cons (ve_c (d := .int 4) pe_int fun _ => mkI) (va_cons (ve_c (d := .int 5) pe_int fun _ => mkI) va_nil))))))))) (ve_op od_mod (ve_callTy cd_int rfl T.b_int (by decide +kernel) (va_cons (ve_op od_add (ve_call (G ._law_take) hr0 rfl T.g__law_take T.fn__law_take.kp T.bnd__law_take tk (va_cons (ve_var (pv 0)) (va_cons (ve_c (d := .int 8) pe_int fun _ => mkI) va_nil)) (run_len ._law_take n)) (ve_var (pv 1))) va_nil)) (ve_c (d := .int 8) pe_int fun _ => mkI)) (fun _ _ => rfl)) rfl T.b_range) (pg_name (i := 5) sc__law_draw_entry.nd rfl (Or.inl rfl)) (vss_one (vs_expr (ve_append (ve_var (pv 6)) (ve_call (G ._law_number) hr0 rfl T.g__law_number T.fn__law_number.kp T.bnd__law_number tk (va_cons (ve_var (pv 0)) va_nil) (run_len ._law_number n))))))
      (vss_cons (vs_set (i := 7) sc__law_draw_entry.nd rfl (by first | exact Or.inl rfl | exact Or.inr rfl) (ve_call (G ._law_number) hr0 rfl T.g__law_number T.fn__law_number.kp T.bnd__law_number tk (va_cons (ve_var (pv 0)) va_nil) (run_len ._law_number n)))
      (vss_cons (vs_if (vt_cmp od_lt (ve_var (pv 7)) (ve_c (d := .int 12) pe_int fun _ => mkI) (nomark _)) (vss_one (vs_set (i := 7) sc__law_draw_entry.nd rfl (by first | exact Or.inl rfl | exact Or.inr rfl) (ve_op od_mod (ve_callTy cd_int rfl T.b_int (by decide +kernel) (va_cons (ve_op od_add (ve_op od_add (ve_var (pv 7)) (ve_var (pv 1))) (ve_c (d := .int 1) pe_int fun _ => mkI)) va_nil)) (ve_c (d := .int 12) pe_int fun _ => mkI)))) vss_nil)
      (vss_one (vs_ret (ve_tup (va_cons (ve_var (pv 4)) (va_cons (ve_callTy cd_tuple rfl T.b_tuple (by decide +kernel) (va_cons (ve_var (pv 6)) va_nil)) (va_cons (ve_var (pv 7)) va_nil))))))))))))))
theorem ok__law_find (T : Txt P wd w mg fa fdat fx fdx cod cel fi fdi) {n : Nat} (G : AllOk P wd w mg base fa fdat recX n) (GX : AllX P wd w mg base fx fdx cod cel recX n) (runX_len : ∀ i ss st, ss.length + 1 ≠ (psX i).length → recX i ss st = .stuck) : FnOk P wd w.K mg base (L2.CX P wd) (5 * n + 4 + 1) (fa ._law_find) (fdat ._law_find) ["rows", "name", "numbers"] (spOf w 3 (runDef false 3 4 (m__law_find (runs recX n) recX))) :=
  fn_okC T.fn__law_find sc__law_find fun cdv A outer s' H E tk hp hr4 =>
    have hu := hr4.units
    have hu5 := hr4.units65
    have hr := hr4.mono (Nat.add_le_add_left (show 2 ≤ 4 by decide) (5 * n))
    have hr0 := hr4.mono (Nat.le_add_right (5 * n) 4)
    have hr1 := hr4.mono (Nat.add_le_add_left (show 1 ≤ 4 by decide) (5 * n))
    have S : Same w (cxD P wd w.K mg base N__law_find "_law_find" s__law_find (fa ._law_find) cdv A outer s' H E) := ⟨rfl, T.sP, T.sw⟩
    (vss_cons (vs_for hp rfl (vi_range1 (ve_callB cd_len rfl T.b_len boot_len (va_cons (ve_var (pv 0)) va_nil)) rfl T.b_range) (pg_name (i := 3) sc__law_find.nd rfl (Or.inl rfl)) (vss_one (vs_if (PW.pt (vw_and (vt_cmp (od_eq hu) (ve_ix (id_ix2 S hu) (ve_ix (id_ix2 S hu) (ve_var (pv 0)) (ve_var (pv 3)) (fun _ _ => rfl)) (ve_c (d := .int 0) pe_int fun _ => mkI) (fun _ _ => rfl)) (ve_var (pv 1)) (nomark _)) (vw_and1 (vt_cmp (od_eq hu) (ve_ix (id_ix2 S hu) (ve_ix (id_ix2 S hu) (ve_var (pv 0)) (ve_var (pv 3)) (fun _ _ => rfl)) (ve_c (d := .int 1) pe_int fun _ => mkI) (fun _ _ => rfl)) (ve_var (pv 2)) (nomark _))))) (vss_one (vs_ret (ve_var (pv 3)))) vss_nil)))
      (vss_one (vs_ret (ve_negc))))
theorem ok__law_draw_rows (T : Txt P wd w mg fa fdat fx fdx cod cel fi fdi) {n : Nat} (G : AllOk P wd w mg base fa fdat recX n) (GX : AllX P wd w mg base fx fdx cod cel recX n) (runX_len : ∀ i ss st, ss.length + 1 ≠ (psX i).length → recX i ss st = .stuck) : FnOk P wd w.K mg base (L2.CX P wd) (5 * n + 4 + 1) (fa ._law_draw_rows) (fdat ._law_draw_rows) ["p", "many"] (spOf w 2 (runDef false 2 5 (m__law_draw_rows (runs recX n) recX))) :=
  fn_okC T.fn__law_draw_rows sc__law_draw_rows fun cdv A outer s' H E tk hp hr4 =>
    have hu := hr4.units
    have hu5 := hr4.units65
    have hr := hr4.mono (Nat.add_le_add_left (show 2 ≤ 4 by decide) (5 * n))
    have hr0 := hr4.mono (Nat.le_add_right (5 * n) 4)
    have hr1 := hr4.mono (Nat.add_le_add_left (show 1 ≤ 4 by decide) (5 * n))
    have S : Same w (cxD P wd w.K mg base N__law_draw_rows "_law_draw_rows" s__law_draw_rows (fa ._law_draw_rows) cdv A outer s' H E) := ⟨rfl, T.sP, T.sw⟩
    (vss_cons (vs_set (i := 2) sc__law_draw_rows.nd rfl (by first | exact Or.inl rfl | exact Or.inr rfl) (ve_lstM va_nil))
      (vss_cons (vs_for hp rfl (vi_range1 (ve_var (pv 1)) rfl T.b_range) (pg_name (i := 3) sc__law_draw_rows.nd rfl (Or.inl rfl)) (vss_cons (vs_set (i := 4) sc__law_draw_rows.nd rfl (by first | exact Or.inl rfl | exact Or.inr rfl) (ve_call (G ._law_draw_entry) hr0 rfl T.g__law_draw_entry T.fn__law_draw_entry.kp T.bnd__law_draw_entry tk (va_cons (ve_var (pv 0)) (va_cons (ve_var (pv 3)) va_nil)) (run_len ._law_draw_entry n)))
      (vss_cons (vs_if (PW.pt (vw_and (vt_cmp od_gt (ve_callB cd_len rfl T.b_len boot_len (va_cons (ve_var (pv 2)) va_nil)) (ve_c (d := .int 0) pe_int fun _ => mkI) (nomark _)) (vw_and1 (vt_cmp (od_eq hu) (ve_call (G ._law_take) hr0 rfl T.g__law_take T.fn__law_take.kp T.bnd__law_take tk (va_cons (ve_var (pv 0)) (va_cons (ve_c (d := .int 3) pe_int fun _ => mkI) va_nil)) (run_len ._law_take n)) (ve_c (d := .int 2) pe_int fun _ => mkI) (nomark _))))) (vss_one (vs_set (i := 4) sc__law_draw_rows.nd rfl (by first | exact Or.inl rfl | exact Or.inr rfl) (ve_tup (va_cons (ve_ix (id_ix2 S hu) (ve_ix (id_ix2 S hu) (ve_var (pv 2)) (ve_c (d := .int 0) pe_int fun _ => mkI) (fun _ _ => rfl)) (ve_c (d := .int 0) pe_int fun _ => mkI) (fun _ _ => rfl)) (va_cons (ve_ix (id_ix2 S hu) (ve_var (pv 4)) (ve_c (d := .int 1) pe_int fun _ => mkI) (fun _ _ => rfl)) (va_cons (ve_ix (id_ix2 S hu) (ve_var (pv 4)) (ve_c (d := .int 2) pe_int fun _ => mkI) (fun _ _ => rfl)) va_nil)))))) vss_nil)
      (vss_one (vs_if (vt_cmp od_lt (ve_call (G ._law_find) hr0 rfl T.g__law_find T.fn__law_find.kp T.bnd__law_find tk (va_cons (ve_var (pv 2)) (va_cons (ve_ix (id_ix2 S hu) (ve_var (pv 4)) (ve_c (d := .int 0) pe_int fun _ => mkI) (fun _ _ => rfl)) (va_cons (ve_ix (id_ix2 S hu) (ve_var (pv 4)) (ve_c (d := .int 1) pe_int fun _ => mkI) (fun _ _ => rfl)) va_nil))) (run_len ._law_find n)) (ve_c (d := .int 0) pe_int fun _ => mkI) (nomark _)) (vss_one (vs_expr (ve_append (ve_var (pv 2)) (ve_var (pv 4))))) vss_nil)))))
      (vss_one (vs_ret (ve_var (pv 2))))))
theorem ok__law_row_text (T : Txt P wd w mg fa fdat fx fdx cod cel fi fdi) {n : Nat} (G : AllOk P wd w mg base fa fdat recX n) (GX : AllX P wd w mg base fx fdx cod cel recX n) (runX_len : ∀ i ss st, ss.length + 1 ≠ (psX i).length → recX i ss st = .stuck) : FnOk P wd w.K mg base (L2.CX P wd) (5 * n + 4 + 1) (fa ._law_row_text) (fdat ._law_row_text) ["row"] (spOf w 1 (runDef false 1 3 (m__law_row_text (runs recX n) recX))) :=
  fn_okC T.fn__law_row_text sc__law_row_text fun cdv A outer s' H E tk hp hr4 =>
    have hu := hr4.units
    have hu5 := hr4.units65
    have hr := hr4.mono (Nat.add_le_add_left (show 2 ≤ 4 by decide) (5 * n))
    have hr0 := hr4.mono (Nat.le_add_right (5 * n) 4)
    have hr1 := hr4.mono (Nat.add_le_add_left (show 1 ≤ 4 by decide) (5 * n))
    have S : Same w (cxD P wd w.K mg base N__law_row_text "_law_row_text" s__law_row_text (fa ._law_row_text) cdv A outer s' H E) := ⟨rfl, T.sP, T.sw⟩
    (vss_cons (vs_set (i := 1) sc__law_row_text.nd rfl (by first | exact Or.inl rfl | exact Or.inr rfl) (ve_ix (id_ix2 S hu) (ve_var (pv 0)) (ve_c (d := .int 0) pe_int fun _ => mkI) (fun _ _ => rfl)))
      (vss_cons (vs_if (vt_cmp od_gt (ve_callB cd_len rfl T.b_len boot_len (va_cons (ve_ix (id_ix2 S hu) (ve_var (pv 0)) (ve_c (d := .int 1) pe_int fun _ => mkI) (fun _ _ => rfl)) va_nil)) (ve_c (d := .int 0) pe_int fun _ => mkI) (nomark _)) (vss_one (vs_set (i := 1) sc__law_row_text.nd rfl (by first | exact Or.inl rfl | exact Or.inr rfl) (ve_op od_add (ve_op od_add (ve_op od_add (ve_var (pv 1)) (ve_c (d := .str "(") pe_str fun _ => mkS)) (ve_join S.K (ve_c (d := .str ", ") pe_str fun _ => mkS) (ve_lc (own := [("number", 2)]) rfl sc__law_row_text.nd (vi_data (ve_ix (id_ix2 S hu) (ve_var (pv 0)) (ve_c (d := .int 1) pe_int fun _ => mkI) (fun _ _ => rfl))) (by decide) (blkOk_by (N := N__law_row_text) (sc := defScope s__law_row_text) (by decide +kernel)) (fun _ _ _ _ _ => (pg_name (i := 2) sc__law_row_text.nd rfl (Or.inl rfl))) (fun _ _ _ _ _ => vpts_nil) (fun _ _ _ _ _ => (ve_callTy cd_str rfl T.b_str (by decide +kernel) (va_cons (ve_var (pv 2)) va_nil)))))) (ve_c (d := .str ")") pe_str fun _ => mkS)))) vss_nil)
      (vss_one (vs_ret (ve_op od_add (ve_op od_add (ve_var (pv 1)) (ve_c (d := .str " = ") pe_str fun _ => mkS)) (ve_callTy cd_str rfl T.b_str (by decide +kernel) (va_cons (ve_ix (id_ix2 S hu) (ve_var (pv 0)) (ve_c (d := .int 2) pe_int fun _ => mkI) (fun _ _ => rfl)) va_nil)))))))
theorem ok__law_others (T : Txt P wd w mg fa fdat fx fdx cod cel fi fdi) {n : Nat} (G : AllOk P wd w mg base fa fdat recX n) (GX : AllX P wd w mg base fx fdx cod cel recX n) (runX_len : ∀ i ss st, ss.length + 1 ≠ (psX i).length → recX i ss st = .stuck) : FnOk P wd w.K mg base (L2.CX P wd) (5 * n + 4 + 1) (fa ._law_others) (fdat ._law_others) ["rows"] (spOf w 1 (runDef false 1 4 (m__law_others (runs recX n) recX))) :=
  fn_okC T.fn__law_others sc__law_others fun cdv A outer s' H E tk hp hr4 =>
    have hu := hr4.units
    have hu5 := hr4.units65
    have hr := hr4.mono (Nat.add_le_add_left (show 2 ≤ 4 by decide) (5 * n))
    have hr0 := hr4.mono (Nat.le_add_right (5 * n) 4)
    have hr1 := hr4.mono (Nat.add_le_add_left (show 1 ≤ 4 by decide) (5 * n))
    have S : Same w (cxD P wd w.K mg base N__law_others "_law_others" s__law_others (fa ._law_others) cdv A outer s' H E) := ⟨rfl, T.sP, T.sw⟩
    (vss_cons (vs_set (i := 1) sc__law_others.nd rfl (by first | exact Or.inl rfl | exact Or.inr rfl) (ve_lstM (va_cons (ve_tup (va_cons (ve_c (d := .str "low") pe_str fun _ => mkS) (va_cons (ve_tup (va_cons (ve_c (d := .int 1) pe_int fun _ => mkI) (va_cons (ve_c (d := .int 2) pe_int fun _ => mkI) (va_cons (ve_c (d := .int 3) pe_int fun _ => mkI) (va_cons (ve_c (d := .int 4) pe_int fun _ => mkI) (va_cons (ve_c (d := .int 5) pe_int fun _ => mkI) (va_cons (ve_c (d := .int 6) pe_int fun _ => mkI) (va_cons (ve_c (d := .int 7) pe_int fun _ => mkI) va_nil)))))))) va_nil))) (va_cons (ve_tup (va_cons (ve_c (d := .str "") pe_str fun _ => mkS) (va_cons (ve_tup va_nil) va_nil))) (va_cons (ve_tup (va_cons (ve_c (d := .str "Low") pe_str fun _ => mkS) (va_cons (ve_tup (va_cons (ve_c (d := .int 100000) pe_int fun _ => mkI) va_nil)) va_nil))) (va_cons (ve_tup (va_cons (ve_c (d := .str "Cb") pe_str fun _ => mkS) (va_cons (ve_tup (va_cons (ve_c (d := .int 9) pe_int fun _ => mkI) va_nil)) va_nil))) va_nil))))))
      (vss_cons (vs_for hp rfl (vi_data (ve_var (pv 0))) (pg_name (i := 2) sc__law_others.nd rfl (Or.inl rfl)) (vss_cons (vs_set (i := 1) sc__law_others.nd rfl (by first | exact Or.inl rfl | exact Or.inr rfl) (ve_addM S.K (ve_var (pv 1)) (ve_lst (va_cons (ve_tup (va_cons (ve_ix (id_ix2 S hu) (ve_var (pv 2)) (ve_c (d := .int 0) pe_int fun _ => mkI) (fun _ _ => rfl)) (va_cons (ve_op od_add (ve_ix (id_ix2 S hu) (ve_var (pv 2)) (ve_c (d := .int 1) pe_int fun _ => mkI) (fun _ _ => rfl)) (ve_tup (va_cons (ve_c (d := .int 0) pe_int fun _ => mkI) va_nil))) va_nil))) (va_cons (ve_tup (va_cons (ve_ix (id_ix2 S hu) (ve_var (pv 2)) (ve_c (d := .int 0) pe_int fun _ => mkI) (fun _ _ => rfl)) (va_cons (ve_slice (ve_ix (id_ix2 S hu) (ve_var (pv 2)) (ve_c (d := .int 1) pe_int fun _ => mkI) (fun _ _ => rfl)) vp_none (vp_some (ve_negc))) va_nil))) va_nil)))))
      (vss_cons (vs_expr (ve_append (ve_var (pv 1)) (ve_tup (va_cons (ve_c (d := .str "Qu") pe_str fun _ => mkS) (va_cons (ve_ix (id_ix2 S hu) (ve_var (pv 2)) (ve_c (d := .int 1) pe_int fun _ => mkI) (fun _ _ => rfl)) va_nil)))))
      (vss_one (vs_if (vt_cmp od_gt (ve_callB cd_len rfl T.b_len boot_len (va_cons (ve_ix (id_ix2 S hu) (ve_var (pv 2)) (ve_c (d := .int 1) pe_int fun _ => mkI) (fun _ _ => rfl)) va_nil)) (ve_c (d := .int 0) pe_int fun _ => mkI) (nomark _)) (vss_one (vs_expr (ve_append (ve_var (pv 1)) (ve_tup (va_cons (ve_ix (id_ix2 S hu) (ve_var (pv 2)) (ve_c (d := .int 0) pe_int fun _ => mkI) (fun _ _ => rfl)) (va_cons (ve_op od_add (ve_tup (va_cons (ve_op od_add (ve_ix (id_ix2 S hu) (ve_ix (id_ix2 S hu) (ve_var (pv 2)) (ve_c (d := .int 1) pe_int fun _ => mkI) (fun _ _ => rfl)) (ve_c (d := .int 0) pe_int fun _ => mkI) (fun _ _ => rfl)) (ve_c (d := .int 1) pe_int fun _ => mkI)) va_nil)) (ve_slice (ve_ix (id_ix2 S hu) (ve_var (pv 2)) (ve_c (d := .int 1) pe_int fun _ => mkI) (fun _ _ => rfl)) (vp_some (ve_c (d := .int 1) pe_int fun _ => mkI)) vp_none)) va_nil)))))) vss_nil)))))
      (vss_one (vs_ret (ve_lc (own := [("key", 3)]) rfl sc__law_others.nd (vi_data (ve_frz (ve_var (pv 1)))) (by decide) (blkOk_by (N := N__law_others) (sc := defScope s__law_others) (by decide +kernel)) (fun _ _ _ _ _ => (pg_name (i := 3) sc__law_others.nd rfl (Or.inl rfl))) (fun _ _ _ _ _ => (pts_one (vt_cmp od_lt (ve_call (G ._law_find) hr0 rfl T.g__law_find T.fn__law_find.kp T.bnd__law_find takes_none5 (va_cons (ve_var (pv 0)) (va_cons (ve_ix (id_ix2 (S.up) hu) (ve_var (pv 3)) (ve_c (d := .int 0) pe_int fun _ => mkI) (fun _ _ => rfl)) (va_cons (ve_ix (id_ix2 (S.up) hu) (ve_var (pv 3)) (ve_c (d := .int 1) pe_int fun _ => mkI) (fun _ _ => rfl)) va_nil))) (run_len ._law_find n)) (ve_c (d := .int 0) pe_int fun _ => mkI) (nomark _)))) (fun _ _ _ _ _ => (ve_var (pv 3))))))))
theorem ok__law_all_rows (T : Txt P wd w mg fa fdat fx fdx cod cel fi fdi) {n : Nat} (G : AllOk P wd w mg base fa fdat recX n) (GX : AllX P wd w mg base fx fdx cod cel recX n) (runX_len : ∀ i ss st, ss.length + 1 ≠ (psX i).length → recX i ss st = .stuck) : FnOk P wd w.K mg base (L2.CX P wd) (5 * n + 4 + 1) (fa ._law_all_rows) (fdat ._law_all_rows) ["rows", "others"] (spOf w 2 (runDef false 2 4 (m__law_all_rows (runs recX n) recX))) :=
  fn_okC T.fn__law_all_rows sc__law_all_rows fun cdv A outer s' H E tk hp hr4 =>
    have hu := hr4.units
    have hu5 := hr4.units65
    have hr := hr4.mono (Nat.add_le_add_left (show 2 ≤ 4 by decide) (5 * n))
    have hr0 := hr4.mono (Nat.le_add_right (5 * n) 4)
    have hr1 := hr4.mono (Nat.add_le_add_left (show 1 ≤ 4 by decide) (5 * n))
    have S : Same w (cxD P wd w.K mg base N__law_all_rows "_law_all_rows" s__law_all_rows (fa ._law_all_rows) cdv A outer s' H E) := ⟨rfl, T.sP, T.sw⟩
    (vss_cons (vs_set (i := 2) sc__law_all_rows.nd rfl (by first | exact Or.inl rfl | exact Or.inr rfl) (ve_listM S.K rfl T.b_list (ve_var (pv 0))))
      (vss_cons (vs_for hp rfl (vi_data (ve_var (pv 1))) (pg_name (i := 3) sc__law_all_rows.nd rfl (Or.inl rfl)) (vss_one (vs_if (vt_cmp od_lt (ve_call (G ._law_find) hr0 rfl T.g__law_find T.fn__law_find.kp T.bnd__law_find tk (va_cons (ve_var (pv 0)) (va_cons (ve_ix (id_ix2 S hu) (ve_var (pv 3)) (ve_c (d := .int 0) pe_int fun _ => mkI) (fun _ _ => rfl)) (va_cons (ve_ix (id_ix2 S hu) (ve_var (pv 3)) (ve_c (d := .int 1) pe_int fun _ => mkI) (fun _ _ => rfl)) va_nil))) (run_len ._law_find n)) (ve_c (d := .int 0) pe_int fun _ => mkI) (nomark _)) (vss_one (vs_expr (ve_append (ve_var (pv 2)) (ve_var (pv 3))))) vss_nil)))
      (vss_one (vs_ret (ve_callB (cd_sorted hu) rfl T.b_sorted boot_sorted (va_cons (ve_var (pv 2)) va_nil))))))
theorem ok__law_due_join (T : Txt P wd w mg fa fdat fx fdx cod cel fi fdi) {n : Nat} (G : AllOk P wd w mg base fa fdat recX n) (GX : AllX P wd w mg base fx fdx cod cel recX n) (runX_len : ∀ i ss st, ss.length + 1 ≠ (psX i).length → recX i ss st = .stuck) : FnOk P wd w.K mg base (L2.CX P wd) (5 * n + 4 + 1) (fa ._law_due_join) (fdat ._law_due_join) ["rows", "others"] (spOf w 2 (runDef false 2 4 (m__law_due_join (runs recX n) recX))) :=
  fn_okC T.fn__law_due_join sc__law_due_join fun cdv A outer s' H E tk hp hr4 =>
    have hu := hr4.units
    have hu5 := hr4.units65
    have hr := hr4.mono (Nat.add_le_add_left (show 2 ≤ 4 by decide) (5 * n))
    have hr0 := hr4.mono (Nat.le_add_right (5 * n) 4)
    have hr1 := hr4.mono (Nat.add_le_add_left (show 1 ≤ 4 by decide) (5 * n))
    have S : Same w (cxD P wd w.K mg base N__law_due_join "_law_due_join" s__law_due_join (fa ._law_due_join) cdv A outer s' H E) := ⟨rfl, T.sP, T.sw⟩
    (vss_cons (vs_for hp rfl (vi_data (ve_callB (cd_sorted hu) rfl T.b_sorted boot_sorted (va_cons (ve_var (pv 0)) va_nil))) (pg_name (i := 2) sc__law_due_join.nd rfl (Or.inl rfl)) (vss_cons (vs_set (i := 3) sc__law_due_join.nd rfl (by first | exact Or.inl rfl | exact Or.inr rfl) (ve_call (G ._law_find) hr0 rfl T.g__law_find T.fn__law_find.kp T.bnd__law_find tk (va_cons (ve_var (pv 1)) (va_cons (ve_ix (id_ix2 S hu) (ve_var (pv 2)) (ve_c (d := .int 0) pe_int fun _ => mkI) (fun _ _ => rfl)) (va_cons (ve_ix (id_ix2 S hu) (ve_var (pv 2)) (ve_c (d := .int 1) pe_int fun _ => mkI) (fun _ _ => rfl)) va_nil))) (run_len ._law_find n)))
      (vss_one (vs_if (PW.pt (vw_and (vt_cmp od_ge (ve_var (pv 3)) (ve_c (d := .int 0) pe_int fun _ => mkI) (nomark _)) (vw_and1 (vt_cmp (od_ne hu) (ve_ix (id_ix2 S hu) (ve_ix (id_ix2 S hu) (ve_var (pv 1)) (ve_var (pv 3)) (fun _ _ => rfl)) (ve_c (d := .int 2) pe_int fun _ => mkI) (fun _ _ => rfl)) (ve_ix (id_ix2 S hu) (ve_var (pv 2)) (ve_c (d := .int 2) pe_int fun _ => mkI) (fun _ _ => rfl)) (nomark _))))) (vss_one (vs_ret (ve_tup (va_cons (ve_c (d := .str "refused") pe_str fun _ => mkS) (va_cons (ve_c (d := .str "Clash") pe_str fun _ => mkS) (va_cons (ve_tup (va_cons (ve_ix (id_ix2 S hu) (ve_var (pv 2)) (ve_c (d := .int 0) pe_int fun _ => mkI) (fun _ _ => rfl)) (va_cons (ve_ix (id_ix2 S hu) (ve_var (pv 2)) (ve_c (d := .int 1) pe_int fun _ => mkI) (fun _ _ => rfl)) va_nil))) (va_cons (ve_c (d := .bl true) pe_bl fun _ => mkB) (va_cons (ve_c (d := .bl false) pe_bl fun _ => mkB) va_nil)))))))) vss_nil))))
      (vss_one (vs_ret (ve_tup (va_cons (ve_c (d := .str "told") pe_str fun _ => mkS) (va_cons (ve_callTy cd_tuple rfl T.b_tuple (by decide +kernel) (va_cons (ve_call (G ._law_all_rows) hr0 rfl T.g__law_all_rows T.fn__law_all_rows.kp T.bnd__law_all_rows tk (va_cons (ve_var (pv 0)) (va_cons (ve_var (pv 1)) va_nil)) (run_len ._law_all_rows n)) va_nil)) va_nil))))))
theorem ok__law_part (T : Txt P wd w mg fa fdat fx fdx cod cel fi fdi) {n : Nat} (G : AllOk P wd w mg base fa fdat recX n) (GX : AllX P wd w mg base fx fdx cod cel recX n) (runX_len : ∀ i ss st, ss.length + 1 ≠ (psX i).length → recX i ss st = .stuck) : FnOk P wd w.K mg base (L2.CX P wd) (5 * n + 4 + 1) (fa ._law_part) (fdat ._law_part) ["rows", "others"] (spOf w 2 (runDef false 2 3 (m__law_part (runs recX n) recX))) :=
  fn_okC T.fn__law_part sc__law_part fun cdv A outer s' H E tk hp hr4 =>
    have hu := hr4.units
    have hu5 := hr4.units65
    have hr := hr4.mono (Nat.add_le_add_left (show 2 ≤ 4 by decide) (5 * n))
    have hr0 := hr4.mono (Nat.le_add_right (5 * n) 4)
    have hr1 := hr4.mono (Nat.add_le_add_left (show 1 ≤ 4 by decide) (5 * n))
    have S : Same w (cxD P wd w.K mg base N__law_part "_law_part" s__law_part (fa ._law_part) cdv A outer s' H E) := ⟨rfl, T.sP, T.sw⟩
    (vss_one (vs_ret (ve_callB (cd_all rfl) rfl T.b_all boot_all (va_cons (ve_lc (own := [("row", 2)]) rfl sc__law_part.nd (vi_data (ve_var (pv 0))) (by decide) (blkOk_by (N := N__law_part) (sc := defScope s__law_part) (by decide +kernel)) (fun _ _ _ _ _ => (pg_name (i := 2) sc__law_part.nd rfl (Or.inl rfl))) (fun _ _ _ _ _ => vpts_nil) (fun _ _ _ _ _ => (ve_cmp (od_in3 (S.up) hu hu5) (ve_var (pv 2)) (ve_var (pv 1)) (by rfl)))) va_nil))))
theorem ok__law_draw_second (T : Txt P wd w mg fa fdat fx fdx cod cel fi fdi) {n : Nat} (G : AllOk P wd w mg base fa fdat recX n) (GX : AllX P wd w mg base fx fdx cod cel recX n) (runX_len : ∀ i ss st, ss.length + 1 ≠ (psX i).length → recX i ss st = .stuck) : FnOk P wd w.K mg base (L2.CX P wd) (5 * n + 4 + 1) (fa ._law_draw_second) (fdat ._law_draw_second) ["p", "rows", "turn"] (spOf w 3 (runDef false 3 8 (m__law_draw_second (runs recX n) recX))) :=
  fn_okC T.fn__law_draw_second sc__law_draw_second fun cdv A outer s' H E tk hp hr4 =>
    have hu := hr4.units
    have hu5 := hr4.units65
    have hr := hr4.mono (Nat.add_le_add_left (show 2 ≤ 4 by decide) (5 * n))
    have hr0 := hr4.mono (Nat.le_add_right (5 * n) 4)
    have hr1 := hr4.mono (Nat.add_le_add_left (show 1 ≤ 4 by decide) (5 * n))
    have S : Same w (cxD P wd w.K mg base N__law_draw_second "_law_draw_second" s__law_draw_second (fa ._law_draw_second) cdv A outer s' H E) := ⟨rfl, T.sP, T.sw⟩
    (vss_cons (vs_set (i := 3) sc__law_draw_second.nd rfl (by first | exact Or.inl rfl | exact Or.inr rfl) (ve_lstM va_nil))
      (vss_cons (vs_for hp rfl (vi_data (ve_var (pv 1))) (pg_name (i := 4) sc__law_draw_second.nd rfl (Or.inl rfl)) (vss_cons (vs_set (i := 5) sc__law_draw_second.nd rfl (by first | exact Or.inl rfl | exact Or.inr rfl) (ve_op od_mod (ve_callTy cd_int rfl T.b_int (by decide +kernel) (va_cons (ve_op od_add (ve_call (G ._law_take) hr0 rfl T.g__law_take T.fn__law_take.kp T.bnd__law_take tk (va_cons (ve_var (pv 0)) (va_cons (ve_c (d := .int 5) pe_int fun _ => mkI) va_nil)) (run_len ._law_take n)) (ve_var (pv 2))) va_nil)) (ve_c (d := .int 5) pe_int fun _ => mkI)))
      (vss_one (vs_if (vt_cmp (od_eq hu) (ve_var (pv 5)) (ve_c (d := .int 1) pe_int fun _ => mkI) (nomark _)) (vss_one (vs_expr (ve_append (ve_var (pv 3)) (ve_tup (va_cons (ve_ix (id_ix2 S hu) (ve_var (pv 4)) (ve_c (d := .int 0) pe_int fun _ => mkI) (fun _ _ => rfl)) (va_cons (ve_ix (id_ix2 S hu) (ve_var (pv 4)) (ve_c (d := .int 1) pe_int fun _ => mkI) (fun _ _ => rfl)) (va_cons (ve_op od_mod (ve_callTy cd_int rfl T.b_int (by decide +kernel) (va_cons (ve_op od_add (ve_op od_add (ve_ix (id_ix2 S hu) (ve_var (pv 4)) (ve_c (d := .int 2) pe_int fun _ => mkI) (fun _ _ => rfl)) (ve_c (d := .int 1) pe_int fun _ => mkI)) (ve_call (G ._law_take) hr0 rfl T.g__law_take T.fn__law_take.kp T.bnd__law_take tk (va_cons (ve_var (pv 0)) (va_cons (ve_c (d := .int 5) pe_int fun _ => mkI) va_nil)) (run_len ._law_take n))) va_nil)) (ve_c (d := .int 100000) pe_int fun _ => mkI)) va_nil))))))) (vss_one (vs_if (vt_cmp (od_ne hu) (ve_var (pv 5)) (ve_c (d := .int 3) pe_int fun _ => mkI) (nomark _)) (vss_one (vs_expr (ve_append (ve_var (pv 3)) (ve_var (pv 4))))) vss_nil))))))
      (vss_cons (vs_for hp rfl (vi_range1 (ve_ix (id_ix2 S hu) (ve_lst (va_cons (ve_c (d := .int 1) pe_int fun _ => mkI) (va_cons (ve_c (d := .int 0) pe_int fun _ => mkI) (va_cons (ve_c (d := .int 2) pe_int fun _ => mkI) (va_cons (ve_c (d := .int 3) pe_int fun _ => mkI) va_nil))))) (ve_call (G ._law_take) hr0 rfl T.g__law_take T.fn__law_take.kp T.bnd__law_take tk (va_cons (ve_var (pv 0)) (va_cons (ve_c (d := .int 4) pe_int fun _ => mkI) va_nil)) (run_len ._law_take n)) (fun _ _ => rfl)) rfl T.b_range) (pg_name (i := 6) sc__law_draw_second.nd rfl (Or.inl rfl)) (vss_cons (vs_set (i := 4) sc__law_draw_second.nd rfl (by first | exact Or.inl rfl | exact Or.inr rfl) (ve_call (G ._law_draw_entry) hr0 rfl T.g__law_draw_entry T.fn__law_draw_entry.kp T.bnd__law_draw_entry tk (va_cons (ve_var (pv 0)) (va_cons (ve_op od_add (ve_var (pv 6)) (ve_op od_mul (ve_c (d := .int 2) pe_int fun _ => mkI) (ve_var (pv 2)))) va_nil)) (run_len ._law_draw_entry n)))
      (vss_one (vs_if (vt_cmp od_lt (ve_call (G ._law_find) hr0 rfl T.g__law_find T.fn__law_find.kp T.bnd__law_find tk (va_cons (ve_var (pv 3)) (va_cons (ve_ix (id_ix2 S hu) (ve_var (pv 4)) (ve_c (d := .int 0) pe_int fun _ => mkI) (fun _ _ => rfl)) (va_cons (ve_ix (id_ix2 S hu) (ve_var (pv 4)) (ve_c (d := .int 1) pe_int fun _ => mkI) (fun _ _ => rfl)) va_nil))) (run_len ._law_find n)) (ve_c (d := .int 0) pe_int fun _ => mkI) (nomark _)) (vss_one (vs_expr (ve_append (ve_var (pv 3)) (ve_var (pv 4))))) vss_nil))))
      (vss_cons (vs_set (i := 7) sc__law_draw_second.nd rfl (by first | exact Or.inl rfl | exact Or.inr rfl) (ve_call (G ._law_take) hr0 rfl T.g__law_take T.fn__law_take.kp T.bnd__law_take tk (va_cons (ve_var (pv 0)) (va_cons (ve_op od_add (ve_callB cd_len rfl T.b_len boot_len (va_cons (ve_var (pv 3)) va_nil)) (ve_c (d := .int 1) pe_int fun _ => mkI)) va_nil)) (run_len ._law_take n)))
      (vss_one (vs_ret (ve_op od_add (ve_slice (ve_var (pv 3)) (vp_some (ve_var (pv 7))) vp_none) (ve_slice (ve_var (pv 3)) vp_none (vp_some (ve_var (pv 7)))))))))))
theorem ok__spelt (T : Txt P wd w mg fa fdat fx fdx cod cel fi fdi) {n : Nat} (G : AllOk P wd w mg base fa fdat recX n) (GX : AllX P wd w mg base fx fdx cod cel recX n) (runX_len : ∀ i ss st, ss.length + 1 ≠ (psX i).length → recX i ss st = .stuck) : FnOk P wd w.K mg base (L2.CX P wd) (5 * n + 4 + 1) (fa ._spelt) (fdat ._spelt) ["text", "characters", "most"] (spOf w 3 (runDef false 3 4 (m__spelt (runs recX n) recX))) :=
  fn_okC T.fn__spelt sc__spelt fun cdv A outer s' H E tk hp hr4 =>
    have hu := hr4.units
    have hu5 := hr4.units65
    have hr := hr4.mono (Nat.add_le_add_left (show 2 ≤ 4 by decide) (5 * n))
    have hr0 := hr4.mono (Nat.le_add_right (5 * n) 4)
    have hr1 := hr4.mono (Nat.add_le_add_left (show 1 ≤ 4 by decide) (5 * n))
    have S : Same w (cxD P wd w.K mg base N__spelt "_spelt" s__spelt (fa ._spelt) cdv A outer s' H E) := ⟨rfl, T.sP, T.sw⟩
    (vss_one (vs_ret (ve_and (ve_chain od_le od_le (ve_c (d := .int 1) pe_int fun _ => mkI) (ve_callB cd_len rfl T.b_len boot_len (va_cons (ve_var (pv 0)) va_nil)) (ve_var (pv 2))) (pe_one (ve_callB (cd_all rfl) rfl T.b_all boot_all (va_cons (ve_lc (own := [("one", 3)]) rfl sc__spelt.nd (vi_data (ve_var (pv 0))) (by decide) (blkOk_by (N := N__spelt) (sc := defScope s__spelt) (by decide +kernel)) (fun _ _ _ _ _ => (pg_name (i := 3) sc__spelt.nd rfl (Or.inl rfl))) (fun _ _ _ _ _ => vpts_nil) (fun _ _ _ _ _ => (ve_cmp (od_in3 (S.up) hu hu5) (ve_var (pv 3)) (ve_var (pv 1)) (by rfl)))) va_nil))))))
theorem ok_is_choice (T : Txt P wd w mg fa fdat fx fdx cod cel fi fdi) {n : Nat} (G : AllOk P wd w mg base fa fdat recX n) (GX : AllX P wd w mg base fx fdx cod cel recX n) (runX_len : ∀ i ss st, ss.length + 1 ≠ (psX i).length → recX i ss st = .stuck) : FnOk P wd w.K mg base (L2.CX P wd) (5 * n + 4 + 1) (fa .is_choice) (fdat .is_choice) ["text"] (spOf w 1 (runDef false 1 1 (m_is_choice (runs recX n) recX))) :=
  fn_okC T.fn_is_choice sc_is_choice fun cdv A outer s' H E tk hp hr4 =>
    have hu := hr4.units
    have hu5 := hr4.units65
    have hr := hr4.mono (Nat.add_le_add_left (show 2 ≤ 4 by decide) (5 * n))
    have hr0 := hr4.mono (Nat.le_add_right (5 * n) 4)
    have hr1 := hr4.mono (Nat.add_le_add_left (show 1 ≤ 4 by decide) (5 * n))
    have S : Same w (cxD P wd w.K mg base N_is_choice "is_choice" s_is_choice (fa .is_choice) cdv A outer s' H E) := ⟨rfl, T.sP, T.sw⟩
    (vss_one (vs_ret (ve_and (ve_call (G ._spelt) hr0 rfl T.g__spelt T.fn__spelt.kp T.bnd__spelt tk (va_cons (ve_slice (ve_var (pv 0)) vp_none (vp_some (ve_c (d := .int 1) pe_int fun _ => mkI))) (va_cons (ve_c (d := .str "ABCDEFGHIJKLMNOPQRSTUVWXYZ") (v := .str "ABCDEFGHIJKLMNOPQRSTUVWXYZ") (C8.pe_gc rfl T.g_CAPITALS) fun _ => mkS) (va_cons (ve_c (d := .int 1) pe_int fun _ => mkI) va_nil))) (run_len ._spelt n)) (pe_one (ve_call (G ._spelt) hr0 rfl T.g__spelt T.fn__spelt.kp T.bnd__spelt tk (va_cons (ve_slice (ve_var (pv 0)) (vp_some (ve_c (d := .int 1) pe_int fun _ => mkI)) vp_none) (va_cons (ve_c (d := .str "abcdefghijklmnopqrstuvwxyz") (v := .str "abcdefghijklmnopqrstuvwxyz") (C8.pe_gc rfl T.g_SMALL) fun _ => mkS) (va_cons (ve_c (d := .int 7) pe_int fun _ => mkI) va_nil))) (run_len ._spelt n))))))
theorem ok_key_text (T : Txt P wd w mg fa fdat fx fdx cod cel fi fdi) {n : Nat} (G : AllOk P wd w mg base fa fdat recX n) (GX : AllX P wd w mg base fx fdx cod cel recX n) (runX_len : ∀ i ss st, ss.length + 1 ≠ (psX i).length → recX i ss st = .stuck) : FnOk P wd w.K mg base (L2.CX P wd) (5 * n + 4 + 1) (fa .key_text) (fdat .key_text) ["name", "numbers"] (spOf w 2 (runDef false 2 4 (m_key_text (runs recX n) recX))) :=
  fn_okC T.fn_key_text sc_key_text fun cdv A outer s' H E tk hp hr4 =>
    have hu := hr4.units
    have hu5 := hr4.units65
    have hr := hr4.mono (Nat.add_le_add_left (show 2 ≤ 4 by decide) (5 * n))
    have hr0 := hr4.mono (Nat.le_add_right (5 * n) 4)
    have hr1 := hr4.mono (Nat.add_le_add_left (show 1 ≤ 4 by decide) (5 * n))
    have S : Same w (cxD P wd w.K mg base N_key_text "key_text" s_key_text (fa .key_text) cdv A outer s' H E) := ⟨rfl, T.sP, T.sw⟩
    (vss_cons (vs_if (vt_cmp (od_eq hu) (ve_callB cd_len rfl T.b_len boot_len (va_cons (ve_var (pv 1)) va_nil)) (ve_c (d := .int 0) pe_int fun _ => mkI) (nomark _)) (vss_one (vs_ret (ve_var (pv 0)))) vss_nil)
      (vss_cons (vs_set (i := 2) sc_key_text.nd rfl (by first | exact Or.inl rfl | exact Or.inr rfl) (ve_join S.K (ve_c (d := .str ", ") pe_str fun _ => mkS) (ve_lc (own := [("number", 3)]) rfl sc_key_text.nd (vi_data (ve_var (pv 1))) (by decide) (blkOk_by (N := N_key_text) (sc := defScope s_key_text) (by decide +kernel)) (fun _ _ _ _ _ => (pg_name (i := 3) sc_key_text.nd rfl (Or.inl rfl))) (fun _ _ _ _ _ => vpts_nil) (fun _ _ _ _ _ => (ve_callTy cd_str rfl T.b_str (by decide +kernel) (va_cons (ve_var (pv 3)) va_nil))))))
      (vss_one (vs_ret (ve_joined (vj_cons (ve_fmt (ve_var (pv 0))) (vj_cons (ve_c (d := .str "(") pe_str fun _ => mkS) (vj_cons (ve_fmt (ve_var (pv 2))) (vj_cons (ve_c (d := .str ")") pe_str fun _ => mkS) vj_nil)))))))))
theorem ok_entry_text (T : Txt P wd w mg fa fdat fx fdx cod cel fi fdi) {n : Nat} (G : AllOk P wd w mg base fa fdat recX n) (GX : AllX P wd w mg base fx fdx cod cel recX n) (runX_len : ∀ i ss st, ss.length + 1 ≠ (psX i).length → recX i ss st = .stuck) : FnOk P wd w.K mg base (L2.CX P wd) (5 * n + 4 + 1) (fa .entry_text) (fdat .entry_text) ["name", "numbers", "number"] (spOf w 3 (runDef false 3 3 (m_entry_text (runs recX n) recX))) :=
  fn_okC T.fn_entry_text sc_entry_text fun cdv A outer s' H E tk hp hr4 =>
    have hu := hr4.units
    have hu5 := hr4.units65
    have hr := hr4.mono (Nat.add_le_add_left (show 2 ≤ 4 by decide) (5 * n))
    have hr0 := hr4.mono (Nat.le_add_right (5 * n) 4)
    have hr1 := hr4.mono (Nat.add_le_add_left (show 1 ≤ 4 by decide) (5 * n))
    have S : Same w (cxD P wd w.K mg base N_entry_text "entry_text" s_entry_text (fa .entry_text) cdv A outer s' H E) := ⟨rfl, T.sP, T.sw⟩
    (vss_one (vs_ret (ve_joined (vj_cons (ve_fmt (ve_call (G .key_text) hr0 rfl T.g_key_text T.fn_key_text.kp T.bnd_key_text tk (va_cons (ve_var (pv 0)) (va_cons (ve_var (pv 1)) va_nil)) (run_len .key_text n))) (vj_cons (ve_c (d := .str " = ") pe_str fun _ => mkS) (vj_cons (ve_fmt (ve_var (pv 2))) vj_nil))))))
theorem ok_can_be_entry (T : Txt P wd w mg fa fdat fx fdx cod cel fi fdi) {n : Nat} (G : AllOk P wd w mg base fa fdat recX n) (GX : AllX P wd w mg base fx fdx cod cel recX n) (runX_len : ∀ i ss st, ss.length + 1 ≠ (psX i).length → recX i ss st = .stuck) : FnOk P wd w.K mg base (L2.CX P wd) (5 * n + 4 + 1) (fa .can_be_entry) (fdat .can_be_entry) ["name", "numbers", "number"] (spOf w 3 (runDef false 3 4 (m_can_be_entry (runs recX n) recX))) :=
  fn_okC T.fn_can_be_entry sc_can_be_entry fun cdv A outer s' H E tk hp hr4 =>
    have hu := hr4.units
    have hu5 := hr4.units65
    have hr := hr4.mono (Nat.add_le_add_left (show 2 ≤ 4 by decide) (5 * n))
    have hr0 := hr4.mono (Nat.le_add_right (5 * n) 4)
    have hr1 := hr4.mono (Nat.add_le_add_left (show 1 ≤ 4 by decide) (5 * n))
    have S : Same w (cxD P wd w.K mg base N_can_be_entry "can_be_entry" s_can_be_entry (fa .can_be_entry) cdv A outer s' H E) := ⟨rfl, T.sP, T.sw⟩
    (vss_cons (vs_if (PW.pt (vw_or (vt_not (vt_truth (ve_call (G .is_choice) hr0 rfl T.g_is_choice T.fn_is_choice.kp T.bnd_is_choice tk (va_cons (ve_var (pv 0)) va_nil) (run_len .is_choice n)))) (vw_or1 (vt_cmp od_gt (ve_callB cd_len rfl T.b_len boot_len (va_cons (ve_var (pv 1)) va_nil)) (ve_c (d := .int 6) (v := .int 6) (C8.pe_gc rfl T.g_MOST_KEY_NUMBERS) fun _ => mkI) (nomark _))))) (vss_one (vs_ret (ve_c (d := .bl false) pe_bl fun _ => mkB))) vss_nil)
      (vss_one (vs_ret (ve_and (ve_cmp od_le (ve_var (pv 2)) (ve_c (d := .int 99999) (v := .int 99999) (C8.pe_gc rfl T.g_MOST_ENTERED) fun _ => mkI) (nomark _)) (pe_one (ve_callB (cd_all rfl) rfl T.b_all boot_all (va_cons (ve_lc (own := [("one", 3)]) rfl sc_can_be_entry.nd (vi_data (ve_var (pv 1))) (by decide) (blkOk_by (N := N_can_be_entry) (sc := defScope s_can_be_entry) (by decide +kernel)) (fun _ _ _ _ _ => (pg_name (i := 3) sc_can_be_entry.nd rfl (Or.inl rfl))) (fun _ _ _ _ _ => vpts_nil) (fun _ _ _ _ _ => (ve_cmp od_le (ve_var (pv 3)) (ve_c (d := .int 99999) (v := .int 99999) (C8.pe_gc rfl T.g_MOST_ENTERED) fun _ => mkI) (nomark _)))) va_nil)))))))
theorem ok_Guesses___init__ (T : Txt P wd w mg fa fdat fx fdx cod cel fi fdi) {n : Nat} (G : AllOk P wd w mg base fa fdat recX n) (GX : AllX P wd w mg base fx fdx cod cel recX n) (runX_len : ∀ i ss st, ss.length + 1 ≠ (psX i).length → recX i ss st = .stuck) : FnOk P wd w.K mg base (L2.CX P wd) (5 * n + 4 + 1) (fa .Guesses___init__) (fdat .Guesses___init__) ["self", "rows"] (spOf w 2 (runDef false 2 7 (m_Guesses___init__ (runs recX n) recX))) :=
  fn_okC T.fn_Guesses___init__ sc_Guesses___init__ fun cdv A outer s' H E tk hp hr4 =>
    have hu := hr4.units
    have hu5 := hr4.units65
    have hr := hr4.mono (Nat.add_le_add_left (show 2 ≤ 4 by decide) (5 * n))
    have hr0 := hr4.mono (Nat.le_add_right (5 * n) 4)
    have hr1 := hr4.mono (Nat.add_le_add_left (show 1 ≤ 4 by decide) (5 * n))
    have S : Same w (cxD P wd w.K mg base N_Guesses___init__ "Guesses.__init__" s_Guesses___init__ (fa .Guesses___init__) cdv A outer s' H E) := ⟨rfl, T.sP, T.sw⟩
    (vss_cons (vs_if (vt_cmp od_gt (ve_callB cd_len rfl T.b_len boot_len (va_cons (ve_var (pv 1)) va_nil)) (ve_c (d := .int 5000) (v := .int 5000) (C8.pe_gc rfl T.g_MOST_ENTRIES) fun _ => mkI) (nomark _)) (vss_one (vs_raiseV S.K T.e0_TooLarge rfl tk T.c_TooLarge rfl)) vss_nil)
      (vss_cons (vs_set (i := 2) sc_Guesses___init__.nd rfl (by first | exact Or.inl rfl | exact Or.inr rfl) (ve_dnew S))
      (vss_cons (vs_for hp rfl (vi_enumK (k := 1) (ve_var (pv 1)) rfl T.b_enumerate (by decide) (by decide)) (pg_tup rfl (pgs_cons (pg_name (i := 3) sc_Guesses___init__.nd rfl (Or.inl rfl)) (pgs_cons (pg_tup rfl (pgs_cons (pg_name (i := 4) sc_Guesses___init__.nd rfl (Or.inl rfl)) (pgs_cons (pg_name (i := 5) sc_Guesses___init__.nd rfl (Or.inl rfl)) (pgs_cons (pg_name (i := 6) sc_Guesses___init__.nd rfl (Or.inl rfl)) pgs_nil)))) pgs_nil))) (vss_cons (vs_if (PW.pt (vw_or (vt_not (vt_truth (ve_call (G .can_be_entry) hr0 rfl T.g_can_be_entry T.fn_can_be_entry.kp T.bnd_can_be_entry tk (va_cons (ve_var (pv 4)) (va_cons (ve_var (pv 5)) (va_cons (ve_var (pv 6)) va_nil))) (run_len .can_be_entry n)))) (vw_or1 (vt_cmp (od_in3 S hu hu5) (ve_tup (va_cons (ve_var (pv 4)) (va_cons (ve_var (pv 5)) va_nil))) (ve_var (pv 2)) (by rfl))))) (vss_one vs_stuck) vss_nil)
      (vss_one (vs_setIxN S hu (ve_var (pv 6)) (ve_var (pv 2)) (ve_tup (va_cons (ve_var (pv 4)) (va_cons (ve_var (pv 5)) va_nil)))))))
      (vss_cons (vs_setFld (ve_var (pv 0)) (ve_frz (ve_var (pv 2))) T.cl_Guesses T.na_Guesses__table)
      (vss_cons (vs_setFld (ve_var (pv 0)) (ve_callTy cd_tuple rfl T.b_tuple (by decide +kernel) (va_cons (ve_lc (own := [("name", 4), ("numbers", 5)]) rfl sc_Guesses___init__.nd (vi_data (ve_callB (cd_sorted hu) rfl T.b_sorted boot_sorted (va_cons (ve_callTy (cd_list2 rfl) rfl T.b_list (by decide +kernel) (va_cons (ve_var (pv 2)) va_nil)) va_nil))) (by decide) (blkOk_by (N := N_Guesses___init__) (sc := defScope s_Guesses___init__) (by decide +kernel)) (fun _ _ _ _ _ => (pg_tup rfl (pgs_cons (pg_name (i := 4) sc_Guesses___init__.nd rfl (Or.inl rfl)) (pgs_cons (pg_name (i := 5) sc_Guesses___init__.nd rfl (Or.inl rfl)) pgs_nil)))) (fun _ _ _ _ _ => vpts_nil) (fun _ _ _ _ _ => (ve_tup (va_cons (ve_var (pv 4)) (va_cons (ve_var (pv 5)) (va_cons (ve_ix (id_ix2 (S.up) hu) (ve_var (pv 2)) (ve_tup (va_cons (ve_var (pv 4)) (va_cons (ve_var (pv 5)) va_nil))) (fun _ _ => rfl)) va_nil)))))) va_nil)) T.cl_Guesses T.na_Guesses_rows)
      (vss_one (vs_setFld (ve_var (pv 0)) (ve_join S.K (ve_c (d := .str "\n") pe_str fun _ => mkS) (ve_lc (own := [("name", 4), ("numbers", 5), ("number", 6)]) rfl sc_Guesses___init__.nd (vi_data (ve_fld (ve_var (pv 0)) (CF.cons T.cl_Guesses T.na_Guesses_rows CF.nil))) (by decide) (blkOk_by (N := N_Guesses___init__) (sc := defScope s_Guesses___init__) (by decide +kernel)) (fun _ _ _ _ _ => (pg_tup rfl (pgs_cons (pg_name (i := 4) sc_Guesses___init__.nd rfl (Or.inl rfl)) (pgs_cons (pg_name (i := 5) sc_Guesses___init__.nd rfl (Or.inl rfl)) (pgs_cons (pg_name (i := 6) sc_Guesses___init__.nd rfl (Or.inl rfl)) pgs_nil))))) (fun _ _ _ _ _ => vpts_nil) (fun _ _ _ _ _ => (ve_call (G .entry_text) hr0 rfl T.g_entry_text T.fn_entry_text.kp T.bnd_entry_text takes_none5 (va_cons (ve_var (pv 4)) (va_cons (ve_var (pv 5)) (va_cons (ve_var (pv 6)) va_nil))) (run_len .entry_text n))))) T.cl_Guesses T.na_Guesses_text)))))))
theorem ok_Guesses_as_table (T : Txt P wd w mg fa fdat fx fdx cod cel fi fdi) {n : Nat} (G : AllOk P wd w mg base fa fdat recX n) (GX : AllX P wd w mg base fx fdx cod cel recX n) (runX_len : ∀ i ss st, ss.length + 1 ≠ (psX i).length → recX i ss st = .stuck) : FnOk P wd w.K mg base (L2.CX P wd) (5 * n + 4 + 1) (fa .Guesses_as_table) (fdat .Guesses_as_table) ["self"] (spOf w 1 (runDef false 1 2 (m_Guesses_as_table (runs recX n) recX))) :=
  fn_okC T.fn_Guesses_as_table sc_Guesses_as_table fun cdv A outer s' H E tk hp hr4 =>
    have hu := hr4.units
    have hu5 := hr4.units65
    have hr := hr4.mono (Nat.add_le_add_left (show 2 ≤ 4 by decide) (5 * n))
    have hr0 := hr4.mono (Nat.le_add_right (5 * n) 4)
    have hr1 := hr4.mono (Nat.add_le_add_left (show 1 ≤ 4 by decide) (5 * n))
    have S : Same w (cxD P wd w.K mg base N_Guesses_as_table "Guesses.as_table" s_Guesses_as_table (fa .Guesses_as_table) cdv A outer s' H E) := ⟨rfl, T.sP, T.sw⟩
    (vss_one (vs_ret (ve_dc (own := [("key", 1)]) S hu rfl sc_Guesses_as_table.nd (vi_keysN (ve_fld (ve_var (pv 0)) (CF.cons T.cl_Guesses T.na_Guesses__table CF.nil))) (by decide) (blkOk_by (N := N_Guesses_as_table) (sc := defScope s_Guesses_as_table) (by decide +kernel)) (fun _ _ _ _ _ => (pg_name (i := 1) sc_Guesses_as_table.nd rfl (Or.inl rfl))) (fun _ _ _ _ _ => (ve_var (pv 1))) (fun _ _ _ _ _ => (ve_ix (id_ix2 (S.up) hu) (ve_fld (ve_var (pv 0)) (CF.cons T.cl_Guesses T.na_Guesses__table CF.nil)) (ve_var (pv 1)) (fun _ _ => rfl))))))
theorem ok_Guesses_at (T : Txt P wd w mg fa fdat fx fdx cod cel fi fdi) {n : Nat} (G : AllOk P wd w mg base fa fdat recX n) (GX : AllX P wd w mg base fx fdx cod cel recX n) (runX_len : ∀ i ss st, ss.length + 1 ≠ (psX i).length → recX i ss st = .stuck) : FnOk P wd w.K mg base (L2.CX P wd) (5 * n + 4 + 1) (fa .Guesses_at) (fdat .Guesses_at) ["self", "name", "numbers"] (spOf w 3 (runDef false 3 3 (m_Guesses_at (runs recX n) recX))) :=
  fn_okC T.fn_Guesses_at sc_Guesses_at fun cdv A outer s' H E tk hp hr4 =>
    have hu := hr4.units
    have hu5 := hr4.units65
    have hr := hr4.mono (Nat.add_le_add_left (show 2 ≤ 4 by decide) (5 * n))
    have hr0 := hr4.mono (Nat.le_add_right (5 * n) 4)
    have hr1 := hr4.mono (Nat.add_le_add_left (show 1 ≤ 4 by decide) (5 * n))
    have S : Same w (cxD P wd w.K mg base N_Guesses_at "Guesses.at" s_Guesses_at (fa .Guesses_at) cdv A outer s' H E) := ⟨rfl, T.sP, T.sw⟩
    (vss_one (vs_ret (ve_get2 S hu (ve_fld (ve_var (pv 0)) (CF.cons T.cl_Guesses T.na_Guesses__table CF.nil)) (ve_tup (va_cons (ve_var (pv 1)) (va_cons (ve_var (pv 2)) va_nil))) (ve_c (d := .int 0) pe_int fun _ => mkI) ⟨rfl, rfl, rfl, rfl⟩)))
theorem ok_Guesses_has (T : Txt P wd w mg fa fdat fx fdx cod cel fi fdi) {n : Nat} (G : AllOk P wd w mg base fa fdat recX n) (GX : AllX P wd w mg base fx fdx cod cel recX n) (runX_len : ∀ i ss st, ss.length + 1 ≠ (psX i).length → recX i ss st = .stuck) : FnOk P wd w.K mg base (L2.CX P wd) (5 * n + 4 + 1) (fa .Guesses_has) (fdat .Guesses_has) ["self", "name", "numbers"] (spOf w 3 (runDef false 3 3 (m_Guesses_has (runs recX n) recX))) :=
  fn_okC T.fn_Guesses_has sc_Guesses_has fun cdv A outer s' H E tk hp hr4 =>
    have hu := hr4.units
    have hu5 := hr4.units65
    have hr := hr4.mono (Nat.add_le_add_left (show 2 ≤ 4 by decide) (5 * n))
    have hr0 := hr4.mono (Nat.le_add_right (5 * n) 4)
    have hr1 := hr4.mono (Nat.add_le_add_left (show 1 ≤ 4 by decide) (5 * n))
    have S : Same w (cxD P wd w.K mg base N_Guesses_has "Guesses.has" s_Guesses_has (fa .Guesses_has) cdv A outer s' H E) := ⟨rfl, T.sP, T.sw⟩
    (vss_one (vs_ret (ve_cmp (od_in3 S hu hu5) (ve_tup (va_cons (ve_var (pv 1)) (va_cons (ve_var (pv 2)) va_nil))) (ve_fld (ve_var (pv 0)) (CF.cons T.cl_Guesses T.na_Guesses__table CF.nil)) (by rfl))))
theorem ok_Guesses_within (T : Txt P wd w mg fa fdat fx fdx cod cel fi fdi) {n : Nat} (G : AllOk P wd w mg base fa fdat recX n) (GX : AllX P wd w mg base fx fdx cod cel recX n) (runX_len : ∀ i ss st, ss.length + 1 ≠ (psX i).length → recX i ss st = .stuck) : FnOk P wd w.K mg base (L2.CX P wd) (5 * n + 4 + 1) (fa .Guesses_within) (fdat .Guesses_within) ["self", "other"] (spOf w 2 (runDef false 2 6 (m_Guesses_within (runs recX n) recX))) :=
  fn_okC T.fn_Guesses_within sc_Guesses_within fun cdv A outer s' H E tk hp hr4 =>
    have hu := hr4.units
    have hu5 := hr4.units65
    have hr := hr4.mono (Nat.add_le_add_left (show 2 ≤ 4 by decide) (5 * n))
    have hr0 := hr4.mono (Nat.le_add_right (5 * n) 4)
    have hr1 := hr4.mono (Nat.add_le_add_left (show 1 ≤ 4 by decide) (5 * n))
    have S : Same w (cxD P wd w.K mg base N_Guesses_within "Guesses.within" s_Guesses_within (fa .Guesses_within) cdv A outer s' H E) := ⟨rfl, T.sP, T.sw⟩
    (vss_cons (vs_set (i := 2) sc_Guesses_within.nd rfl (by first | exact Or.inl rfl | exact Or.inr rfl) (ve_meth0 (ve_var (pv 1)) T.cl_Guesses T.me_Guesses_as_table (G .Guesses_as_table) hr0 T.bnd_Guesses_as_table tk (run_len .Guesses_as_table n)))
      (vss_one (vs_ret (ve_callB (cd_all rfl) rfl T.b_all boot_all (va_cons (ve_lc (own := [("name", 3), ("numbers", 4), ("number", 5)]) rfl sc_Guesses_within.nd (vi_data (ve_fld (ve_var (pv 0)) (CF.cons T.cl_Guesses T.na_Guesses_rows CF.nil))) (by decide) (blkOk_by (N := N_Guesses_within) (sc := defScope s_Guesses_within) (by decide +kernel)) (fun _ _ _ _ _ => (pg_tup rfl (pgs_cons (pg_name (i := 3) sc_Guesses_within.nd rfl (Or.inl rfl)) (pgs_cons (pg_name (i := 4) sc_Guesses_within.nd rfl (Or.inl rfl)) (pgs_cons (pg_name (i := 5) sc_Guesses_within.nd rfl (Or.inl rfl)) pgs_nil))))) (fun _ _ _ _ _ => vpts_nil) (fun _ _ _ _ _ => (ve_cmp (od_eq hu) (ve_get1 (S.up) hu (ve_var (pv 2)) (ve_tup (va_cons (ve_var (pv 3)) (va_cons (ve_var (pv 4)) va_nil))) ⟨rfl, rfl, rfl, rfl⟩) (ve_var (pv 5)) (nomark _)))) va_nil)))))
theorem ok_Guesses___or__ (T : Txt P wd w mg fa fdat fx fdx cod cel fi fdi) {n : Nat} (G : AllOk P wd w mg base fa fdat recX n) (GX : AllX P wd w mg base fx fdx cod cel recX n) (runX_len : ∀ i ss st, ss.length + 1 ≠ (psX i).length → recX i ss st = .stuck) : FnOk P wd w.K mg base (L2.CX P wd) (5 * n + 4 + 1) (fa .Guesses___or__) (fdat .Guesses___or__) ["self", "other"] (spOf w 2 (runDef false 2 7 (m_Guesses___or__ (runs recX n) recX))) :=
  fn_okC T.fn_Guesses___or__ sc_Guesses___or__ fun cdv A outer s' H E tk hp hr4 =>
    have hu := hr4.units
    have hu5 := hr4.units65
    have hr := hr4.mono (Nat.add_le_add_left (show 2 ≤ 4 by decide) (5 * n))
    have hr0 := hr4.mono (Nat.le_add_right (5 * n) 4)
    have hr1 := hr4.mono (Nat.add_le_add_left (show 1 ≤ 4 by decide) (5 * n))
    have S : Same w (cxD P wd w.K mg base N_Guesses___or__ "Guesses.__or__" s_Guesses___or__ (fa .Guesses___or__) cdv A outer s' H E) := ⟨rfl, T.sP, T.sw⟩
    (vss_cons (vs_for hp rfl (vi_data (ve_fld (ve_var (pv 0)) (CF.cons T.cl_Guesses T.na_Guesses_rows CF.nil))) (pg_tup rfl (pgs_cons (pg_name (i := 2) sc_Guesses___or__.nd rfl (Or.inl rfl)) (pgs_cons (pg_name (i := 3) sc_Guesses___or__.nd rfl (Or.inl rfl)) (pgs_cons (pg_name (i := 4) sc_Guesses___or__.nd rfl (Or.inl rfl)) pgs_nil)))) (vss_one (vs_if (PW.pt (vw_and (vt_truth (ve_meth (ve_var (pv 1)) T.cl_Guesses T.me_Guesses_has (G .Guesses_has) hr0 T.bnd_Guesses_has tk (va_cons (ve_var (pv 2)) (va_cons (ve_var (pv 3)) va_nil)) (run_len .Guesses_has n))) (vw_and1 (vt_cmp (od_ne hu) (ve_meth (ve_var (pv 1)) T.cl_Guesses T.me_Guesses_at (G .Guesses_at) hr0 T.bnd_Guesses_at tk (va_cons (ve_var (pv 2)) (va_cons (ve_var (pv 3)) va_nil)) (run_len .Guesses_at n)) (ve_var (pv 4)) (nomark _))))) (vss_one (vs_raiseX S.K rfl tk T.ox_Clash T.su_Clash T.nf_Clash T.iC_Clash T.iT_Clash (GX .Clash___init__) hr T.bnd_Clash___init__ rfl T.c_Clash (va_cons (ve_var (pv 2)) (va_cons (ve_var (pv 3)) va_nil)) (runX_len .Clash___init__) (by decide))) vss_nil)))
      (vss_cons (vs_setLc (i := 5) (own := [("row", 6)]) rfl sc_Guesses___or__.nd rfl rfl rfl (vi_data (ve_fld (ve_var (pv 1)) (CF.cons T.cl_Guesses T.na_Guesses_rows CF.nil))) (by decide) (blkOk_by (N := N_Guesses___or__) (sc := defScope s_Guesses___or__) (by decide +kernel)) (fun _ _ _ _ _ => (pg_name (i := 6) sc_Guesses___or__.nd rfl (Or.inl rfl))) (fun _ _ _ _ _ => (pts_one (vt_not (vt_truth (ve_meth (ve_var (pv 0)) T.cl_Guesses T.me_Guesses_has (G .Guesses_has) hr0 T.bnd_Guesses_has takes_none5 (va_cons (ve_ix (id_ix2 (S.up) hu) (ve_var (pv 6)) (ve_c (d := .int 0) pe_int fun _ => mkI) (fun _ _ => rfl)) (va_cons (ve_ix (id_ix2 (S.up) hu) (ve_var (pv 6)) (ve_c (d := .int 1) pe_int fun _ => mkI) (fun _ _ => rfl)) va_nil)) (run_len .Guesses_has n)))))) (fun _ _ _ _ _ => (ve_var (pv 6))))
      (vss_one (vs_ret (ve_frzO (ve_make T.mk_Guesses (G .Guesses___init__) hr1 rfl T.c_Guesses T.bnd_Guesses___init__ tk (va_cons (ve_op od_add (ve_callTy (cd_list2 rfl) rfl T.b_list (by decide +kernel) (va_cons (ve_fld (ve_var (pv 0)) (CF.cons T.cl_Guesses T.na_Guesses_rows CF.nil)) va_nil)) (ve_var (pv 5))) va_nil) (run_len .Guesses___init__ n)))))))
theorem ok_Guesses___len__ (T : Txt P wd w mg fa fdat fx fdx cod cel fi fdi) {n : Nat} (G : AllOk P wd w mg base fa fdat recX n) (GX : AllX P wd w mg base fx fdx cod cel recX n) (runX_len : ∀ i ss st, ss.length + 1 ≠ (psX i).length → recX i ss st = .stuck) : FnOk P wd w.K mg base (L2.CX P wd) (5 * n + 4 + 1) (fa .Guesses___len__) (fdat .Guesses___len__) ["self"] (spOf w 1 (runDef false 1 1 (m_Guesses___len__ (runs recX n) recX))) :=
  fn_okC T.fn_Guesses___len__ sc_Guesses___len__ fun cdv A outer s' H E tk hp hr4 =>
    have hu := hr4.units
    have hu5 := hr4.units65
    have hr := hr4.mono (Nat.add_le_add_left (show 2 ≤ 4 by decide) (5 * n))
    have hr0 := hr4.mono (Nat.le_add_right (5 * n) 4)
    have hr1 := hr4.mono (Nat.add_le_add_left (show 1 ≤ 4 by decide) (5 * n))
    have S : Same w (cxD P wd w.K mg base N_Guesses___len__ "Guesses.__len__" s_Guesses___len__ (fa .Guesses___len__) cdv A outer s' H E) := ⟨rfl, T.sP, T.sw⟩
    (vss_one (vs_ret (ve_callB cd_len rfl T.b_len boot_len (va_cons (ve_fld (ve_var (pv 0)) (CF.cons T.cl_Guesses T.na_Guesses_rows CF.nil)) va_nil))))
theorem ok_Guesses___eq__ (T : Txt P wd w mg fa fdat fx fdx cod cel fi fdi) {n : Nat} (G : AllOk P wd w mg base fa fdat recX n) (GX : AllX P wd w mg base fx fdx cod cel recX n) (runX_len : ∀ i ss st, ss.length + 1 ≠ (psX i).length → recX i ss st = .stuck) : FnOk P wd w.K mg base (L2.CX P wd) (5 * n + 4 + 1) (fa .Guesses___eq__) (fdat .Guesses___eq__) ["self", "other"] (spOf w 2 (runDef false 2 2 (m_Guesses___eq__ (runs recX n) recX))) :=
  fn_okC T.fn_Guesses___eq__ sc_Guesses___eq__ fun cdv A outer s' H E tk hp hr4 =>
    have hu := hr4.units
    have hu5 := hr4.units65
    have hr := hr4.mono (Nat.add_le_add_left (show 2 ≤ 4 by decide) (5 * n))
    have hr0 := hr4.mono (Nat.le_add_right (5 * n) 4)
    have hr1 := hr4.mono (Nat.add_le_add_left (show 1 ≤ 4 by decide) (5 * n))
    have S : Same w (cxD P wd w.K mg base N_Guesses___eq__ "Guesses.__eq__" s_Guesses___eq__ (fa .Guesses___eq__) cdv A outer s' H E) := ⟨rfl, T.sP, T.sw⟩
    (vss_one (vs_ret (ve_and (ve_callB (cd_isi T.isi) rfl T.b_isinstance boot_isinstance (va_cons (ve_var (pv 1)) (va_cons (ve_c (d := .cls 7) (pe_glob (v := .ref (w.ct 7)) rfl T.c_Guesses rfl) fun _ => mkCls) va_nil))) (pe_one (ve_cmp (od_eq hu) (ve_fld (ve_var (pv 0)) (CF.cons T.cl_Guesses T.na_Guesses_text CF.nil)) (ve_fld (ve_var (pv 1)) (CF.cons T.cl_Guesses T.na_Guesses_text CF.nil)) (nomark _))))))
theorem ok_Guesses___str__ (T : Txt P wd w mg fa fdat fx fdx cod cel fi fdi) {n : Nat} (G : AllOk P wd w mg base fa fdat recX n) (GX : AllX P wd w mg base fx fdx cod cel recX n) (runX_len : ∀ i ss st, ss.length + 1 ≠ (psX i).length → recX i ss st = .stuck) : FnOk P wd w.K mg base (L2.CX P wd) (5 * n + 4 + 1) (fa .Guesses___str__) (fdat .Guesses___str__) ["self"] (spOf w 1 (runDef false 1 1 (m_Guesses___str__ (runs recX n) recX))) :=
  fn_okC T.fn_Guesses___str__ sc_Guesses___str__ fun cdv A outer s' H E tk hp hr4 =>
    have hu := hr4.units
    have hu5 := hr4.units65
    have hr := hr4.mono (Nat.add_le_add_left (show 2 ≤ 4 by decide) (5 * n))
    have hr0 := hr4.mono (Nat.le_add_right (5 * n) 4)
    have hr1 := hr4.mono (Nat.add_le_add_left (show 1 ≤ 4 by decide) (5 * n))
    have S : Same w (cxD P wd w.K mg base N_Guesses___str__ "Guesses.__str__" s_Guesses___str__ (fa .Guesses___str__) cdv A outer s' H E) := ⟨rfl, T.sP, T.sw⟩
    (vss_one (vs_ret (ve_callTy cd_str rfl T.b_str (by decide +kernel) (va_cons (ve_fld (ve_var (pv 0)) (CF.cons T.cl_Guesses T.na_Guesses_text CF.nil)) va_nil))))
theorem ok__law_is_right (T : Txt P wd w mg fa fdat fx fdx cod cel fi fdi) {n : Nat} (G : AllOk P wd w mg base fa fdat recX n) (GX : AllX P wd w mg base fx fdx cod cel recX n) (runX_len : ∀ i ss st, ss.length + 1 ≠ (psX i).length → recX i ss st = .stuck) : FnOk P wd w.K mg base (L2.CX P wd) (5 * n + 4 + 1) (fa ._law_is_right) (fdat ._law_is_right) ["guesses", "rows"] (spOf w 2 (runDef false 2 7 (m__law_is_right (runs recX n) recX))) :=
  fn_okC T.fn__law_is_right sc__law_is_right fun cdv A outer s' H E tk hp hr4 =>
    have hu := hr4.units
    have hu5 := hr4.units65
    have hr := hr4.mono (Nat.add_le_add_left (show 2 ≤ 4 by decide) (5 * n))
    have hr0 := hr4.mono (Nat.le_add_right (5 * n) 4)
    have hr1 := hr4.mono (Nat.add_le_add_left (show 1 ≤ 4 by decide) (5 * n))
    have S : Same w (cxD P wd w.K mg base N__law_is_right "_law_is_right" s__law_is_right (fa ._law_is_right) cdv A outer s' H E) := ⟨rfl, T.sP, T.sw⟩
    (vss_cons (vs_set (i := 2) sc__law_is_right.nd rfl (by first | exact Or.inl rfl | exact Or.inr rfl) (ve_callTy cd_tuple rfl T.b_tuple (by decide +kernel) (va_cons (ve_callB (cd_sorted hu) rfl T.b_sorted boot_sorted (va_cons (ve_var (pv 1)) va_nil)) va_nil)))
      (vss_cons (vs_set (i := 3) sc__law_is_right.nd rfl (by first | exact Or.inl rfl | exact Or.inr rfl) (ve_join S.K (ve_c (d := .str "\n") pe_str fun _ => mkS) (ve_lc (own := [("row", 4)]) rfl sc__law_is_right.nd (vi_data (ve_var (pv 2))) (by decide) (blkOk_by (N := N__law_is_right) (sc := defScope s__law_is_right) (by decide +kernel)) (fun _ _ _ _ _ => (pg_name (i := 4) sc__law_is_right.nd rfl (Or.inl rfl))) (fun _ _ _ _ _ => vpts_nil) (fun _ _ _ _ _ => (ve_call (G ._law_row_text) hr0 rfl T.g__law_row_text T.fn__law_row_text.kp T.bnd__law_row_text takes_none5 (va_cons (ve_var (pv 4)) va_nil) (run_len ._law_row_text n))))))
      (vss_cons (vs_if (vt_not (vt_truth (ve_callB (cd_isi T.isi) rfl T.b_isinstance boot_isinstance (va_cons (ve_var (pv 0)) (va_cons (ve_c (d := .cls 7) (pe_glob (v := .ref (w.ct 7)) rfl T.c_Guesses rfl) fun _ => mkCls) va_nil))))) (vss_one (vs_ret (ve_c (d := .bl false) pe_bl fun _ => mkB))) vss_nil)
      (vss_cons (vs_if (vt_not (vt_truth (ve_call (G ._law_same) hr0 rfl T.g__law_same T.fn__law_same.kp T.bnd__law_same tk (va_cons (ve_tup (va_cons (ve_fld (ve_var (pv 0)) (CF.cons T.cl_Guesses T.na_Guesses_rows CF.nil)) (va_cons (ve_fld (ve_var (pv 0)) (CF.cons T.cl_Guesses T.na_Guesses_text CF.nil)) (va_cons (ve_strO T.dun_Guesses___str__ (G .Guesses___str__) hr T.bnd_Guesses___str__ tk rfl T.b_str (ve_var (pv 0)) (run_len .Guesses___str__ n)) va_nil)))) (va_cons (ve_tup (va_cons (ve_var (pv 2)) (va_cons (ve_var (pv 3)) (va_cons (ve_var (pv 3)) va_nil)))) va_nil)) (run_len ._law_same n)))) (vss_one (vs_ret (ve_c (d := .bl false) pe_bl fun _ => mkB))) vss_nil)
      (vss_cons (vs_if (vt_not (vt_truth (ve_call (G ._law_same) hr0 rfl T.g__law_same T.fn__law_same.kp T.bnd__law_same tk (va_cons (ve_tup (va_cons (ve_lenO T.dun_Guesses___len__ (G .Guesses___len__) hr1 T.bnd_Guesses___len__ tk rfl T.b_len (ve_var (pv 0)) (run_len .Guesses___len__ n)) (va_cons (ve_callTy cd_tuple rfl T.b_tuple (by decide +kernel) (va_cons (ve_listO (k := 5 * n + 1) S.K T.lit_Guesses (fi_Guesses T) T.bndi_Guesses ((G .Guesses___len__).mono (Nat.le_succ _)) T.bnd_Guesses___len__ hr4 rfl T.b_list (ve_var (pv 0)) (run_len .Guesses___len__ n)) va_nil)) va_nil))) (va_cons (ve_tup (va_cons (ve_callB cd_len rfl T.b_len boot_len (va_cons (ve_var (pv 2)) va_nil)) (va_cons (ve_var (pv 2)) va_nil))) va_nil)) (run_len ._law_same n)))) (vss_one (vs_ret (ve_c (d := .bl false) pe_bl fun _ => mkB))) vss_nil)
      (vss_cons (vs_for hp rfl (vi_data (ve_var (pv 1))) (pg_name (i := 4) sc__law_is_right.nd rfl (Or.inl rfl)) (vss_cons (vs_set (i := 5) sc__law_is_right.nd rfl (by first | exact Or.inl rfl | exact Or.inr rfl) (ve_tup (va_cons (ve_meth (ve_var (pv 0)) T.cl_Guesses T.me_Guesses_at (G .Guesses_at) hr0 T.bnd_Guesses_at tk (va_cons (ve_ix (id_ix2 S hu) (ve_var (pv 4)) (ve_c (d := .int 0) pe_int fun _ => mkI) (fun _ _ => rfl)) (va_cons (ve_ix (id_ix2 S hu) (ve_var (pv 4)) (ve_c (d := .int 1) pe_int fun _ => mkI) (fun _ _ => rfl)) va_nil)) (run_len .Guesses_at n)) (va_cons (ve_meth (ve_var (pv 0)) T.cl_Guesses T.me_Guesses_has (G .Guesses_has) hr0 T.bnd_Guesses_has tk (va_cons (ve_ix (id_ix2 S hu) (ve_var (pv 4)) (ve_c (d := .int 0) pe_int fun _ => mkI) (fun _ _ => rfl)) (va_cons (ve_ix (id_ix2 S hu) (ve_var (pv 4)) (ve_c (d := .int 1) pe_int fun _ => mkI) (fun _ _ => rfl)) va_nil)) (run_len .Guesses_has n)) va_nil))))
      (vss_one (vs_if (vt_not (vt_truth (ve_call (G ._law_same) hr0 rfl T.g__law_same T.fn__law_same.kp T.bnd__law_same tk (va_cons (ve_var (pv 5)) (va_cons (ve_tup (va_cons (ve_ix (id_ix2 S hu) (ve_var (pv 4)) (ve_c (d := .int 2) pe_int fun _ => mkI) (fun _ _ => rfl)) (va_cons (ve_c (d := .bl true) pe_bl fun _ => mkB) va_nil))) va_nil)) (run_len ._law_same n)))) (vss_one (vs_ret (ve_c (d := .bl false) pe_bl fun _ => mkB))) vss_nil))))
      (vss_cons (vs_for hp rfl (vi_data (ve_call (G ._law_others) hr0 rfl T.g__law_others T.fn__law_others.kp T.bnd__law_others tk (va_cons (ve_var (pv 1)) va_nil) (run_len ._law_others n))) (pg_name (i := 6) sc__law_is_right.nd rfl (Or.inl rfl)) (vss_cons (vs_set (i := 5) sc__law_is_right.nd rfl (by first | exact Or.inl rfl | exact Or.inr rfl) (ve_tup (va_cons (ve_meth (ve_var (pv 0)) T.cl_Guesses T.me_Guesses_at (G .Guesses_at) hr0 T.bnd_Guesses_at tk (va_cons (ve_ix (id_ix2 S hu) (ve_var (pv 6)) (ve_c (d := .int 0) pe_int fun _ => mkI) (fun _ _ => rfl)) (va_cons (ve_ix (id_ix2 S hu) (ve_var (pv 6)) (ve_c (d := .int 1) pe_int fun _ => mkI) (fun _ _ => rfl)) va_nil)) (run_len .Guesses_at n)) (va_cons (ve_meth (ve_var (pv 0)) T.cl_Guesses T.me_Guesses_has (G .Guesses_has) hr0 T.bnd_Guesses_has tk (va_cons (ve_ix (id_ix2 S hu) (ve_var (pv 6)) (ve_c (d := .int 0) pe_int fun _ => mkI) (fun _ _ => rfl)) (va_cons (ve_ix (id_ix2 S hu) (ve_var (pv 6)) (ve_c (d := .int 1) pe_int fun _ => mkI) (fun _ _ => rfl)) va_nil)) (run_len .Guesses_has n)) va_nil))))
      (vss_one (vs_if (vt_not (vt_truth (ve_call (G ._law_same) hr0 rfl T.g__law_same T.fn__law_same.kp T.bnd__law_same tk (va_cons (ve_var (pv 5)) (va_cons (ve_tup (va_cons (ve_c (d := .int 0) pe_int fun _ => mkI) (va_cons (ve_c (d := .bl false) pe_bl fun _ => mkB) va_nil))) va_nil)) (run_len ._law_same n)))) (vss_one (vs_ret (ve_c (d := .bl false) pe_bl fun _ => mkB))) vss_nil))))
      (vss_one (vs_ret (ve_c (d := .bl true) pe_bl fun _ => mkB))))))))))
theorem ok__law_join (T : Txt P wd w mg fa fdat fx fdx cod cel fi fdi) {n : Nat} (G : AllOk P wd w mg base fa fdat recX n) (GX : AllX P wd w mg base fx fdx cod cel recX n) (runX_len : ∀ i ss st, ss.length + 1 ≠ (psX i).length → recX i ss st = .stuck) : FnOk P wd w.K mg base (L2.CX P wd) (5 * n + 4 + 1) (fa ._law_join) (fdat ._law_join) ["first", "second"] (spOf w 2 (runDef false 2 6 (m__law_join (runs recX n) recX))) :=
  fn_okC T.fn__law_join sc__law_join fun cdv A outer s' H E tk hp hr4 =>
    have hu := hr4.units
    have hu5 := hr4.units65
    have hr := hr4.mono (Nat.add_le_add_left (show 2 ≤ 4 by decide) (5 * n))
    have hr0 := hr4.mono (Nat.le_add_right (5 * n) 4)
    have hr1 := hr4.mono (Nat.add_le_add_left (show 1 ≤ 4 by decide) (5 * n))
    have S : Same w (cxD P wd w.K mg base N__law_join "_law_join" s__law_join (fa ._law_join) cdv A outer s' H E) := ⟨rfl, T.sP, T.sw⟩
    (vss_cons (vs_try (hs := hs__law_join) S.K rfl rfl sc__law_join.nd tk (fun W pn xe tk hp => (vss_one (vs_set (i := 3) sc__law_join.nd rfl (by first | exact Or.inl rfl | exact Or.inr rfl) (ve_frz (ve_binO T.dun_Guesses___or__ (G .Guesses___or__) hr0 T.bnd_Guesses___or__ tk (ve_var (pv 0)) (ve_var (pv 1)) (run_len .Guesses___or__ n))))))
      (Clauses.cons ⟨rfl, by decide, Or.inl T.c_Clash⟩ rfl rfl (fun a oe cls d pn hz hf => pss_suite fun e F0 Ca => (pss_when fun hc => (pss_opt fun x_name hx_name => (pss_opt fun x_numbers hx_numbers => (vss_cons (vs_set (i := 4) sc__law_join.nd rfl (by first | exact Or.inl rfl | exact Or.inr rfl) (ve_isX T.isi S.K Ca (by rw [hc]; exact T.xc_Clash) hz hf rfl T.b_isinstance (va_cons (ve_var (pv 2)) (va_cons (ve_tup (va_cons (ve_c (d := .cls 1) (pe_glob (v := .ref (w.ct 1)) rfl T.c_TooLarge rfl) fun _ => mkCls) (va_cons (ve_c (d := .cls 4) (pe_glob (v := .ref (w.ct 4)) rfl T.c_BadEntry rfl) fun _ => mkCls) (va_cons (ve_c (d := .cls 5) (pe_glob (v := .ref (w.ct 5)) rfl T.c_Standing rfl) fun _ => mkCls) (va_cons (ve_c (d := .cls 2) (pe_glob (v := .ref (w.ct 2)) rfl T.c_RowError rfl) fun _ => mkCls) va_nil))))) va_nil))))
      (vss_cons (vs_set (i := 5) sc__law_join.nd rfl (by first | exact Or.inl rfl | exact Or.inr rfl) (ve_tup (va_cons (ve_excFld S.K Ca (by rw [hc]; exact T.xf_Clash) (by rw [hc]; exact T.xn_Clash_name) hz hf hx_name (ve_var (pv 2))) (va_cons (ve_excFld S.K Ca (by rw [hc]; exact T.xf_Clash) (by rw [hc]; exact T.xn_Clash_numbers) hz hf hx_numbers (ve_var (pv 2))) va_nil))))
      (vss_one (vs_ret (ve_tup (va_cons (ve_c (d := .str "refused") pe_str fun _ => mkS) (va_cons (ve_c (d := .str "Clash") pe_str fun _ => mkS) (va_cons (ve_var (pv 5)) (va_cons (ve_isX T.isi S.K Ca (by rw [hc]; exact T.xc_Clash) hz hf rfl T.b_isinstance (va_cons (ve_var (pv 2)) (va_cons (ve_c (d := .cls 0) (pe_glob (v := .ref (w.ct 0)) rfl T.c_RightatlastError rfl) fun _ => mkCls) va_nil))) (va_cons (ve_var (pv 4)) va_nil))))))))))))))
      (Clauses.cons ⟨rfl, by decide, Or.inl T.c_TooLarge⟩ rfl rfl (fun a oe cls d pn hz hf => pss_suite fun e F0 Ca => (pss_when fun hc => (vss_cons (vs_set (i := 4) sc__law_join.nd rfl (by first | exact Or.inl rfl | exact Or.inr rfl) (ve_isX T.isi S.K Ca (by rw [hc]; exact T.xc_TooLarge) hz hf rfl T.b_isinstance (va_cons (ve_var (pv 2)) (va_cons (ve_tup (va_cons (ve_c (d := .cls 6) (pe_glob (v := .ref (w.ct 6)) rfl T.c_Clash rfl) fun _ => mkCls) (va_cons (ve_c (d := .cls 4) (pe_glob (v := .ref (w.ct 4)) rfl T.c_BadEntry rfl) fun _ => mkCls) (va_cons (ve_c (d := .cls 5) (pe_glob (v := .ref (w.ct 5)) rfl T.c_Standing rfl) fun _ => mkCls) (va_cons (ve_c (d := .cls 2) (pe_glob (v := .ref (w.ct 2)) rfl T.c_RowError rfl) fun _ => mkCls) va_nil))))) va_nil))))
      (vss_one (vs_ret (ve_tup (va_cons (ve_c (d := .str "refused") pe_str fun _ => mkS) (va_cons (ve_c (d := .str "TooLarge") pe_str fun _ => mkS) (va_cons (ve_c (d := .int 0) pe_int fun _ => mkI) (va_cons (ve_isX T.isi S.K Ca (by rw [hc]; exact T.xc_TooLarge) hz hf rfl T.b_isinstance (va_cons (ve_var (pv 2)) (va_cons (ve_c (d := .cls 0) (pe_glob (v := .ref (w.ct 0)) rfl T.c_RightatlastError rfl) fun _ => mkCls) va_nil))) (va_cons (ve_var (pv 4)) va_nil)))))))))))
      Clauses.nil))
      (HtOk.cons (Xm.cons T.xm_Clash_Clash (Xm.cons T.xm_TooLarge_Clash Xm.nil)) (HtOk.cons (Xm.cons T.xm_Clash_TooLarge (Xm.cons T.xm_TooLarge_TooLarge Xm.nil)) HtOk.nil)))
      (vss_one (vs_ret (ve_tup (va_cons (ve_c (d := .str "told") pe_str fun _ => mkS) (va_cons (ve_fld (ve_var (pv 3)) (CF.cons T.cl_Guesses T.na_Guesses_rows CF.nil)) va_nil))))))
theorem ok__law_pair (T : Txt P wd w mg fa fdat fx fdx cod cel fi fdi) {n : Nat} (G : AllOk P wd w mg base fa fdat recX n) (GX : AllX P wd w mg base fx fdx cod cel recX n) (runX_len : ∀ i ss st, ss.length + 1 ≠ (psX i).length → recX i ss st = .stuck) : FnOk P wd w.K mg base (L2.CX P wd) (5 * n + 4 + 1) (fa ._law_pair) (fdat ._law_pair) ["first", "second"] (spOf w 2 (runDef false 2 2 (m__law_pair (runs recX n) recX))) :=
  fn_okC T.fn__law_pair sc__law_pair fun cdv A outer s' H E tk hp hr4 =>
    have hu := hr4.units
    have hu5 := hr4.units65
    have hr := hr4.mono (Nat.add_le_add_left (show 2 ≤ 4 by decide) (5 * n))
    have hr0 := hr4.mono (Nat.le_add_right (5 * n) 4)
    have hr1 := hr4.mono (Nat.add_le_add_left (show 1 ≤ 4 by decide) (5 * n))
    have S : Same w (cxD P wd w.K mg base N__law_pair "_law_pair" s__law_pair (fa ._law_pair) cdv A outer s' H E) := ⟨rfl, T.sP, T.sw⟩
    (vss_one (vs_ret (ve_tup (va_cons (ve_call (G ._law_join) hr0 rfl T.g__law_join T.fn__law_join.kp T.bnd__law_join tk (va_cons (ve_var (pv 0)) (va_cons (ve_var (pv 1)) va_nil)) (run_len ._law_join n)) (va_cons (ve_call (G ._law_join) hr0 rfl T.g__law_join T.fn__law_join.kp T.bnd__law_join tk (va_cons (ve_var (pv 1)) (va_cons (ve_var (pv 0)) va_nil)) (run_len ._law_join n)) va_nil)))))
theorem ok__law_two_right (T : Txt P wd w mg fa fdat fx fdx cod cel fi fdi) {n : Nat} (G : AllOk P wd w mg base fa fdat recX n) (GX : AllX P wd w mg base fx fdx cod cel recX n) (runX_len : ∀ i ss st, ss.length + 1 ≠ (psX i).length → recX i ss st = .stuck) : FnOk P wd w.K mg base (L2.CX P wd) (5 * n + 4 + 1) (fa ._law_two_right) (fdat ._law_two_right) ["first", "rows", "second", "others"] (spOf w 4 (runDef false 4 7 (m__law_two_right (runs recX n) recX))) :=
  fn_okC T.fn__law_two_right sc__law_two_right fun cdv A outer s' H E tk hp hr4 =>
    have hu := hr4.units
    have hu5 := hr4.units65
    have hr := hr4.mono (Nat.add_le_add_left (show 2 ≤ 4 by decide) (5 * n))
    have hr0 := hr4.mono (Nat.le_add_right (5 * n) 4)
    have hr1 := hr4.mono (Nat.add_le_add_left (show 1 ≤ 4 by decide) (5 * n))
    have S : Same w (cxD P wd w.K mg base N__law_two_right "_law_two_right" s__law_two_right (fa ._law_two_right) cdv A outer s' H E) := ⟨rfl, T.sP, T.sw⟩
    (vss_cons (vs_set (i := 4) sc__law_two_right.nd rfl (by first | exact Or.inl rfl | exact Or.inr rfl) (ve_call (G ._law_due_join) hr0 rfl T.g__law_due_join T.fn__law_due_join.kp T.bnd__law_due_join tk (va_cons (ve_var (pv 1)) (va_cons (ve_var (pv 3)) va_nil)) (run_len ._law_due_join n)))
      (vss_cons (vs_if (vt_not (vt_truth (ve_call (G ._law_same) hr0 rfl T.g__law_same T.fn__law_same.kp T.bnd__law_same tk (va_cons (ve_call (G ._law_pair) hr0 rfl T.g__law_pair T.fn__law_pair.kp T.bnd__law_pair tk (va_cons (ve_var (pv 0)) (va_cons (ve_var (pv 2)) va_nil)) (run_len ._law_pair n)) (va_cons (ve_tup (va_cons (ve_var (pv 4)) (va_cons (ve_var (pv 4)) va_nil))) va_nil)) (run_len ._law_same n)))) (vss_one (vs_ret (ve_c (d := .bl false) pe_bl fun _ => mkB))) vss_nil)
      (vss_cons (vs_set (i := 5) sc__law_two_right.nd rfl (by first | exact Or.inl rfl | exact Or.inr rfl) (ve_tup (va_cons (ve_meth (ve_var (pv 0)) T.cl_Guesses T.me_Guesses_within (G .Guesses_within) hr0 T.bnd_Guesses_within tk (va_cons (ve_var (pv 2)) va_nil) (run_len .Guesses_within n)) (va_cons (ve_meth (ve_var (pv 2)) T.cl_Guesses T.me_Guesses_within (G .Guesses_within) hr0 T.bnd_Guesses_within tk (va_cons (ve_var (pv 0)) va_nil) (run_len .Guesses_within n)) va_nil))))
      (vss_cons (vs_if (vt_not (vt_truth (ve_call (G ._law_same) hr0 rfl T.g__law_same T.fn__law_same.kp T.bnd__law_same tk (va_cons (ve_var (pv 5)) (va_cons (ve_tup (va_cons (ve_call (G ._law_part) hr0 rfl T.g__law_part T.fn__law_part.kp T.bnd__law_part tk (va_cons (ve_var (pv 1)) (va_cons (ve_var (pv 3)) va_nil)) (run_len ._law_part n)) (va_cons (ve_call (G ._law_part) hr0 rfl T.g__law_part T.fn__law_part.kp T.bnd__law_part tk (va_cons (ve_var (pv 3)) (va_cons (ve_var (pv 1)) va_nil)) (run_len ._law_part n)) va_nil))) va_nil)) (run_len ._law_same n)))) (vss_one (vs_ret (ve_c (d := .bl false) pe_bl fun _ => mkB))) vss_nil)
      (vss_cons (vs_if (vt_cmp (od_eq hu) (ve_ix (id_ix2 S hu) (ve_var (pv 4)) (ve_c (d := .int 0) pe_int fun _ => mkI) (fun _ _ => rfl)) (ve_c (d := .str "told") pe_str fun _ => mkS) (nomark _)) (vss_cons (vs_set (i := 6) sc__law_two_right.nd rfl (by first | exact Or.inl rfl | exact Or.inr rfl) (ve_frz (ve_binO T.dun_Guesses___or__ (G .Guesses___or__) hr0 T.bnd_Guesses___or__ tk (ve_var (pv 0)) (ve_var (pv 2)) (run_len .Guesses___or__ n))))
      (vss_cons (vs_if (vt_not (vt_truth (ve_call (G ._law_is_right) hr0 rfl T.g__law_is_right T.fn__law_is_right.kp T.bnd__law_is_right tk (va_cons (ve_var (pv 6)) (va_cons (ve_callTy (cd_list2 rfl) rfl T.b_list (by decide +kernel) (va_cons (ve_ix (id_ix2 S hu) (ve_var (pv 4)) (ve_c (d := .int 1) pe_int fun _ => mkI) (fun _ _ => rfl)) va_nil)) va_nil)) (run_len ._law_is_right n)))) (vss_one (vs_ret (ve_c (d := .bl false) pe_bl fun _ => mkB))) vss_nil)
      (vss_cons (vs_if (vt_not (vt_truth (ve_call (G ._law_same) hr0 rfl T.g__law_same T.fn__law_same.kp T.bnd__law_same tk (va_cons (ve_call (G ._law_pair) hr0 rfl T.g__law_pair T.fn__law_pair.kp T.bnd__law_pair tk (va_cons (ve_var (pv 6)) (va_cons (ve_var (pv 0)) va_nil)) (run_len ._law_pair n)) (va_cons (ve_tup (va_cons (ve_var (pv 4)) (va_cons (ve_var (pv 4)) va_nil))) va_nil)) (run_len ._law_same n)))) (vss_one (vs_ret (ve_c (d := .bl false) pe_bl fun _ => mkB))) vss_nil)
      (vss_cons (vs_set (i := 5) sc__law_two_right.nd rfl (by first | exact Or.inl rfl | exact Or.inr rfl) (ve_tup (va_cons (ve_meth (ve_var (pv 0)) T.cl_Guesses T.me_Guesses_within (G .Guesses_within) hr0 T.bnd_Guesses_within tk (va_cons (ve_var (pv 6)) va_nil) (run_len .Guesses_within n)) (va_cons (ve_meth (ve_var (pv 2)) T.cl_Guesses T.me_Guesses_within (G .Guesses_within) hr0 T.bnd_Guesses_within tk (va_cons (ve_var (pv 6)) va_nil) (run_len .Guesses_within n)) (va_cons (ve_meth (ve_var (pv 6)) T.cl_Guesses T.me_Guesses_within (G .Guesses_within) hr0 T.bnd_Guesses_within tk (va_cons (ve_var (pv 0)) va_nil) (run_len .Guesses_within n)) va_nil)))))
      (vss_cons (vs_if (vt_not (vt_truth (ve_call (G ._law_same) hr0 rfl T.g__law_same T.fn__law_same.kp T.bnd__law_same tk (va_cons (ve_var (pv 5)) (va_cons (ve_tup (va_cons (ve_c (d := .bl true) pe_bl fun _ => mkB) (va_cons (ve_c (d := .bl true) pe_bl fun _ => mkB) (va_cons (ve_call (G ._law_part) hr0 rfl T.g__law_part T.fn__law_part.kp T.bnd__law_part tk (va_cons (ve_var (pv 3)) (va_cons (ve_var (pv 1)) va_nil)) (run_len ._law_part n)) va_nil)))) va_nil)) (run_len ._law_same n)))) (vss_one (vs_ret (ve_c (d := .bl false) pe_bl fun _ => mkB))) vss_nil)
      (vss_one (vs_if (vt_not (vt_truth (ve_call (G ._law_same) hr0 rfl T.g__law_same T.fn__law_same.kp T.bnd__law_same tk (va_cons (ve_eqO T.dun_Guesses___eq__ (G .Guesses___eq__) hr0 T.bnd_Guesses___eq__ tk (ve_var (pv 6)) (ve_frz (ve_binO T.dun_Guesses___or__ (G .Guesses___or__) hr0 T.bnd_Guesses___or__ tk (ve_var (pv 2)) (ve_var (pv 0)) (run_len .Guesses___or__ n))) (run_len .Guesses___eq__ n)) (va_cons (ve_c (d := .bl true) pe_bl fun _ => mkB) va_nil)) (run_len ._law_same n)))) (vss_one (vs_ret (ve_c (d := .bl false) pe_bl fun _ => mkB))) vss_nil))))))) vss_nil)
      (vss_one (vs_ret (ve_and (ve_call (G ._law_is_right) hr0 rfl T.g__law_is_right T.fn__law_is_right.kp T.bnd__law_is_right tk (va_cons (ve_var (pv 0)) (va_cons (ve_var (pv 1)) va_nil)) (run_len ._law_is_right n)) (pe_one (ve_call (G ._law_is_right) hr0 rfl T.g__law_is_right T.fn__law_is_right.kp T.bnd__law_is_right tk (va_cons (ve_var (pv 2)) (va_cons (ve_var (pv 3)) va_nil)) (run_len ._law_is_right n)))))))))))
theorem ok__law_large_right (T : Txt P wd w mg fa fdat fx fdx cod cel fi fdi) {n : Nat} (G : AllOk P wd w mg base fa fdat recX n) (GX : AllX P wd w mg base fx fdx cod cel recX n) (runX_len : ∀ i ss st, ss.length + 1 ≠ (psX i).length → recX i ss st = .stuck) : FnOk P wd w.K mg base (L2.CX P wd) (5 * n + 4 + 1) (fa ._law_large_right) (fdat ._law_large_right) [] (spOf w 0 (runDef false 0 8 (m__law_large_right (runs recX n) recX))) :=
  fn_okC T.fn__law_large_right sc__law_large_right fun cdv A outer s' H E tk hp hr4 =>
    have hu := hr4.units
    have hu5 := hr4.units65
    have hr := hr4.mono (Nat.add_le_add_left (show 2 ≤ 4 by decide) (5 * n))
    have hr0 := hr4.mono (Nat.le_add_right (5 * n) 4)
    have hr1 := hr4.mono (Nat.add_le_add_left (show 1 ≤ 4 by decide) (5 * n))
    have S : Same w (cxD P wd w.K mg base N__law_large_right "_law_large_right" s__law_large_right (fa ._law_large_right) cdv A outer s' H E) := ⟨rfl, T.sP, T.sw⟩
    (vss_cons (vs_set (i := 0) sc__law_large_right.nd rfl (by first | exact Or.inl rfl | exact Or.inr rfl) (ve_frzO (ve_make T.mk_Guesses (G .Guesses___init__) hr1 rfl T.c_Guesses T.bnd_Guesses___init__ tk (va_cons (ve_lc (own := [("k", 1)]) rfl sc__law_large_right.nd (vi_range1 (ve_c (d := .int 3000) pe_int fun _ => mkI) rfl T.b_range) (by decide) (blkOk_by (N := N__law_large_right) (sc := defScope s__law_large_right) (by decide +kernel)) (fun _ _ _ _ _ => (pg_name (i := 1) sc__law_large_right.nd rfl (Or.inl rfl))) (fun _ _ _ _ _ => vpts_nil) (fun _ _ _ _ _ => (ve_tup (va_cons (ve_c (d := .str "Ca") pe_str fun _ => mkS) (va_cons (ve_tup (va_cons (ve_var (pv 1)) va_nil)) (va_cons (ve_c (d := .int 1) pe_int fun _ => mkI) va_nil)))))) va_nil) (run_len .Guesses___init__ n))))
      (vss_cons (vs_setLc (i := 2) (own := [("k", 1)]) rfl sc__law_large_right.nd rfl rfl rfl (vi_range1 (ve_c (d := .int 2000) pe_int fun _ => mkI) rfl T.b_range) (by decide) (blkOk_by (N := N__law_large_right) (sc := defScope s__law_large_right) (by decide +kernel)) (fun _ _ _ _ _ => (pg_name (i := 1) sc__law_large_right.nd rfl (Or.inl rfl))) (fun _ _ _ _ _ => vpts_nil) (fun _ _ _ _ _ => (ve_tup (va_cons (ve_c (d := .str "Cb") pe_str fun _ => mkS) (va_cons (ve_tup (va_cons (ve_var (pv 1)) va_nil)) (va_cons (ve_c (d := .int 2) pe_int fun _ => mkI) va_nil))))))
      (vss_cons (vs_set (i := 3) sc__law_large_right.nd rfl (by first | exact Or.inl rfl | exact Or.inr rfl) (ve_frz (ve_binO T.dun_Guesses___or__ (G .Guesses___or__) hr0 T.bnd_Guesses___or__ tk (ve_var (pv 0)) (ve_frzO (ve_make T.mk_Guesses (G .Guesses___init__) hr1 rfl T.c_Guesses T.bnd_Guesses___init__ tk (va_cons (ve_op od_add (ve_var (pv 2)) (ve_lst (va_cons (ve_tup (va_cons (ve_c (d := .str "Ca") pe_str fun _ => mkS) (va_cons (ve_tup (va_cons (ve_c (d := .int 2999) pe_int fun _ => mkI) va_nil)) (va_cons (ve_c (d := .int 1) pe_int fun _ => mkI) va_nil)))) (va_cons (ve_tup (va_cons (ve_c (d := .str "Ca") pe_str fun _ => mkS) (va_cons (ve_tup (va_cons (ve_c (d := .int 0) pe_int fun _ => mkI) va_nil)) (va_cons (ve_c (d := .int 1) pe_int fun _ => mkI) va_nil)))) va_nil)))) va_nil) (run_len .Guesses___init__ n))) (run_len .Guesses___or__ n))))
      (vss_cons (vs_set (i := 4) sc__law_large_right.nd rfl (by first | exact Or.inl rfl | exact Or.inr rfl) (ve_tup (va_cons (ve_lenO T.dun_Guesses___len__ (G .Guesses___len__) hr1 T.bnd_Guesses___len__ tk rfl T.b_len (ve_var (pv 3)) (run_len .Guesses___len__ n)) (va_cons (ve_ix (id_ix2 S hu) (ve_fld (ve_var (pv 3)) (CF.cons T.cl_Guesses T.na_Guesses_rows CF.nil)) (ve_c (d := .int 2999) pe_int fun _ => mkI) (fun _ _ => rfl)) (va_cons (ve_ix (id_ix2 S hu) (ve_fld (ve_var (pv 3)) (CF.cons T.cl_Guesses T.na_Guesses_rows CF.nil)) (ve_c (d := .int 3000) pe_int fun _ => mkI) (fun _ _ => rfl)) va_nil)))))
      (vss_cons (vs_if (vt_not (vt_truth (ve_call (G ._law_same) hr0 rfl T.g__law_same T.fn__law_same.kp T.bnd__law_same tk (va_cons (ve_var (pv 4)) (va_cons (ve_tup (va_cons (ve_c (d := .int 5000) pe_int fun _ => mkI) (va_cons (ve_tup (va_cons (ve_c (d := .str "Ca") pe_str fun _ => mkS) (va_cons (ve_tup (va_cons (ve_c (d := .int 2999) pe_int fun _ => mkI) va_nil)) (va_cons (ve_c (d := .int 1) pe_int fun _ => mkI) va_nil)))) (va_cons (ve_tup (va_cons (ve_c (d := .str "Cb") pe_str fun _ => mkS) (va_cons (ve_tup (va_cons (ve_c (d := .int 0) pe_int fun _ => mkI) va_nil)) (va_cons (ve_c (d := .int 2) pe_int fun _ => mkI) va_nil)))) va_nil)))) va_nil)) (run_len ._law_same n)))) (vss_one (vs_ret (ve_c (d := .bl false) pe_bl fun _ => mkB))) vss_nil)
      (vss_cons (vs_if (vt_not (vt_truth (ve_call (G ._law_same) hr0 rfl T.g__law_same T.fn__law_same.kp T.bnd__law_same tk (va_cons (ve_tup (va_cons (ve_meth (ve_var (pv 3)) T.cl_Guesses T.me_Guesses_within (G .Guesses_within) hr0 T.bnd_Guesses_within tk (va_cons (ve_var (pv 0)) va_nil) (run_len .Guesses_within n)) (va_cons (ve_meth (ve_var (pv 0)) T.cl_Guesses T.me_Guesses_within (G .Guesses_within) hr0 T.bnd_Guesses_within tk (va_cons (ve_var (pv 3)) va_nil) (run_len .Guesses_within n)) va_nil))) (va_cons (ve_tup (va_cons (ve_c (d := .bl false) pe_bl fun _ => mkB) (va_cons (ve_c (d := .bl true) pe_bl fun _ => mkB) va_nil))) va_nil)) (run_len ._law_same n)))) (vss_one (vs_ret (ve_c (d := .bl false) pe_bl fun _ => mkB))) vss_nil)
      (vss_cons (vs_set (i := 5) sc__law_large_right.nd rfl (by first | exact Or.inl rfl | exact Or.inr rfl) (ve_tup (va_cons (ve_c (d := .str "refused") pe_str fun _ => mkS) (va_cons (ve_c (d := .str "TooLarge") pe_str fun _ => mkS) (va_cons (ve_c (d := .int 0) pe_int fun _ => mkI) (va_cons (ve_c (d := .bl true) pe_bl fun _ => mkB) (va_cons (ve_c (d := .bl false) pe_bl fun _ => mkB) va_nil)))))))
      (vss_cons (vs_set (i := 6) sc__law_large_right.nd rfl (by first | exact Or.inl rfl | exact Or.inr rfl) (ve_frzO (ve_make T.mk_Guesses (G .Guesses___init__) hr1 rfl T.c_Guesses T.bnd_Guesses___init__ tk (va_cons (ve_op od_add (ve_var (pv 2)) (ve_lst (va_cons (ve_tup (va_cons (ve_c (d := .str "Cb") pe_str fun _ => mkS) (va_cons (ve_tup (va_cons (ve_c (d := .int 99999) pe_int fun _ => mkI) va_nil)) (va_cons (ve_c (d := .int 2) pe_int fun _ => mkI) va_nil)))) va_nil))) va_nil) (run_len .Guesses___init__ n))))
      (vss_cons (vs_if (vt_not (vt_truth (ve_call (G ._law_same) hr0 rfl T.g__law_same T.fn__law_same.kp T.bnd__law_same tk (va_cons (ve_call (G ._law_pair) hr0 rfl T.g__law_pair T.fn__law_pair.kp T.bnd__law_pair tk (va_cons (ve_var (pv 0)) (va_cons (ve_var (pv 6)) va_nil)) (run_len ._law_pair n)) (va_cons (ve_tup (va_cons (ve_var (pv 5)) (va_cons (ve_var (pv 5)) va_nil))) va_nil)) (run_len ._law_same n)))) (vss_one (vs_ret (ve_c (d := .bl false) pe_bl fun _ => mkB))) vss_nil)
      (vss_cons (vs_set (i := 2) sc__law_large_right.nd rfl (by first | exact Or.inl rfl | exact Or.inr rfl) (ve_op od_add (ve_var (pv 2)) (ve_lst (va_cons (ve_tup (va_cons (ve_c (d := .str "Cb") pe_str fun _ => mkS) (va_cons (ve_tup (va_cons (ve_c (d := .int 99999) pe_int fun _ => mkI) va_nil)) (va_cons (ve_c (d := .int 2) pe_int fun _ => mkI) va_nil)))) (va_cons (ve_tup (va_cons (ve_c (d := .str "Ca") pe_str fun _ => mkS) (va_cons (ve_tup (va_cons (ve_c (d := .int 2999) pe_int fun _ => mkI) va_nil)) (va_cons (ve_c (d := .int 0) pe_int fun _ => mkI) va_nil)))) va_nil)))))
      (vss_cons (vs_set (i := 6) sc__law_large_right.nd rfl (by first | exact Or.inl rfl | exact Or.inr rfl) (ve_frzO (ve_make T.mk_Guesses (G .Guesses___init__) hr1 rfl T.c_Guesses T.bnd_Guesses___init__ tk (va_cons (ve_op od_add (ve_var (pv 2)) (ve_lst (va_cons (ve_tup (va_cons (ve_c (d := .str "Ca") pe_str fun _ => mkS) (va_cons (ve_tup (va_cons (ve_c (d := .int 71) pe_int fun _ => mkI) va_nil)) (va_cons (ve_c (d := .int 2) pe_int fun _ => mkI) va_nil)))) va_nil))) va_nil) (run_len .Guesses___init__ n))))
      (vss_cons (vs_set (i := 7) sc__law_large_right.nd rfl (by first | exact Or.inl rfl | exact Or.inr rfl) (ve_tup (va_cons (ve_c (d := .str "refused") pe_str fun _ => mkS) (va_cons (ve_c (d := .str "Clash") pe_str fun _ => mkS) (va_cons (ve_tup (va_cons (ve_c (d := .str "Ca") pe_str fun _ => mkS) (va_cons (ve_tup (va_cons (ve_c (d := .int 71) pe_int fun _ => mkI) va_nil)) va_nil))) (va_cons (ve_c (d := .bl true) pe_bl fun _ => mkB) (va_cons (ve_c (d := .bl false) pe_bl fun _ => mkB) va_nil)))))))
      (vss_one (vs_ret (ve_call (G ._law_same) hr0 rfl T.g__law_same T.fn__law_same.kp T.bnd__law_same tk (va_cons (ve_call (G ._law_pair) hr0 rfl T.g__law_pair T.fn__law_pair.kp T.bnd__law_pair tk (va_cons (ve_var (pv 0)) (va_cons (ve_var (pv 6)) va_nil)) (run_len ._law_pair n)) (va_cons (ve_tup (va_cons (ve_var (pv 7)) (va_cons (ve_var (pv 7)) va_nil))) va_nil)) (run_len ._law_same n))))))))))))))))
theorem ok_law (T : Txt P wd w mg fa fdat fx fdx cod cel fi fdi) {n : Nat} (G : AllOk P wd w mg base fa fdat recX n) (GX : AllX P wd w mg base fx fdx cod cel recX n) (runX_len : ∀ i ss st, ss.length + 1 ≠ (psX i).length → recX i ss st = .stuck) : FnOk P wd w.K mg base (L2.CX P wd) (5 * n + 4 + 1) (fa .law) (fdat .law) ["script"] (spOf w 1 (runDef false 1 10 (m_law (runs recX n) recX))) :=
  fn_okC T.fn_law sc_law fun cdv A outer s' H E tk hp hr4 =>
    have hu := hr4.units
    have hu5 := hr4.units65
    have hr := hr4.mono (Nat.add_le_add_left (show 2 ≤ 4 by decide) (5 * n))
    have hr0 := hr4.mono (Nat.le_add_right (5 * n) 4)
    have hr1 := hr4.mono (Nat.add_le_add_left (show 1 ≤ 4 by decide) (5 * n))
    have S : Same w (cxD P wd w.K mg base N_law "law" s_law (fa .law) cdv A outer s' H E) := ⟨rfl, T.sP, T.sw⟩
    (vss_cons (vs_set (i := 1) sc_law.nd rfl (by first | exact Or.inl rfl | exact Or.inr rfl) (ve_call (G ._law_new) hr0 rfl T.g__law_new T.fn__law_new.kp T.bnd__law_new tk (va_cons (ve_var (pv 0)) va_nil) (run_len ._law_new n)))
      (vss_cons (vs_if (vt_cmp (od_eq hu) (ve_call (G ._law_take) hr0 rfl T.g__law_take T.fn__law_take.kp T.bnd__law_take tk (va_cons (ve_var (pv 1)) (va_cons (ve_c (d := .int 50) pe_int fun _ => mkI) va_nil)) (run_len ._law_take n)) (ve_c (d := .int 49) pe_int fun _ => mkI) (nomark _)) (vss_one (vs_ret (ve_call0 (G ._law_large_right) hr0 rfl T.g__law_large_right T.fn__law_large_right.kp T.bnd__law_large_right tk))) vss_nil)
      (vss_cons (vs_set (i := 2) sc_law.nd rfl (by first | exact Or.inl rfl | exact Or.inr rfl) (ve_call (G ._law_draw_rows) hr0 rfl T.g__law_draw_rows T.fn__law_draw_rows.kp T.bnd__law_draw_rows tk (va_cons (ve_var (pv 1)) (va_cons (ve_ix (id_ix2 S hu) (ve_lst (va_cons (ve_c (d := .int 3) pe_int fun _ => mkI) (va_cons (ve_c (d := .int 2) pe_int fun _ => mkI) (va_cons (ve_c (d := .int 4) pe_int fun _ => mkI) (va_cons (ve_c (d := .int 1) pe_int fun _ => mkI) (va_cons (ve_c (d := .int 0) pe_int fun _ => mkI) (va_cons (ve_c (d := .int 5) pe_int fun _ => mkI) (va_cons (ve_c (d := .int 6) pe_int fun _ => mkI) va_nil)))))))) (ve_call (G ._law_take) hr0 rfl T.g__law_take T.fn__law_take.kp T.bnd__law_take tk (va_cons (ve_var (pv 1)) (va_cons (ve_c (d := .int 7) pe_int fun _ => mkI) va_nil)) (run_len ._law_take n)) (fun _ _ => rfl)) va_nil)) (run_len ._law_draw_rows n)))
      (vss_cons (vs_set (i := 3) sc_law.nd rfl (by first | exact Or.inl rfl | exact Or.inr rfl) (ve_frzO (ve_make T.mk_Guesses (G .Guesses___init__) hr1 rfl T.c_Guesses T.bnd_Guesses___init__ tk (va_cons (ve_callTy (cd_list2 rfl) rfl T.b_list (by decide +kernel) (va_cons (ve_var (pv 2)) va_nil)) va_nil) (run_len .Guesses___init__ n))))
      (vss_cons (vs_if (vt_not (vt_truth (ve_call (G ._law_two_right) hr0 rfl T.g__law_two_right T.fn__law_two_right.kp T.bnd__law_two_right tk (va_cons (ve_var (pv 3)) (va_cons (ve_var (pv 2)) (va_cons (ve_var (pv 3)) (va_cons (ve_var (pv 2)) va_nil)))) (run_len ._law_two_right n)))) (vss_one (vs_ret (ve_c (d := .bl false) pe_bl fun _ => mkB))) vss_nil)
      (vss_cons (vs_if (vt_not (vt_truth (ve_call (G ._law_two_right) hr0 rfl T.g__law_two_right T.fn__law_two_right.kp T.bnd__law_two_right tk (va_cons (ve_var (pv 3)) (va_cons (ve_var (pv 2)) (va_cons (ve_frzO (ve_make T.mk_Guesses (G .Guesses___init__) hr1 rfl T.c_Guesses T.bnd_Guesses___init__ tk (va_cons (ve_lst va_nil) va_nil) (run_len .Guesses___init__ n))) (va_cons (ve_lst va_nil) va_nil)))) (run_len ._law_two_right n)))) (vss_one (vs_ret (ve_c (d := .bl false) pe_bl fun _ => mkB))) vss_nil)
      (vss_cons (vs_set (i := 4) sc_law.nd rfl (by first | exact Or.inl rfl | exact Or.inr rfl) (ve_lstM va_nil))
      (vss_cons (vs_for hp rfl (vi_range1 (ve_c (d := .int 4) pe_int fun _ => mkI) rfl T.b_range) (pg_name (i := 5) sc_law.nd rfl (Or.inl rfl)) (vss_cons (vs_set (i := 6) sc_law.nd rfl (by first | exact Or.inl rfl | exact Or.inr rfl) (ve_call (G ._law_draw_second) hr0 rfl T.g__law_draw_second T.fn__law_draw_second.kp T.bnd__law_draw_second tk (va_cons (ve_var (pv 1)) (va_cons (ve_var (pv 2)) (va_cons (ve_var (pv 5)) va_nil))) (run_len ._law_draw_second n)))
      (vss_cons (vs_set (i := 7) sc_law.nd rfl (by first | exact Or.inl rfl | exact Or.inr rfl) (ve_frzO (ve_make T.mk_Guesses (G .Guesses___init__) hr1 rfl T.c_Guesses T.bnd_Guesses___init__ tk (va_cons (ve_callTy (cd_list2 rfl) rfl T.b_list (by decide +kernel) (va_cons (ve_var (pv 6)) va_nil)) va_nil) (run_len .Guesses___init__ n))))
      (vss_cons (vs_if (vt_not (vt_truth (ve_call (G ._law_two_right) hr0 rfl T.g__law_two_right T.fn__law_two_right.kp T.bnd__law_two_right tk (va_cons (ve_var (pv 3)) (va_cons (ve_var (pv 2)) (va_cons (ve_var (pv 7)) (va_cons (ve_var (pv 6)) va_nil)))) (run_len ._law_two_right n)))) (vss_one (vs_ret (ve_c (d := .bl false) pe_bl fun _ => mkB))) vss_nil)
      (vss_one (vs_expr (ve_append (ve_var (pv 4)) (ve_lst (va_cons (ve_var (pv 7)) (va_cons (ve_var (pv 6)) va_nil))))))))))
      (vss_cons (vs_set (i := 8) sc_law.nd rfl (by first | exact Or.inl rfl | exact Or.inr rfl) (ve_ix (id_ix2 S hu) (ve_var (pv 4)) (ve_call (G ._law_take) hr0 rfl T.g__law_take T.fn__law_take.kp T.bnd__law_take tk (va_cons (ve_var (pv 1)) (va_cons (ve_c (d := .int 4) pe_int fun _ => mkI) va_nil)) (run_len ._law_take n)) (fun _ _ => rfl)))
      (vss_cons (vs_set (i := 9) sc_law.nd rfl (by first | exact Or.inl rfl | exact Or.inr rfl) (ve_ix (id_ix2 S hu) (ve_var (pv 4)) (ve_call (G ._law_take) hr0 rfl T.g__law_take T.fn__law_take.kp T.bnd__law_take tk (va_cons (ve_var (pv 1)) (va_cons (ve_c (d := .int 4) pe_int fun _ => mkI) va_nil)) (run_len ._law_take n)) (fun _ _ => rfl)))
      (vss_cons (vs_if (vt_not (vt_truth (ve_call (G ._law_two_right) hr0 rfl T.g__law_two_right T.fn__law_two_right.kp T.bnd__law_two_right tk (va_cons (ve_ix (id_ix2 S hu) (ve_var (pv 8)) (ve_c (d := .int 0) pe_int fun _ => mkI) (fun _ _ => rfl)) (va_cons (ve_ix (id_ix2 S hu) (ve_var (pv 8)) (ve_c (d := .int 1) pe_int fun _ => mkI) (fun _ _ => rfl)) (va_cons (ve_ix (id_ix2 S hu) (ve_var (pv 9)) (ve_c (d := .int 0) pe_int fun _ => mkI) (fun _ _ => rfl)) (va_cons (ve_ix (id_ix2 S hu) (ve_var (pv 9)) (ve_c (d := .int 1) pe_int fun _ => mkI) (fun _ _ => rfl)) va_nil)))) (run_len ._law_two_right n)))) (vss_one (vs_ret (ve_c (d := .bl false) pe_bl fun _ => mkB))) vss_nil)
      (vss_one (vs_ret (ve_call (G ._law_is_right) hr0 rfl T.g__law_is_right T.fn__law_is_right.kp T.bnd__law_is_right tk (va_cons (ve_var (pv 3)) (va_cons (ve_var (pv 2)) va_nil)) (run_len ._law_is_right n)))))))))))))))
end
end K17
set_option Elab.async false
set_option linter.all false
set_option maxRecDepth 100000
set_option maxHeartbeats 4000000
namespace K17
open PySem L2 VL PyProof.Rows NdefX
def topSX (i : Nat) : Stmt := PySem.Challenge.pw_rightatlast_k17_guesses_joined.main.body.getD i (.Pass ⟨0, 0, 0, 0⟩)
abbrev s_Clash___init__ : Stmt := inClass (topSX 8) 0
abbrev N_Clash___init__ : List Str := ["self", "name", "numbers", "__class__"]
theorem nsc_Clash___init__ : NScope N_Clash___init__ ["self", "name", "numbers"] ["__class__"] (defScope s_Clash___init__) := nscope_by (by decide +kernel)
theorem lk1_Clash___init__ : (defScope s_Clash___init__).names.lookup ("super" : Str) = some .globalImplicit := by decide +kernel
theorem lk2_Clash___init__ : (defScope s_Clash___init__).names.lookup ("__class__" : Str) = some .free := by decide +kernel
theorem lk3_Clash___init__ : (defScope s_Clash___init__).names.lookup ("self" : Str) = some .local := by decide +kernel
def me_Clash___init__ : MU := (mBdJ [(mBdC "the guesses for "), (mBd bdD (mVar 1)), (mBdC " at "), (mBd bdD (mVar 2)), (mBdC " differ")] 0)
def fl_Clash___init__ : List (Str × MV) := [("name", (mVar 1)), ("numbers", (mB tupleD (mCons (mVar 2) mNil)))]
theorem okx_Clash___init__ {P : Program} {wd : World} {w : Wd} {mg : Str → Option Value} {base : Heap} {fd : FuncData} {oc dV kV doc pm ct : Value} {od an : Option Addr} {osl : Array (Option Value)} {f c cc D : Addr} {k : Nat} (sP : w.ct.P = P) (sw : w.ct.wd = wd) (b_tuple : mg "tuple" = none)
    (hfd : fd = PySem.W.fnX "__init__" "Clash.__init__" (defArgs s_Clash___init__) (defBody s_Clash___init__) (defScope s_Clash___init__) [(("__class__" : Str), cc)] dV kV doc pm an (.ref c) ct) (lk : w.K.lookup f = some ⟨oc, od, .func fd, osl⟩) (hcd : PySem.W.codeIn w.K (.ref c) "Clash.__init__" = true)
    (hcc : ∃ cl cld csl, w.K.lookup cc = some ⟨cl, cld, .cell (some (.ref D)), csl⟩) :
    FnOk P wd w.K mg base (L2.CX P wd) (k + 1) f fd ["self", "name", "numbers"] (spX w P mg c cc D ["name", "numbers"] 3 (runX 3 4 me_Clash___init__ fl_Clash___init__)) :=
  fn_initX (Fx := ⟨"__init__", "Clash.__init__", defArgs s_Clash___init__, defBody s_Clash___init__, defScope s_Clash___init__, [(("__class__" : Str), cc)], c⟩) hfd lk hcd rfl rfl nsc_Clash___init__ hcc rfl rfl lk1_Clash___init__ lk2_Clash___init__ lk3_Clash___init__ (by intro p hp; simp [fl_Clash___init__] at hp; rcases hp with rfl | rfl <;> simp) (by decide) rfl
    (fun A outer s H E hr =>
      have hu := hr.units
      have S : Same w (ncx (L2.CX P wd) P wd w.K mg base N_Clash___init__ ⟨"__init__", "Clash.__init__", defArgs s_Clash___init__, defBody s_Clash___init__, defScope s_Clash___init__, [(("__class__" : Str), cc)], c⟩ f A outer s H E) := ⟨rfl, sP, sw⟩
      ⟨(vb_joined (vbj_cons (vb_c (x := "the guesses for ") pe_str) (vbj_cons (vb_fmt S.K hu (ve_var (pv 1))) (vbj_cons (vb_c (x := " at ") pe_str) (vbj_cons (vb_fmt S.K hu (ve_var (pv 2))) (vbj_cons (vb_c (x := " differ") pe_str) vbj_nil)))))), (pss_cons (ps_ost (pv 0) (ve_var (pv 1))) (pss_cons (ps_ost (pv 0) (ve_callTy cd_tuple rfl b_tuple (by decide +kernel) (va_cons (ve_var (pv 2)) va_nil))) pss_nil))⟩)
    (pl := _) (hev := fun _ => rfl)
end K17
set_option Elab.async false
set_option linter.all false
set_option maxRecDepth 100000
set_option maxHeartbeats 8000000
namespace K17
open PySem L2 VL PyProof.Rows NdefX
theorem lk_mem {α β : Type} [BEq α] [LawfulBEq α] {a : α} {b : β} : ∀ {l : List (α × β)}, l.lookup a = some b → (a, b) ∈ l
  | [], h => nomatch h
  | (c, d) :: r, h => by
    by_cases hc : (a == c) = true
    · simp only [List.lookup, hc] at h
      cases h
      rw [beq_iff_eq.mp hc]
      exact List.mem_cons_self
    · have hc' : (a == c) = false := by simpa using hc
      simp only [List.lookup, hc'] at h
      exact List.mem_cons_of_mem _ (lk_mem h)
theorem fn_false {P : Program} {wd : World} {K : PySem.W.Frag} {mg : Str → Option Value} {base : Heap} {CX : CXT} {k : Nat} {f : Addr} {fd : FuncData} {ps : List Str} {sp : Sp} (h : ∀ vs H Q E, ¬ sp vs H Q E) : FnOk P wd K mg base CX k f fd ps sp :=
  ⟨fun vs H Q E z => absurd z (h vs H Q E), fun A outer s H args us vs Q E hr e0 hb r z => absurd z (h vs H Q E)⟩
def recX0 : RecX
  | .Clash___init__ => runX 3 4 me_Clash___init__ fl_Clash___init__
theorem recX0_len (i : Xid) (ss : List SV) (st : Store) (h : ss.length + 1 ≠ (psX i).length) : recX0 i ss st = .stuck := by
  cases i
  show runX 3 4 me_Clash___init__ fl_Clash___init__ ss st = .stuck
  exact if_neg h
section
variable {P : Program} {wd : World} {w : Wd} {mg : Str → Option Value} {base : Heap} {fa : Fid → Addr} {fdat : Fid → FuncData} {fx : Xid → Addr} {fdx : Xid → FuncData} {cod cel : Xid → Addr} {fi : Addr} {fdi : FuncData}
theorem all_ok (T : Txt P wd w mg fa fdat fx fdx cod cel fi fdi) (GX : ∀ n, AllX P wd w mg base fx fdx cod cel recX0 n) : ∀ n, AllOk P wd w mg base fa fdat recX0 n
  | 0 => fun i => fn_false fun vs H Q E h => by
    obtain ⟨_, F, ρ, st, ss, _, _, h⟩ := h
    exact h
  | n + 1 => fun i => by
    cases i
    · exact ok__law_new T (all_ok T GX n) (GX n) recX0_len
    · exact ok__law_take T (all_ok T GX n) (GX n) recX0_len
    · exact ok__law_same T (all_ok T GX n) (GX n) recX0_len
    · exact ok__law_number T (all_ok T GX n) (GX n) recX0_len
    · exact ok__law_draw_entry T (all_ok T GX n) (GX n) recX0_len
    · exact ok__law_find T (all_ok T GX n) (GX n) recX0_len
    · exact ok__law_draw_rows T (all_ok T GX n) (GX n) recX0_len
    · exact ok__law_row_text T (all_ok T GX n) (GX n) recX0_len
    · exact ok__law_others T (all_ok T GX n) (GX n) recX0_len
    · exact ok__law_all_rows T (all_ok T GX n) (GX n) recX0_len
    · exact ok__law_due_join T (all_ok T GX n) (GX n) recX0_len
    · exact ok__law_part T (all_ok T GX n) (GX n) recX0_len
    · exact ok__law_draw_second T (all_ok T GX n) (GX n) recX0_len
    · exact ok__spelt T (all_ok T GX n) (GX n) recX0_len
    · exact ok_is_choice T (all_ok T GX n) (GX n) recX0_len
    · exact ok_key_text T (all_ok T GX n) (GX n) recX0_len
    · exact ok_entry_text T (all_ok T GX n) (GX n) recX0_len
    · exact ok_can_be_entry T (all_ok T GX n) (GX n) recX0_len
    · exact ok_Guesses___init__ T (all_ok T GX n) (GX n) recX0_len
    · exact ok_Guesses_as_table T (all_ok T GX n) (GX n) recX0_len
    · exact ok_Guesses_at T (all_ok T GX n) (GX n) recX0_len
    · exact ok_Guesses_has T (all_ok T GX n) (GX n) recX0_len
    · exact ok_Guesses_within T (all_ok T GX n) (GX n) recX0_len
    · exact ok_Guesses___or__ T (all_ok T GX n) (GX n) recX0_len
    · exact ok_Guesses___len__ T (all_ok T GX n) (GX n) recX0_len
    · exact ok_Guesses___eq__ T (all_ok T GX n) (GX n) recX0_len
    · exact ok_Guesses___str__ T (all_ok T GX n) (GX n) recX0_len
    · exact ok__law_is_right T (all_ok T GX n) (GX n) recX0_len
    · exact ok__law_join T (all_ok T GX n) (GX n) recX0_len
    · exact ok__law_pair T (all_ok T GX n) (GX n) recX0_len
    · exact ok__law_two_right T (all_ok T GX n) (GX n) recX0_len
    · exact ok__law_large_right T (all_ok T GX n) (GX n) recX0_len
    · exact ok_law T (all_ok T GX n) (GX n) recX0_len
end
def spLaw (K : PySem.W.Frag) (P : Program) (wd : World) : Sp := fun vs H Q E => ∀ ctf : Nat → Addr, spOf ⟨K, ⟨ctf, P, wd⟩, fun _ => none⟩ 1 (runs recX0 20 .law) vs H Q E
theorem scr_dn {w : Wd} {F : Hp} : ∀ (ns : List Int), w.DnL F (ns.map .int) (ns.map V.int)
  | [] => by show w.DnL F [] []; unfold Wd.DnL DnL; rfl
  | n :: r => by
    show DnL _ _ F (.int n :: r.map .int) (V.int n :: r.map V.int)
    unfold DnL
    exact ⟨_, _, rfl, by unfold Dn; rfl, scr_dn r⟩
theorem law_sp (hm : ∀ ns : List Int, ns.length ≤ 63 → ∃ st', runs recX0 20 .law [.d (.scr (ns.map .int))] [] = .ok (.d (.bl true)) st') (K : PySem.W.Frag) (P : Program) (wd : World) (H : Hp) (a : Addr) (ns : List Int) (hl : ns.length ≤ 63) (hS : SqL K H a (ns.map V.int)) :
    spLaw K P wd [.ref a] H (fun v _ => v = .bl true) fun _ _ _ => False := by
  intro ctf
  obtain ⟨st', e⟩ := hm ns hl
  refine ⟨rfl, H, [], [], [.d (.scr (ns.map .int))], ⟨Fle.refl H, rfl, (fun a h => by cases h), (fun l a c h => by simp at h), List.nodup_nil, fun _ _ h => nomatch h⟩, ?_, ?_⟩
  · unfold SVL
    refine ⟨_, _, rfl, ?_, by unfold SVL; rfl⟩
    show Wd.Dn _ H _ _
    unfold Wd.Dn Dn
    exact ⟨a, _, rfl, hS, scr_dn ns⟩
  · rw [e]
    intro F' ρ' H' v e1 re1 hv
    have hv' : Wd.Dn ⟨K, ⟨ctf, P, wd⟩, fun _ => none⟩ F' (.bl true) v := hv
    unfold Wd.Dn Dn at hv'
    exact hv'
theorem walk {l : PySem.W.OpenLaw} {q : Program} {loose : List Str} {XP : (Str → Option Value) → Heap → Prop} {YP : World → Heap → Prop} {d : DefRec} {K : Params → PySem.W.Frag} (hm : ∀ ns : List Int, ns.length ≤ 63 → ∃ st', runs recX0 20 .law [.d (.scr (ns.map .int))] [] = .ok (.d (.bl true)) st') (hn : l.most = some 63) (hdf : d.params.defaults = [])
    (hY : ∀ (w : World) (h : Heap), YP w h → (K w.params).In h)
    (F : ∀ (w : World) (mg : Str → Option Value) (fa : Addr) (h : Heap), (K w.params).In h → h.Ns mainGlobals mg → mg d.name = some (.ref fa) →
      ∃ fd : FuncData, (∀ (s : Shared) (u : Value), BindsTo s fd ⟨[u], []⟩ [("script", u)]) ∧ ∀ base : Heap, (K w.params).In base → base.Ns mainGlobals mg → FnOk l.prog w (K w.params) mg base (L2.CX l.prog w) 100 fa fd ["script"] (spLaw (K w.params) l.prog w)) :
    PySem.W.WalkO q loose XP YP l.row.toRowW d [] (fun f vs => PySem.call f vs) :=
  L2.walk_of (n := 63) (k := 100) (x := "script") (CX := fun w => L2.CX l.prog w) (sp := fun w => spLaw (K w.params) l.prog w) hn (by decide) hdf ⟨rfl, by decide, by decide⟩ hY F (fun w H a ns hl _ hS => law_sp hm _ _ _ H a ns hl hS) fun w H s e s' c => by
    obtain ⟨a, B, H', cls, d, rfl, fl, hok, ub, na, os, ag, hE⟩ := c
    exact hE.elim
theorem all_mk {P : Program} {wd : World} {K : PySem.W.Frag} {h : Heap} {mg : Str → Option Value} {fl : Addr} (XK : K.In h) (G : h.Ns mainGlobals mg) (hfa : mg "law" = some (.ref fl))
    {f0 f1 f2 f3 f4 f5 f6 f7 f8 f9 f10 f11 f12 f13 f14 f15 f16 f17 f18 f19 f20 f21 f22 f23 f24 f25 f26 f27 f28 f29 f30 f31 f32 C0 C1 C2 C4 C5 C6 C7 fxi xcc xco fi : Addr}
    {od0 an0 od1 an1 od2 an2 od3 an3 od4 an4 od5 an5 od6 an6 od7 an7 od8 an8 od9 an9 od10 an10 od11 an11 od12 an12 od13 an13 od14 an14 od15 an15 od16 an16 od17 an17 od18 an18 od19 an19 od20 an20 od21 an21 od22 an22 od23 an23 od24 an24 od25 an25 od26 an26 od27 an27 od28 an28 od29 an29 od30 an30 od31 an31 od32 an32 xod xan xcdd xcld xdd odi ani : Option Addr} {sl0 sl1 sl2 sl3 sl4 sl5 sl6 sl7 sl8 sl9 sl10 sl11 sl12 sl13 sl14 sl15 sl16 sl17 sl18 sl19 sl20 sl21 sl22 sl23 sl24 sl25 sl26 sl27 sl28 sl29 sl30 sl31 sl32 xosl xccs xcsl sli : Array (Option Value)}
    {oc0 kV0 dc0 pm0 cd0 ct0 oc1 kV1 dc1 pm1 cd1 ct1 oc2 kV2 dc2 pm2 cd2 ct2 oc3 kV3 dc3 pm3 cd3 ct3 oc4 kV4 dc4 pm4 cd4 ct4 oc5 kV5 dc5 pm5 cd5 ct5 oc6 kV6 dc6 pm6 cd6 ct6 oc7 kV7 dc7 pm7 cd7 ct7 oc8 kV8 dc8 pm8 cd8 ct8 oc9 kV9 dc9 pm9 cd9 ct9 oc10 kV10 dc10 pm10 cd10 ct10 oc11 kV11 dc11 pm11 cd11 ct11 oc12 kV12 dc12 pm12 cd12 ct12 oc13 kV13 dc13 pm13 cd13 ct13 oc14 kV14 dc14 pm14 cd14 ct14 oc15 kV15 dc15 pm15 cd15 ct15 oc16 kV16 dc16 pm16 cd16 ct16 oc17 kV17 dc17 pm17 cd17 ct17 oc18 kV18 dc18 pm18 cd18 ct18 oc19 kV19 dc19 pm19 cd19 ct19 oc20 kV20 dc20 pm20 cd20 ct20 oc21 kV21 dc21 pm21 cd21 ct21 oc22 kV22 dc22 pm22 cd22 ct22 oc23 kV23 dc23 pm23 cd23 ct23 oc24 kV24 dc24 pm24 cd24 ct24 oc25 kV25 dc25 pm25 cd25 ct25 oc26 kV26 dc26 pm26 cd26 ct26 oc27 kV27 dc27 pm27 cd27 ct27 oc28 kV28 dc28 pm28 cd28 ct28 oc29 kV29 dc29 pm29 cd29 ct29 oc30 kV30 dc30 pm30 cd30 ct30 oc31 kV31 dc31 pm31 cd31 ct31 oc32 kV32 dc32 pm32 cd32 ct32 oci kVi dci pmi cdi cti xoc xkV xdc xpm xct xccl xcl : Value} {xvs : Array Value} {xfile xnm xq : Str} {t_CAPITALS t_MOST_ENTERED t_MOST_ENTRIES t_MOST_KEY_NUMBERS t_SMALL xtf : Tok} {xN : Addr} {xbs xbm xsub : List Value} {xsn : List Str} {xab : Bool} {xcol : Option Bool} {xk0 xk1 xk2 xk3 xk5 : Option Value}
    (aC7 : PySem.W.nsIn K mainGlobals "Guesses" = some (some (.ref C7)))
    (aC6 : PySem.W.nsIn K mainGlobals "Clash" = some (some (.ref C6)))
    (aC5 : PySem.W.nsIn K mainGlobals "Standing" = some (some (.ref C5)))
    (aC4 : PySem.W.nsIn K mainGlobals "BadEntry" = some (some (.ref C4)))
    (aC2 : PySem.W.nsIn K mainGlobals "RowError" = some (some (.ref C2)))
    (aC1 : PySem.W.nsIn K mainGlobals "TooLarge" = some (some (.ref C1)))
    (aC0 : PySem.W.nsIn K mainGlobals "RightatlastError" = some (some (.ref C0)))
    (a0 : PySem.W.nsIn K mainGlobals "_law_new" = some (some (.ref f0)))
    (l0 : K.lookup f0 = some ⟨oc0, od0, .func (PySem.W.fnOf "_law_new" "_law_new" (defArgs s__law_new) (defBody s__law_new) (defScope s__law_new) .none kV0 dc0 pm0 an0 cd0 ct0), sl0⟩)
    (c0 : PySem.W.codeIn K cd0 "_law_new" = true)
    (k0 : PySem.W.keepIn K (.ref f0) = true)
    (a1 : PySem.W.nsIn K mainGlobals "_law_take" = some (some (.ref f1)))
    (l1 : K.lookup f1 = some ⟨oc1, od1, .func (PySem.W.fnOf "_law_take" "_law_take" (defArgs s__law_take) (defBody s__law_take) (defScope s__law_take) .none kV1 dc1 pm1 an1 cd1 ct1), sl1⟩)
    (c1 : PySem.W.codeIn K cd1 "_law_take" = true)
    (k1 : PySem.W.keepIn K (.ref f1) = true)
    (a2 : PySem.W.nsIn K mainGlobals "_law_same" = some (some (.ref f2)))
    (l2 : K.lookup f2 = some ⟨oc2, od2, .func (PySem.W.fnOf "_law_same" "_law_same" (defArgs s__law_same) (defBody s__law_same) (defScope s__law_same) .none kV2 dc2 pm2 an2 cd2 ct2), sl2⟩)
    (c2 : PySem.W.codeIn K cd2 "_law_same" = true)
    (k2 : PySem.W.keepIn K (.ref f2) = true)
    (a3 : PySem.W.nsIn K mainGlobals "_law_number" = some (some (.ref f3)))
    (l3 : K.lookup f3 = some ⟨oc3, od3, .func (PySem.W.fnOf "_law_number" "_law_number" (defArgs s__law_number) (defBody s__law_number) (defScope s__law_number) .none kV3 dc3 pm3 an3 cd3 ct3), sl3⟩)
    (c3 : PySem.W.codeIn K cd3 "_law_number" = true)
    (k3 : PySem.W.keepIn K (.ref f3) = true)
    (a4 : PySem.W.nsIn K mainGlobals "_law_draw_entry" = some (some (.ref f4)))
    (l4 : K.lookup f4 = some ⟨oc4, od4, .func (PySem.W.fnOf "_law_draw_entry" "_law_draw_entry" (defArgs s__law_draw_entry) (defBody s__law_draw_entry) (defScope s__law_draw_entry) .none kV4 dc4 pm4 an4 cd4 ct4), sl4⟩)
    (c4 : PySem.W.codeIn K cd4 "_law_draw_entry" = true)
    (k4 : PySem.W.keepIn K (.ref f4) = true)
    (a5 : PySem.W.nsIn K mainGlobals "_law_find" = some (some (.ref f5)))
    (l5 : K.lookup f5 = some ⟨oc5, od5, .func (PySem.W.fnOf "_law_find" "_law_find" (defArgs s__law_find) (defBody s__law_find) (defScope s__law_find) .none kV5 dc5 pm5 an5 cd5 ct5), sl5⟩)
    (c5 : PySem.W.codeIn K cd5 "_law_find" = true)
    (k5 : PySem.W.keepIn K (.ref f5) = true)
    (a6 : PySem.W.nsIn K mainGlobals "_law_draw_rows" = some (some (.ref f6)))
    (l6 : K.lookup f6 = some ⟨oc6, od6, .func (PySem.W.fnOf "_law_draw_rows" "_law_draw_rows" (defArgs s__law_draw_rows) (defBody s__law_draw_rows) (defScope s__law_draw_rows) .none kV6 dc6 pm6 an6 cd6 ct6), sl6⟩)
    (c6 : PySem.W.codeIn K cd6 "_law_draw_rows" = true)
    (k6 : PySem.W.keepIn K (.ref f6) = true)
    (a7 : PySem.W.nsIn K mainGlobals "_law_row_text" = some (some (.ref f7)))
    (l7 : K.lookup f7 = some ⟨oc7, od7, .func (PySem.W.fnOf "_law_row_text" "_law_row_text" (defArgs s__law_row_text) (defBody s__law_row_text) (defScope s__law_row_text) .none kV7 dc7 pm7 an7 cd7 ct7), sl7⟩)
    (c7 : PySem.W.codeIn K cd7 "_law_row_text" = true)
    (k7 : PySem.W.keepIn K (.ref f7) = true)
    (a8 : PySem.W.nsIn K mainGlobals "_law_others" = some (some (.ref f8)))
    (l8 : K.lookup f8 = some ⟨oc8, od8, .func (PySem.W.fnOf "_law_others" "_law_others" (defArgs s__law_others) (defBody s__law_others) (defScope s__law_others) .none kV8 dc8 pm8 an8 cd8 ct8), sl8⟩)
    (c8 : PySem.W.codeIn K cd8 "_law_others" = true)
    (k8 : PySem.W.keepIn K (.ref f8) = true)
    (a9 : PySem.W.nsIn K mainGlobals "_law_all_rows" = some (some (.ref f9)))
    (l9 : K.lookup f9 = some ⟨oc9, od9, .func (PySem.W.fnOf "_law_all_rows" "_law_all_rows" (defArgs s__law_all_rows) (defBody s__law_all_rows) (defScope s__law_all_rows) .none kV9 dc9 pm9 an9 cd9 ct9), sl9⟩)
    (c9 : PySem.W.codeIn K cd9 "_law_all_rows" = true)
    (k9 : PySem.W.keepIn K (.ref f9) = true)
    (a10 : PySem.W.nsIn K mainGlobals "_law_due_join" = some (some (.ref f10)))
    (l10 : K.lookup f10 = some ⟨oc10, od10, .func (PySem.W.fnOf "_law_due_join" "_law_due_join" (defArgs s__law_due_join) (defBody s__law_due_join) (defScope s__law_due_join) .none kV10 dc10 pm10 an10 cd10 ct10), sl10⟩)
    (c10 : PySem.W.codeIn K cd10 "_law_due_join" = true)
    (k10 : PySem.W.keepIn K (.ref f10) = true)
    (a11 : PySem.W.nsIn K mainGlobals "_law_part" = some (some (.ref f11)))
    (l11 : K.lookup f11 = some ⟨oc11, od11, .func (PySem.W.fnOf "_law_part" "_law_part" (defArgs s__law_part) (defBody s__law_part) (defScope s__law_part) .none kV11 dc11 pm11 an11 cd11 ct11), sl11⟩)
    (c11 : PySem.W.codeIn K cd11 "_law_part" = true)
    (k11 : PySem.W.keepIn K (.ref f11) = true)
    (a12 : PySem.W.nsIn K mainGlobals "_law_draw_second" = some (some (.ref f12)))
    (l12 : K.lookup f12 = some ⟨oc12, od12, .func (PySem.W.fnOf "_law_draw_second" "_law_draw_second" (defArgs s__law_draw_second) (defBody s__law_draw_second) (defScope s__law_draw_second) .none kV12 dc12 pm12 an12 cd12 ct12), sl12⟩)
    (c12 : PySem.W.codeIn K cd12 "_law_draw_second" = true)
    (k12 : PySem.W.keepIn K (.ref f12) = true)
    (a13 : PySem.W.nsIn K mainGlobals "_spelt" = some (some (.ref f13)))
    (l13 : K.lookup f13 = some ⟨oc13, od13, .func (PySem.W.fnOf "_spelt" "_spelt" (defArgs s__spelt) (defBody s__spelt) (defScope s__spelt) .none kV13 dc13 pm13 an13 cd13 ct13), sl13⟩)
    (c13 : PySem.W.codeIn K cd13 "_spelt" = true)
    (k13 : PySem.W.keepIn K (.ref f13) = true)
    (a14 : PySem.W.nsIn K mainGlobals "is_choice" = some (some (.ref f14)))
    (l14 : K.lookup f14 = some ⟨oc14, od14, .func (PySem.W.fnOf "is_choice" "is_choice" (defArgs s_is_choice) (defBody s_is_choice) (defScope s_is_choice) .none kV14 dc14 pm14 an14 cd14 ct14), sl14⟩)
    (c14 : PySem.W.codeIn K cd14 "is_choice" = true)
    (k14 : PySem.W.keepIn K (.ref f14) = true)
    (a15 : PySem.W.nsIn K mainGlobals "key_text" = some (some (.ref f15)))
    (l15 : K.lookup f15 = some ⟨oc15, od15, .func (PySem.W.fnOf "key_text" "key_text" (defArgs s_key_text) (defBody s_key_text) (defScope s_key_text) .none kV15 dc15 pm15 an15 cd15 ct15), sl15⟩)
    (c15 : PySem.W.codeIn K cd15 "key_text" = true)
    (k15 : PySem.W.keepIn K (.ref f15) = true)
    (a16 : PySem.W.nsIn K mainGlobals "entry_text" = some (some (.ref f16)))
    (l16 : K.lookup f16 = some ⟨oc16, od16, .func (PySem.W.fnOf "entry_text" "entry_text" (defArgs s_entry_text) (defBody s_entry_text) (defScope s_entry_text) .none kV16 dc16 pm16 an16 cd16 ct16), sl16⟩)
    (c16 : PySem.W.codeIn K cd16 "entry_text" = true)
    (k16 : PySem.W.keepIn K (.ref f16) = true)
    (a17 : PySem.W.nsIn K mainGlobals "can_be_entry" = some (some (.ref f17)))
    (l17 : K.lookup f17 = some ⟨oc17, od17, .func (PySem.W.fnOf "can_be_entry" "can_be_entry" (defArgs s_can_be_entry) (defBody s_can_be_entry) (defScope s_can_be_entry) .none kV17 dc17 pm17 an17 cd17 ct17), sl17⟩)
    (c17 : PySem.W.codeIn K cd17 "can_be_entry" = true)
    (k17 : PySem.W.keepIn K (.ref f17) = true)
    (a18 : PySem.W.findIn K (.ref C7) "__init__" = some (some (.ref f18)))
    (l18 : K.lookup f18 = some ⟨oc18, od18, .func (PySem.W.fnOf "__init__" "Guesses.__init__" (defArgs s_Guesses___init__) (defBody s_Guesses___init__) (defScope s_Guesses___init__) .none kV18 dc18 pm18 an18 cd18 ct18), sl18⟩)
    (c18 : PySem.W.codeIn K cd18 "Guesses.__init__" = true)
    (k18 : PySem.W.keepIn K (.ref f18) = true)
    (i18 : PySem.W.isFn K (.ref f18) = true)
    (a19 : PySem.W.findIn K (.ref C7) "as_table" = some (some (.ref f19)))
    (l19 : K.lookup f19 = some ⟨oc19, od19, .func (PySem.W.fnOf "as_table" "Guesses.as_table" (defArgs s_Guesses_as_table) (defBody s_Guesses_as_table) (defScope s_Guesses_as_table) .none kV19 dc19 pm19 an19 cd19 ct19), sl19⟩)
    (c19 : PySem.W.codeIn K cd19 "Guesses.as_table" = true)
    (k19 : PySem.W.keepIn K (.ref f19) = true)
    (i19 : PySem.W.isFn K (.ref f19) = true)
    (a20 : PySem.W.findIn K (.ref C7) "at" = some (some (.ref f20)))
    (l20 : K.lookup f20 = some ⟨oc20, od20, .func (PySem.W.fnOf "at" "Guesses.at" (defArgs s_Guesses_at) (defBody s_Guesses_at) (defScope s_Guesses_at) .none kV20 dc20 pm20 an20 cd20 ct20), sl20⟩)
    (c20 : PySem.W.codeIn K cd20 "Guesses.at" = true)
    (k20 : PySem.W.keepIn K (.ref f20) = true)
    (i20 : PySem.W.isFn K (.ref f20) = true)
    (a21 : PySem.W.findIn K (.ref C7) "has" = some (some (.ref f21)))
    (l21 : K.lookup f21 = some ⟨oc21, od21, .func (PySem.W.fnOf "has" "Guesses.has" (defArgs s_Guesses_has) (defBody s_Guesses_has) (defScope s_Guesses_has) .none kV21 dc21 pm21 an21 cd21 ct21), sl21⟩)
    (c21 : PySem.W.codeIn K cd21 "Guesses.has" = true)
    (k21 : PySem.W.keepIn K (.ref f21) = true)
    (i21 : PySem.W.isFn K (.ref f21) = true)
    (a22 : PySem.W.findIn K (.ref C7) "within" = some (some (.ref f22)))
    (l22 : K.lookup f22 = some ⟨oc22, od22, .func (PySem.W.fnOf "within" "Guesses.within" (defArgs s_Guesses_within) (defBody s_Guesses_within) (defScope s_Guesses_within) .none kV22 dc22 pm22 an22 cd22 ct22), sl22⟩)
    (c22 : PySem.W.codeIn K cd22 "Guesses.within" = true)
    (k22 : PySem.W.keepIn K (.ref f22) = true)
    (i22 : PySem.W.isFn K (.ref f22) = true)
    (a23 : PySem.W.findIn K (.ref C7) "__or__" = some (some (.ref f23)))
    (l23 : K.lookup f23 = some ⟨oc23, od23, .func (PySem.W.fnOf "__or__" "Guesses.__or__" (defArgs s_Guesses___or__) (defBody s_Guesses___or__) (defScope s_Guesses___or__) .none kV23 dc23 pm23 an23 cd23 ct23), sl23⟩)
    (c23 : PySem.W.codeIn K cd23 "Guesses.__or__" = true)
    (k23 : PySem.W.keepIn K (.ref f23) = true)
    (i23 : PySem.W.isFn K (.ref f23) = true)
    (a24 : PySem.W.findIn K (.ref C7) "__len__" = some (some (.ref f24)))
    (l24 : K.lookup f24 = some ⟨oc24, od24, .func (PySem.W.fnOf "__len__" "Guesses.__len__" (defArgs s_Guesses___len__) (defBody s_Guesses___len__) (defScope s_Guesses___len__) .none kV24 dc24 pm24 an24 cd24 ct24), sl24⟩)
    (c24 : PySem.W.codeIn K cd24 "Guesses.__len__" = true)
    (k24 : PySem.W.keepIn K (.ref f24) = true)
    (i24 : PySem.W.isFn K (.ref f24) = true)
    (a25 : PySem.W.findIn K (.ref C7) "__eq__" = some (some (.ref f25)))
    (l25 : K.lookup f25 = some ⟨oc25, od25, .func (PySem.W.fnOf "__eq__" "Guesses.__eq__" (defArgs s_Guesses___eq__) (defBody s_Guesses___eq__) (defScope s_Guesses___eq__) .none kV25 dc25 pm25 an25 cd25 ct25), sl25⟩)
    (c25 : PySem.W.codeIn K cd25 "Guesses.__eq__" = true)
    (k25 : PySem.W.keepIn K (.ref f25) = true)
    (i25 : PySem.W.isFn K (.ref f25) = true)
    (a26 : PySem.W.findIn K (.ref C7) "__str__" = some (some (.ref f26)))
    (l26 : K.lookup f26 = some ⟨oc26, od26, .func (PySem.W.fnOf "__str__" "Guesses.__str__" (defArgs s_Guesses___str__) (defBody s_Guesses___str__) (defScope s_Guesses___str__) .none kV26 dc26 pm26 an26 cd26 ct26), sl26⟩)
    (c26 : PySem.W.codeIn K cd26 "Guesses.__str__" = true)
    (k26 : PySem.W.keepIn K (.ref f26) = true)
    (i26 : PySem.W.isFn K (.ref f26) = true)
    (a27 : PySem.W.nsIn K mainGlobals "_law_is_right" = some (some (.ref f27)))
    (l27 : K.lookup f27 = some ⟨oc27, od27, .func (PySem.W.fnOf "_law_is_right" "_law_is_right" (defArgs s__law_is_right) (defBody s__law_is_right) (defScope s__law_is_right) .none kV27 dc27 pm27 an27 cd27 ct27), sl27⟩)
    (c27 : PySem.W.codeIn K cd27 "_law_is_right" = true)
    (k27 : PySem.W.keepIn K (.ref f27) = true)
    (a28 : PySem.W.nsIn K mainGlobals "_law_join" = some (some (.ref f28)))
    (l28 : K.lookup f28 = some ⟨oc28, od28, .func (PySem.W.fnOf "_law_join" "_law_join" (defArgs s__law_join) (defBody s__law_join) (defScope s__law_join) .none kV28 dc28 pm28 an28 cd28 ct28), sl28⟩)
    (c28 : PySem.W.codeIn K cd28 "_law_join" = true)
    (k28 : PySem.W.keepIn K (.ref f28) = true)
    (a29 : PySem.W.nsIn K mainGlobals "_law_pair" = some (some (.ref f29)))
    (l29 : K.lookup f29 = some ⟨oc29, od29, .func (PySem.W.fnOf "_law_pair" "_law_pair" (defArgs s__law_pair) (defBody s__law_pair) (defScope s__law_pair) .none kV29 dc29 pm29 an29 cd29 ct29), sl29⟩)
    (c29 : PySem.W.codeIn K cd29 "_law_pair" = true)
    (k29 : PySem.W.keepIn K (.ref f29) = true)
    (a30 : PySem.W.nsIn K mainGlobals "_law_two_right" = some (some (.ref f30)))
    (l30 : K.lookup f30 = some ⟨oc30, od30, .func (PySem.W.fnOf "_law_two_right" "_law_two_right" (defArgs s__law_two_right) (defBody s__law_two_right) (defScope s__law_two_right) .none kV30 dc30 pm30 an30 cd30 ct30), sl30⟩)
    (c30 : PySem.W.codeIn K cd30 "_law_two_right" = true)
    (k30 : PySem.W.keepIn K (.ref f30) = true)
    (a31 : PySem.W.nsIn K mainGlobals "_law_large_right" = some (some (.ref f31)))
    (l31 : K.lookup f31 = some ⟨oc31, od31, .func (PySem.W.fnOf "_law_large_right" "_law_large_right" (defArgs s__law_large_right) (defBody s__law_large_right) (defScope s__law_large_right) .none kV31 dc31 pm31 an31 cd31 ct31), sl31⟩)
    (c31 : PySem.W.codeIn K cd31 "_law_large_right" = true)
    (k31 : PySem.W.keepIn K (.ref f31) = true)
    (a32 : PySem.W.nsIn K mainGlobals "law" = some (some (.ref f32)))
    (l32 : K.lookup f32 = some ⟨oc32, od32, .func (PySem.W.fnOf "law" "law" (defArgs s_law) (defBody s_law) (defScope s_law) .none kV32 dc32 pm32 an32 cd32 ct32), sl32⟩)
    (c32 : PySem.W.codeIn K cd32 "law" = true)
    (k32 : PySem.W.keepIn K (.ref f32) = true)
    (z_abs : PySem.W.nsIn K mainGlobals "abs" = some none)
    (z_all : PySem.W.nsIn K mainGlobals "all" = some none)
    (z_bool : PySem.W.nsIn K mainGlobals "bool" = some none)
    (z_enumerate : PySem.W.nsIn K mainGlobals "enumerate" = some none)
    (z_int : PySem.W.nsIn K mainGlobals "int" = some none)
    (z_isinstance : PySem.W.nsIn K mainGlobals "isinstance" = some none)
    (z_iter : PySem.W.nsIn K mainGlobals "iter" = some none)
    (z_len : PySem.W.nsIn K mainGlobals "len" = some none)
    (z_list : PySem.W.nsIn K mainGlobals "list" = some none)
    (z_range : PySem.W.nsIn K mainGlobals "range" = some none)
    (z_sorted : PySem.W.nsIn K mainGlobals "sorted" = some none)
    (z_str : PySem.W.nsIn K mainGlobals "str" = some none)
    (z_tuple : PySem.W.nsIn K mainGlobals "tuple" = some none)
    (v_CAPITALS : PySem.W.nsIn K mainGlobals "CAPITALS" = some (some (.str "ABCDEFGHIJKLMNOPQRSTUVWXYZ" t_CAPITALS)))
    (v_MOST_ENTERED : PySem.W.nsIn K mainGlobals "MOST_ENTERED" = some (some (.int 99999 t_MOST_ENTERED)))
    (v_MOST_ENTRIES : PySem.W.nsIn K mainGlobals "MOST_ENTRIES" = some (some (.int 5000 t_MOST_ENTRIES)))
    (v_MOST_KEY_NUMBERS : PySem.W.nsIn K mainGlobals "MOST_KEY_NUMBERS" = some (some (.int 6 t_MOST_KEY_NUMBERS)))
    (v_SMALL : PySem.W.nsIn K mainGlobals "SMALL" = some (some (.str "abcdefghijklmnopqrstuvwxyz" t_SMALL)))
    (pg7 : PySem.W.plainGet K C7 Str.empty = true)
    (hd7 : PySem.W.hasDictIn K C7 = true)
    (po7 : PySem.W.plainOver K C7 = true)
    (sa7 : PySem.W.findIn K (.ref C7) "__setattr__" = some (some (.builtin "object.__setattr__")))
    (mk7 : PySem.W.makesIn K C7 = true)
    (kc7 : PySem.W.keepIn K (.ref C7) = true)
    (sf7 : PySem.W.selfFirst K C7 = true)
    (ka7 : PySem.W.findIn K (.ref C7) "__class__" = some (some (.builtin "object.__class__")))
    (kb7 : PySem.W.specialIn K (.builtin "object.__class__") "__get__" = some (some (.builtin "getset_descriptor.__get__")))
    (kt7 : PySem.W.takesIn K (.builtin "object.__class__") = some true)
    (km7 : PySem.W.mroIn K C7 (.type "object") = some true)
    (to7_NoneType : PySem.W.kitOne K (.type "NoneType") (.ref C7) = some false)
    (to7_bool : PySem.W.kitOne K (.type "bool") (.ref C7) = some false)
    (to7_int : PySem.W.kitOne K (.type "int") (.ref C7) = some false)
    (to7_str : PySem.W.kitOne K (.type "str") (.ref C7) = some false)
    (to7_list : PySem.W.kitOne K (.type "list") (.ref C7) = some false)
    (to7_tuple : PySem.W.kitOne K (.type "tuple") (.ref C7) = some false)
    (to7_dict : PySem.W.kitOne K (.type "dict") (.ref C7) = some false)
    (ot7_bool : PySem.W.kitOne K (.ref C7) (.type "bool") = some false)
    (ot7_int : PySem.W.kitOne K (.ref C7) (.type "int") = some false)
    (ot7_str : PySem.W.kitOne K (.ref C7) (.type "str") = some false)
    (ot7_list : PySem.W.kitOne K (.ref C7) (.type "list") = some false)
    (ot7_tuple : PySem.W.kitOne K (.ref C7) (.type "tuple") = some false)
    (ot7_dict : PySem.W.kitOne K (.ref C7) (.type "dict") = some false)
    (na7__table : PySem.W.findIn K (.ref C7) "_table" = some none)
    (na7_rows : PySem.W.findIn K (.ref C7) "rows" = some none)
    (na7_text : PySem.W.findIn K (.ref C7) "text" = some none)
    (e0x1 : PySem.W.excIn K C1 [.type "ValueError", .type "Exception", .type "BaseException", .type "object"] "ValueError.__new__" = true)
    (e0k1 : PySem.W.keepIn K (.ref C1) = true)
    (e0s1 : PySem.W.subIn K (.ref C1) (.type "BaseException") = some true)
    (e0t1 : PySem.W.typeIn K (.ref C1) = some (.type "type"))
    (ai : PySem.W.findIn K (.ref C7) "__iter__" = some (some (.ref fi)))
    (li : K.lookup fi = some ⟨oci, odi, .func (PySem.W.fnOf "__iter__" "Guesses.__iter__" (defArgs si_Guesses) (defBody si_Guesses) (defScope si_Guesses) .none kVi dci pmi ani cdi cti), sli⟩)
    (ci : PySem.W.codeIn K cdi "Guesses.__iter__" = true)
    (ki : PySem.W.keepIn K (.ref fi) = true)
    (ii : PySem.W.isFn K (.ref fi) = true)
    (yg6 : PySem.W.findIn K (.ref C6) "__getattribute__" = some (some (.builtin "BaseException.__getattribute__")))
    (yk6 : PySem.W.findIn K (.ref C6) "__getattr__" = some none)
    (ys6 : PySem.W.subIn K (.ref C6) (.type "BaseException") = some true)
    (yd6 : PySem.W.hasDictIn K C6 = true)
    (ya6 : PySem.W.findIn K (.ref C6) "__class__" = some (some (.builtin "object.__class__")))
    (ym6 : PySem.W.mroIn K C6 (.type "object") = some true)
    (yt6 : PySem.W.typeIn K (.ref C6) = some (.type "type"))
    (yg1 : PySem.W.findIn K (.ref C1) "__getattribute__" = some (some (.builtin "BaseException.__getattribute__")))
    (yk1 : PySem.W.findIn K (.ref C1) "__getattr__" = some none)
    (ys1 : PySem.W.subIn K (.ref C1) (.type "BaseException") = some true)
    (yd1 : PySem.W.hasDictIn K C1 = true)
    (ya1 : PySem.W.findIn K (.ref C1) "__class__" = some (some (.builtin "object.__class__")))
    (ym1 : PySem.W.mroIn K C1 (.type "object") = some true)
    (yt1 : PySem.W.typeIn K (.ref C1) = some (.type "type"))
    (xb1 : PySem.W.specialIn K (.builtin "object.__class__") "__get__" = some (some (.builtin "getset_descriptor.__get__")))
    (xb2 : PySem.W.takesIn K (.builtin "object.__class__") = some true)
    (yp6_6 : PySem.W.subIn K (.ref C6) (.ref C6) = some true)
    (yp6_1 : PySem.W.subIn K (.ref C6) (.ref C1) = some false)
    (yp1_6 : PySem.W.subIn K (.ref C1) (.ref C6) = some false)
    (yp1_1 : PySem.W.subIn K (.ref C1) (.ref C1) = some true)
    (kp6_1 : PySem.W.kitOne K (.ref C6) (.ref C1) = some false)
    (kp6_4 : PySem.W.kitOne K (.ref C6) (.ref C4) = some false)
    (kp6_5 : PySem.W.kitOne K (.ref C6) (.ref C5) = some false)
    (kp6_2 : PySem.W.kitOne K (.ref C6) (.ref C2) = some false)
    (kp6_0 : PySem.W.kitOne K (.ref C6) (.ref C0) = some true)
    (kp1_6 : PySem.W.kitOne K (.ref C1) (.ref C6) = some false)
    (kp1_4 : PySem.W.kitOne K (.ref C1) (.ref C4) = some false)
    (kp1_5 : PySem.W.kitOne K (.ref C1) (.ref C5) = some false)
    (kp1_2 : PySem.W.kitOne K (.ref C1) (.ref C2) = some false)
    (kp1_0 : PySem.W.kitOne K (.ref C1) (.ref C0) = some true)
    (xl : K.lookup C6 = some (excClassObj xnm xq C6 xN xbs xbm true xsn xsub xab xcol xdd xk0 xk1 xk2 xk3 xk5 "ValueError.__new__"))
    (xbmt : PySem.HandSPX.refsVE xbm = true)
    (xsa : PySem.W.findIn K (.ref C6) "__setattr__" = some (some (.builtin "object.__setattr__")))
    (xex : PySem.W.subIn K (.ref C6) (.type "BaseException") = some true)
    (xty : PySem.W.typeIn K (.ref C6) = some (.type "type"))
    (xkc : PySem.W.keepIn K (.ref C6) = true)
    (xi : PySem.W.findIn K (.ref C6) "__init__" = some (some (.ref fxi)))
    (xit : PySem.W.typeIn K (.ref fxi) = some (.type "function"))
    (xfl : K.lookup fxi = some ⟨xoc, xod, .func (PySem.W.fnX "__init__" "Clash.__init__" (defArgs s_Clash___init__) (defBody s_Clash___init__) (defScope s_Clash___init__) [(("__class__" : Str), xcc)] .none xkV xdc xpm xan (.ref xco) xct), xosl⟩)
    (xcd : PySem.W.codeIn K (.ref xco) "Clash.__init__" = true)
    (xcode : K.lookup xco = some ⟨xccl, xcdd, .fields xvs, xccs⟩)
    (xvs2 : xvs[2]? = some (.str xfile xtf))
    (xfi : ((P.main.file : Str) == xfile) = true)
    (xcell : K.lookup xcc = some ⟨xcl, xcld, .cell (some (.ref C6)), xcsl⟩)
    (xcls : (PySem.W.clsIn K C6).isSome = true)
    (xsub2 : PySem.W.mroIn K C6 (.ref C6) = some true)
    (xsup : PySem.W.nsIn K mainGlobals "super" = some none)
    (xtop : (P.main.scope.names.lookup ("super" : Str)).isSome = false)
    (xopq : PySem.W.nsIn K PySem.cStatics "thirdparty.any" = some none)
    (xal : PySem.W.ks_superIn K C6 C6 "__init__" = some (some (.builtin "ValueError.__init__")))
    (xva : PySem.W.subIn K (.ref C6) (.type "ValueError") = some true)
    (xna1 : PySem.W.findIn K (.ref C6) "name" = some none)
    (xna2 : PySem.W.findIn K (.ref C6) "numbers" = some none) :
    ∃ fd : FuncData, (∀ (s : Shared) (v : Value), BindsTo s fd ⟨[v], []⟩ [("script", v)]) ∧ ∀ base : Heap, K.In base → base.Ns mainGlobals mg → FnOk P wd K mg base (L2.CX P wd) 100 fl fd ["script"] (spLaw K P wd) := by
  have e : f32 = fl := by
    have z := hfa.symm.trans (PySem.W.mg_of XK G a32)
    injection (Option.some.inj z) with z2
    exact z2.symm
  subst e
  have F0 := fun_mk (st := s__law_new) l0 c0 k0
  have B0 := F0.binds (ps := ["script"]) fun _ _ _ _ _ _ us hl => match us, hl with | [_], _ => rfl
  have F1 := fun_mk (st := s__law_take) l1 c1 k1
  have B1 := F1.binds (ps := ["p", "many"]) fun _ _ _ _ _ _ us hl => match us, hl with | [_, _], _ => rfl
  have F2 := fun_mk (st := s__law_same) l2 c2 k2
  have B2 := F2.binds (ps := ["told", "due"]) fun _ _ _ _ _ _ us hl => match us, hl with | [_, _], _ => rfl
  have F3 := fun_mk (st := s__law_number) l3 c3 k3
  have B3 := F3.binds (ps := ["p"]) fun _ _ _ _ _ _ us hl => match us, hl with | [_], _ => rfl
  have F4 := fun_mk (st := s__law_draw_entry) l4 c4 k4
  have B4 := F4.binds (ps := ["p", "turn"]) fun _ _ _ _ _ _ us hl => match us, hl with | [_, _], _ => rfl
  have F5 := fun_mk (st := s__law_find) l5 c5 k5
  have B5 := F5.binds (ps := ["rows", "name", "numbers"]) fun _ _ _ _ _ _ us hl => match us, hl with | [_, _, _], _ => rfl
  have F6 := fun_mk (st := s__law_draw_rows) l6 c6 k6
  have B6 := F6.binds (ps := ["p", "many"]) fun _ _ _ _ _ _ us hl => match us, hl with | [_, _], _ => rfl
  have F7 := fun_mk (st := s__law_row_text) l7 c7 k7
  have B7 := F7.binds (ps := ["row"]) fun _ _ _ _ _ _ us hl => match us, hl with | [_], _ => rfl
  have F8 := fun_mk (st := s__law_others) l8 c8 k8
  have B8 := F8.binds (ps := ["rows"]) fun _ _ _ _ _ _ us hl => match us, hl with | [_], _ => rfl
  have F9 := fun_mk (st := s__law_all_rows) l9 c9 k9
  have B9 := F9.binds (ps := ["rows", "others"]) fun _ _ _ _ _ _ us hl => match us, hl with | [_, _], _ => rfl
  have F10 := fun_mk (st := s__law_due_join) l10 c10 k10
  have B10 := F10.binds (ps := ["rows", "others"]) fun _ _ _ _ _ _ us hl => match us, hl with | [_, _], _ => rfl
  have F11 := fun_mk (st := s__law_part) l11 c11 k11
  have B11 := F11.binds (ps := ["rows", "others"]) fun _ _ _ _ _ _ us hl => match us, hl with | [_, _], _ => rfl
  have F12 := fun_mk (st := s__law_draw_second) l12 c12 k12
  have B12 := F12.binds (ps := ["p", "rows", "turn"]) fun _ _ _ _ _ _ us hl => match us, hl with | [_, _, _], _ => rfl
  have F13 := fun_mk (st := s__spelt) l13 c13 k13
  have B13 := F13.binds (ps := ["text", "characters", "most"]) fun _ _ _ _ _ _ us hl => match us, hl with | [_, _, _], _ => rfl
  have F14 := fun_mk (st := s_is_choice) l14 c14 k14
  have B14 := F14.binds (ps := ["text"]) fun _ _ _ _ _ _ us hl => match us, hl with | [_], _ => rfl
  have F15 := fun_mk (st := s_key_text) l15 c15 k15
  have B15 := F15.binds (ps := ["name", "numbers"]) fun _ _ _ _ _ _ us hl => match us, hl with | [_, _], _ => rfl
  have F16 := fun_mk (st := s_entry_text) l16 c16 k16
  have B16 := F16.binds (ps := ["name", "numbers", "number"]) fun _ _ _ _ _ _ us hl => match us, hl with | [_, _, _], _ => rfl
  have F17 := fun_mk (st := s_can_be_entry) l17 c17 k17
  have B17 := F17.binds (ps := ["name", "numbers", "number"]) fun _ _ _ _ _ _ us hl => match us, hl with | [_, _, _], _ => rfl
  have F18 := fun_mk (st := s_Guesses___init__) l18 c18 k18
  have B18 := F18.binds (ps := ["self", "rows"]) fun _ _ _ _ _ _ us hl => match us, hl with | [_, _], _ => rfl
  have F19 := fun_mk (st := s_Guesses_as_table) l19 c19 k19
  have B19 := F19.binds (ps := ["self"]) fun _ _ _ _ _ _ us hl => match us, hl with | [_], _ => rfl
  have F20 := fun_mk (st := s_Guesses_at) l20 c20 k20
  have B20 := F20.binds (ps := ["self", "name", "numbers"]) fun _ _ _ _ _ _ us hl => match us, hl with | [_, _, _], _ => rfl
  have F21 := fun_mk (st := s_Guesses_has) l21 c21 k21
  have B21 := F21.binds (ps := ["self", "name", "numbers"]) fun _ _ _ _ _ _ us hl => match us, hl with | [_, _, _], _ => rfl
  have F22 := fun_mk (st := s_Guesses_within) l22 c22 k22
  have B22 := F22.binds (ps := ["self", "other"]) fun _ _ _ _ _ _ us hl => match us, hl with | [_, _], _ => rfl
  have F23 := fun_mk (st := s_Guesses___or__) l23 c23 k23
  have B23 := F23.binds (ps := ["self", "other"]) fun _ _ _ _ _ _ us hl => match us, hl with | [_, _], _ => rfl
  have F24 := fun_mk (st := s_Guesses___len__) l24 c24 k24
  have B24 := F24.binds (ps := ["self"]) fun _ _ _ _ _ _ us hl => match us, hl with | [_], _ => rfl
  have F25 := fun_mk (st := s_Guesses___eq__) l25 c25 k25
  have B25 := F25.binds (ps := ["self", "other"]) fun _ _ _ _ _ _ us hl => match us, hl with | [_, _], _ => rfl
  have F26 := fun_mk (st := s_Guesses___str__) l26 c26 k26
  have B26 := F26.binds (ps := ["self"]) fun _ _ _ _ _ _ us hl => match us, hl with | [_], _ => rfl
  have F27 := fun_mk (st := s__law_is_right) l27 c27 k27
  have B27 := F27.binds (ps := ["guesses", "rows"]) fun _ _ _ _ _ _ us hl => match us, hl with | [_, _], _ => rfl
  have F28 := fun_mk (st := s__law_join) l28 c28 k28
  have B28 := F28.binds (ps := ["first", "second"]) fun _ _ _ _ _ _ us hl => match us, hl with | [_, _], _ => rfl
  have F29 := fun_mk (st := s__law_pair) l29 c29 k29
  have B29 := F29.binds (ps := ["first", "second"]) fun _ _ _ _ _ _ us hl => match us, hl with | [_, _], _ => rfl
  have F30 := fun_mk (st := s__law_two_right) l30 c30 k30
  have B30 := F30.binds (ps := ["first", "rows", "second", "others"]) fun _ _ _ _ _ _ us hl => match us, hl with | [_, _, _, _], _ => rfl
  have F31 := fun_mk (st := s__law_large_right) l31 c31 k31
  have B31 := F31.binds (ps := []) fun _ _ _ _ _ _ us hl => match us, hl with | [], _ => rfl
  have F32 := fun_mk (st := s_law) l32 c32 k32
  have B32 := F32.binds (ps := ["script"]) fun _ _ _ _ _ _ us hl => match us, hl with | [_], _ => rfl
  have CLS : ∀ c, c = 7 → Cls K C7 := fun _ _ => ⟨pg7, hd7, po7, sa7⟩
  have ISI : IsiOk (⟨K, ⟨fun n => match n with | 0 => C0 | 1 => C1 | 2 => C2 | 4 => C4 | 5 => C5 | 6 => C6 | 7 => C7 | _ => 0, P, wd⟩, fun _ => none⟩ : Wd) isiT := by
    refine ⟨fun c c' b h => ?_, fun c h => ?_, fun t c h ht => ?_, fun t c h ht => ?_⟩
    · have hm := lk_mem (h : isiL.lookup (c, c') = some b)
      simp only [isiL, List.mem_cons, List.not_mem_nil, or_false, Prod.mk.injEq] at hm
      rcases hm with ⟨⟨rfl, rfl⟩, rfl⟩ | ⟨⟨rfl, rfl⟩, rfl⟩ | ⟨⟨rfl, rfl⟩, rfl⟩ | ⟨⟨rfl, rfl⟩, rfl⟩ | ⟨⟨rfl, rfl⟩, rfl⟩ | ⟨⟨rfl, rfl⟩, rfl⟩ | ⟨⟨rfl, rfl⟩, rfl⟩ | ⟨⟨rfl, rfl⟩, rfl⟩ | ⟨⟨rfl, rfl⟩, rfl⟩ | ⟨⟨rfl, rfl⟩, rfl⟩ | ⟨⟨rfl, rfl⟩, rfl⟩
      · show PySem.W.kitOne K (.ref C7) (.ref C7) = some true
        unfold PySem.W.kitOne
        rw [if_pos (by simp)]
      · exact kp6_1
      · exact kp6_4
      · exact kp6_5
      · exact kp6_2
      · exact kp6_0
      · exact kp1_6
      · exact kp1_4
      · exact kp1_5
      · exact kp1_2
      · exact kp1_0
    · have z : c = 7 := beq_iff_eq.mp h
      subst z
      exact ⟨⟨pg7, hd7, po7, sa7⟩, ka7, kb7, kt7, km7⟩
    · have z : c = 7 := beq_iff_eq.mp h
      subst z
      rcases ht with rfl | rfl | rfl | rfl | rfl | rfl | rfl
      · exact to7_NoneType
      · exact to7_bool
      · exact to7_int
      · exact to7_str
      · exact to7_list
      · exact to7_tuple
      · exact to7_dict
    · have z : c = 7 := beq_iff_eq.mp h
      subst z
      rcases ht with rfl | rfl | rfl | rfl | rfl | rfl
      · exact ot7_bool
      · exact ot7_int
      · exact ot7_str
      · exact ot7_list
      · exact ot7_tuple
      · exact ot7_dict
  have Fi := fun_mk (st := si_Guesses) li ci ki
  have Bi := Fi.binds (ps := ["self"]) fun _ _ _ _ _ _ us hl => match us, hl with | [_], _ => rfl
  have T : Txt P wd (⟨K, ⟨fun n => match n with | 0 => C0 | 1 => C1 | 2 => C2 | 4 => C4 | 5 => C5 | 6 => C6 | 7 => C7 | _ => 0, P, wd⟩, fun _ => none⟩ : Wd) mg (fun i => match i with | ._law_new => f0 | ._law_take => f1 | ._law_same => f2 | ._law_number => f3 | ._law_draw_entry => f4 | ._law_find => f5 | ._law_draw_rows => f6 | ._law_row_text => f7 | ._law_others => f8 | ._law_all_rows => f9 | ._law_due_join => f10 | ._law_part => f11 | ._law_draw_second => f12 | ._spelt => f13 | .is_choice => f14 | .key_text => f15 | .entry_text => f16 | .can_be_entry => f17 | .Guesses___init__ => f18 | .Guesses_as_table => f19 | .Guesses_at => f20 | .Guesses_has => f21 | .Guesses_within => f22 | .Guesses___or__ => f23 | .Guesses___len__ => f24 | .Guesses___eq__ => f25 | .Guesses___str__ => f26 | ._law_is_right => f27 | ._law_join => f28 | ._law_pair => f29 | ._law_two_right => f30 | ._law_large_right => f31 | .law => f32) (fun i => match i with | ._law_new => PySem.W.fnOf "_law_new" "_law_new" (defArgs s__law_new) (defBody s__law_new) (defScope s__law_new) .none kV0 dc0 pm0 an0 cd0 ct0 | ._law_take => PySem.W.fnOf "_law_take" "_law_take" (defArgs s__law_take) (defBody s__law_take) (defScope s__law_take) .none kV1 dc1 pm1 an1 cd1 ct1 | ._law_same => PySem.W.fnOf "_law_same" "_law_same" (defArgs s__law_same) (defBody s__law_same) (defScope s__law_same) .none kV2 dc2 pm2 an2 cd2 ct2 | ._law_number => PySem.W.fnOf "_law_number" "_law_number" (defArgs s__law_number) (defBody s__law_number) (defScope s__law_number) .none kV3 dc3 pm3 an3 cd3 ct3 | ._law_draw_entry => PySem.W.fnOf "_law_draw_entry" "_law_draw_entry" (defArgs s__law_draw_entry) (defBody s__law_draw_entry) (defScope s__law_draw_entry) .none kV4 dc4 pm4 an4 cd4 ct4 | ._law_find => PySem.W.fnOf "_law_find" "_law_find" (defArgs s__law_find) (defBody s__law_find) (defScope s__law_find) .none kV5 dc5 pm5 an5 cd5 ct5 | ._law_draw_rows => PySem.W.fnOf "_law_draw_rows" "_law_draw_rows" (defArgs s__law_draw_rows) (defBody s__law_draw_rows) (defScope s__law_draw_rows) .none kV6 dc6 pm6 an6 cd6 ct6 | ._law_row_text => PySem.W.fnOf "_law_row_text" "_law_row_text" (defArgs s__law_row_text) (defBody s__law_row_text) (defScope s__law_row_text) .none kV7 dc7 pm7 an7 cd7 ct7 | ._law_others => PySem.W.fnOf "_law_others" "_law_others" (defArgs s__law_others) (defBody s__law_others) (defScope s__law_others) .none kV8 dc8 pm8 an8 cd8 ct8 | ._law_all_rows => PySem.W.fnOf "_law_all_rows" "_law_all_rows" (defArgs s__law_all_rows) (defBody s__law_all_rows) (defScope s__law_all_rows) .none kV9 dc9 pm9 an9 cd9 ct9 | ._law_due_join => PySem.W.fnOf "_law_due_join" "_law_due_join" (defArgs s__law_due_join) (defBody s__law_due_join) (defScope s__law_due_join) .none kV10 dc10 pm10 an10 cd10 ct10 | ._law_part => PySem.W.fnOf "_law_part" "_law_part" (defArgs s__law_part) (defBody s__law_part) (defScope s__law_part) .none kV11 dc11 pm11 an11 cd11 ct11 | ._law_draw_second => PySem.W.fnOf "_law_draw_second" "_law_draw_second" (defArgs s__law_draw_second) (defBody s__law_draw_second) (defScope s__law_draw_second) .none kV12 dc12 pm12 an12 cd12 ct12 | ._spelt => PySem.W.fnOf "_spelt" "_spelt" (defArgs s__spelt) (defBody s__spelt) (defScope s__spelt) .none kV13 dc13 pm13 an13 cd13 ct13 | .is_choice => PySem.W.fnOf "is_choice" "is_choice" (defArgs s_is_choice) (defBody s_is_choice) (defScope s_is_choice) .none kV14 dc14 pm14 an14 cd14 ct14 | .key_text => PySem.W.fnOf "key_text" "key_text" (defArgs s_key_text) (defBody s_key_text) (defScope s_key_text) .none kV15 dc15 pm15 an15 cd15 ct15 | .entry_text => PySem.W.fnOf "entry_text" "entry_text" (defArgs s_entry_text) (defBody s_entry_text) (defScope s_entry_text) .none kV16 dc16 pm16 an16 cd16 ct16 | .can_be_entry => PySem.W.fnOf "can_be_entry" "can_be_entry" (defArgs s_can_be_entry) (defBody s_can_be_entry) (defScope s_can_be_entry) .none kV17 dc17 pm17 an17 cd17 ct17 | .Guesses___init__ => PySem.W.fnOf "__init__" "Guesses.__init__" (defArgs s_Guesses___init__) (defBody s_Guesses___init__) (defScope s_Guesses___init__) .none kV18 dc18 pm18 an18 cd18 ct18 | .Guesses_as_table => PySem.W.fnOf "as_table" "Guesses.as_table" (defArgs s_Guesses_as_table) (defBody s_Guesses_as_table) (defScope s_Guesses_as_table) .none kV19 dc19 pm19 an19 cd19 ct19 | .Guesses_at => PySem.W.fnOf "at" "Guesses.at" (defArgs s_Guesses_at) (defBody s_Guesses_at) (defScope s_Guesses_at) .none kV20 dc20 pm20 an20 cd20 ct20 | .Guesses_has => PySem.W.fnOf "has" "Guesses.has" (defArgs s_Guesses_has) (defBody s_Guesses_has) (defScope s_Guesses_has) .none kV21 dc21 pm21 an21 cd21 ct21 | .Guesses_within => PySem.W.fnOf "within" "Guesses.within" (defArgs s_Guesses_within) (defBody s_Guesses_within) (defScope s_Guesses_within) .none kV22 dc22 pm22 an22 cd22 ct22 | .Guesses___or__ => PySem.W.fnOf "__or__" "Guesses.__or__" (defArgs s_Guesses___or__) (defBody s_Guesses___or__) (defScope s_Guesses___or__) .none kV23 dc23 pm23 an23 cd23 ct23 | .Guesses___len__ => PySem.W.fnOf "__len__" "Guesses.__len__" (defArgs s_Guesses___len__) (defBody s_Guesses___len__) (defScope s_Guesses___len__) .none kV24 dc24 pm24 an24 cd24 ct24 | .Guesses___eq__ => PySem.W.fnOf "__eq__" "Guesses.__eq__" (defArgs s_Guesses___eq__) (defBody s_Guesses___eq__) (defScope s_Guesses___eq__) .none kV25 dc25 pm25 an25 cd25 ct25 | .Guesses___str__ => PySem.W.fnOf "__str__" "Guesses.__str__" (defArgs s_Guesses___str__) (defBody s_Guesses___str__) (defScope s_Guesses___str__) .none kV26 dc26 pm26 an26 cd26 ct26 | ._law_is_right => PySem.W.fnOf "_law_is_right" "_law_is_right" (defArgs s__law_is_right) (defBody s__law_is_right) (defScope s__law_is_right) .none kV27 dc27 pm27 an27 cd27 ct27 | ._law_join => PySem.W.fnOf "_law_join" "_law_join" (defArgs s__law_join) (defBody s__law_join) (defScope s__law_join) .none kV28 dc28 pm28 an28 cd28 ct28 | ._law_pair => PySem.W.fnOf "_law_pair" "_law_pair" (defArgs s__law_pair) (defBody s__law_pair) (defScope s__law_pair) .none kV29 dc29 pm29 an29 cd29 ct29 | ._law_two_right => PySem.W.fnOf "_law_two_right" "_law_two_right" (defArgs s__law_two_right) (defBody s__law_two_right) (defScope s__law_two_right) .none kV30 dc30 pm30 an30 cd30 ct30 | ._law_large_right => PySem.W.fnOf "_law_large_right" "_law_large_right" (defArgs s__law_large_right) (defBody s__law_large_right) (defScope s__law_large_right) .none kV31 dc31 pm31 an31 cd31 ct31 | .law => PySem.W.fnOf "law" "law" (defArgs s_law) (defBody s_law) (defScope s_law) .none kV32 dc32 pm32 an32 cd32 ct32) (fun _ => fxi) (fun _ => PySem.W.fnX "__init__" "Clash.__init__" (defArgs s_Clash___init__) (defBody s_Clash___init__) (defScope s_Clash___init__) [(("__class__" : Str), xcc)] .none xkV xdc xpm xan (.ref xco) xct) (fun _ => xco) (fun _ => xcc) fi (PySem.W.fnOf "__iter__" "Guesses.__iter__" (defArgs si_Guesses) (defBody si_Guesses) (defScope si_Guesses) .none kVi dci pmi ani cdi cti) := by
    constructor
    case sP => exact rfl
    case sw => exact rfl
    case isi => exact ISI
    case fn__law_new => exact F0
    case bnd__law_new => exact B0
    case g__law_new => exact PySem.W.mg_of XK G a0
    case fn__law_take => exact F1
    case bnd__law_take => exact B1
    case g__law_take => exact PySem.W.mg_of XK G a1
    case fn__law_same => exact F2
    case bnd__law_same => exact B2
    case g__law_same => exact PySem.W.mg_of XK G a2
    case fn__law_number => exact F3
    case bnd__law_number => exact B3
    case g__law_number => exact PySem.W.mg_of XK G a3
    case fn__law_draw_entry => exact F4
    case bnd__law_draw_entry => exact B4
    case g__law_draw_entry => exact PySem.W.mg_of XK G a4
    case fn__law_find => exact F5
    case bnd__law_find => exact B5
    case g__law_find => exact PySem.W.mg_of XK G a5
    case fn__law_draw_rows => exact F6
    case bnd__law_draw_rows => exact B6
    case g__law_draw_rows => exact PySem.W.mg_of XK G a6
    case fn__law_row_text => exact F7
    case bnd__law_row_text => exact B7
    case g__law_row_text => exact PySem.W.mg_of XK G a7
    case fn__law_others => exact F8
    case bnd__law_others => exact B8
    case g__law_others => exact PySem.W.mg_of XK G a8
    case fn__law_all_rows => exact F9
    case bnd__law_all_rows => exact B9
    case g__law_all_rows => exact PySem.W.mg_of XK G a9
    case fn__law_due_join => exact F10
    case bnd__law_due_join => exact B10
    case g__law_due_join => exact PySem.W.mg_of XK G a10
    case fn__law_part => exact F11
    case bnd__law_part => exact B11
    case g__law_part => exact PySem.W.mg_of XK G a11
    case fn__law_draw_second => exact F12
    case bnd__law_draw_second => exact B12
    case g__law_draw_second => exact PySem.W.mg_of XK G a12
    case fn__spelt => exact F13
    case bnd__spelt => exact B13
    case g__spelt => exact PySem.W.mg_of XK G a13
    case fn_is_choice => exact F14
    case bnd_is_choice => exact B14
    case g_is_choice => exact PySem.W.mg_of XK G a14
    case fn_key_text => exact F15
    case bnd_key_text => exact B15
    case g_key_text => exact PySem.W.mg_of XK G a15
    case fn_entry_text => exact F16
    case bnd_entry_text => exact B16
    case g_entry_text => exact PySem.W.mg_of XK G a16
    case fn_can_be_entry => exact F17
    case bnd_can_be_entry => exact B17
    case g_can_be_entry => exact PySem.W.mg_of XK G a17
    case fn_Guesses___init__ => exact F18
    case bnd_Guesses___init__ => exact B18
    case fn_Guesses_as_table => exact F19
    case bnd_Guesses_as_table => exact B19
    case fn_Guesses_at => exact F20
    case bnd_Guesses_at => exact B20
    case fn_Guesses_has => exact F21
    case bnd_Guesses_has => exact B21
    case fn_Guesses_within => exact F22
    case bnd_Guesses_within => exact B22
    case fn_Guesses___or__ => exact F23
    case bnd_Guesses___or__ => exact B23
    case fn_Guesses___len__ => exact F24
    case bnd_Guesses___len__ => exact B24
    case fn_Guesses___eq__ => exact F25
    case bnd_Guesses___eq__ => exact B25
    case fn_Guesses___str__ => exact F26
    case bnd_Guesses___str__ => exact B26
    case fn__law_is_right => exact F27
    case bnd__law_is_right => exact B27
    case g__law_is_right => exact PySem.W.mg_of XK G a27
    case fn__law_join => exact F28
    case bnd__law_join => exact B28
    case g__law_join => exact PySem.W.mg_of XK G a28
    case fn__law_pair => exact F29
    case bnd__law_pair => exact B29
    case g__law_pair => exact PySem.W.mg_of XK G a29
    case fn__law_two_right => exact F30
    case bnd__law_two_right => exact B30
    case g__law_two_right => exact PySem.W.mg_of XK G a30
    case fn__law_large_right => exact F31
    case bnd__law_large_right => exact B31
    case g__law_large_right => exact PySem.W.mg_of XK G a31
    case fn_law => exact F32
    case bnd_law => exact B32
    case g_law => exact PySem.W.mg_of XK G a32
    case b_abs => exact PySem.W.mg_none_of XK G z_abs
    case b_all => exact PySem.W.mg_none_of XK G z_all
    case b_bool => exact PySem.W.mg_none_of XK G z_bool
    case b_enumerate => exact PySem.W.mg_none_of XK G z_enumerate
    case b_int => exact PySem.W.mg_none_of XK G z_int
    case b_isinstance => exact PySem.W.mg_none_of XK G z_isinstance
    case b_iter => exact PySem.W.mg_none_of XK G z_iter
    case b_len => exact PySem.W.mg_none_of XK G z_len
    case b_list => exact PySem.W.mg_none_of XK G z_list
    case b_range => exact PySem.W.mg_none_of XK G z_range
    case b_sorted => exact PySem.W.mg_none_of XK G z_sorted
    case b_str => exact PySem.W.mg_none_of XK G z_str
    case b_tuple => exact PySem.W.mg_none_of XK G z_tuple
    case g_CAPITALS => exact ⟨_, PySem.W.mg_of XK G v_CAPITALS, ⟨_, rfl⟩⟩
    case g_MOST_ENTERED => exact ⟨_, PySem.W.mg_of XK G v_MOST_ENTERED, ⟨_, rfl⟩⟩
    case g_MOST_ENTRIES => exact ⟨_, PySem.W.mg_of XK G v_MOST_ENTRIES, ⟨_, rfl⟩⟩
    case g_MOST_KEY_NUMBERS => exact ⟨_, PySem.W.mg_of XK G v_MOST_KEY_NUMBERS, ⟨_, rfl⟩⟩
    case g_SMALL => exact ⟨_, PySem.W.mg_of XK G v_SMALL, ⟨_, rfl⟩⟩
    case c_BadEntry => exact PySem.W.mg_of XK G aC4
    case c_Clash => exact PySem.W.mg_of XK G aC6
    case c_Guesses => exact PySem.W.mg_of XK G aC7
    case c_RightatlastError => exact PySem.W.mg_of XK G aC0
    case c_RowError => exact PySem.W.mg_of XK G aC2
    case c_Standing => exact PySem.W.mg_of XK G aC5
    case c_TooLarge => exact PySem.W.mg_of XK G aC1
    case dun_Guesses___eq__ => exact ⟨⟨pg7, hd7, po7, sa7⟩, sf7, a25, i25⟩
    case dun_Guesses___len__ => exact ⟨⟨pg7, hd7, po7, sa7⟩, sf7, a24, i24⟩
    case dun_Guesses___or__ => exact ⟨⟨pg7, hd7, po7, sa7⟩, sf7, a23, i23⟩
    case dun_Guesses___str__ => exact ⟨⟨pg7, hd7, po7, sa7⟩, sf7, a26, i26⟩
    case ox_Clash => exact ⟨⟨_, _, _, _, _, _, _, _, _, _, _, _, _, _, _, xl, xbmt⟩, xsa, xex, xty, xkc⟩
    case su_Clash => exact ⟨⟨_, _, _, _, _, _, xcode, xvs2, xfi⟩, ⟨_, _, _, xcell⟩, Option.isSome_iff_exists.mp xcls, xsub2, PySem.W.mg_none_of XK G xsup, xtop, xopq, xal, xva⟩
    case nf_Clash => intro f hf; simp only [fldX, List.mem_cons, List.not_mem_nil, or_false] at hf; rcases hf with rfl | rfl; exact xna1; exact xna2
    case iC_Clash => exact xi
    case iT_Clash => exact xit
    case bnd_Clash___init__ => exact .all (fun us hl => match us, hl with | [_, _, _], _ => rfl)
    case e0_TooLarge => exact ⟨e0x1, e0k1, e0s1, e0t1⟩
    case mk_Guesses => exact ⟨mk7, a18, i18, kc7⟩
    case me_Guesses_as_table => exact ⟨a19, i19, k19⟩
    case me_Guesses_at => exact ⟨a20, i20, k20⟩
    case me_Guesses_has => exact ⟨a21, i21, k21⟩
    case me_Guesses_within => exact ⟨a22, i22, k22⟩
    case lit_Guesses => exact ⟨ai, ii, a24, i24⟩
    case bndi_Guesses => exact Bi
    case fni_Guesses => exact Fi
    case xc_Clash => exact ⟨yg6, yk6, ys6, yd6, ya6, xb1, xb2, ym6⟩
    case xc_TooLarge => exact ⟨yg1, yk1, ys1, yd1, ya1, xb1, xb2, ym1⟩
    case xf_Clash => exact ⟨yg6, yk6, ys6, yd6⟩
    case xn_Clash_name => exact xna1
    case xn_Clash_numbers => exact xna2
    case xm_Clash_Clash => exact PySem.W.exm_ref ys6 yd6 yt6 yp6_6
    case xm_Clash_TooLarge => exact PySem.W.exm_ref ys1 yd1 yt1 yp6_1
    case xm_TooLarge_Clash => exact PySem.W.exm_ref ys6 yd6 yt6 yp1_6
    case xm_TooLarge_TooLarge => exact PySem.W.exm_ref ys1 yd1 yt1 yp1_1
    case cl_Guesses => exact ⟨pg7, hd7, po7, sa7⟩
    case na_Guesses__table => exact na7__table
    case na_Guesses_rows => exact na7_rows
    case na_Guesses_text => exact na7_text
  refine ⟨PySem.W.fnOf "law" "law" (defArgs s_law) (defBody s_law) (defScope s_law) .none kV32 dc32 pm32 an32 cd32 ct32, fun s v => .of_eq rfl, fun base _ _ => ?_⟩
  have GX : ∀ n, AllX P wd (⟨K, ⟨fun n => match n with | 0 => C0 | 1 => C1 | 2 => C2 | 4 => C4 | 5 => C5 | 6 => C6 | 7 => C7 | _ => 0, P, wd⟩, fun _ => none⟩ : Wd) mg base (fun _ => fxi) (fun _ => PySem.W.fnX "__init__" "Clash.__init__" (defArgs s_Clash___init__) (defBody s_Clash___init__) (defScope s_Clash___init__) [(("__class__" : Str), xcc)] .none xkV xdc xpm xan (.ref xco) xct) (fun _ => xco) (fun _ => xcc) recX0 n := fun n i => by
    cases i
    exact okx_Clash___init__ (w := (⟨K, ⟨fun n => match n with | 0 => C0 | 1 => C1 | 2 => C2 | 4 => C4 | 5 => C5 | 6 => C6 | 7 => C7 | _ => 0, P, wd⟩, fun _ => none⟩ : Wd)) rfl rfl (PySem.W.mg_none_of XK G z_tuple) rfl xfl xcd ⟨_, _, _, xcell⟩
  exact FnOk.imp (all_ok T GX 20 .law) fun vs H Q E h => h _
end K17
set_option Elab.async false
set_option linter.all false
set_option maxRecDepth 100000
set_option maxHeartbeats 4000000
namespace K17
open PySem L2 VL
noncomputable abbrev rn (n : Nat) : Rec := runs recX0 n
/-! ### small rules to run the mirrors -/
theorem bind_ok {α β : Type} {a : α} {st : Store} {f : α → Store → R β} : (R.ok a st).bind f = f a st := rfl
theorem toFl_ok {α : Type} {a : α} {st : Store} {env : VL.Env} {k : α → Store → Fl} : toFl (R.ok a st) env k = k a st := rfl
theorem pure2_ok {g : D → D → Option D} {x y : SV} {st : Store} {a b d : D} (hx : view st x = some a) (hy : view st y = some b) (hg : g a b = some d) : pure2 g x y st = .ok (.d d) st := by
  unfold pure2
  rw [hx, hy]
  dsimp only
  rw [hg]
theorem trOk_refl (st : Store) : TrOk st st := ⟨Nat.le_refl _, fun l _ => .inl rfl⟩
theorem trOk_set {st : Store} {l : Nat} {c : Cell} (hc : ∀ k fs, c ≠ .obj k fs) : TrOk st (st.set l c) := by
  refine ⟨by simp, fun j hj => ?_⟩
  by_cases h : l = j
  · subst h
    refine .inr fun k fs e => ?_
    rw [List.getElem?_set_self hj] at e
    exact absurd (Option.some.inj e) (hc k fs)
  · exact .inl (List.getElem?_set_ne h)
theorem fin_d {st st' : Store} {x : D} (h : TrOk st st') : fin st (.rt (.d x) st') = .ok (.d x) (st'.take st.length) := by
  unfold fin
  dsimp only
  rw [if_pos h]
  rfl
theorem fin_same {st : Store} {x : D} : fin st (.rt (.d x) st) = .ok (.d x) st := by rw [fin_d (trOk_refl st), List.take_length]
theorem fin_set {st : Store} {x : D} {l : Nat} {c : Cell} (hc : ∀ k fs, c ≠ .obj k fs) : fin st (.rt (.d x) (st.set l c)) = .ok (.d x) (st.set l c) := by
  rw [fin_d (trOk_set hc)]
  congr 1
  have : (st.set l c).length = st.length := by simp
  rw [← this, List.take_length]
/-! ### drawing -/
def pc (ns : List Int) (a b t : Int) : Cell := .lst true [.lst (ns.map .int), .int a, .int b, .int t]
structure Pok (ns : List Int) (a b t : Int) : Prop where
  a0 : 0 ≤ a
  a1 : a ≤ ns.length
  b0 : 0 ≤ b
  t0 : 0 ≤ t
  ns0 : ∀ x ∈ ns, 0 ≤ x
def Pc (c : Cell) : Prop := ∃ ns a b t, c = pc ns a b t ∧ Pok ns a b t
theorem pc_obj {ns : List Int} {a b t : Int} : ∀ k fs, pc ns a b t ≠ .obj k fs := fun k fs z => nomatch z
theorem Pc.obj {c : Cell} (h : Pc c) : ∀ k fs, c ≠ .obj k fs := by
  obtain ⟨ns, a, b, t, rfl, _⟩ := h
  exact pc_obj
theorem take_low (n : Nat) {st : Store} {l : Nat} {ns : List Int} {a b t k : Int} (hl : st[l]? = some (pc ns a b t)) (hb : b ≠ 0) (hk : 0 < k) (hk2 : k < 1073741824) :
    rn (n + 1) ._law_take [.own l, .d (.int k)] st = .ok (.d (.int (b.fmod k))) (st.set l (pc ns a (b.fdiv k) t)) := by
  have hd : CDivN b k := ⟨by omega, by omega⟩
  have hk0 : k ≠ 0 := by omega
  show fin st (m__law_take (rn n) recX0 [some (.own l), some (.d (.int k)), none] st) = _
  have e : m__law_take (rn n) recX0 [some (.own l), some (.d (.int k)), none] st = .rt (.d (.int (b.fmod k))) (st.set l (pc ns a (b.fdiv k) t)) := by
    simp [m__law_take, mSeq, mIfS, mTest, mBin, mVar, mC, mB, mCons, mNil, bind_ok, toFl_ok, pure2, view, views, hl, pc, idxD2, idxD, atI, eqD, eqB, hb, intD, modD, fdivD, hk0, hd, mAsg, mSetIx, mNext, mRet, ixN]
  rw [e, fin_set pc_obj]
theorem take_run (n : Nat) {st : Store} {l : Nat} {k : Int} {st' : Store} {d : Int} (e : m__law_take (rn n) recX0 [some (.own l), some (.d (.int k)), none] st = .rt (.d (.int d)) st') :
    rn (n + 1) ._law_take [.own l, .d (.int k)] st = fin st (.rt (.d (.int d)) st') := by
  show fin st (m__law_take (rn n) recX0 [some (.own l), some (.d (.int k)), none] st) = _
  rw [e]
theorem set_self {st : Store} {l : Nat} {c : Cell} (hl : st[l]? = some c) : st.set l c = st := VL.set_same hl
theorem take_empty (n : Nat) {st : Store} {l : Nat} {a t k : Int} (hl : st[l]? = some (pc [] a 0 t)) : rn (n + 1) ._law_take [.own l, .d (.int k)] st = .ok (.d (.int 0)) (st.set l (pc [] a 0 t)) := by
  refine (take_run n (st' := st) (d := 0) ?_).trans (by rw [fin_same, set_self hl])
  simp [m__law_take, mSeq, mIfS, mTest, mBin, mVar, mC, mB, mCons, mNil, bind_ok, toFl_ok, pure2, view, views, hl, pc, idxD2, idxD, atI, eqD, eqB, intD, modD, fdivD, mAsg, mSetIx, mNext, mRet, ixN, mNot, mTruth, truthD]
theorem take_next (n : Nat) {st : Store} {l : Nat} {ns : List Int} {a t k : Int} (hl : st[l]? = some (pc ns a 0 t)) (hne : ns ≠ []) (ha : 0 ≤ a) (ha2 : a ≤ ns.length) (hk : 0 < k) (hk2 : k < 1073741824) :
    ∃ x ∈ ns, ∃ (a' t' : Int), 0 ≤ a' ∧ a' ≤ ns.length ∧ (t' = t ∨ t' = t + 1) ∧ rn (n + 1) ._law_take [.own l, .d (.int k)] st = .ok (.d (.int ((x + t' * 7919).fmod k))) (st.set l (pc ns a' ((x + t' * 7919).fdiv k) t')) := by
  have hlt : l < st.length := (List.getElem?_eq_some_iff.mp hl).1
  have hk0 : k ≠ 0 := by omega
  have hset : ∀ c : Cell, (List.set st l c)[l]? = some c := fun c => List.getElem?_set_self hlt
  have hemp : (ns.map D.int).isEmpty = false := by cases ns with
    | nil => exact absurd rfl hne
    | cons _ _ => rfl
  have hlen : 0 < ns.length := List.length_pos_iff.mpr hne
  by_cases hal : a = ns.length
  · obtain ⟨x, hx⟩ : ∃ x, ns[0]'hlen = x := ⟨_, rfl⟩
    refine ⟨x, hx ▸ List.getElem_mem hlen, 1, t + 1, by omega, by omega, .inr rfl, ?_⟩
    have hd : CDivN (x + (t + 1) * 7919) k := ⟨by omega, by omega⟩
    have hm : CMul (t + 1) 7919 := .inr ⟨by decide, by decide⟩
    refine (take_run n (d := (x + (t + 1) * 7919).fmod k) (st' := st.set l (pc ns 1 ((x + (t + 1) * 7919).fdiv k) (t + 1))) ?_).trans (fin_set pc_obj)
    simp [m__law_take, mSeq, mIfS, mTest, mBin, mVar, mC, mB, mCons, mNil, bind_ok, toFl_ok, pure2, view, views, hl, pc, idxD2, idxD, atI, eqD, eqB, intD, modD, fdivD, mulD, addD, mAsg, mSetIx, mNext, mRet, ixN, mNot, mTruth, truthD, lenD, hal, hset, hx, hd, hm, hk0, hne, hlen]
  · obtain ⟨j, rfl⟩ : ∃ j : Nat, a = (j : Int) := ⟨a.toNat, by omega⟩
    have hj : j < ns.length := by omega
    obtain ⟨x, hx⟩ : ∃ x, ns[j]'hj = x := ⟨_, rfl⟩
    refine ⟨x, hx ▸ List.getElem_mem hj, (j : Int) + 1, t, by omega, by omega, .inl rfl, ?_⟩
    have hd : CDivN (x + t * 7919) k := ⟨by omega, by omega⟩
    have hm : CMul t 7919 := .inr ⟨by decide, by decide⟩
    have hjn : ¬ (j : Int) = (ns.length : Int) := hal
    refine (take_run n (d := (x + t * 7919).fmod k) (st' := st.set l (pc ns ((j : Int) + 1) ((x + t * 7919).fdiv k) t)) ?_).trans (fin_set pc_obj)
    simp [m__law_take, mSeq, mIfS, mTest, mBin, mVar, mC, mB, mCons, mNil, bind_ok, toFl_ok, pure2, view, views, hl, pc, idxD2, idxD, atI, eqD, eqB, intD, modD, fdivD, mulD, addD, mAsg, mSetIx, mNext, mRet, ixN, mNot, mTruth, truthD, lenD, hset, hx, hd, hm, hk0, hne, hlen, hj, hjn, Int.ofNat_inj, Nat.ne_of_lt hj]
/-- a draw: a number below k, the source stays one -/
theorem take_ok (n : Nat) {st : Store} {l : Nat} {c : Cell} {k : Int} (hl : st[l]? = some c) (hc : Pc c) (hk : 0 < k) (hk2 : k < 1073741824) :
    ∃ d c', rn (n + 1) ._law_take [.own l, .d (.int k)] st = .ok (.d (.int d)) (st.set l c') ∧ Pc c' ∧ 0 ≤ d ∧ d < k := by
  obtain ⟨ns, a, b, t, rfl, P⟩ := hc
  by_cases hb : b = 0
  · subst hb
    by_cases hne : ns = []
    · subst hne
      exact ⟨0, _, take_empty n hl, ⟨_, _, _, _, rfl, P⟩, Int.le_refl _, hk⟩
    · obtain ⟨x, hx, a', t', h1, h2, h3, e⟩ := take_next n hl hne P.a0 P.a1 hk hk2
      have hx0 := P.ns0 x hx
      have ht0 : 0 ≤ t' := by have := P.t0; rcases h3 with h | h <;> omega
      have hs : 0 ≤ x + t' * 7919 := by omega
      exact ⟨_, _, e, ⟨_, _, _, _, rfl, h1, h2, Int.fdiv_nonneg hs (Int.le_of_lt hk), ht0, P.ns0⟩, Int.fmod_nonneg_of_pos _ hk, Int.fmod_lt_of_pos _ hk⟩
  · exact ⟨_, _, take_low n hl hb hk hk2, ⟨_, _, _, _, rfl, P.a0, P.a1, Int.fdiv_nonneg P.b0 (Int.le_of_lt hk), P.t0, P.ns0⟩, Int.fmod_nonneg_of_pos _ hk, Int.fmod_lt_of_pos _ hk⟩
end K17
set_option Elab.async false
set_option linter.all false
set_option maxRecDepth 100000
set_option maxHeartbeats 4000000
namespace K17
open PySem L2 VL PyProof.Rows
/-! ### rows -/
structure Row where
  nm : Str
  ns : List Int
  v : Int
abbrev Key := Str × List Int
def Row.key (r : Row) : Key := (r.nm, r.ns)
def nsD (ns : List Int) : D := .tup (ns.map .int)
def keyOfD (k : Key) : D := .tup [.str k.1, nsD k.2]
def keyE (r : Row) : D := keyOfD r.key
def rowD (r : Row) : D := .tup [.str r.nm, nsD r.ns, .int r.v]
def kvE (r : Row) : D × D := (keyE r, .int r.v)
def pKey (k : Key) : PyData := .tuple [.str k.1, .tuple (k.2.map .int)]
def pRow (r : Row) : PyData := .tuple [.str r.nm, .tuple (r.ns.map .int), .int r.v]
theorem toPs_ints : ∀ ns : List Int, toPs (ns.map .int) = some (ns.map .int)
  | [] => by simp [toPs]
  | n :: r => by simp [toPs, toP, toPs_ints r]
theorem toP_key (k : Key) : toP (keyOfD k) = some (pKey k) := by simp [keyOfD, nsD, pKey, toP, toPs, toPs_ints]
theorem toP_row (r : Row) : toP (rowD r) = some (pRow r) := by simp [rowD, nsD, pRow, toP, toPs, toPs_ints]
theorem encD_key (k : Key) : VL.encD (keyOfD k) = pKey k := by unfold VL.encD; rw [toP_key]; rfl
theorem encD_row (r : Row) : VL.encD (rowD r) = pRow r := by unfold VL.encD; rw [toP_row]; rfl
/-! ### signs -/
open PySem.W in
theorem toks_ints : ∀ {a b : List Int}, keyToksAll (a.map .int) = keyToksAll (b.map .int) → a = b
  | [], [], _ => rfl
  | [], y :: b, h => by simp [keyToksAll] at h
  | x :: a, [], h => by simp [keyToksAll] at h
  | x :: a, y :: b, h => by
    simp only [List.map_cons, keyToksAll, keyToks, List.cons_append, List.nil_append, List.cons.injEq, true_and] at h
    obtain ⟨h1, h2⟩ := h
    rw [Sum.inl.inj h1, toks_ints h2]
open PySem.W in
theorem toks_key {a b : Key} (h : keyToks (pKey a) = keyToks (pKey b)) : a = b := by
  obtain ⟨x, xs⟩ := a
  obtain ⟨y, ys⟩ := b
  simp only [pKey, keyToks, keyToksAll, List.cons_append, List.nil_append, List.cons.injEq, true_and] at h
  obtain ⟨h1, h2⟩ := h
  have e1 : x = y := str_of_cps (Sum.inr.inj h1)
  have e2 := List.append_cancel_right h2
  rw [e1, toks_ints e2]
open PySem.W in
def kLe (a b : Key) : Bool := dataLe false VL.encD (keyOfD a) (keyOfD b)
open PySem.W in
theorem kLe_def (a b : Key) : kLe a b = !(PyProof.Rows.lexLt itemOrd (keyToks (pKey b)) (keyToks (pKey a))) := by
  unfold kLe
  rw [dataLe_eq]
  show (!dataLt (VL.encD (keyOfD b)) (VL.encD (keyOfD a))) = _
  rw [encD_key, encD_key]
  rfl
open PySem.W in
theorem kLe_total : TotalLe kLe := by
  have h := sortLe_total (listOrd itemOrd) false (fun k : Key => keyToks (VL.encD (keyOfD k)))
  exact h
theorem kLe_trans {a b c : Key} (h1 : kLe a b = true) (h2 : kLe b c = true) : kLe a c = true := kLe_total.trans _ _ _ h1 h2
open PySem.W in
theorem kLe_anti {a b : Key} (h1 : kLe a b = true) (h2 : kLe b a = true) : a = b := by
  rw [kLe_def] at h1 h2
  refine toks_key ((listOrd itemOrd).total _ _ ?_ ?_)
  · simpa using h2
  · simpa using h1
theorem kLe_refl (a : Key) : kLe a a = true := by
  have := kLe_total.total a a
  simpa using this
def rLe (a b : Row) : Bool := kLe a.key b.key
open PySem.W in
theorem alike_ints : ∀ a b : List Int, alikeAll (a.map .int) (b.map .int) = true
  | [], _ => by simp [alikeAll]
  | _ :: _, [] => by simp [alikeAll]
  | x :: a, y :: b => by simp [alikeAll, alike, alike_ints a b]
open PySem.W in
/-- the rows' order is that of their keys, where the keys differ -/
theorem row_le {a b : Row} (h : a.key ≠ b.key) : dataLe false VL.encD (rowD a) (rowD b) = rLe a b := by
  unfold rLe
  rw [kLe_def, dataLe_eq]
  show (!dataLt (VL.encD (rowD b)) (VL.encD (rowD a))) = _
  rw [encD_row, encD_row]
  congr 1
  unfold dataLt
  obtain ⟨x, xs, v⟩ := a
  obtain ⟨y, ys, w⟩ := b
  simp only [pRow, pKey, Row.key, keyToks, keyToksAll]
  by_cases hx : x = y
  · subst hx
    have hne : ys ≠ xs := fun z => h (by rw [Row.key, Row.key, z])
    have hev : PyData.eqv (.tuple (ys.map .int)) (.tuple (xs.map .int)) = false := by
      cases e : PyData.eqv (.tuple (ys.map PyData.int)) (.tuple (xs.map .int)) with
      | false => rfl
      | true =>
        have q := (toks_eqv (.tuple (ys.map .int)) (.tuple (xs.map .int)) (by simp [alike, alike_ints])).1 e
        simp only [keyToks] at q
        exact absurd (toks_ints q) hne
    have q := (toks_eqv (.tuple (ys.map .int)) (.tuple (xs.map .int)) (by simp [alike, alike_ints])).2 hev
    simp only [keyToks] at q
    have pre := fun l m => lex_pre [Sum.inl 1, Sum.inr x.cps.toList, Sum.inl 1] l m
    simp only [List.cons_append, List.nil_append] at pre ⊢
    rw [pre, pre, q, q]
  · have hev : PyData.eqv (.str y) (.str x) = false := by simp [PyData.eqv]; exact fun z => hx z.symm
    have q := (toks_eqv (.str y) (.str x) (by simp [alike])).2 hev
    have pre := fun l m => lex_pre [Sum.inl 1] l m
    simp only [keyToks, List.cons_append, List.nil_append] at pre q ⊢
    rw [pre, pre, q _ (Sum.inl 1 :: _), q _ (Sum.inl 1 :: (_ ++ [Sum.inl 0]))]
end K17
set_option Elab.async false
set_option linter.all false
set_option maxRecDepth 100000
set_option maxHeartbeats 4000000
namespace K17
open PySem L2 VL PyProof.Rows
/-! ### sorted rows -/
def srt (rs : List Row) : List Row := rs.mergeSort rLe
abbrev Uniq (rs : List Row) : Prop := (rs.map Row.key).Nodup
theorem rLe_trans (a b c : Row) (h1 : rLe a b = true) (h2 : rLe b c = true) : rLe a c = true := kLe_trans h1 h2
theorem rLe_total (a b : Row) : (rLe a b || rLe b a) = true := by
  have := kLe_total.total a.key b.key
  simpa [rLe] using this
theorem srt_perm (rs : List Row) : (srt rs).Perm rs := List.mergeSort_perm _ _
theorem srt_sorted (rs : List Row) : (srt rs).Pairwise fun a b => rLe a b = true := List.pairwise_mergeSort rLe_trans rLe_total rs
theorem srt_mem {rs : List Row} {r : Row} : r ∈ srt rs ↔ r ∈ rs := (srt_perm rs).mem_iff
theorem srt_len (rs : List Row) : (srt rs).length = rs.length := (srt_perm rs).length_eq
theorem Uniq.perm {xs ys : List Row} (h : Uniq xs) (p : ys.Perm xs) : Uniq ys := ((p.map Row.key).nodup_iff).mpr h
theorem srt_uniq {rs : List Row} (h : Uniq rs) : Uniq (srt rs) := h.perm (srt_perm rs)
theorem Uniq.eq_of_key {rs : List Row} (h : Uniq rs) {a b : Row} (ha : a ∈ rs) (hb : b ∈ rs) (e : a.key = b.key) : a = b := by
  induction rs with
  | nil => cases ha
  | cons c r ih =>
    have h' := List.nodup_cons.mp (show (c.key :: r.map Row.key).Nodup from h)
    rcases List.mem_cons.mp ha with rfl | ha'
    · rcases List.mem_cons.mp hb with rfl | hb'
      · rfl
      · exact absurd (List.mem_map.mpr ⟨b, hb', e.symm⟩) h'.1
    · rcases List.mem_cons.mp hb with rfl | hb'
      · exact absurd (List.mem_map.mpr ⟨a, ha', e⟩) h'.1
      · exact ih h'.2 ha' hb'
/-- sorted rows with the same elements are the same -/
theorem sorted_eq {xs ys : List Row} (hu : Uniq xs) (h1 : xs.Pairwise fun a b => rLe a b = true) (h2 : ys.Pairwise fun a b => rLe a b = true) (p : xs.Perm ys) : xs = ys :=
  List.Perm.eq_of_pairwise (le := fun a b => rLe a b = true) (fun a b ha hb h1 h2 => hu.eq_of_key ha (p.mem_iff.mpr hb) (kLe_anti h1 h2)) h1 h2 p
theorem srt_eq {xs ys : List Row} (hu : Uniq xs) (p : xs.Perm ys) : srt xs = srt ys := sorted_eq (srt_uniq hu) (srt_sorted xs) (srt_sorted ys) ((srt_perm xs).trans (p.trans (srt_perm ys).symm))
theorem srt_srt (rs : List Row) : srt (srt rs) = srt rs := List.mergeSort_of_pairwise (srt_sorted rs)
/-- unique rows with the same members are permutations -/
theorem perm_of_mem {xs ys : List Row} (hx : Uniq xs) (hy : Uniq ys) (h : ∀ r, r ∈ xs ↔ r ∈ ys) : xs.Perm ys := by
  have nx : xs.Nodup := (List.pairwise_map.mp hx).imp fun h z => h (congrArg Row.key z)
  have ny : ys.Nodup := (List.pairwise_map.mp hy).imp fun h z => h (congrArg Row.key z)
  exact (List.perm_ext_iff_of_nodup nx ny).mpr h
theorem sortD_key (rs : List Row) : sortD (rs.map keyE) = (srt rs).map keyE := (List.map_mergeSort (r := rLe) (s := PySem.W.dataLe false VL.encD) (f := keyE) fun a _ b _ => rfl).symm
theorem sortD_row {rs : List Row} (hu : Uniq rs) : sortD (rs.map rowD) = (srt rs).map rowD := by
  refine (List.map_mergeSort (r := rLe) (s := PySem.W.dataLe false VL.encD) (f := rowD) fun a ha b hb => ?_).symm
  by_cases h : a.key = b.key
  · have e := hu.eq_of_key ha hb h
    subst e
    have h1 : rLe a a = true := kLe_refl _
    have h2 := PySem.W.dataLe_eq false VL.encD (β := D)
    rw [h1, h2]
    show true = !PySem.W.dataLt _ _
    have h3 : PySem.W.dataLt (VL.encD (rowD a)) (VL.encD (rowD a)) = false := (listOrd itemOrd).irrefl _
    rw [h3]
    rfl
  · exact (row_le h).symm
theorem depth_key (k : Key) : (pKey k).depth ≤ 32 := by simp [pKey, PyData.depth, PyData.depthAll, PySem.W.depth_ints]
theorem depth_row (r : Row) : (pRow r).depth ≤ 32 := by simp [pRow, PyData.depth, PyData.depthAll, PySem.W.depth_ints]
theorem map_encD_key (rs : List Row) : (rs.map keyE).map VL.encD = rs.map fun r => pKey r.key := by
  rw [List.map_map]; exact List.map_congr_left fun r _ => encD_key r.key
theorem map_encD_row (rs : List Row) : (rs.map rowD).map VL.encD = rs.map pRow := by
  rw [List.map_map]; exact List.map_congr_left fun r _ => encD_row r
theorem sortOk_key {rs : List Row} (hl : rs.length ≤ sizeLine) : SortOk (rs.map keyE) := by
  refine ⟨fun d hd => ?_, ?_, ?_, by simpa using hl⟩
  · obtain ⟨r, _, rfl⟩ := List.mem_map.mp hd
    exact ⟨_, toP_key r.key, depth_key _⟩
  · rw [map_encD_key]
    exact PySem.W.AllAlike.of fun a b => by simp [pKey, PySem.W.alike, PySem.W.alikeAll, alike_ints]
  · rw [map_encD_key]
    exact PySem.W.Sortable.tuples fun r => ⟨_, _, rfl⟩
theorem sortOk_row {rs : List Row} (hl : rs.length ≤ sizeLine) : SortOk (rs.map rowD) := by
  refine ⟨fun d hd => ?_, ?_, ?_, by simpa using hl⟩
  · obtain ⟨r, _, rfl⟩ := List.mem_map.mp hd
    exact ⟨_, toP_row r, depth_row _⟩
  · rw [map_encD_row]
    exact PySem.W.AllAlike.of fun a b => by simp [pRow, PySem.W.alike, PySem.W.alikeAll, alike_ints]
  · rw [map_encD_row]
    exact PySem.W.Sortable.tuples fun r => ⟨_, _, rfl⟩
theorem sortedD_key {rs : List Row} (hl : rs.length ≤ sizeLine) : sortedD [.lst (rs.map keyE)] = some (.lst ((srt rs).map keyE)) := by
  unfold sortedD
  dsimp only
  rw [if_pos (sortOk_key hl), sortD_key]
theorem sortedD_row {rs : List Row} (hu : Uniq rs) (hl : rs.length ≤ sizeLine) : sortedD [.lst (rs.map rowD)] = some (.lst ((srt rs).map rowD)) := by
  unfold sortedD
  dsimp only
  rw [if_pos (sortOk_row hl), sortD_row hu]
end K17
set_option Elab.async false
set_option linter.all false
set_option maxRecDepth 100000
set_option maxHeartbeats 4000000
namespace K17
open PySem L2 VL PyProof.Rows
/-! ### looking up -/
def lkp (rs : List Row) (k : Key) : Option Int := (rs.find? fun r => decide (r.key = k)).map (·.v)
def nk (k : Key) : NestedKey := .tup [.text k.1, .tup (k.2.map .num)]
theorem toKs_ints : ∀ ns : List Int, toKs (ns.map .int) = some (ns.map .num)
  | [] => by simp [toKs]
  | n :: r => by simp [toKs, toK, toKs_ints r]
theorem toK_key (k : Key) : toK (keyOfD k) = some (nk k) := by simp [keyOfD, nsD, toK, toKs, toKs_ints, nk]
theorem map_num_inj : ∀ {a b : List Int}, a.map NestedKey.num = b.map NestedKey.num → a = b
  | [], [], _ => rfl
  | [], _ :: _, h => by simp at h
  | _ :: _, [], h => by simp at h
  | x :: a, y :: b, h => by
    simp only [List.map_cons, List.cons.injEq, NestedKey.num.injEq] at h
    rw [h.1, map_num_inj h.2]
theorem nk_inj {a b : Key} (h : nk a = nk b) : a = b := by
  obtain ⟨x, xs⟩ := a
  obtain ⟨y, ys⟩ := b
  simp only [nk, NestedKey.tup.injEq, List.cons.injEq, NestedKey.text.injEq, and_true] at h
  rw [h.1, map_num_inj h.2]
theorem depth_nums : ∀ ns : List Int, NestedKey.depthAll (ns.map .num) ≤ 1
  | [] => by simp [NestedKey.depthAll]
  | n :: r => by
    have := depth_nums r
    simp only [List.map_cons, NestedKey.depthAll, NestedKey.depth]
    omega
theorem keyD_key (k : Key) : keyD (keyOfD k) = some (nk k) := by
  have h : (nk k).depth ≤ 8 := by
    have := depth_nums k.2
    simp only [nk, NestedKey.depth, NestedKey.depthAll]
    omega
  have e := toK_key k
  unfold keyOfD at e ⊢
  unfold keyD
  dsimp only
  rw [e]
  dsimp only
  rw [if_pos h]
theorem isKD_row (k : Key) (r : Row) : isKD (nk k) (kvE r) = decide (r.key = k) := by
  unfold isKD kvE keyE
  dsimp only
  rw [toK_key]
  dsimp only
  by_cases h : r.key = k
  · rw [h]; simp
  · rw [decide_eq_false h, decide_eq_false fun z => h (nk_inj z)]
theorem find_rows (rs : List Row) (k : Key) : (rs.map kvE).find? (isKD (nk k)) = (rs.find? fun r => decide (r.key = k)).map kvE := by
  rw [List.find?_map]
  congr 2
  funext r
  exact isKD_row k r
theorem valN_rows (rs : List Row) (k : Key) : valN (rs.map kvE) (nk k) = (lkp rs k).map .int := by
  unfold valN lkp
  rw [find_rows, Option.map_map, Option.map_map]
  rfl
theorem lkp_none {rs : List Row} {k : Key} : lkp rs k = none ↔ k ∉ rs.map Row.key := by
  unfold lkp
  rw [Option.map_eq_none_iff, List.find?_eq_none]
  simp [List.mem_map]
theorem lkp_some {rs : List Row} (hu : Uniq rs) {k : Key} {v : Int} : lkp rs k = some v ↔ (⟨k.1, k.2, v⟩ : Row) ∈ rs := by
  constructor
  · intro h
    unfold lkp at h
    rw [Option.map_eq_some_iff] at h
    obtain ⟨r, hr, rfl⟩ := h
    have h1 := List.mem_of_find?_eq_some hr
    have h2 := List.find?_some hr
    have h3 : r.key = k := of_decide_eq_true h2
    subst h3
    exact h1
  · intro h
    have hne : lkp rs k ≠ none := fun z => by
      rw [lkp_none] at z
      exact z (List.mem_map.mpr ⟨_, h, rfl⟩)
    cases e : lkp rs k with
    | none => exact absurd e hne
    | some w =>
      unfold lkp at e
      rw [Option.map_eq_some_iff] at e
      obtain ⟨r, hr, rfl⟩ := e
      have h1 := List.mem_of_find?_eq_some hr
      have h2' := List.find?_some hr
      have h2 : r.key = k := of_decide_eq_true h2'
      have := hu.eq_of_key h1 h h2
      rw [this]
theorem lkp_row {rs : List Row} (hu : Uniq rs) {r : Row} (h : r ∈ rs) : lkp rs r.key = some r.v := (lkp_some hu).mpr h
theorem lkp_perm {xs ys : List Row} (hu : Uniq xs) (p : xs.Perm ys) (k : Key) : lkp xs k = lkp ys k := by
  have hy : Uniq ys := hu.perm p.symm
  cases e : lkp xs k with
  | none =>
    symm
    rw [lkp_none] at e ⊢
    exact fun z => e ((p.map Row.key).mem_iff.mpr z)
  | some v =>
    symm
    rw [lkp_some hu] at e
    rw [lkp_some hy]
    exact p.mem_iff.mp e
theorem putN_new {acc : List Row} {r : Row} (h : lkp acc r.key = none) : putN (acc.map kvE) (nk r.key) (keyE r) (.int r.v) = (acc ++ [r]).map kvE := by
  unfold putN
  have e : ((acc.map kvE).find? (isKD (nk r.key))).isSome = false := by
    rw [find_rows]
    unfold lkp at h
    rw [Option.map_eq_none_iff] at h
    rw [h]
    rfl
  rw [if_neg (by rw [e]; exact Bool.false_ne_true)]
  simp [kvE]
end K17
set_option Elab.async false
set_option linter.all false
set_option maxRecDepth 100000
set_option maxHeartbeats 4000000
namespace K17
open PySem L2 VL PyProof.Rows
/-! ### guesses as data -/
def intT (i : Int) : Str := toString i
def rowTx (r : Row) : Str := (if r.ns = [] then r.nm else r.nm ++ "(" ++ Txt.join ", " (r.ns.map intT) ++ ")") ++ " = " ++ intT r.v
def txt (rs : List Row) : Str := Txt.join "\n" (rs.map rowTx)
def gfs (rs : List Row) : List (Str × D) := [("_table", .dcn (rs.map kvE)), ("rows", .tup ((srt rs).map rowD)), ("text", .str (txt (srt rs)))]
def gD (rs : List Row) : D := .obj 7 (gfs rs)
theorem lk_table (rs : List Row) : (gfs rs).lookup ("_table" : Str) = some (.dcn (rs.map kvE)) := by
  unfold gfs
  simp only [List.lookup, show (("_table" : Str) == ("_table" : Str)) = true from by decide +kernel]
theorem lk_rows (rs : List Row) : (gfs rs).lookup ("rows" : Str) = some (.tup ((srt rs).map rowD)) := by
  unfold gfs
  simp only [List.lookup, show (("rows" : Str) == ("_table" : Str)) = false from by decide +kernel, show (("rows" : Str) == ("rows" : Str)) = true from by decide +kernel]
theorem lk_text (rs : List Row) : (gfs rs).lookup ("text" : Str) = some (.str (txt (srt rs))) := by
  unfold gfs
  simp only [List.lookup, show (("text" : Str) == ("_table" : Str)) = false from by decide +kernel, show (("text" : Str) == ("rows" : Str)) = false from by decide +kernel, show (("text" : Str) == ("text" : Str)) = true from by decide +kernel]
theorem names_g (rs : List Row) : (gfs rs).map (·.1) = [("_table" : Str), "rows", "text"] := rfl
theorem no_has : ("has" : Str) ∉ [("_table" : Str), "rows", "text"] := by decide +kernel
theorem no_at : ("at" : Str) ∉ [("_table" : Str), "rows", "text"] := by decide +kernel
theorem no_within : ("within" : Str) ∉ [("_table" : Str), "rows", "text"] := by decide +kernel
theorem no_as_table : ("as_table" : Str) ∉ [("_table" : Str), "rows", "text"] := by decide +kernel
theorem keyD2 (x : Str) (ns : List Int) : keyD (.tup [.str x, nsD ns]) = some (nk (x, ns)) := keyD_key (x, ns)
theorem getD_int (o : Option Int) (d : Int) : (o.map D.int).getD (.int d) = .int (o.getD d) := by cases o <;> rfl
section
variable (n : Nat) (st : Store) (rs : List Row) (x : Str) (ns : List Int)
theorem at_ok : rn (n + 1) .Guesses_at [.d (gD rs), .d (.str x), .d (nsD ns)] st = .ok (.d (.int ((lkp rs (x, ns)).getD 0))) st := by
  show fin st (m_Guesses_at (rn n) recX0 [some (.d (gD rs)), some (.d (.str x)), some (.d (nsD ns))] st) = _
  have e : m_Guesses_at (rn n) recX0 [some (.d (gD rs)), some (.d (.str x)), some (.d (nsD ns))] st = .rt (.d (.int ((lkp rs (x, ns)).getD 0))) st := by
    simp [m_Guesses_at, mRet, mGet2, mFld, mVar, mTup, mCons, mNil, mC, bind_ok, toFl_ok, gD, lk_table, datas, sizeLine_eq, keyD2, valN_rows, getD_int]
  rw [e, fin_same]
theorem has_ok : rn (n + 1) .Guesses_has [.d (gD rs), .d (.str x), .d (nsD ns)] st = .ok (.d (.bl (lkp rs (x, ns)).isSome)) st := by
  show fin st (m_Guesses_has (rn n) recX0 [some (.d (gD rs)), some (.d (.str x)), some (.d (nsD ns))] st) = _
  have e : m_Guesses_has (rn n) recX0 [some (.d (gD rs)), some (.d (.str x)), some (.d (nsD ns))] st = .rt (.d (.bl (lkp rs (x, ns)).isSome)) st := by
    simp [m_Guesses_has, mRet, mBin, pure2, view, inD3, inD2, mFld, mVar, mTup, mCons, mNil, mC, bind_ok, toFl_ok, gD, lk_table, datas, sizeLine_eq, keyD2, valN_rows]
  rw [e, fin_same]
theorem len_ok : rn (n + 1) .Guesses___len__ [.d (gD rs)] st = .ok (.d (.int rs.length)) st := by
  show fin st (m_Guesses___len__ (rn n) recX0 [some (.d (gD rs))] st) = _
  have e : m_Guesses___len__ (rn n) recX0 [some (.d (gD rs))] st = .rt (.d (.int rs.length)) st := by
    simp [m_Guesses___len__, mRet, mB, view, views, mFld, mVar, mCons, mNil, bind_ok, toFl_ok, gD, lk_rows, lenD, srt_len]
  rw [e, fin_same]
theorem str_ok : rn (n + 1) .Guesses___str__ [.d (gD rs)] st = .ok (.d (.str (txt (srt rs)))) st := by
  show fin st (m_Guesses___str__ (rn n) recX0 [some (.d (gD rs))] st) = _
  have e : m_Guesses___str__ (rn n) recX0 [some (.d (gD rs))] st = .rt (.d (.str (txt (srt rs)))) st := by
    simp [m_Guesses___str__, mRet, mB, view, views, mFld, mVar, mCons, mNil, bind_ok, toFl_ok, gD, lk_text, strD]
  rw [e, fin_same]
theorem isi_g : isiD isiT [gD rs, .cls 7] = some (.bl true) := by
  simp [isiD, gD, tyD, clsD, okTy, isiT, kitD, isiL, List.lookup]
theorem eq_ok (ys : List Row) (h : txt (srt rs) = txt (srt ys)) : rn (n + 1) .Guesses___eq__ [.d (gD rs), .d (gD ys)] st = .ok (.d (.bl true)) st := by
  show fin st (m_Guesses___eq__ (rn n) recX0 [some (.d (gD rs)), some (.d (gD ys))] st) = _
  have hi := isi_g ys
  unfold gD at hi
  have e : m_Guesses___eq__ (rn n) recX0 [some (.d (gD rs)), some (.d (gD ys))] st = .rt (.d (.bl true)) st := by
    simp [m_Guesses___eq__, mRet, mB, mAndV, mBin, mC, pure2, view, views, mFld, mVar, mCons, mNil, bind_ok, toFl_ok, gD, lk_text, hi, eqD, eqB, h]
  rw [e, fin_same]
end
end K17
set_option Elab.async false
set_option linter.all false
set_option maxRecDepth 100000
set_option maxHeartbeats 4000000
namespace K17
open PySem L2 VL PyProof.Rows
/-! ### comprehensions -/
theorem lc_map {α : Type} {enc f : α → D} {t : Tgt} {elt : MV} {env : VL.Env} {st : Store} : ∀ {xs : List α}, (∀ a ∈ xs, ∃ env', bindT t (enc a) env = some env' ∧ elt env' st = .ok (.d (f a)) st) → lcD t mYes elt (xs.map enc) env st = .ok (xs.map f) st
  | [], _ => rfl
  | a :: r, h => by
    obtain ⟨env', h1, h2⟩ := h a (by simp)
    have ih := lc_map (xs := r) fun b hb => h b (by simp [hb])
    simp only [List.map_cons, lcD, h1, mYes, noX, bind_ok, if_true, h2, ih]
theorem lc_filter {α : Type} {enc f : α → D} {p : α → Bool} {t : Tgt} {cond : MB} {elt : MV} {env : VL.Env} {st : Store} : ∀ {xs : List α}, (∀ a ∈ xs, ∃ env', bindT t (enc a) env = some env' ∧ cond env' st = .ok (p a) st ∧ (p a = true → elt env' st = .ok (.d (f a)) st)) → lcD t cond elt (xs.map enc) env st = .ok ((xs.filter p).map f) st
  | [], _ => rfl
  | a :: r, h => by
    obtain ⟨env', h1, h2, h3⟩ := h a (by simp)
    have ih := lc_filter (xs := r) fun b hb => h b (by simp [hb])
    cases hp : p a with
    | true =>
      have h4 := h3 hp
      rw [hp] at h2
      simp only [List.map_cons, lcD, h1, h2, noX, bind_ok, if_true, h4, ih, List.filter_cons, hp, List.map_cons]
    | false =>
      rw [hp] at h2
      simp [lcD, h1, h2, noX, bind_ok, ih, List.filter_cons, hp]
theorem dc_all {rs : List Row} (hu : Uniq rs) {st : Store} {env : VL.Env} (he : env = [some (.d (gD rs)), none]) : ∀ (ys acc : List Row), (∀ r ∈ ys, r ∈ rs) → Uniq (acc ++ ys) →
    dcD (.nm 1) (mVar 1) (mBin idxD2 (mFld [7] "_table" (mVar 0)) (mVar 1)) (ys.map keyE) (acc.map kvE) env st = .ok ((acc ++ ys).map kvE) st
  | [], acc, _, _ => by simp [dcD]
  | r :: ys, acc, hm, hq => by
    have hr : lkp rs r.key = some r.v := lkp_row hu (hm r (by simp))
    have hn : lkp acc r.key = none := by
      rw [lkp_none]
      intro z
      have h := hq
      unfold Uniq at h
      rw [List.map_append, List.nodup_append] at h
      exact h.2.2 _ z _ (by simp) rfl
    have ih := dc_all hu he ys (acc ++ [r]) (fun a ha => hm a (by simp [ha])) (by simpa using hq) (st := st)
    have hk : keyD (keyE r) = some (nk r.key) := keyD_key _
    have hv : idxD2 (.dcn (rs.map kvE)) (keyE r) = some (.int r.v) := by
      simp only [idxD2, hk, valN_rows, hr]
      rfl
    subst he
    have e1 : mBin idxD2 (mFld [7] "_table" (mVar 0)) (mVar 1) [some (.d (gD rs)), some (.d (keyE r))] st = .ok (.d (.int r.v)) st := by
      simp [mBin, pure2, mFld, mVar, bind_ok, gD, lk_table, view, hv]
    simp only [List.map_cons, dcD, bindT]
    show ((noX (mVar 1 [some (.d (gD rs)), some (.d (keyE r))] st)).bind _) = _
    have e2 : mVar 1 [some (.d (gD rs)), some (.d (keyE r))] st = .ok (.d (keyE r)) st := rfl
    rw [e2]
    simp only [noX, bind_ok]
    rw [show ([some (SV.d (gD rs)), none] : VL.Env).set 1 (some (SV.d (keyE r))) = [some (.d (gD rs)), some (.d (keyE r))] from rfl, e1]
    simp only [noX, bind_ok, hk, putN_new hn]
    rw [ih]
    simp
section
variable (n : Nat) (st : Store) (rs : List Row)
theorem as_table_ok (hu : Uniq rs) (hl : rs.length ≤ sizeLine) : rn (n + 1) .Guesses_as_table [.d (gD rs)] st = .ok (.d (.dcn (rs.map kvE))) st := by
  show fin st (m_Guesses_as_table (rn n) recX0 [some (.d (gD rs)), none] st) = _
  have e : m_Guesses_as_table (rn n) recX0 [some (.d (gD rs)), none] st = .rt (.d (.dcn (rs.map kvE))) st := by
    have h := dc_all hu (st := st) rfl rs [] (fun _ h => h) (by simpa using hu)
    simp only [List.nil_append, List.map_nil] at h
    have hk : (rs.map kvE).map (·.1) = rs.map keyE := by rw [List.map_map]; rfl
    have e0 : mKeysN (mFld [7] "_table" (mVar 0)) [some (.d (gD rs)), none] st = .ok (rs.map keyE) st := by
      simp only [mKeysN, mFld, mVar, bind_ok, gD, List.getElem?_cons_zero, List.mem_singleton, if_true, lk_table, hk]
    unfold m_Guesses_as_table mRet mDc
    rw [e0]
    simp only [bind_ok]
    rw [if_pos (by simpa using hl)]
    show toFl ((dcD _ _ _ _ _ [some (.d (gD rs)), none] st).bind _) _ _ = _
    rw [h]
    rfl
  rw [e, fin_same]
theorem eqD_opt (o : Option Int) (v : Int) : eqD ((o.map D.int).getD .non) (.int v) = some (.bl (decide (o = some v))) := by
  cases o with
  | none => rfl
  | some w => simp [eqD, eqB]
theorem bls_all {α : Type} (p : α → Bool) : ∀ xs : List α, blsOf (xs.map fun a => D.bl (p a)) = some (xs.map p)
  | [] => rfl
  | a :: r => by simp [blsOf, bls_all p r]
theorem all_bls {α : Type} (p : α → Bool) (xs : List α) : allD [.lst (xs.map fun a => D.bl (p a))] = some (.bl (xs.all p)) := by
  unfold allD
  dsimp only
  rw [bls_all]
  simp
theorem within_ok (os : List Row) (ho : Uniq os) (hl : os.length ≤ sizeLine) (hl2 : rs.length ≤ sizeLine) : rn (n + 2) .Guesses_within [.d (gD rs), .d (gD os)] st = .ok (.d (.bl ((srt rs).all fun r => decide (lkp os r.key = some r.v)))) st := by
  show fin st (m_Guesses_within (rn (n + 1)) recX0 [some (.d (gD rs)), some (.d (gD os)), none, none, none, none] st) = _
  have e : m_Guesses_within (rn (n + 1)) recX0 [some (.d (gD rs)), some (.d (gD os)), none, none, none, none] st = .rt (.d (.bl ((srt rs).all fun r => decide (lkp os r.key = some r.v)))) st := by
    have h1 : mAsg 2 (mMeth 7 "as_table" (rn (n + 1) .Guesses_as_table) (mVar 1) mNil) [some (.d (gD rs)), some (.d (gD os)), none, none, none, none] st = .nx [some (.d (gD rs)), some (.d (gD os)), some (.d (.dcn (os.map kvE))), none, none, none] st := by
      have h := as_table_ok n st os ho hl
      have hn := no_as_table
      have hg := names_g os
      unfold gD at h ⊢
      simp [mAsg, mMeth, mVar, mNil, bind_ok, toFl_ok, insOf, hg, hn, h]
    have h2 : lcD (.tp [3, 4, 5]) mYes (mBin eqD (mGet1 (mVar 2) (mTup (mCons (mVar 3) (mCons (mVar 4) mNil)))) (mVar 5)) ((srt rs).map rowD) [some (.d (gD rs)), some (.d (gD os)), some (.d (.dcn (os.map kvE))), none, none, none] st = .ok ((srt rs).map fun r => .bl (decide (lkp os r.key = some r.v))) st := by
      refine lc_map fun r _ => ⟨[some (.d (gD rs)), some (.d (gD os)), some (.d (.dcn (os.map kvE))), some (.d (.str r.nm)), some (.d (nsD r.ns)), some (.d (.int r.v))], rfl, ?_⟩
      simp [mBin, pure2, mGet1, mTup, mCons, mNil, mVar, bind_ok, datas, sizeLine_eq, view, keyD2, valN_rows, eqD_opt, Row.key]
      exact decide_eq_decide.mpr Iff.rfl
    unfold m_Guesses_within
    simp only [mSeq, h1]
    have h3 : mItems (mFld [7] "rows" (mVar 0)) [some (.d (gD rs)), some (.d (gD os)), some (.d (.dcn (os.map kvE))), none, none, none] st = .ok ((srt rs).map rowD) st := by
      simp [mItems, mFld, mVar, bind_ok, gD, lk_rows, itemsD]
    have h4 : mLc (mItems (mFld [7] "rows" (mVar 0))) (.tp [3, 4, 5]) [3, 4, 5] mYes (mBin eqD (mGet1 (mVar 2) (mTup (mCons (mVar 3) (mCons (mVar 4) mNil)))) (mVar 5)) [some (.d (gD rs)), some (.d (gD os)), some (.d (.dcn (os.map kvE))), none, none, none] st = .ok (.d (.lst ((srt rs).map fun r => .bl (decide (lkp os r.key = some r.v))))) st := by
      unfold mLc
      rw [h3]
      simp only [bind_ok]
      rw [if_pos (by simpa [srt_len] using hl2)]
      show ((lcD _ _ _ _ [some (.d (gD rs)), some (.d (gD os)), some (.d (.dcn (os.map kvE))), none, none, none] st).bind _) = _
      rw [h2]
      rfl
    simp only [mRet, mB, mCons, h4, mNil, bind_ok, views, view, all_bls, toFl_ok]
  rw [e, fin_same]
theorem all_srt (p : Row → Bool) : (srt rs).all p = rs.all p := by
  rw [Bool.eq_iff_iff, List.all_eq_true, List.all_eq_true]
  exact ⟨fun h r hr => h r (srt_mem.mpr hr), fun h r hr => h r (srt_mem.mp hr)⟩
end
end K17
set_option Elab.async false
set_option linter.all false
set_option maxRecDepth 100000
set_option maxHeartbeats 4000000
namespace K17
open PySem L2 VL PyProof.Rows
/-! ### what may be an entry -/
abbrev CAPS : Str := "ABCDEFGHIJKLMNOPQRSTUVWXYZ"
abbrev SMALL : Str := "abcdefghijklmnopqrstuvwxyz"
structure NmOk (x : Str) : Prop where
  ex : ∃ c cs, x.cps.toList = c :: cs ∧ c ∈ CAPS.cps.toList ∧ 1 ≤ cs.length ∧ cs.length ≤ 7 ∧ ∀ d ∈ cs, d ∈ SMALL.cps.toList
structure RowOk (r : Row) : Prop where
  nm : NmOk r.nm
  n6 : r.ns.length ≤ 6
  ns : ∀ x ∈ r.ns, 0 ≤ x ∧ x ≤ 99999
  v : 0 ≤ r.v ∧ r.v ≤ 99999
theorem isTrue {p : Prop} [Decidable p] (h : p) : decide p = true := decide_eq_true h
theorem spelt_ok (n : Nat) (st : Store) (x cs : Str) (m : Int) (h1 : 1 ≤ x.length) (h2 : (x.length : Int) ≤ m) (h3 : x.length ≤ 1000) (h : ∀ c ∈ x.cps.toList, c ∈ cs.cps.toList) :
    rn (n + 1) ._spelt [.d (.str x), .d (.str cs), .d (.int m)] st = .ok (.d (.bl true)) st := by
  show fin st (m__spelt (rn n) recX0 [some (.d (.str x)), some (.d (.str cs)), some (.d (.int m)), none] st) = _
  have hz : x.length ≤ sizeLine := by rw [sizeLine_eq]; omega
  have h4 : (VL.signs x).length ≤ sizeLine := by
    have : (VL.signs x).length = x.length := by simp [VL.signs, Str.length]
    omega
  have e1 : lcD (.nm 3) mYes (mBin inD3 (mVar 3) (mVar 1)) (VL.signs x) [some (.d (.str x)), some (.d (.str cs)), some (.d (.int m)), none] st = .ok (x.cps.toList.map fun c => .bl true) st := by
    refine lc_map (enc := fun c => .str ⟨#[c]⟩) fun c hc => ⟨[some (.d (.str x)), some (.d (.str cs)), some (.d (.int m)), some (.d (.str ⟨#[c]⟩))], rfl, ?_⟩
    have hc' := h c hc
    simp only [mBin, mVar, bind_ok, pure2, view, List.getElem?_cons_zero, List.getElem?_cons_succ, inD3, inD2, inD, inB, Option.map_some, decide_eq_true hc']
  have e2 : mLc (mItems (mVar 0)) (.nm 3) [3] mYes (mBin inD3 (mVar 3) (mVar 1)) [some (.d (.str x)), some (.d (.str cs)), some (.d (.int m)), none] st = .ok (.d (.lst (x.cps.toList.map fun c => .bl true))) st := by
    unfold mLc
    have e3 : mItems (mVar 0) [some (.d (.str x)), some (.d (.str cs)), some (.d (.int m)), none] st = .ok (VL.signs x) st := by simp [mItems, mVar, bind_ok, itemsD]
    rw [e3]
    simp only [bind_ok]
    rw [if_pos h4]
    show ((lcD _ _ _ _ [some (.d (.str x)), some (.d (.str cs)), some (.d (.int m)), none] st).bind _) = _
    rw [e1]
    rfl
  have e4 : allD [.lst (x.cps.toList.map fun c => D.bl true)] = some (.bl true) := by
    rw [all_bls (fun _ => true)]
    simp
  have hI : (1 : Int) ≤ (x.length : Int) := by omega
  have e : m__spelt (rn n) recX0 [some (.d (.str x)), some (.d (.str cs)), some (.d (.int m)), none] st = .rt (.d (.bl true)) st := by
    unfold m__spelt mRet mAndV mChain
    simp only [mC, mB, mCons, mNil, mVar, bind_ok, toFl_ok, view, views, List.getElem?_cons_zero, List.getElem?_cons_succ, lenD, if_pos hz, cmpI, isTrue hI, pure2, isTrue h2, e2, e4]
  rw [e, fin_same]
theorem choice_ok (n : Nat) (st : Store) {x : Str} (h : NmOk x) : rn (n + 2) .is_choice [.d (.str x)] st = .ok (.d (.bl true)) st := by
  obtain ⟨c, cs, hx, hc, h1, h2, h3⟩ := h.ex
  have hl : x.length = cs.length + 1 := by
    have : x.length = x.cps.toList.length := by simp [Str.length]
    rw [this, hx]; rfl
  have hz : x.length ≤ sizeLine := by rw [sizeLine_eq]; omega
  have a1 : (cutS x none (some 1)).cps.toList = [c] := by
    unfold cutS
    rw [hx, HT.sIx_none, show (some (1 : Int)) = some ((1 : Nat) : Int) from rfl, HT.sIx_nat]
    have : min 1 x.length = 1 := by omega
    rw [this]
    rfl
  have a2 : (cutS x (some 1) none).cps.toList = cs := by
    unfold cutS
    rw [hx, HT.sIx_none, show (some (1 : Int)) = some ((1 : Nat) : Int) from rfl, HT.sIx_nat]
    have : min 1 x.length = 1 := by omega
    rw [this, hl]
    simp
  have b1 : (cutS x none (some 1)).length = 1 := by
    have : (cutS x none (some 1)).length = (cutS x none (some 1)).cps.toList.length := by simp [Str.length]
    rw [this, a1]; rfl
  have b2 : (cutS x (some 1) none).length = cs.length := by
    have : (cutS x (some 1) none).length = (cutS x (some 1) none).cps.toList.length := by simp [Str.length]
    rw [this, a2]
  have s1 := spelt_ok n st (cutS x none (some 1)) CAPS 1 (by omega) (by omega) (by omega) (by rw [a1]; intro d hd; simp at hd; rw [hd]; exact hc)
  have s2 := spelt_ok n st (cutS x (some 1) none) SMALL 7 (by omega) (by omega) (by omega) (by rw [a2]; exact h3)
  show fin st (m_is_choice (rn (n + 1)) recX0 [some (.d (.str x))] st) = _
  have e : m_is_choice (rn (n + 1)) recX0 [some (.d (.str x))] st = .rt (.d (.bl true)) st := by
    unfold m_is_choice mRet mAndV mCall mSlice mNoPart mPart
    simp only [mC, mCons, mNil, mVar, bind_ok, toFl_ok, view, List.getElem?_cons_zero, sliceD, if_pos hz, s1, s2]
  rw [e, fin_same]
theorem entry_ok (n : Nat) (st : Store) {r : Row} (h : RowOk r) : rn (n + 3) .can_be_entry [.d (.str r.nm), .d (nsD r.ns), .d (.int r.v)] st = .ok (.d (.bl true)) st := by
  have hc := choice_ok n st h.nm
  have h6 : ¬ (6 : Int) < (r.ns.length : Int) := by have := h.n6; omega
  show fin st (m_can_be_entry (rn (n + 2)) recX0 [some (.d (.str r.nm)), some (.d (nsD r.ns)), some (.d (.int r.v)), none] st) = _
  have e1 : lcD (.nm 3) mYes (mBin leD (mVar 3) (mC (.int 99999))) (r.ns.map .int) [some (.d (.str r.nm)), some (.d (nsD r.ns)), some (.d (.int r.v)), none] st = .ok (r.ns.map fun _ => .bl true) st := by
    refine lc_map (enc := .int) fun x hx => ⟨[some (.d (.str r.nm)), some (.d (nsD r.ns)), some (.d (.int r.v)), some (.d (.int x))], rfl, ?_⟩
    simp only [mBin, mVar, mC, bind_ok, pure2, view, List.getElem?_cons_zero, List.getElem?_cons_succ, cmpI, isTrue (h.ns x hx).2]
  have e2 : mLc (mItems (mVar 1)) (.nm 3) [3] mYes (mBin leD (mVar 3) (mC (.int 99999))) [some (.d (.str r.nm)), some (.d (nsD r.ns)), some (.d (.int r.v)), none] st = .ok (.d (.lst (r.ns.map fun _ => .bl true))) st := by
    unfold mLc
    have e3 : mItems (mVar 1) [some (.d (.str r.nm)), some (.d (nsD r.ns)), some (.d (.int r.v)), none] st = .ok (r.ns.map .int) st := by simp [mItems, mVar, bind_ok, itemsD, nsD]
    rw [e3]
    simp only [bind_ok]
    rw [if_pos (by rw [List.length_map, sizeLine_eq]; have := h.n6; omega)]
    show ((lcD _ _ _ _ [some (.d (.str r.nm)), some (.d (nsD r.ns)), some (.d (.int r.v)), none] st).bind _) = _
    rw [e1]
    rfl
  have e4 : allD [.lst (r.ns.map fun _ => D.bl true)] = some (.bl true) := by
    rw [all_bls (fun _ => true)]
    simp
  have e : m_can_be_entry (rn (n + 2)) recX0 [some (.d (.str r.nm)), some (.d (nsD r.ns)), some (.d (.int r.v)), none] st = .rt (.d (.bl true)) st := by
    unfold m_can_be_entry mSeq mIfS mOr mNot mTruth mTest mCall mRet mAndV
    have hl : lenD [nsD r.ns] = some (.int r.ns.length) := by simp [nsD, lenD]
    simp only [mC, mB, mBin, pure2, mCons, mNil, mVar, bind_ok, toFl_ok, view, views, List.getElem?_cons_zero, List.getElem?_cons_succ, hc, truthD, hl, cmpI, decide_eq_false h6, Bool.not_true, Bool.false_eq_true, if_false, mNext, e2, e4, isTrue h.v.2]
  rw [e, fin_same]
end K17
set_option Elab.async false
set_option linter.all false
set_option maxRecDepth 100000
set_option maxHeartbeats 4000000
namespace K17
open PySem L2 VL PyProof.Rows
/-! ### texts of entries -/
theorem intT_len {i : Int} (h0 : 0 ≤ i) (h : i ≤ 99999) : (intT i).length ≤ 10 := PySem.W.KT.len_num h0 (by omega)
theorem log2_small {i : Int} (h0 : 0 ≤ i) (h : i ≤ 99999) : i.natAbs.log2 < 1920 := by
  have h1 : i.natAbs ≤ 99999 := by omega
  have h2 : i.natAbs.log2 ≤ i.natAbs := Nat.log2_le_self _
  by_cases hz : i.natAbs = 0
  · rw [hz]; decide
  · have := (Nat.log2_lt hz (k := 17)).mpr (by omega)
    omega
theorem joinT_len (sep : Str) (xs : List Str) : (Txt.join sep xs).length ≤ (xs.map (·.length)).sum + xs.length * sep.length := by
  show (PySem.Builtin.Str.glued sep xs).length ≤ _
  rw [StrLaws.glued_eq_join]
  exact StrLaws.join_length_le sep xs
theorem sum_le {α : Type} (f : α → Nat) (b : Nat) : ∀ xs : List α, (∀ x ∈ xs, f x ≤ b) → (xs.map f).sum ≤ xs.length * b
  | [], _ => by simp
  | x :: r, h => by
    have h1 := h x (by simp)
    have h2 := sum_le f b r fun y hy => h y (by simp [hy])
    simp only [List.map_cons, List.sum_cons, List.length_cons, Nat.succ_mul]
    omega
theorem nm_len {x : Str} (h : NmOk x) : x.length ≤ 8 := by
  obtain ⟨c, cs, hx, _, _, h2, _⟩ := h.ex
  have : x.length = x.cps.toList.length := by simp [Str.length]
  rw [this, hx]
  simp
  omega
def innerT (ns : List Int) : Str := Txt.join ", " (ns.map intT)
theorem ints_sum {r : Row} (h : RowOk r) : ((r.ns.map intT).map (·.length)).sum ≤ 60 := by
  rw [List.map_map]
  have := sum_le (fun x => (intT x).length) 10 r.ns fun x hx => intT_len (h.ns x hx).1 (h.ns x hx).2
  have h6 := h.n6
  show (r.ns.map fun x => (intT x).length).sum ≤ 60
  have : r.ns.length * 10 ≤ 60 := by omega
  omega
theorem inner_len {r : Row} (h : RowOk r) : (innerT r.ns).length ≤ 72 := by
  have h1 := joinT_len ", " (r.ns.map intT)
  have h2 := ints_sum h
  have h3 : (", " : Str).length = 2 := by decide +kernel
  have h6 := h.n6
  rw [List.length_map, h3] at h1
  unfold innerT
  omega
def keyTx (r : Row) : Str := if r.ns = [] then r.nm else r.nm ++ "(" ++ innerT r.ns ++ ")"
theorem rowTx_eq (r : Row) : rowTx r = keyTx r ++ " = " ++ intT r.v := rfl
theorem keyTx_len {r : Row} (h : RowOk r) : (keyTx r).length ≤ 82 := by
  have h1 := nm_len h.nm
  have h2 := inner_len h
  have a : ("(" : Str).length = 1 := by decide +kernel
  have b : (")" : Str).length = 1 := by decide +kernel
  unfold keyTx
  split
  · omega
  · rw [Str.length_append, Str.length_append, Str.length_append, a, b]; omega
theorem rowTx_len {r : Row} (h : RowOk r) : (rowTx r).length ≤ 95 := by
  have h1 := keyTx_len h
  have h2 := intT_len h.v.1 h.v.2
  have a : (" = " : Str).length = 3 := by decide +kernel
  rw [rowTx_eq, Str.length_append, Str.length_append, a]
  omega
theorem strs_of {α : Type} (f : α → Str) : ∀ xs : List α, strsOf (xs.map fun a => D.str (f a)) = some (xs.map f)
  | [] => rfl
  | a :: r => by simp [strsOf, strs_of f r]
/-- sep.join([f(x) ..]) -/
theorem join_of {α : Type} (f : α → Str) (sep : Str) {xs : List α} (h : (xs.map fun a => (f a).length).sum + xs.length * sep.length ≤ 16777216) : joinD (.str sep) (.lst (xs.map fun a => D.str (f a))) = some (.str (Txt.join sep (xs.map f))) := by
  unfold joinD
  dsimp only
  rw [strs_of]
  dsimp only
  rw [if_pos (by rw [List.map_map, List.length_map]; exact h)]
section
variable (n : Nat) (st : Store) {r : Row} (h : RowOk r)
include h
theorem strs_lc {env : VL.Env} (i : Nat) (env' : Int → VL.Env) (hb : ∀ x, bindT (.nm i) (.int x) env = some (env' x)) (hv : ∀ x, (env' x)[i]? = some (some (.d (.int x)))) : lcD (.nm i) mYes (mB strD (mCons (mVar i) mNil)) (r.ns.map .int) env st = .ok (r.ns.map fun x => .str (intT x)) st := by
  refine lc_map (enc := .int) fun x hx => ⟨env' x, hb x, ?_⟩
  have := log2_small (h.ns x hx).1 (h.ns x hx).2
  simp only [mB, mCons, mNil, mVar, hv, bind_ok, views, view, strD, if_pos this]
  rfl
theorem keyText_ok : rn (n + 1) .key_text [.d (.str r.nm), .d (nsD r.ns)] st = .ok (.d (.str (keyTx r))) st := by
  show fin st (m_key_text (rn n) recX0 [some (.d (.str r.nm)), some (.d (nsD r.ns)), none, none] st) = _
  have hl : lenD [nsD r.ns] = some (.int r.ns.length) := by simp [nsD, lenD]
  have h8 := nm_len h.nm
  have h72 := inner_len h
  have e : m_key_text (rn n) recX0 [some (.d (.str r.nm)), some (.d (nsD r.ns)), none, none] st = .rt (.d (.str (keyTx r))) st := by
    unfold m_key_text
    by_cases hns : r.ns = []
    · have hl0 : lenD [nsD r.ns] = some (.int 0) := by rw [hl, hns]; rfl
      simp only [mSeq, mIfS, mTest, mBin, mB, mC, mCons, mNil, mVar, bind_ok, toFl_ok, views, view, List.getElem?_cons_zero, List.getElem?_cons_succ, hl0, pure2, eqD, eqB, Option.map_some, decide_true, if_true, mRet, keyTx, if_pos hns]
    · have hne : ¬ ((r.ns.length : Int) = 0) := by
        intro z
        have : r.ns.length = 0 := by omega
        exact hns (List.length_eq_zero_iff.mp this)
      have e1 := strs_lc st h (env := [some (.d (.str r.nm)), some (.d (nsD r.ns)), none, none]) 3 (fun x => [some (.d (.str r.nm)), some (.d (nsD r.ns)), none, some (.d (.int x))]) (fun x => rfl) (fun x => rfl)
      have e3 : mItems (mVar 1) [some (.d (.str r.nm)), some (.d (nsD r.ns)), none, none] st = .ok (r.ns.map .int) st := by simp [mItems, mVar, bind_ok, itemsD, nsD]
      have e2 : mLc (mItems (mVar 1)) (.nm 3) [3] mYes (mB strD (mCons (mVar 3) mNil)) [some (.d (.str r.nm)), some (.d (nsD r.ns)), none, none] st = .ok (.d (.lst (r.ns.map fun x => .str (intT x)))) st := by
        unfold mLc
        rw [e3]
        simp only [bind_ok]
        rw [if_pos (by rw [List.length_map, sizeLine_eq]; have := h.n6; omega)]
        show ((lcD _ _ _ _ [some (.d (.str r.nm)), some (.d (nsD r.ns)), none, none] st).bind _) = _
        rw [e1]
        rfl
      have hj : joinD (.str ", ") (.lst (r.ns.map fun x => D.str (intT x))) = some (.str (innerT r.ns)) := by
        refine join_of intT ", " ?_
        have h3 : (", " : Str).length = 2 := by decide +kernel
        have h4 := ints_sum h
        rw [List.map_map] at h4
        have h6 := h.n6
        rw [h3]
        show (r.ns.map fun x => (intT x).length).sum + _ ≤ _
        have h5 : (r.ns.map fun x => (intT x).length).sum ≤ 60 := h4
        omega
      have p : ∀ (a b : Str), (a ++ b).length = a.length + b.length := Str.length_append
      have la : ("(" : Str).length = 1 := by decide +kernel
      have lb : (")" : Str).length = 1 := by decide +kernel
      have f1 : fmtD (.str r.nm) = some r.nm := by unfold fmtD; dsimp only; rw [if_pos (by rw [sizeLine_eq]; omega)]
      have f2 : fmtD (.str (innerT r.ns)) = some (innerT r.ns) := by unfold fmtD; dsimp only; rw [if_pos (by rw [sizeLine_eq]; omega)]
      have z1 : (r.nm).length ≤ sizeLine := by rw [sizeLine_eq]; omega
      have z2 : (r.nm ++ "(").length ≤ sizeLine := by rw [p, la, sizeLine_eq]; omega
      have z3 : (r.nm ++ "(" ++ innerT r.ns).length ≤ sizeLine := by rw [p, p, la, sizeLine_eq]; omega
      have z4 : (r.nm ++ "(" ++ innerT r.ns ++ ")").length ≤ sizeLine := by rw [p, p, p, la, lb, sizeLine_eq]; omega
      simp only [mSeq, mIfS, mTest, mBin, mB, mC, mCons, mNil, mVar, bind_ok, toFl_ok, views, view, List.getElem?_cons_zero, List.getElem?_cons_succ, hl, pure2, eqD, eqB, Option.map_some, decide_eq_false hne, Bool.false_eq_true, if_false, mNext, mAsg, mJoin]
      simp only [e2, bind_ok, view, hj, mVar, toFl_ok, List.set_cons_succ, List.set_cons_zero, mRet, mJoined, mJs, mFmt, mC, List.getElem?_cons_zero, List.getElem?_cons_succ, f1, f2, Str.empty_append, if_pos z1, if_pos z2, if_pos z3, if_pos z4, keyTx, if_neg hns]
  rw [e, fin_same]
theorem entryText_ok : rn (n + 2) .entry_text [.d (.str r.nm), .d (nsD r.ns), .d (.int r.v)] st = .ok (.d (.str (rowTx r))) st := by
  show fin st (m_entry_text (rn (n + 1)) recX0 [some (.d (.str r.nm)), some (.d (nsD r.ns)), some (.d (.int r.v))] st) = _
  have hk := keyText_ok n st h
  have h1 := keyTx_len h
  have h2 := intT_len h.v.1 h.v.2
  have p : ∀ (a b : Str), (a ++ b).length = a.length + b.length := Str.length_append
  have la : (" = " : Str).length = 3 := by decide +kernel
  have f1 : fmtD (.str (keyTx r)) = some (keyTx r) := by unfold fmtD; dsimp only; rw [if_pos (by rw [sizeLine_eq]; omega)]
  have f2 : fmtD (.int r.v) = some (intT r.v) := by unfold fmtD; dsimp only; rw [if_pos (log2_small h.v.1 h.v.2)]; rfl
  have z1 : (keyTx r).length ≤ sizeLine := by rw [sizeLine_eq]; omega
  have z2 : (keyTx r ++ " = ").length ≤ sizeLine := by rw [p, la, sizeLine_eq]; omega
  have z3 : (keyTx r ++ " = " ++ intT r.v).length ≤ sizeLine := by rw [p, p, la, sizeLine_eq]; omega
  have e : m_entry_text (rn (n + 1)) recX0 [some (.d (.str r.nm)), some (.d (nsD r.ns)), some (.d (.int r.v))] st = .rt (.d (.str (rowTx r))) st := by
    unfold m_entry_text
    simp only [mRet, mJoined, mJs, mFmt, mCall, mCons, mNil, mVar, mC, bind_ok, toFl_ok, List.getElem?_cons_zero, List.getElem?_cons_succ, hk, f1, f2, Str.empty_append, if_pos z1, if_pos z2, if_pos z3, rowTx_eq]
  rw [e, fin_same]
end
end K17
set_option Elab.async false
set_option linter.all false
set_option maxRecDepth 100000
set_option maxHeartbeats 4000000
namespace K17
open PySem L2 VL PyProof.Rows
/-! ### two cells at the end of a store -/
section
variable {st : Store} {a b c : Cell}
theorem g0 : (st ++ [a, b])[st.length]? = some a := by simp
theorem g1 : (st ++ [a, b])[st.length + 1]? = some b := by
  rw [List.getElem?_append_right (by omega)]
  simp
theorem s0 : List.set (st ++ [a, b]) st.length c = st ++ [c, b] := by simp [List.set_append]
theorem s1 : List.set (st ++ [a, b]) (st.length + 1) c = st ++ [a, c] := by
  rw [List.set_append_right _ _ (by omega)]
  simp
end
def sfs (rs : List Row) : List (Str × SV) := [("_table", .d (.dcn (rs.map kvE))), ("rows", .d (.tup ((srt rs).map rowD))), ("text", .d (.str (txt (srt rs))))]
theorem dataF_s (rs : List Row) : dataF (sfs rs) = some (gfs rs) := rfl
/-! ### Guesses(rows) -/
theorem mB1 {g : List D → Option D} {m : MV} {env : VL.Env} {st st1 : Store} {s : SV} {x d : D} (h : m env st = .ok s st1) (hv : view st1 s = some x) (hg : g [x] = some d) : mB g (mCons m mNil) env st = .ok (.d d) st1 := by
  simp only [mB, mCons, mNil, h, bind_ok, views, hv, hg]
theorem seq_nx {a b : MS} {env env' : VL.Env} {st st' : Store} (h : a env st = .nx env' st') : mSeq a b env st = b env' st' := by unfold mSeq; rw [h]
theorem seq_rt {a b : MS} {env : VL.Env} {st st' : Store} {s : SV} (h : a env st = .rt s st') : mSeq a b env st = .rt s st' := by unfold mSeq; rw [h]
theorem seq_exn {a b : MS} {env env' : VL.Env} {st st' : Store} {e : Exn} (h : a env st = .exn e env' st') : mSeq a b env st = .exn e env' st' := by unfold mSeq; rw [h]
noncomputable def initB (n : Nat) : MS := (mSeq (mIfS (mOr (mNot (mTruth (mCall (rn n .can_be_entry) (mCons (mVar 4) (mCons (mVar 5) (mCons (mVar 6) mNil)))))) (mTest (mBin inD3 (mTup (mCons (mVar 4) (mCons (mVar 5) mNil))) (mVar 2)))) mStuckS mNext)
    (mSetIxN (mVar 2) (mTup (mCons (mVar 4) (mCons (mVar 5) mNil))) (mVar 6)))
theorem init_loop (n : Nat) (st : Store) (ob : Cell) (l : Nat) (R : Option SV) : ∀ (ys acc : List Row) (k : Int) (e3 e4 e5 e6 : Option SV), (∀ r ∈ ys, RowOk r) → Uniq (acc ++ ys) → (acc ++ ys).length ≤ 5000 →
    ∃ f3 f4 f5 f6, forD (.et 3 [4, 5, 6]) (initB (n + 3)) (enumD k (ys.map rowD)) [some (.own l), R, some (.own (st.length + 1)), e3, e4, e5, e6] (st ++ [ob, .dcn true (acc.map kvE)]) =
      .nx [some (.own l), R, some (.own (st.length + 1)), f3, f4, f5, f6] (st ++ [ob, .dcn true ((acc ++ ys).map kvE)])
  | [], acc, k, e3, e4, e5, e6, _, _, _ => ⟨e3, e4, e5, e6, by simp [enumD, forD]⟩
  | r :: ys, acc, k, e3, e4, e5, e6, hv, hu, hl => by
    have hr := hv r (by simp)
    have hn : lkp acc r.key = none := by
      rw [lkp_none]
      intro z
      have h := hu
      unfold Uniq at h
      rw [List.map_append, List.nodup_append] at h
      exact h.2.2 _ z _ (by simp) rfl
    obtain ⟨f3, f4, f5, f6, ih⟩ := init_loop n st ob l R ys (acc ++ [r]) (k + 1) (some (.d (.int k))) (some (.d (.str r.nm))) (some (.d (nsD r.ns))) (some (.d (.int r.v))) (fun a ha => hv a (by simp [ha])) (by simpa using hu) (by simpa using hl)
    refine ⟨f3, f4, f5, f6, ?_⟩
    have hlen : (acc.map kvE).length < sizeLine := by
      rw [List.length_map, sizeLine_eq]
      rw [List.length_append] at hl
      omega
    have hk : keyD (.tup [.str r.nm, nsD r.ns]) = some (nk r.key) := keyD2 _ _
    have hp : putN (acc.map kvE) (nk r.key) (.tup [.str r.nm, nsD r.ns]) (.int r.v) = (acc ++ [r]).map kvE := putN_new hn
    have hb : initB (n + 3) [some (.own l), R, some (.own (st.length + 1)), some (.d (.int k)), some (.d (.str r.nm)), some (.d (nsD r.ns)), some (.d (.int r.v))] (st ++ [ob, .dcn true (acc.map kvE)]) =
        .nx [some (.own l), R, some (.own (st.length + 1)), some (.d (.int k)), some (.d (.str r.nm)), some (.d (nsD r.ns)), some (.d (.int r.v))] (st ++ [ob, .dcn true ((acc ++ [r]).map kvE)]) := by
      have hc := entry_ok n (st ++ [ob, .dcn true (acc.map kvE)]) hr
      unfold initB
      have z2 : (2 : Nat) ≤ sizeLine := by rw [sizeLine_eq]; decide
      simp only [mSeq, mIfS, mOr, mNot, mTruth, mTest, mBin, mTup, mCall, mCons, mNil, mVar, bind_ok, toFl_ok, List.getElem?_cons_zero, List.getElem?_cons_succ, hc, view, truthD, Bool.not_true, Bool.false_eq_true, if_false, datas, List.length_cons, List.length_nil, Nat.zero_add, Nat.reduceAdd, if_pos z2, pure2, g1, inD3, inD2, hk, Option.map_some, valN_rows, hn, Option.map_none, Option.isSome_none, mNext, mSetIxN, if_pos hlen, s1, hp]
    show loopFl (initB (n + 3) [some (.own l), R, some (.own (st.length + 1)), some (.d (.int k)), some (.d (.str r.nm)), some (.d (nsD r.ns)), some (.d (.int r.v))] (st ++ [ob, .dcn true (acc.map kvE)])) (forD (.et 3 [4, 5, 6]) (initB (n + 3)) (enumD (k + 1) (ys.map rowD))) = _
    rw [hb]
    show forD _ _ _ _ _ = _
    rw [ih]
    simp
theorem put0 (x : SV) : putS "_table" x [] = ([("_table", x)] : List (Str × SV)) := rfl
theorem put1 (a x : SV) : putS "rows" x ([("_table", a)] : List (Str × SV)) = ([("_table", a), ("rows", x)] : List (Str × SV)) := by
  unfold putS
  rw [if_neg (show ¬ (("_table" : Str) = "rows") by decide +kernel)]
  rfl
theorem put2 (a b x : SV) : putS "text" x ([("_table", a), ("rows", b)] : List (Str × SV)) = ([("_table", a), ("rows", b), ("text", x)] : List (Str × SV)) := by
  unfold putS
  rw [if_neg (show ¬ (("_table" : Str) = "text") by decide +kernel)]
  unfold putS
  rw [if_neg (show ¬ (("rows" : Str) = "text") by decide +kernel)]
  rfl
theorem lk_r2 (a b : SV) : ([("_table", a), ("rows", b)] : List (Str × SV)).lookup ("rows" : Str) = some b := by
  simp only [List.lookup, show (("rows" : Str) == ("_table" : Str)) = false from by decide +kernel, show (("rows" : Str) == ("rows" : Str)) = true from by decide +kernel]
theorem trOk_init (st : Store) (fs : List (Str × SV)) (c : Cell) (h : wfF (st ++ [Cell.obj 7 []]).length fs) : TrOk (st ++ [.obj 7 []]) (st ++ [.obj 7 fs, c]) := by
  refine ⟨by simp, fun l hl => ?_⟩
  by_cases hl2 : l < st.length
  · refine .inl ?_
    rw [List.getElem?_append_left hl2, List.getElem?_append_left hl2]
  · have e : l = st.length := by
      rw [List.length_append, List.length_singleton] at hl
      omega
    subst e
    refine .inr fun c' fs' q => ?_
    rw [g0] at q
    cases q
    exact h
theorem init_ok (n : Nat) (st : Store) {rs : List Row} (hv : ∀ r ∈ rs, RowOk r) (hu : Uniq rs) (hl : rs.length ≤ 5000) :
    rn (n + 4) .Guesses___init__ [.own st.length, .d (.lst (rs.map rowD))] (st ++ [.obj 7 []]) = .ok (.d .non) (st ++ [.obj 7 (sfs rs)]) := by
  show fin (st ++ [.obj 7 []]) (m_Guesses___init__ (rn (n + 3)) recX0 [some (.own st.length), some (.d (.lst (rs.map rowD))), none, none, none, none, none] (st ++ [.obj 7 []])) = _
  have hz : rs.length ≤ sizeLine := by rw [sizeLine_eq]; omega
  obtain ⟨f3, f4, f5, f6, hloop⟩ := init_loop n st (.obj 7 []) st.length (some (.d (.lst (rs.map rowD)))) rs [] 1 none none none none hv (by simpa using hu) (by simpa using hl)
  simp only [List.nil_append, List.map_nil] at hloop
  have h5 : ¬ (5000 : Int) < ((rs.map rowD).length : Int) := by rw [List.length_map]; omega
  have hd1 : listD2 [.dcn (rs.map kvE)] = some (.lst (rs.map keyE)) := by
    show some (D.lst ((rs.map kvE).map (·.1))) = _
    rw [List.map_map]
    rfl
  have hs := sortedD_key hz
  -- the rows
  have e1 : ∀ ob : Cell, lcD (.tp [4, 5]) mYes (mTup (mCons (mVar 4) (mCons (mVar 5) (mCons (mBin idxD2 (mVar 2) (mTup (mCons (mVar 4) (mCons (mVar 5) mNil)))) mNil)))) ((srt rs).map keyE) [some (.own st.length), some (.d (.lst (rs.map rowD))), some (.own (st.length + 1)), f3, none, none, f6] (st ++ [ob, .dcn false (rs.map kvE)]) = .ok ((srt rs).map rowD) (st ++ [ob, .dcn false (rs.map kvE)]) := fun ob => by
    refine lc_map fun r hr => ⟨[some (.own st.length), some (.d (.lst (rs.map rowD))), some (.own (st.length + 1)), f3, some (.d (.str r.nm)), some (.d (nsD r.ns)), f6], rfl, ?_⟩
    have hk : keyD (.tup [.str r.nm, nsD r.ns]) = some (nk r.key) := keyD2 _ _
    have hv := lkp_row hu (srt_mem.mp hr)
    have z2 : (2 : Nat) ≤ sizeLine := by rw [sizeLine_eq]; decide
    have z3 : (3 : Nat) ≤ sizeLine := by rw [sizeLine_eq]; decide
    simp only [mTup, mCons, mVar, mNil, mBin, bind_ok, List.getElem?_cons_zero, List.getElem?_cons_succ, datas, List.length_cons, List.length_nil, Nat.zero_add, Nat.reduceAdd, if_pos z2, if_pos z3, pure2, view, g1, idxD2, hk, valN_rows, hv, Option.map_some]
    rfl
  have e2 : ∀ ob : Cell, mLc (mItems (mB sortedD (mCons (mB listD2 (mCons (mVar 2) mNil)) mNil))) (.tp [4, 5]) [4, 5] mYes (mTup (mCons (mVar 4) (mCons (mVar 5) (mCons (mBin idxD2 (mVar 2) (mTup (mCons (mVar 4) (mCons (mVar 5) mNil)))) mNil)))) [some (.own st.length), some (.d (.lst (rs.map rowD))), some (.own (st.length + 1)), f3, f4, f5, f6] (st ++ [ob, .dcn false (rs.map kvE)]) = .ok (.d (.lst ((srt rs).map rowD))) (st ++ [ob, .dcn false (rs.map kvE)]) := fun ob => by
    unfold mLc
    have e3 : mItems (mB sortedD (mCons (mB listD2 (mCons (mVar 2) mNil)) mNil)) [some (.own st.length), some (.d (.lst (rs.map rowD))), some (.own (st.length + 1)), f3, f4, f5, f6] (st ++ [ob, .dcn false (rs.map kvE)]) = .ok ((srt rs).map keyE) (st ++ [ob, .dcn false (rs.map kvE)]) := by
      simp only [mItems, mB, mCons, mNil, mFrz, mVar, bind_ok, List.getElem?_cons_zero, List.getElem?_cons_succ, g1, s1, views, view, hd1, hs, itemsD]
    rw [e3]
    simp only [bind_ok]
    rw [if_pos (by rw [List.length_map, srt_len]; exact hz)]
    show ((lcD _ _ _ _ [some (.own st.length), some (.d (.lst (rs.map rowD))), some (.own (st.length + 1)), f3, none, none, f6] _).bind _) = _
    rw [e1 ob]
    rfl
  -- the text
  have f1 : ∀ ob : Cell, lcD (.tp [4, 5, 6]) mYes (mCall (rn (n + 3) .entry_text) (mCons (mVar 4) (mCons (mVar 5) (mCons (mVar 6) mNil)))) ((srt rs).map rowD) [some (.own st.length), some (.d (.lst (rs.map rowD))), some (.own (st.length + 1)), f3, none, none, none] (st ++ [ob, .dcn false (rs.map kvE)]) = .ok ((srt rs).map fun r => .str (rowTx r)) (st ++ [ob, .dcn false (rs.map kvE)]) := fun ob => by
    refine lc_map fun r hr => ⟨[some (.own st.length), some (.d (.lst (rs.map rowD))), some (.own (st.length + 1)), f3, some (.d (.str r.nm)), some (.d (nsD r.ns)), some (.d (.int r.v))], rfl, ?_⟩
    have ht := entryText_ok (n + 1) (st ++ [ob, .dcn false (rs.map kvE)]) (hv r (srt_mem.mp hr))
    simp only [mCall, mCons, mVar, mNil, bind_ok, List.getElem?_cons_zero, List.getElem?_cons_succ, ht]
  have hj : joinD (.str "\n") (.lst ((srt rs).map fun r => D.str (rowTx r))) = some (.str (txt (srt rs))) := by
    refine join_of rowTx "\n" ?_
    have h1 := sum_le (fun r => (rowTx r).length) 95 (srt rs) fun r hr => rowTx_len (hv r (srt_mem.mp hr))
    have h2 : ("\n" : Str).length = 1 := by decide +kernel
    rw [srt_len] at h1 ⊢
    rw [h2]
    omega
  have f2 : mLc (mItems (mFld [7] "rows" (mVar 0))) (.tp [4, 5, 6]) [4, 5, 6] mYes (mCall (rn (n + 3) .entry_text) (mCons (mVar 4) (mCons (mVar 5) (mCons (mVar 6) mNil)))) [some (.own st.length), some (.d (.lst (rs.map rowD))), some (.own (st.length + 1)), f3, f4, f5, f6] (st ++ [.obj 7 [("_table", .d (.dcn (rs.map kvE))), ("rows", .d (.tup ((srt rs).map rowD)))], .dcn false (rs.map kvE)]) = .ok (.d (.lst ((srt rs).map fun r => .str (rowTx r)))) (st ++ [.obj 7 [("_table", .d (.dcn (rs.map kvE))), ("rows", .d (.tup ((srt rs).map rowD)))], .dcn false (rs.map kvE)]) := by
    unfold mLc
    have e3 : mItems (mFld [7] "rows" (mVar 0)) [some (.own st.length), some (.d (.lst (rs.map rowD))), some (.own (st.length + 1)), f3, f4, f5, f6] (st ++ [.obj 7 [("_table", .d (.dcn (rs.map kvE))), ("rows", .d (.tup ((srt rs).map rowD)))], .dcn false (rs.map kvE)]) = .ok ((srt rs).map rowD) (st ++ [.obj 7 [("_table", .d (.dcn (rs.map kvE))), ("rows", .d (.tup ((srt rs).map rowD)))], .dcn false (rs.map kvE)]) := by
      simp only [mItems, mFld, mVar, bind_ok, List.getElem?_cons_zero, g0, List.mem_singleton, if_true, lk_r2, itemsD]
    rw [e3]
    simp only [bind_ok]
    rw [if_pos (by rw [List.length_map, srt_len]; exact hz)]
    show ((lcD _ _ _ _ [some (.own st.length), some (.d (.lst (rs.map rowD))), some (.own (st.length + 1)), f3, none, none, none] _).bind _) = _
    rw [f1]
    rfl
  have e : m_Guesses___init__ (rn (n + 3)) recX0 [some (.own st.length), some (.d (.lst (rs.map rowD))), none, none, none, none, none] (st ++ [.obj 7 []]) = .nx [some (.own st.length), some (.d (.lst (rs.map rowD))), some (.own (st.length + 1)), f3, f4, f5, f6] (st ++ [.obj 7 (sfs rs), .dcn false (rs.map kvE)]) := by
    unfold m_Guesses___init__
    have i1 : mIfS (mTest (mBin gtD (mB lenD (mCons (mVar 1) mNil)) (mC (.int 5000)))) (mRaise0 1) mNext [some (.own st.length), some (.d (.lst (rs.map rowD))), none, none, none, none, none] (st ++ [.obj 7 []]) = .nx [some (.own st.length), some (.d (.lst (rs.map rowD))), none, none, none, none, none] (st ++ [.obj 7 []]) := by
      simp only [mIfS, mTest, mBin, mB, mCons, mNil, mVar, mC, bind_ok, toFl_ok, List.getElem?_cons_zero, List.getElem?_cons_succ, views, view, lenD, pure2, cmpI, decide_eq_false h5, Bool.false_eq_true, if_false, mNext]
    have i2 : mAsg 2 mDNew [some (.own st.length), some (.d (.lst (rs.map rowD))), none, none, none, none, none] (st ++ [.obj 7 []]) = .nx [some (.own st.length), some (.d (.lst (rs.map rowD))), some (.own (st.length + 1)), none, none, none, none] (st ++ [.obj 7 [], .dcn true []]) := by
      simp [mAsg, mDNew, toFl_ok]
    have i3 : mFor (mEnumK 1 (mVar 1)) (.et 3 [4, 5, 6]) (initB (n + 3)) [some (.own st.length), some (.d (.lst (rs.map rowD))), some (.own (st.length + 1)), none, none, none, none] (st ++ [.obj 7 [], .dcn true []]) = .nx [some (.own st.length), some (.d (.lst (rs.map rowD))), some (.own (st.length + 1)), f3, f4, f5, f6] (st ++ [.obj 7 [], .dcn true (rs.map kvE)]) := by
      simp only [mFor, mEnumK, mVar, bind_ok, toFl_ok, List.getElem?_cons_zero, List.getElem?_cons_succ]
      exact hloop
    have i4 : mSetFld 7 "_table" (mVar 0) (mFrz (mVar 2)) [some (.own st.length), some (.d (.lst (rs.map rowD))), some (.own (st.length + 1)), f3, f4, f5, f6] (st ++ [.obj 7 [], .dcn true (rs.map kvE)]) = .nx [some (.own st.length), some (.d (.lst (rs.map rowD))), some (.own (st.length + 1)), f3, f4, f5, f6] (st ++ [.obj 7 [("_table", .d (.dcn (rs.map kvE)))], .dcn false (rs.map kvE)]) := by
      simp only [mSetFld, mFrz, mVar, bind_ok, toFl_ok, List.getElem?_cons_zero, List.getElem?_cons_succ, g1, s1, g0, s0, put0]
      rw [if_pos ⟨trivial, by decide⟩]
    have i5 : mSetFld 7 "rows" (mVar 0) (mB tupleD (mCons (mLc (mItems (mB sortedD (mCons (mB listD2 (mCons (mVar 2) mNil)) mNil))) (.tp [4, 5]) [4, 5] mYes (mTup (mCons (mVar 4) (mCons (mVar 5) (mCons (mBin idxD2 (mVar 2) (mTup (mCons (mVar 4) (mCons (mVar 5) mNil)))) mNil))))) mNil)) [some (.own st.length), some (.d (.lst (rs.map rowD))), some (.own (st.length + 1)), f3, f4, f5, f6] (st ++ [.obj 7 [("_table", .d (.dcn (rs.map kvE)))], .dcn false (rs.map kvE)]) = .nx [some (.own st.length), some (.d (.lst (rs.map rowD))), some (.own (st.length + 1)), f3, f4, f5, f6] (st ++ [.obj 7 [("_table", .d (.dcn (rs.map kvE))), ("rows", .d (.tup ((srt rs).map rowD)))], .dcn false (rs.map kvE)]) := by
      have e2' := mB1 (g := tupleD) (e2 (.obj 7 [("_table", .d (.dcn (rs.map kvE)))])) rfl rfl
      unfold mSetFld
      rw [e2']
      simp only [toFl_ok, mVar, List.getElem?_cons_zero, g0, s0, put1]
      rw [if_pos ⟨trivial, by show 1 < 1000; decide⟩]
    have i6 : mSetFld 7 "text" (mVar 0) (mJoin (mC (.str "\n")) (mLc (mItems (mFld [7] "rows" (mVar 0))) (.tp [4, 5, 6]) [4, 5, 6] mYes (mCall (rn (n + 3) .entry_text) (mCons (mVar 4) (mCons (mVar 5) (mCons (mVar 6) mNil)))))) [some (.own st.length), some (.d (.lst (rs.map rowD))), some (.own (st.length + 1)), f3, f4, f5, f6] (st ++ [.obj 7 [("_table", .d (.dcn (rs.map kvE))), ("rows", .d (.tup ((srt rs).map rowD)))], .dcn false (rs.map kvE)]) = .nx [some (.own st.length), some (.d (.lst (rs.map rowD))), some (.own (st.length + 1)), f3, f4, f5, f6] (st ++ [.obj 7 (sfs rs), .dcn false (rs.map kvE)]) := by
      unfold mSetFld mJoin
      simp only [mC, bind_ok, f2, view, hj, toFl_ok, mVar, List.getElem?_cons_zero, g0, s0, put2]
      rw [if_pos ⟨trivial, by show 2 < 1000; decide⟩]
      rfl
    refine (seq_nx i1).trans ?_
    refine (seq_nx i2).trans ?_
    refine (seq_nx i3).trans ?_
    refine (seq_nx i4).trans ?_
    refine (seq_nx i5).trans ?_
    exact i6
  rw [e]
  unfold fin
  dsimp only
  rw [if_pos (trOk_init st (sfs rs) _ (by simp [sfs, wfF]))]
  have : (st ++ [Cell.obj 7 (sfs rs), Cell.dcn false (rs.map kvE)]).take (st ++ [Cell.obj 7 []]).length = st ++ [Cell.obj 7 (sfs rs)] := by
    rw [List.length_append, List.length_singleton, List.take_append, List.take_of_length_le (by omega)]
    simp
  rw [this]
/-- Guesses(rows), frozen -/
theorem make_ok (n : Nat) (st : Store) (env : VL.Env) {rs : List Row} (hv : ∀ r ∈ rs, RowOk r) (hu : Uniq rs) (hl : rs.length ≤ 5000) {m : MV} (hm : m env st = .ok (.d (.lst (rs.map rowD))) st) :
    mFrzO (mMake 7 (rn (n + 4) .Guesses___init__) (mCons m mNil)) env st = .ok (.d (gD rs)) (st ++ [.dead]) := by
  have h := init_ok n st hv hu hl
  unfold mFrzO mMake
  simp only [mCons, hm, mNil, bind_ok, h]
  simp [dataF_s, gD]
end K17
set_option Elab.async false
set_option linter.all false
set_option maxRecDepth 100000
set_option maxHeartbeats 4000000
namespace K17
open PySem L2 VL PyProof.Rows
/-! ### Clash, TooLarge -/
def cfs (r : Row) : List (Str × D) := [("numbers", nsD r.ns), ("name", .str r.nm)]
theorem intsText_ok {r : Row} (h : RowOk r) : intsText (r.ns.map .int) = some (r.ns.map intT) := by
  have : ∀ xs : List Int, (∀ x ∈ xs, 0 ≤ x ∧ x ≤ 99999) → intsText (xs.map .int) = some (xs.map intT) := by
    intro xs
    induction xs with
    | nil => intro _; rfl
    | cons a t ih =>
      intro hx
      have h1 := log2_small (hx a (by simp)).1 (hx a (by simp)).2
      simp only [List.map_cons, intsText, if_pos h1, ih fun x hx' => hx x (by simp [hx'])]
      rfl
  exact this _ h.ns
theorem tupText_len {r : Row} (h : RowOk r) : (tupleText (r.ns.map intT)).length ≤ 100 := by
  unfold tupleText
  have h1 := StrLaws.join_length_le ", " (r.ns.map intT)
  have h2 := ints_sum h
  have h3 : (", " : Str).length = 2 := by decide +kernel
  have h6 := h.n6
  have la : ("(" : Str).length = 1 := by decide +kernel
  have lb : (Str.ofString (if (r.ns.map intT).length == 1 then ",)" else ")")).length ≤ 2 := by
    split
    · decide +kernel
    · decide +kernel
  rw [Str.length_append, Str.length_append, la]
  rw [List.length_map, h3] at h1
  omega
theorem clash_ok {r : Row} (h : RowOk r) (st : Store) : recX0 .Clash___init__ [.d (.str r.nm), .d (nsD r.ns)] st = .ok (cfs r) st := by
  have h8 := nm_len h.nm
  have ht := tupText_len h
  have b1 : bdD (.str r.nm) = some r.nm.length := by unfold bdD; dsimp only; rw [if_pos (by rw [sizeLine_eq]; omega)]
  have b2 : bdD (nsD r.ns) = some ((tupleText (r.ns.map intT)).length + 5) := by
    unfold nsD bdD
    dsimp only
    rw [intsText_ok h]
    dsimp only
    rw [if_pos (by rw [sizeLine_eq]; omega)]
  have l1 : ("the guesses for " : Str).length = 16 := by decide +kernel
  have l2 : (" at " : Str).length = 4 := by decide +kernel
  have l3 : (" differ" : Str).length = 7 := by decide +kernel
  show runX 3 4 me_Clash___init__ fl_Clash___init__ [.d (.str r.nm), .d (nsD r.ns)] st = _
  unfold runX
  rw [if_pos (show [SV.d (D.str r.nm), SV.d (nsD r.ns)].length + 1 = 3 from rfl)]
  have e1 : me_Clash___init__ (initEnvX [.d (.str r.nm), .d (nsD r.ns)] 4) st = .ok () st := by
    show mBdJ _ 0 [none, some (.d (.str r.nm)), some (.d (nsD r.ns)), none] st = _
    simp only [mBdJ, mBdC, mBd, mVar, bind_ok, List.getElem?_cons_zero, List.getElem?_cons_succ, b1, b2, l1, l2, l3]
    rw [if_pos (by rw [sizeLine_eq]; omega), if_pos (by rw [sizeLine_eq]; omega), if_pos (by rw [sizeLine_eq]; omega), if_pos (by rw [sizeLine_eq]; omega), if_pos (by rw [sizeLine_eq]; omega)]
  rw [e1]
  show mFlds fl_Clash___init__ [] [none, some (.d (.str r.nm)), some (.d (nsD r.ns)), none] st = _
  unfold fl_Clash___init__
  have e2 : tupleD [nsD r.ns] = some (nsD r.ns) := rfl
  simp only [mFlds, noX, mVar, mB, mCons, mNil, bind_ok, List.getElem?_cons_zero, List.getElem?_cons_succ, views, view, e2, List.length_nil, List.length_cons, Nat.zero_le, if_true]
  rfl
theorem fin_exn {st st' : Store} {e : Exn} {env : VL.Env} (h : TrOk st st') : fin st (.exn e env st') = .exn e (st'.take st.length) := by
  unfold fin
  dsimp only
  rw [if_pos h]
theorem trOk_app (st t : Store) : TrOk st (st ++ t) := ⟨by simp, fun l hl => .inl (List.getElem?_append_left hl)⟩
theorem take_app (st t : Store) : (st ++ t).take st.length = st := by simp
theorem init_big (n : Nat) (st : Store) {rs : List Row} (hl : 5000 < rs.length) : rn (n + 1) .Guesses___init__ [.own st.length, .d (.lst (rs.map rowD))] (st ++ [.obj 7 []]) = .exn ⟨1, []⟩ (st ++ [.obj 7 []]) := by
  show fin (st ++ [.obj 7 []]) (m_Guesses___init__ (rn n) recX0 [some (.own st.length), some (.d (.lst (rs.map rowD))), none, none, none, none, none] (st ++ [.obj 7 []])) = _
  have h5 : (5000 : Int) < ((rs.map rowD).length : Int) := by rw [List.length_map]; omega
  have i1 : mIfS (mTest (mBin gtD (mB lenD (mCons (mVar 1) mNil)) (mC (.int 5000)))) (mRaise0 1) mNext [some (.own st.length), some (.d (.lst (rs.map rowD))), none, none, none, none, none] (st ++ [.obj 7 []]) = .exn ⟨1, []⟩ [some (.own st.length), some (.d (.lst (rs.map rowD))), none, none, none, none, none] (st ++ [.obj 7 []]) := by
    simp only [mIfS, mTest, mBin, mB, mCons, mNil, mVar, mC, bind_ok, toFl_ok, List.getElem?_cons_zero, List.getElem?_cons_succ, views, view, lenD, pure2, cmpI, decide_eq_true h5, if_true, mRaise0]
  have e : m_Guesses___init__ (rn n) recX0 [some (.own st.length), some (.d (.lst (rs.map rowD))), none, none, none, none, none] (st ++ [.obj 7 []]) = .exn ⟨1, []⟩ [some (.own st.length), some (.d (.lst (rs.map rowD))), none, none, none, none, none] (st ++ [.obj 7 []]) := seq_exn i1
  rw [e, fin_exn (trOk_refl _), List.take_length]
theorem make_big (n : Nat) (st : Store) (env : VL.Env) {rs : List Row} (hl : 5000 < rs.length) {m : MV} (hm : m env st = .ok (.d (.lst (rs.map rowD))) st) :
    mFrzO (mMake 7 (rn (n + 1) .Guesses___init__) (mCons m mNil)) env st = .exn ⟨1, []⟩ (st ++ [.obj 7 []]) := by
  have h := init_big n st hl
  unfold mFrzO mMake
  simp only [mCons, hm, mNil, bind_ok, h]
  rfl
/-! ### a | b -/
theorem meth_g {mn : Str} {run : VL.Run} {mo : MV} {ml : ML} {env : VL.Env} {st : Store} {os : List Row} {ss : List SV} (hn : mn ∉ [("_table" : Str), "rows", "text"]) (ho : mo env st = .ok (.d (gD os)) st) (hl : ml env st = .ok ss st) : mMeth 7 mn run mo ml env st = run (.d (gD os) :: ss) st := by
  have hi : insOf st (.d (gD os)) = some (7, [("_table" : Str), "rows", "text"]) := rfl
  unfold mMeth
  rw [ho]
  simp only [bind_ok, hi]
  rw [if_pos ⟨trivial, hn⟩, hl]
  rfl
def clashB (os : List Row) (r : Row) : Bool := match lkp os r.key with
  | some w => decide (w ≠ r.v)
  | none => false
def newB (rs : List Row) (r : Row) : Bool := !(lkp rs r.key).isSome
def orL (rs os : List Row) : List Row := srt rs ++ (srt os).filter (newB rs)
noncomputable def orB (n : Nat) : MS := (mIfS (mAnd (mTruth (mMeth 7 "has" (rn n .Guesses_has) (mVar 1) (mCons (mVar 2) (mCons (mVar 3) mNil)))) (mTest (mBin neD (mMeth 7 "at" (rn n .Guesses_at) (mVar 1) (mCons (mVar 2) (mCons (mVar 3) mNil))) (mVar 4)))) (mRaiseX 6 (recX0 .Clash___init__) (mCons (mVar 2) (mCons (mVar 3) mNil))) mNext)
theorem neD_int (a b : Int) : neD (.int a) (.int b) = some (.bl (!decide (a = b))) := rfl
theorem orB_step (n : Nat) (st : Store) (os : List Row) (g : Option SV) (e5 e6 : Option SV) {r : Row} (h : RowOk r) :
    orB (n + 1) [g, some (.d (gD os)), some (.d (.str r.nm)), some (.d (nsD r.ns)), some (.d (.int r.v)), e5, e6] st =
      if clashB os r = true then .exn ⟨6, cfs r⟩ [g, some (.d (gD os)), some (.d (.str r.nm)), some (.d (nsD r.ns)), some (.d (.int r.v)), e5, e6] st else .nx [g, some (.d (gD os)), some (.d (.str r.nm)), some (.d (nsD r.ns)), some (.d (.int r.v)), e5, e6] st := by
  have h1 := has_ok n st os r.nm r.ns
  have h2 := at_ok n st os r.nm r.ns
  have hc := clash_ok h st
  have m1 : mMeth 7 "has" (rn (n + 1) .Guesses_has) (mVar 1) (mCons (mVar 2) (mCons (mVar 3) mNil)) [g, some (.d (gD os)), some (.d (.str r.nm)), some (.d (nsD r.ns)), some (.d (.int r.v)), e5, e6] st = .ok (.d (.bl (lkp os (r.nm, r.ns)).isSome)) st := (meth_g no_has rfl rfl).trans h1
  have m2 : mMeth 7 "at" (rn (n + 1) .Guesses_at) (mVar 1) (mCons (mVar 2) (mCons (mVar 3) mNil)) [g, some (.d (gD os)), some (.d (.str r.nm)), some (.d (nsD r.ns)), some (.d (.int r.v)), e5, e6] st = .ok (.d (.int ((lkp os (r.nm, r.ns)).getD 0))) st := (meth_g no_at rfl rfl).trans h2
  unfold orB mIfS mAnd mTruth mTest mBin
  rw [m1]
  simp only [bind_ok, view, truthD]
  unfold clashB
  show toFl (if (lkp os r.key).isSome = true then _ else _) _ _ = _
  cases hk : lkp os r.key with
  | none => simp only [Option.isSome_none, Bool.false_eq_true, if_false, toFl_ok, mNext]
  | some w =>
    have hk' : lkp os (r.nm, r.ns) = some w := hk
    simp only [Option.isSome_some, if_true]
    rw [m2]
    simp only [bind_ok, mVar, List.getElem?_cons_zero, List.getElem?_cons_succ, pure2, view, hk', Option.getD_some, neD_int, toFl_ok]
    by_cases hw : w = r.v
    · have e1 : (!decide (w = r.v)) = false := by rw [decide_eq_true hw]; rfl
      have e2 : decide (w ≠ r.v) = false := decide_eq_false fun z => z hw
      simp only [e1, e2, Bool.false_eq_true, if_false, mNext]
    · have e1 : (!decide (w = r.v)) = true := by rw [decide_eq_false hw]; rfl
      have e2 : decide (w ≠ r.v) = true := decide_eq_true hw
      simp only [e1, e2, if_true, mRaiseX, mCons, mNil, mVar, bind_ok, List.getElem?_cons_zero, List.getElem?_cons_succ, hc]
theorem or_loop (n : Nat) (st : Store) (os : List Row) (g : Option SV) (e5 e6 : Option SV) : ∀ (ys : List Row) (a b c : Option SV), (∀ r ∈ ys, RowOk r) →
    ∃ a' b' c', forD (.tp [2, 3, 4]) (orB (n + 1)) (ys.map rowD) [g, some (.d (gD os)), a, b, c, e5, e6] st = match ys.find? (clashB os) with
      | some r => .exn ⟨6, cfs r⟩ [g, some (.d (gD os)), a', b', c', e5, e6] st
      | none => .nx [g, some (.d (gD os)), a', b', c', e5, e6] st
  | [], a, b, c, _ => ⟨a, b, c, rfl⟩
  | r :: ys, a, b, c, h => by
    obtain ⟨a', b', c', ih⟩ := or_loop n st os g e5 e6 ys (some (.d (.str r.nm))) (some (.d (nsD r.ns))) (some (.d (.int r.v))) fun x hx => h x (by simp [hx])
    have hs := orB_step n st os g e5 e6 (h r (by simp))
    have e : forD (.tp [2, 3, 4]) (orB (n + 1)) ((r :: ys).map rowD) [g, some (.d (gD os)), a, b, c, e5, e6] st = loopFl (orB (n + 1) [g, some (.d (gD os)), some (.d (.str r.nm)), some (.d (nsD r.ns)), some (.d (.int r.v)), e5, e6] st) (forD (.tp [2, 3, 4]) (orB (n + 1)) (ys.map rowD)) := rfl
    rw [e, hs]
    cases hc : clashB os r with
    | true => exact ⟨_, _, _, by rw [List.find?_cons_of_pos hc, if_pos rfl]; rfl⟩
    | false => exact ⟨a', b', c', by rw [List.find?_cons_of_neg (by rw [hc]; exact Bool.false_ne_true), if_neg Bool.false_ne_true]; exact ih⟩
end K17
set_option Elab.async false
set_option linter.all false
set_option maxRecDepth 100000
set_option maxHeartbeats 4000000
namespace K17
open PySem L2 VL PyProof.Rows
structure Good (rs : List Row) : Prop where
  ok : ∀ r ∈ rs, RowOk r
  un : Uniq rs
  le : rs.length ≤ 5000
theorem idx0 (r : Row) : idxD2 (rowD r) (.int 0) = some (.str r.nm) := by simp [idxD2, idxD, rowD, atI, ixN]
theorem idx1 (r : Row) : idxD2 (rowD r) (.int 1) = some (nsD r.ns) := by simp [idxD2, idxD, rowD, atI, ixN]
theorem idx2 (r : Row) : idxD2 (rowD r) (.int 2) = some (.int r.v) := by simp [idxD2, idxD, rowD, atI, ixN]
theorem Good.sz {rs : List Row} (h : Good rs) : rs.length ≤ sizeLine := by rw [sizeLine_eq]; have := h.le; omega
theorem fin_app {st t : Store} {x : D} : fin st (.rt (.d x) (st ++ t)) = .ok (.d x) st := by rw [fin_d (trOk_app st t), take_app]
theorem or_more (n : Nat) (st : Store) {rs os : List Row} (ho : Good os) (x y z u v : Option SV) :
    mLc (mItems (mFld [7] "rows" (mVar 1))) (.nm 6) [6] (mNot (mTruth (mMeth 7 "has" (rn (n + 1) .Guesses_has) (mVar 0) (mCons (mBin idxD2 (mVar 6) (mC (.int 0))) (mCons (mBin idxD2 (mVar 6) (mC (.int 1))) mNil))))) (mVar 6) [some (.d (gD rs)), some (.d (gD os)), x, y, z, u, v] st =
      .ok (.d (.lst (((srt os).filter (newB rs)).map rowD))) st := by
  have e1 : lcD (.nm 6) (mNot (mTruth (mMeth 7 "has" (rn (n + 1) .Guesses_has) (mVar 0) (mCons (mBin idxD2 (mVar 6) (mC (.int 0))) (mCons (mBin idxD2 (mVar 6) (mC (.int 1))) mNil))))) (mVar 6) ((srt os).map rowD) [some (.d (gD rs)), some (.d (gD os)), x, y, z, u, none] st = .ok (((srt os).filter (newB rs)).map rowD) st := by
    refine lc_filter fun r hr => ⟨[some (.d (gD rs)), some (.d (gD os)), x, y, z, u, some (.d (rowD r))], rfl, ?_, fun _ => rfl⟩
    have h1 := has_ok n st rs r.nm r.ns
    have m1 : mMeth 7 "has" (rn (n + 1) .Guesses_has) (mVar 0) (mCons (mBin idxD2 (mVar 6) (mC (.int 0))) (mCons (mBin idxD2 (mVar 6) (mC (.int 1))) mNil)) [some (.d (gD rs)), some (.d (gD os)), x, y, z, u, some (.d (rowD r))] st = .ok (.d (.bl (lkp rs (r.nm, r.ns)).isSome)) st := by
      refine (meth_g (ss := [.d (.str r.nm), .d (nsD r.ns)]) no_has rfl ?_).trans h1
      simp only [mCons, mNil, mBin, mVar, mC, bind_ok, List.getElem?_cons_zero, List.getElem?_cons_succ, pure2, view, idx0, idx1]
    unfold mNot mTruth
    rw [m1]
    simp only [bind_ok, view, truthD]
    rfl
  have e2 : mItems (mFld [7] "rows" (mVar 1)) [some (.d (gD rs)), some (.d (gD os)), x, y, z, u, v] st = .ok ((srt os).map rowD) st := by
    simp only [mItems, mFld, mVar, bind_ok, gD, List.getElem?_cons_zero, List.getElem?_cons_succ, List.mem_singleton, if_true, lk_rows, itemsD]
  unfold mLc
  rw [e2]
  simp only [bind_ok]
  rw [if_pos (by rw [List.length_map, srt_len]; exact ho.sz)]
  show ((lcD _ _ _ _ [some (.d (gD rs)), some (.d (gD os)), x, y, z, u, none] st).bind _) = _
  rw [e1]
  rfl
theorem newB_key {rs : List Row} {r : Row} : newB rs r = true ↔ r.key ∉ rs.map Row.key := by
  unfold newB
  rw [Bool.not_eq_true']
  rw [← lkp_none]
  cases lkp rs r.key <;> simp
theorem orL_uniq {rs os : List Row} (h : Uniq rs) (ho : Uniq os) : Uniq (orL rs os) := by
  unfold orL Uniq
  rw [List.map_append, List.nodup_append]
  refine ⟨srt_uniq h, ?_, ?_⟩
  · exact List.Nodup.sublist ((List.filter_sublist).map Row.key) (srt_uniq ho)
  · intro a ha b hb z
    subst z
    obtain ⟨r, hr, rfl⟩ := List.mem_map.mp hb
    have h2 := (List.mem_filter.mp hr).2
    rw [newB_key] at h2
    exact h2 ((((srt_perm rs).map Row.key).mem_iff).mp ha)
theorem orL_ok {rs os : List Row} (h : ∀ r ∈ rs, RowOk r) (ho : ∀ r ∈ os, RowOk r) : ∀ r ∈ orL rs os, RowOk r := fun r hr => by
  rcases List.mem_append.mp hr with z | z
  · exact h r (srt_mem.mp z)
  · exact ho r (srt_mem.mp (List.mem_filter.mp z).1)
theorem orL_good {rs os : List Row} (h : Good rs) (ho : Good os) (hl : (orL rs os).length ≤ 5000) : Good (orL rs os) := ⟨orL_ok h.ok ho.ok, orL_uniq h.un ho.un, hl⟩
theorem orL_len {rs os : List Row} (h : Good rs) (ho : Good os) : (orL rs os).length ≤ 10000 := by
  unfold orL
  rw [List.length_append, srt_len]
  have h1 := List.length_filter_le (newB rs) (srt os)
  rw [srt_len] at h1
  have := h.le
  have := ho.le
  omega
theorem or_run (n : Nat) (st : Store) {rs os : List Row} (h : Good rs) (ho : Good os) :
    rn (n + 5) .Guesses___or__ [.d (gD rs), .d (gD os)] st = match (srt rs).find? (clashB os) with
      | some r => .exn ⟨6, cfs r⟩ st
      | none => if 5000 < (orL rs os).length then .exn ⟨1, []⟩ st else .ok (.d (gD (orL rs os))) st := by
  show fin st (m_Guesses___or__ (rn (n + 4)) recX0 [some (.d (gD rs)), some (.d (gD os)), none, none, none, none, none] st) = _
  obtain ⟨a, b, c, hloop⟩ := or_loop (n + 3) st os (some (.d (gD rs))) none none (srt rs) none none none fun r hr => h.ok r (srt_mem.mp hr)
  have e0 : mItems (mFld [7] "rows" (mVar 0)) [some (.d (gD rs)), some (.d (gD os)), none, none, none, none, none] st = .ok ((srt rs).map rowD) st := by
    simp only [mItems, mFld, mVar, bind_ok, gD, List.getElem?_cons_zero, List.getElem?_cons_succ, List.mem_singleton, if_true, lk_rows, itemsD]
  have i1 : mFor (mItems (mFld [7] "rows" (mVar 0))) (.tp [2, 3, 4]) (orB (n + 4)) [some (.d (gD rs)), some (.d (gD os)), none, none, none, none, none] st = match (srt rs).find? (clashB os) with
      | some r => .exn ⟨6, cfs r⟩ [some (.d (gD rs)), some (.d (gD os)), a, b, c, none, none] st
      | none => .nx [some (.d (gD rs)), some (.d (gD os)), a, b, c, none, none] st := by
    unfold mFor
    rw [e0]
    exact hloop
  cases hf : (srt rs).find? (clashB os) with
  | some r =>
    rw [hf] at i1
    have e : m_Guesses___or__ (rn (n + 4)) recX0 [some (.d (gD rs)), some (.d (gD os)), none, none, none, none, none] st = .exn ⟨6, cfs r⟩ [some (.d (gD rs)), some (.d (gD os)), a, b, c, none, none] st := seq_exn i1
    rw [e, fin_exn (trOk_refl st), List.take_length]
  | none =>
    rw [hf] at i1
    have i2 : mAsg 5 (mLc (mItems (mFld [7] "rows" (mVar 1))) (.nm 6) [6] (mNot (mTruth (mMeth 7 "has" (rn (n + 4) .Guesses_has) (mVar 0) (mCons (mBin idxD2 (mVar 6) (mC (.int 0))) (mCons (mBin idxD2 (mVar 6) (mC (.int 1))) mNil))))) (mVar 6)) [some (.d (gD rs)), some (.d (gD os)), a, b, c, none, none] st = .nx [some (.d (gD rs)), some (.d (gD os)), a, b, c, some (.d (.lst (((srt os).filter (newB rs)).map rowD))), none] st := by
      unfold mAsg
      rw [or_more (n + 3) st ho]
      rfl
    have hz : ((srt rs).map rowD).length + (((srt os).filter (newB rs)).map rowD).length ≤ sizeLine := by
      have := orL_len h ho
      unfold orL at this
      rw [List.length_append] at this
      rw [List.length_map, List.length_map, sizeLine_eq]
      omega
    have hm : mBin addD (mB listD2 (mCons (mFld [7] "rows" (mVar 0)) mNil)) (mVar 5) [some (.d (gD rs)), some (.d (gD os)), a, b, c, some (.d (.lst (((srt os).filter (newB rs)).map rowD))), none] st = .ok (.d (.lst ((orL rs os).map rowD))) st := by
      have h1 : mB listD2 (mCons (mFld [7] "rows" (mVar 0)) mNil) [some (.d (gD rs)), some (.d (gD os)), a, b, c, some (.d (.lst (((srt os).filter (newB rs)).map rowD))), none] st = .ok (.d (.lst ((srt rs).map rowD))) st := by
        refine mB1 (s := .d (.tup ((srt rs).map rowD))) ?_ rfl rfl
        simp only [mFld, mVar, bind_ok, gD, List.getElem?_cons_zero, List.mem_singleton, if_true, lk_rows]
      unfold mBin
      rw [h1]
      simp only [bind_ok, mVar, List.getElem?_cons_zero, List.getElem?_cons_succ, pure2, view, addD, if_pos hz, orL, List.map_append]
    dsimp only
    by_cases hb : 5000 < (orL rs os).length
    · rw [if_pos hb]
      have h3 := make_big (n + 3) st _ hb hm
      have e : m_Guesses___or__ (rn (n + 4)) recX0 [some (.d (gD rs)), some (.d (gD os)), none, none, none, none, none] st = .exn ⟨1, []⟩ [some (.d (gD rs)), some (.d (gD os)), a, b, c, some (.d (.lst (((srt os).filter (newB rs)).map rowD))), none] (st ++ [.obj 7 []]) := by
        refine (seq_nx i1).trans ((seq_nx i2).trans ?_)
        unfold mRet
        rw [h3]
        rfl
      rw [e, fin_exn (trOk_app st _), take_app]
    · rw [if_neg hb]
      have hg := orL_good h ho (by omega)
      have h3 := make_ok n st _ hg.ok hg.un hg.le hm
      have e : m_Guesses___or__ (rn (n + 4)) recX0 [some (.d (gD rs)), some (.d (gD os)), none, none, none, none, none] st = .rt (.d (gD (orL rs os))) (st ++ [.dead]) := by
        refine (seq_nx i1).trans ((seq_nx i2).trans ?_)
        unfold mRet
        rw [h3]
        rfl
      rw [e, fin_app]
end K17
set_option Elab.async false
set_option linter.all false
set_option maxRecDepth 100000
set_option maxHeartbeats 4000000
namespace K17
open PySem L2 VL PyProof.Rows
/-! ### first | second, with its errors told -/
def clashD (k : Key) : D := .tup [.str "refused", .str "Clash", keyOfD k, .bl true, .bl false]
def bigD : D := .tup [.str "refused", .str "TooLarge", .int 0, .bl true, .bl false]
def toldD (rs : List Row) : D := .tup [.str "told", .tup (rs.map rowD)]
def joinR (rs os : List Row) : D := match (srt rs).find? (clashB os) with
  | some r => clashD r.key
  | none => if 5000 < (orL rs os).length then bigD else toldD (srt (orL rs os))
theorem isx1 : isXD isiT 6 (.tup [.cls 1, .cls 4, .cls 5, .cls 2]) = some false := by
  first | rfl | decide +kernel
theorem isx2 : isXD isiT 6 (.cls 0) = some true := by
  first | rfl | decide +kernel
theorem isx3 : isXD isiT 1 (.tup [.cls 6, .cls 4, .cls 5, .cls 2]) = some false := by
  first | rfl | decide +kernel
theorem isx4 : isXD isiT 1 (.cls 0) = some true := by
  first | rfl | decide +kernel
theorem cf_name (r : Row) : (cfs r).lookup ("name" : Str) = some (.str r.nm) := by
  unfold cfs
  simp only [List.lookup, show (("name" : Str) == ("numbers" : Str)) = false from by decide +kernel, show (("name" : Str) == ("name" : Str)) = true from by decide +kernel]
theorem cf_numbers (r : Row) : (cfs r).lookup ("numbers" : Str) = some (nsD r.ns) := by
  unfold cfs
  simp only [List.lookup, show (("numbers" : Str) == ("numbers" : Str)) = true from by decide +kernel]
theorem tst6 : tstOf [(6, true), (1, false)] 6 = some true := rfl
theorem tst1a : tstOf [(6, true), (1, false)] 1 = some false := rfl
theorem tst1b : tstOf [(6, false), (1, true)] 1 = some true := rfl
theorem when6 (m : MS) : mWhen ((6 : Nat) == 6) m = m := by funext env st; unfold mWhen; rw [if_pos (by decide)]
theorem when1 (m : MS) : mWhen ((1 : Nat) == 1) m = m := by funext env st; unfold mWhen; rw [if_pos (by decide)]
theorem opt_some (x : D) (k : D → MS) : mOpt (some x) k = k x := rfl
theorem sz4 : 4 ≤ sizeLine := by rw [sizeLine_eq]; decide
theorem sz5 : 5 ≤ sizeLine := by rw [sizeLine_eq]; decide
theorem sz2 : 2 ≤ sizeLine := by rw [sizeLine_eq]; decide
theorem suite6 (r : Row) (x y z u v w : Option SV) (st : Store) (a : Addr) : ∀ h, hs__law_join[0]? = some h → inSuite h a ⟨6, cfs r⟩ [x, y, z, u, v, w] st = .rt (.d (clashD r.key)) st := by
  intro h hh
  cases hh
  unfold inSuite
  simp only [when6, cf_name, cf_numbers, opt_some]
  simp only [mSeq, mAsg, mRet, mIsX, mExcFld, mTup, mCons, mNil, mVar, mC, bind_ok, toFl_ok, List.set_cons_succ, List.set_cons_zero, List.getElem?_cons_zero, List.getElem?_cons_succ, datas, List.length_cons, List.length_nil, Nat.zero_add, Nat.reduceAdd, if_pos sz4, if_pos sz5, if_pos sz2, excArgs, if_true, isx1, isx2, VL.strip]
  rfl
theorem suite1 (x y z u v w : Option SV) (st : Store) (a : Addr) : ∀ h, hs__law_join[1]? = some h → inSuite h a ⟨1, []⟩ [x, y, z, u, v, w] st = .rt (.d bigD) st := by
  intro h hh
  cases hh
  unfold inSuite
  simp only [when1]
  simp only [mSeq, mAsg, mRet, mIsX, mExcFld, mTup, mCons, mNil, mVar, mC, bind_ok, toFl_ok, List.set_cons_succ, List.set_cons_zero, List.getElem?_cons_zero, List.getElem?_cons_succ, datas, List.length_cons, List.length_nil, Nat.zero_add, Nat.reduceAdd, if_pos sz4, if_pos sz5, if_pos sz2, excArgs, if_true, isx3, isx4, VL.strip]
  rfl
theorem join_run (n : Nat) (st : Store) {rs os : List Row} (h : Good rs) (ho : Good os) : rn (n + 6) ._law_join [.d (gD rs), .d (gD os)] st = .ok (.d (joinR rs os)) st := by
  show fin st (m__law_join (rn (n + 5)) recX0 [some (.d (gD rs)), some (.d (gD os)), none, none, none, none] st) = _
  have hor := or_run n st h ho
  have e : m__law_join (rn (n + 5)) recX0 [some (.d (gD rs)), some (.d (gD os)), none, none, none, none] st = .rt (.d (joinR rs os)) st := by
    have hs : sOps 7 (.d (gD rs)) (.d (gD os)) st = true := rfl
    have hb : mBinO 7 (rn (n + 5) .Guesses___or__) (mVar 0) (mVar 1) [some (.d (gD rs)), some (.d (gD os)), none, none, none, none] st = rn (n + 5) .Guesses___or__ [.d (gD rs), .d (gD os)] st := by
      unfold mBinO
      simp only [mVar, bind_ok, List.getElem?_cons_zero, List.getElem?_cons_succ, hs, if_true]
    unfold joinR
    cases hf : (srt rs).find? (clashB os) with
    | some r =>
      rw [hf] at hor
      have i1 : mTry (mAsg 3 (mFrz (mBinO 7 (rn (n + 5) .Guesses___or__) (mVar 0) (mVar 1)))) hs__law_join [some (.d (gD rs)), some (.d (gD os)), none, none, none, none] st = .rt (.d (clashD r.key)) st := by
        unfold mTry mAsg mFrz
        rw [hb, hor]
        show mHands hs__law_join ⟨6, cfs r⟩ [some (.d (gD rs)), some (.d (gD os)), none, none, none, none] st = _
        unfold mHands
        dsimp only
        rw [tst6]
        dsimp only
        rw [if_pos (fun a => (suite6 r _ _ _ _ _ _ st a _ rfl).trans (suite6 r _ _ _ _ _ _ st 0 _ rfl).symm)]
        exact suite6 r _ _ _ _ _ _ st 0 _ rfl
      exact seq_rt i1
    | none =>
      rw [hf] at hor
      dsimp only at hor ⊢
      by_cases hl : 5000 < (orL rs os).length
      · rw [if_pos hl] at hor ⊢
        have i1 : mTry (mAsg 3 (mFrz (mBinO 7 (rn (n + 5) .Guesses___or__) (mVar 0) (mVar 1)))) hs__law_join [some (.d (gD rs)), some (.d (gD os)), none, none, none, none] st = .rt (.d bigD) st := by
          unfold mTry mAsg mFrz
          rw [hb, hor]
          show mHands hs__law_join ⟨1, []⟩ [some (.d (gD rs)), some (.d (gD os)), none, none, none, none] st = _
          unfold mHands
          dsimp only
          rw [tst1a]
          dsimp only
          unfold mHands
          dsimp only
          rw [tst1b]
          dsimp only
          rw [if_pos (fun a => (suite1 _ _ _ _ _ _ st a _ rfl).trans (suite1 _ _ _ _ _ _ st 0 _ rfl).symm)]
          exact suite1 _ _ _ _ _ _ st 0 _ rfl
        exact seq_rt i1
      · rw [if_neg hl] at hor ⊢
        have i1 : mTry (mAsg 3 (mFrz (mBinO 7 (rn (n + 5) .Guesses___or__) (mVar 0) (mVar 1)))) hs__law_join [some (.d (gD rs)), some (.d (gD os)), none, none, none, none] st = .nx [some (.d (gD rs)), some (.d (gD os)), none, some (.d (gD (orL rs os))), none, none] st := by
          unfold mTry mAsg mFrz
          rw [hb, hor]
          rfl
        refine (seq_nx i1).trans ?_
        simp only [mRet, mTup, mCons, mNil, mFld, mVar, mC, bind_ok, toFl_ok, List.getElem?_cons_zero, List.getElem?_cons_succ, gD, List.mem_singleton, if_true, lk_rows, datas, List.length_cons, List.length_nil, Nat.zero_add, Nat.reduceAdd, if_pos sz2, toldD]
  rw [e, fin_same]
theorem pair_run (n : Nat) (st : Store) {rs os : List Row} (h : Good rs) (ho : Good os) : rn (n + 7) ._law_pair [.d (gD rs), .d (gD os)] st = .ok (.d (.tup [joinR rs os, joinR os rs])) st := by
  show fin st (m__law_pair (rn (n + 6)) recX0 [some (.d (gD rs)), some (.d (gD os))] st) = _
  have h1 := join_run n st h ho
  have h2 := join_run n st ho h
  have e : m__law_pair (rn (n + 6)) recX0 [some (.d (gD rs)), some (.d (gD os))] st = .rt (.d (.tup [joinR rs os, joinR os rs])) st := by
    unfold m__law_pair
    simp only [mRet, mTup, mCall, mCons, mNil, mVar, bind_ok, toFl_ok, List.getElem?_cons_zero, List.getElem?_cons_succ, h1, h2, datas, List.length_cons, List.length_nil, Nat.zero_add, Nat.reduceAdd, if_pos sz2]
  rw [e, fin_same]
end K17
set_option Elab.async false
set_option linter.all false
set_option maxRecDepth 100000
set_option maxHeartbeats 4000000
namespace K17
open PySem L2 VL PyProof.Rows
/-! ### loops -/
theorem for_nx {t : Tgt} {b : MS} {st : Store} (P : VL.Env → Prop) : ∀ {ds : List D}, (∀ d ∈ ds, ∀ env, P env → ∃ env1 env2, bindT t d env = some env1 ∧ b env1 st = .nx env2 st ∧ P env2) → ∀ env, P env → ∃ env', forD t b ds env st = .nx env' st ∧ P env'
  | [], _, env, h => ⟨env, rfl, h⟩
  | d :: r, hs, env, h => by
    obtain ⟨env1, env2, h1, h2, h3⟩ := hs d (by simp) env h
    obtain ⟨env', e, h4⟩ := for_nx P (ds := r) (fun x hx => hs x (by simp [hx])) env2 h3
    exact ⟨env', by simp only [forD, h1, h2, loopFl]; exact e, h4⟩
/-! ### _law_same(x, x) -/
theorem rg1 : -(2 ^ 62 : Int) ≤ 0 := by decide +kernel
theorem rg2 : (100000 : Int) < 2 ^ 62 := by decide +kernel
theorem rg3 {n : Nat} (hn : n ≤ 100000) : -(2 ^ 62) ≤ (n : Int) ∧ (n : Int) < 2 ^ 62 := ⟨Int.le_trans rg1 (Int.natCast_nonneg n), Int.lt_of_le_of_lt (Int.ofNat_le.mpr hn) rg2⟩
theorem range_ok0 {m : MV} {env : VL.Env} {st st1 : Store} {j : Int} (h : m env st = .ok (.d (.int j)) st1) (hr : -(2 ^ 62) ≤ j ∧ j < 2 ^ 62) : mRange1 m env st = .ok (rangeD 0 j.toNat) st1 := by
  unfold mRange1
  rw [h]
  exact if_pos hr
theorem range_ok {m : MV} {env : VL.Env} {st st1 : Store} {n : Nat} (h : m env st = .ok (.d (.int n)) st1) (hn : n ≤ 100000) : mRange1 m env st = .ok (rangeD 0 n) st1 := range_ok0 h (rg3 hn)
theorem for_run {it : MI} {t : Tgt} {b : MS} {env : VL.Env} {st st1 : Store} {ds : List D} (h : it env st = .ok ds st1) : mFor it t b env st = forD t b ds env st1 := by
  unfold mFor
  rw [h]
  rfl
theorem seq_n {a b : MS} {env env' : VL.Env} {st st' : Store} {f : Fl} (h : a env st = .nx env' st') (h2 : b env' st' = f) : mSeq a b env st = f := (seq_nx h).trans h2
def plainN : Nat → D → Prop
  | _, .bl _ => True
  | _, .int _ => True
  | _, .str _ => True
  | k + 1, .tup ds => ds.length ≤ 10000 ∧ ∀ d ∈ ds, plainN k d
  | _, _ => False
theorem isi_bb (b : Bool) : isiD isiT [.bl b, .ty "bool"] = some (.bl true) := rfl
theorem isi_ib (i : Int) : isiD isiT [.int i, .ty "bool"] = some (.bl false) := rfl
theorem isi_ii (i : Int) : isiD isiT [.int i, .ty "int"] = some (.bl true) := rfl
theorem isi_sb (x : Str) : isiD isiT [.str x, .ty "bool"] = some (.bl false) := rfl
theorem isi_si (x : Str) : isiD isiT [.str x, .ty "int"] = some (.bl false) := rfl
theorem isi_ss (x : Str) : isiD isiT [.str x, .ty "str"] = some (.bl true) := rfl
theorem isi_tb (ds : List D) : isiD isiT [.tup ds, .ty "bool"] = some (.bl false) := rfl
theorem isi_ti (ds : List D) : isiD isiT [.tup ds, .ty "int"] = some (.bl false) := rfl
theorem isi_ts (ds : List D) : isiD isiT [.tup ds, .ty "str"] = some (.bl false) := rfl
theorem isi_tt (ds : List D) : isiD isiT [.tup ds, .ty "tuple"] = some (.bl true) := rfl
theorem eqD_i (i : Int) : eqD (.int i) (.int i) = some (.bl true) := by simp [eqD, eqB]
theorem eqD_s (x : Str) : eqD (.str x) (.str x) = some (.bl true) := by simp [eqD, eqB]
theorem eqD_b (b : Bool) : eqD (.bl b) (.bl b) = some (.bl true) := by simp [eqD, eqB]
theorem rangeD_mem {n : Nat} {d : D} (h : d ∈ rangeD 0 n) : ∃ i : Nat, i < n ∧ d = .int i := by
  unfold rangeD at h
  obtain ⟨i, hi, rfl⟩ := List.mem_map.mp h
  exact ⟨i, List.mem_range.mp hi, by simp⟩
theorem idx_tup {ds : List D} {i : Nat} (h : i < ds.length) : idxD2 (.tup ds) (.int i) = some ds[i] := by
  have h2 : (i : Int) < (ds.length : Int) := by omega
  simp [idxD2, idxD, atI, ixN, h]
theorem idx_lst {ds : List D} {i : Nat} (h : i < ds.length) : idxD2 (.lst ds) (.int i) = some ds[i] := by
  have h2 : (i : Int) < (ds.length : Int) := by omega
  simp [idxD2, idxD, atI, ixN, h]
noncomputable def sameB (k : Nat) : MS := mIfS (mNot (mTruth (mCall (rn (k + 1) ._law_same) (mCons (mBin idxD2 (mVar 0) (mVar 2)) (mCons (mBin idxD2 (mVar 1) (mVar 2)) mNil))))) (mRet (mC (.bl false))) mNext
theorem same_b (k : Nat) (st : Store) (b : Bool) : rn (k + 1) ._law_same [.d (.bl b), .d (.bl b)] st = .ok (.d (.bl true)) st := by
    show fin st (m__law_same (rn k) recX0 [some (.d (.bl b)), some (.d (.bl b)), none] st) = _
    have e : m__law_same (rn k) recX0 [some (.d (.bl b)), some (.d (.bl b)), none] st = .rt (.d (.bl true)) st := by
      unfold m__law_same
      simp only [mSeq, mIfS, mTruth, mB, mBin, mCons, mNil, mVar, mC, bind_ok, toFl_ok, List.getElem?_cons_zero, List.getElem?_cons_succ, views, view, isi_bb, truthD, if_true, mRet, mAndV, pure2, eqD_b]
    rw [e, fin_same]
theorem same_i (k : Nat) (st : Store) (i : Int) : rn (k + 1) ._law_same [.d (.int i), .d (.int i)] st = .ok (.d (.bl true)) st := by
    show fin st (m__law_same (rn k) recX0 [some (.d (.int i)), some (.d (.int i)), none] st) = _
    have e : m__law_same (rn k) recX0 [some (.d (.int i)), some (.d (.int i)), none] st = .rt (.d (.bl true)) st := by
      unfold m__law_same
      simp only [mSeq, mIfS, mTruth, mB, mBin, mCons, mNil, mVar, mC, bind_ok, toFl_ok, List.getElem?_cons_zero, List.getElem?_cons_succ, views, view, isi_ib, isi_ii, truthD, if_true, Bool.false_eq_true, if_false, mRet, mNext, mAndV, mNotV, Bool.not_false, pure2, eqD_i]
    rw [e, fin_same]
theorem same_s (k : Nat) (st : Store) (x : Str) : rn (k + 1) ._law_same [.d (.str x), .d (.str x)] st = .ok (.d (.bl true)) st := by
    show fin st (m__law_same (rn k) recX0 [some (.d (.str x)), some (.d (.str x)), none] st) = _
    have e : m__law_same (rn k) recX0 [some (.d (.str x)), some (.d (.str x)), none] st = .rt (.d (.bl true)) st := by
      unfold m__law_same
      simp only [mSeq, mIfS, mTruth, mB, mBin, mCons, mNil, mVar, mC, bind_ok, toFl_ok, List.getElem?_cons_zero, List.getElem?_cons_succ, views, view, isi_sb, isi_si, isi_ss, truthD, if_true, Bool.false_eq_true, if_false, mRet, mNext, mAndV, pure2, eqD_s]
    rw [e, fin_same]
theorem same_t (k : Nat) (st : Store) (ds : List D) (hl : ds.length ≤ 10000) (hh : ∀ d ∈ ds, rn (k + 1) ._law_same [.d d, .d d] st = .ok (.d (.bl true)) st) : rn (k + 2) ._law_same [.d (.tup ds), .d (.tup ds)] st = .ok (.d (.bl true)) st := by
    show fin st (m__law_same (rn (k + 1)) recX0 [some (.d (.tup ds)), some (.d (.tup ds)), none] st) = _
    have hn : neD (.int (ds.length : Int)) (.int (ds.length : Int)) = some (.bl false) := by simp [neD, eqB]
    have hI : isND (.tup ds) .non = some (.bl false) := rfl
    have hl2 : lenD [.tup ds] = some (.int ds.length) := rfl
    have hstep : ∀ d ∈ rangeD 0 ds.length, ∀ env : VL.Env, (∃ x, env = [some (.d (.tup ds)), some (.d (.tup ds)), x]) → ∃ env1 env2, bindT (.nm 2) d env = some env1 ∧ sameB k env1 st = .nx env2 st ∧ ∃ x, env2 = [some (.d (.tup ds)), some (.d (.tup ds)), x] := by
      intro d hd env he
      obtain ⟨x, rfl⟩ := he
      obtain ⟨i, hi, rfl⟩ := rangeD_mem hd
      have ih := hh ds[i] (List.getElem_mem hi)
      have e1 : sameB k [some (.d (.tup ds)), some (.d (.tup ds)), some (.d (.int i))] st = .nx [some (.d (.tup ds)), some (.d (.tup ds)), some (.d (.int i))] st := by
        unfold sameB
        simp only [mIfS, mNot, mTruth, mCall, mCons, mNil, mBin, mVar, bind_ok, toFl_ok, List.getElem?_cons_zero, List.getElem?_cons_succ, pure2, view, idx_tup hi, ih, truthD, Bool.not_true, Bool.false_eq_true, if_false, mNext]
      exact ⟨_, _, rfl, e1, _, rfl⟩
    obtain ⟨env', hloop, _⟩ := for_nx (fun env => ∃ x, env = [some (.d (.tup ds)), some (.d (.tup ds)), x]) hstep [some (.d (.tup ds)), some (.d (.tup ds)), none] ⟨none, rfl⟩
    have i6 : mFor (mRange1 (mB lenD (mCons (mVar 1) mNil))) (.nm 2) (sameB k) [some (.d (.tup ds)), some (.d (.tup ds)), none] st = .nx env' st :=
      (for_run (range_ok (n := ds.length) (mB1 (x := .tup ds) rfl rfl hl2) (by omega))).trans hloop
    have e : m__law_same (rn (k + 1)) recX0 [some (.d (.tup ds)), some (.d (.tup ds)), none] st = .rt (.d (.bl true)) st := by
      have i1 : mIfS (mTruth (mB (isiD isiT) (mCons (mVar 1) (mCons (mC (.ty "bool")) mNil)))) (mRet (mAndV (mB (isiD isiT) (mCons (mVar 0) (mCons (mC (.ty "bool")) mNil))) (mBin eqD (mVar 0) (mVar 1)))) mNext [some (.d (.tup ds)), some (.d (.tup ds)), none] st = .nx [some (.d (.tup ds)), some (.d (.tup ds)), none] st := by
        simp only [mIfS, mTruth, mB, mCons, mNil, mVar, mC, bind_ok, toFl_ok, List.getElem?_cons_zero, List.getElem?_cons_succ, views, view, isi_tb, truthD, Bool.false_eq_true, if_false, mNext]
      have i2 : mIfS (mTruth (mB (isiD isiT) (mCons (mVar 1) (mCons (mC (.ty "int")) mNil)))) (mRet (mAndV (mB (isiD isiT) (mCons (mVar 0) (mCons (mC (.ty "int")) mNil))) (mAndV (mNotV (mB (isiD isiT) (mCons (mVar 0) (mCons (mC (.ty "bool")) mNil)))) (mBin eqD (mVar 0) (mVar 1))))) mNext [some (.d (.tup ds)), some (.d (.tup ds)), none] st = .nx [some (.d (.tup ds)), some (.d (.tup ds)), none] st := by
        simp only [mIfS, mTruth, mB, mCons, mNil, mVar, mC, bind_ok, toFl_ok, List.getElem?_cons_zero, List.getElem?_cons_succ, views, view, isi_ti, truthD, Bool.false_eq_true, if_false, mNext]
      have i3 : mIfS (mTruth (mB (isiD isiT) (mCons (mVar 1) (mCons (mC (.ty "str")) mNil)))) (mRet (mAndV (mB (isiD isiT) (mCons (mVar 0) (mCons (mC (.ty "str")) mNil))) (mBin eqD (mVar 0) (mVar 1)))) mNext [some (.d (.tup ds)), some (.d (.tup ds)), none] st = .nx [some (.d (.tup ds)), some (.d (.tup ds)), none] st := by
        simp only [mIfS, mTruth, mB, mCons, mNil, mVar, mC, bind_ok, toFl_ok, List.getElem?_cons_zero, List.getElem?_cons_succ, views, view, isi_ts, truthD, Bool.false_eq_true, if_false, mNext]
      have i4 : mIfS (mTest (mBin isND (mVar 1) (mC (.non)))) (mRet (mBin isND (mVar 0) (mC (.non)))) mNext [some (.d (.tup ds)), some (.d (.tup ds)), none] st = .nx [some (.d (.tup ds)), some (.d (.tup ds)), none] st := by
        simp only [mIfS, mTest, mBin, mVar, mC, bind_ok, toFl_ok, List.getElem?_cons_zero, List.getElem?_cons_succ, view, hI, pure2, Bool.false_eq_true, if_false, mNext]
      have i5 : mIfS (mOr (mNot (mTruth (mB (isiD isiT) (mCons (mVar 0) (mCons (mC (.ty "tuple")) mNil))))) (mTest (mBin neD (mB lenD (mCons (mVar 0) mNil)) (mB lenD (mCons (mVar 1) mNil))))) (mRet (mC (.bl false))) mNext [some (.d (.tup ds)), some (.d (.tup ds)), none] st = .nx [some (.d (.tup ds)), some (.d (.tup ds)), none] st := by
        simp only [mIfS, mOr, mNot, mTruth, mTest, mBin, mB, mCons, mNil, mVar, mC, bind_ok, toFl_ok, List.getElem?_cons_zero, List.getElem?_cons_succ, views, view, isi_tt, truthD, Bool.not_true, Bool.false_eq_true, if_false, hl2, pure2, hn, mNext]
      exact seq_n i1 (seq_n i2 (seq_n i3 (seq_n i4 (seq_n i5 (seq_n i6 rfl)))))
    rw [e, fin_same]
theorem same_ok (st : Store) : ∀ (k : Nat) (d : D), plainN k d → rn (k + 1) ._law_same [.d d, .d d] st = .ok (.d (.bl true)) st := by
  intro k
  induction k with
  | zero =>
    intro d h
    cases d with
    | bl b => exact same_b 0 st b
    | int i => exact same_i 0 st i
    | str x => exact same_s 0 st x
    | _ => exact h.elim
  | succ k ih =>
    intro d h
    cases d with
    | bl b => exact same_b _ st b
    | int i => exact same_i _ st i
    | str x => exact same_s _ st x
    | tup ds => exact same_t k st ds h.1 fun d hd => ih d (h.2 d hd)
    | _ => exact h.elim
end K17
set_option Elab.async false
set_option linter.all false
set_option maxRecDepth 100000
set_option maxHeartbeats 4000000
namespace K17
open PySem L2 VL PyProof.Rows
/-! ### _law_find -/
theorem eqv_ints : ∀ a b : List Int, PyData.eqvAll (a.map .int) (b.map .int) = decide (a = b)
  | [], [] => by simp [PyData.eqvAll]
  | [], _ :: _ => by simp [PyData.eqvAll]
  | _ :: _, [] => by simp [PyData.eqvAll]
  | x :: a, y :: b => by
    simp only [List.map_cons, PyData.eqvAll, PyData.eqv, eqv_ints a b, List.cons.injEq, Bool.decide_and]
    rfl
theorem lay_ints : ∀ a : List Int, PyData.canLayAll0 (a.map .int) = true
  | [] => by simp [PyData.canLayAll0]
  | x :: a => by simp [PyData.canLayAll0, PyData.canLay0, lay_ints a]
theorem shaped_ns (a : List Int) : SeqAt.shaped (.tuple (a.map .int)) = true := by
  simp [SeqAt.shaped, PyData.canLay0, lay_ints, PyData.depth, PySem.W.depth_ints]
theorem toP_ns (a : List Int) : toP (nsD a) = some (.tuple (a.map .int)) := by simp [nsD, toP, toPs_ints]
theorem eqD_ns (a b : List Int) : eqD (nsD a) (nsD b) = some (.bl (decide (a = b))) := by
  have h1 := toP_ns a
  have h2 := toP_ns b
  unfold nsD at h1 h2 ⊢
  unfold eqD eqB
  dsimp only
  rw [h1, h2]
  dsimp only
  rw [if_pos ⟨shaped_ns a, shaped_ns b⟩]
  simp only [PyData.eqv, eqv_ints, Option.map_some]
theorem eqD_str (a b : Str) : eqD (.str a) (.str b) = some (.bl (decide (a = b))) := rfl
def fnd (rs : List Row) (k : Key) : Int := match rs.findIdx? fun r => decide (r.key = k) with
  | some i => (i : Nat)
  | none => -1
def findB : MS := (mIfS (mAnd (mTest (mBin eqD (mBin idxD2 (mBin idxD2 (mVar 0) (mVar 3)) (mC (.int 0))) (mVar 1))) (mTest (mBin eqD (mBin idxD2 (mBin idxD2 (mVar 0) (mVar 3)) (mC (.int 1))) (mVar 2)))) (mRet (mVar 3)) mNext)
theorem bin_ok {g : D → D → Option D} {ma mb : MV} {env : VL.Env} {st st1 st2 : Store} {s t : SV} {a b d : D} (ha : ma env st = .ok s st1) (hb : mb env st1 = .ok t st2) (hs : view st2 s = some a) (ht : view st2 t = some b) (hg : g a b = some d) : mBin g ma mb env st = .ok (.d d) st2 := by
  unfold mBin
  rw [ha]
  simp only [bind_ok]
  rw [hb]
  simp only [bind_ok]
  exact pure2_ok hs ht hg
theorem find_step (st : Store) (s : SV) {rs : List Row} (hs : view st s = some (.lst (rs.map rowD))) (x : Str) (ns : List Int) {i : Nat} (hi : i < rs.length) :
    findB [some s, some (.d (.str x)), some (.d (nsD ns)), some (.d (.int i))] st = if rs[i].key = (x, ns) then .rt (.d (.int i)) st else .nx [some s, some (.d (.str x)), some (.d (nsD ns)), some (.d (.int i))] st := by
  have hx : idxD2 (.lst (rs.map rowD)) (.int i) = some (rowD rs[i]) := by
    rw [idx_lst (by simpa using hi)]
    simp
  have c0 : mBin idxD2 (mVar 0) (mVar 3) [some s, some (.d (.str x)), some (.d (nsD ns)), some (.d (.int i))] st = .ok (.d (rowD rs[i])) st := bin_ok rfl rfl hs rfl hx
  have c1 : mBin eqD (mBin idxD2 (mBin idxD2 (mVar 0) (mVar 3)) (mC (.int 0))) (mVar 1) [some s, some (.d (.str x)), some (.d (nsD ns)), some (.d (.int i))] st = .ok (.d (.bl (decide (rs[i].nm = x)))) st := bin_ok (bin_ok c0 rfl rfl rfl (idx0 _)) rfl rfl rfl rfl
  have c2 : mBin eqD (mBin idxD2 (mBin idxD2 (mVar 0) (mVar 3)) (mC (.int 1))) (mVar 2) [some s, some (.d (.str x)), some (.d (nsD ns)), some (.d (.int i))] st = .ok (.d (.bl (decide (rs[i].ns = ns)))) st := bin_ok (bin_ok c0 rfl rfl rfl (idx1 _)) rfl rfl rfl (eqD_ns _ _)
  unfold findB mIfS mAnd mTest
  rw [c1]
  simp only [bind_ok]
  by_cases h1 : rs[i].nm = x
  · rw [decide_eq_true h1]
    simp only [if_true]
    rw [c2]
    simp only [bind_ok, toFl_ok]
    by_cases h2 : rs[i].ns = ns
    · have hk : rs[i].key = (x, ns) := by rw [Row.key, h1, h2]
      rw [decide_eq_true h2, if_pos rfl, if_pos hk]
      rfl
    · have hk : ¬ rs[i].key = (x, ns) := fun z => h2 (Prod.mk.inj z).2
      rw [decide_eq_false h2, if_neg Bool.false_ne_true, if_neg hk]
      rfl
  · have hk : ¬ rs[i].key = (x, ns) := fun z => h1 (Prod.mk.inj z).1
    rw [decide_eq_false h1, if_neg hk]
    rfl
theorem find_loop (st : Store) (s : SV) {rs : List Row} (hs : view st s = some (.lst (rs.map rowD))) (x : Str) (ns : List Int) : ∀ (m i : Nat) (e : Option SV), i + m = rs.length →
    ∃ e', forD (.nm 3) findB ((List.range' i m).map fun j => D.int (0 + (j : Nat))) [some s, some (.d (.str x)), some (.d (nsD ns)), e] st = match (rs.drop i).findIdx? fun r => decide (r.key = (x, ns)) with
      | some j => .rt (.d (.int ((i + j : Nat)))) st
      | none => .nx [some s, some (.d (.str x)), some (.d (nsD ns)), e'] st
  | 0, i, e, h => ⟨e, by
      have : rs.drop i = [] := List.drop_eq_nil_of_le (by omega)
      rw [this]
      rfl⟩
  | m + 1, i, e, h => by
    have hi : i < rs.length := by omega
    obtain ⟨e', ih⟩ := find_loop st s hs x ns m (i + 1) (some (.d (.int i))) (by omega)
    have hst := find_step st s hs x ns hi
    have hd : rs.drop i = rs[i] :: rs.drop (i + 1) := List.drop_eq_getElem_cons hi
    have e1 : forD (.nm 3) findB ((List.range' i (m + 1)).map fun j => D.int (0 + (j : Nat))) [some s, some (.d (.str x)), some (.d (nsD ns)), e] st = loopFl (findB [some s, some (.d (.str x)), some (.d (nsD ns)), some (.d (.int (0 + (i : Int))))] st) (forD (.nm 3) findB ((List.range' (i + 1) m).map fun j => D.int (0 + (j : Nat)))) := rfl
    rw [e1, show (0 : Int) + (i : Int) = (i : Int) by omega, hst, hd]
    by_cases hk : rs[i].key = (x, ns)
    · refine ⟨none, ?_⟩
      rw [if_pos hk, List.findIdx?_cons, if_pos (decide_eq_true hk)]
      rfl
    · refine ⟨e', ?_⟩
      rw [if_neg hk, List.findIdx?_cons, if_neg (by simpa using hk)]
      show forD _ _ _ _ _ = _
      rw [ih]
      cases (rs.drop (i + 1)).findIdx? fun r => decide (r.key = (x, ns)) with
      | none => rfl
      | some j =>
        simp only [Option.map_some]
        congr 3
        omega
theorem find_ok (n : Nat) (st : Store) (s : SV) {rs : List Row} (hl : rs.length ≤ 100000) (hs : view st s = some (.lst (rs.map rowD))) (x : Str) (ns : List Int) : rn (n + 1) ._law_find [s, .d (.str x), .d (nsD ns)] st = .ok (.d (.int (fnd rs (x, ns)))) st := by
  show fin st (m__law_find (rn n) recX0 [some s, some (.d (.str x)), some (.d (nsD ns)), none] st) = _
  obtain ⟨e', hloop⟩ := find_loop st s hs x ns rs.length 0 none (by omega)
  have hr : rangeD 0 rs.length = (List.range' 0 rs.length).map fun j => D.int (0 + (j : Nat)) := by unfold rangeD; rw [List.range_eq_range']
  have hlen : lenD [.lst (rs.map rowD)] = some (.int rs.length) := by simp [lenD]
  have i1 : mFor (mRange1 (mB lenD (mCons (mVar 0) mNil))) (.nm 3) findB [some s, some (.d (.str x)), some (.d (nsD ns)), none] st = match rs.findIdx? fun r => decide (r.key = (x, ns)) with
      | some j => .rt (.d (.int (j : Nat))) st
      | none => .nx [some s, some (.d (.str x)), some (.d (nsD ns)), e'] st := by
    rw [for_run (range_ok (n := rs.length) (mB1 rfl hs hlen) hl), hr, hloop]
    simp only [List.drop_zero, Nat.zero_add]
  have e : m__law_find (rn n) recX0 [some s, some (.d (.str x)), some (.d (nsD ns)), none] st = .rt (.d (.int (fnd rs (x, ns)))) st := by
    unfold fnd
    cases hf : rs.findIdx? fun r => decide (r.key = (x, ns)) with
    | none =>
      rw [hf] at i1
      exact seq_n i1 rfl
    | some j =>
      rw [hf] at i1
      exact seq_rt i1
  rw [e, fin_same]
theorem fnd_neg {rs : List Row} {k : Key} : fnd rs k < 0 ↔ lkp rs k = none := by
  unfold fnd
  rw [lkp_none]
  cases hf : rs.findIdx? fun r => decide (r.key = k) with
  | none =>
    rw [List.findIdx?_eq_none_iff] at hf
    refine ⟨fun _ z => ?_, fun _ => by decide⟩
    obtain ⟨r, hr, e⟩ := List.mem_map.mp z
    have := hf r hr
    rw [decide_eq_false_iff_not] at this
    exact this e
  | some j =>
    rw [List.findIdx?_eq_some_iff_getElem] at hf
    obtain ⟨h1, h2, _⟩ := hf
    refine ⟨fun h => absurd (show ((j : Nat) : Int) < 0 from h) (by omega), fun h => ?_⟩
    exact absurd (List.mem_map.mpr ⟨rs[j], List.getElem_mem h1, of_decide_eq_true h2⟩) h
/-- the place that is found holds the number -/
theorem fnd_at {rs : List Row} {k : Key} (h : ¬ fnd rs k < 0) : ∃ (j : Nat) (hj : j < rs.length), fnd rs k = (j : Int) ∧ rs[j].key = k ∧ lkp rs k = some rs[j].v := by
  unfold fnd at h ⊢
  cases hf : rs.findIdx? fun r => decide (r.key = k) with
  | none => rw [hf] at h; exact absurd (by decide) h
  | some j =>
    rw [List.findIdx?_eq_some_iff_getElem] at hf
    obtain ⟨h1, h2, h3⟩ := hf
    refine ⟨j, h1, rfl, of_decide_eq_true h2, ?_⟩
    unfold lkp
    have : rs.find? (fun r => decide (r.key = k)) = some rs[j] := by
      rw [List.find?_eq_some_iff_getElem]
      exact ⟨h2, j, h1, rfl, fun i hi => by simpa using h3 i hi⟩
    rw [this]
    rfl
end K17
set_option Elab.async false
set_option linter.all false
set_option maxRecDepth 100000
set_option maxHeartbeats 4000000
namespace K17
open PySem L2 VL PyProof.Rows
/-! ### steps by rule -/
theorem asg_ok {i : Nat} {m : MV} {env : VL.Env} {st st1 : Store} {s : SV} (h : m env st = .ok s st1) : mAsg i m env st = .nx (env.set i (some s)) st1 := by unfold mAsg; rw [h]; rfl
theorem ret_ok {m : MV} {env : VL.Env} {st st1 : Store} {s : SV} (h : m env st = .ok s st1) : mRet m env st = .rt s st1 := by unfold mRet; rw [h]; rfl
theorem drop_ok {m : MV} {env : VL.Env} {st st1 : Store} {s : SV} (h : m env st = .ok s st1) : mDrop m env st = .nx env st1 := by unfold mDrop; rw [h]; rfl
theorem test_ok {m : MV} {env : VL.Env} {st st1 : Store} {b : Bool} (h : m env st = .ok (.d (.bl b)) st1) : mTest m env st = .ok b st1 := by unfold mTest; rw [h]; rfl
theorem truth_ok {m : MV} {env : VL.Env} {st st1 : Store} {s : SV} {d : D} {b : Bool} (h : m env st = .ok s st1) (hv : view st1 s = some d) (ht : truthD d = some b) : mTruth m env st = .ok b st1 := by
  unfold mTruth
  rw [h]
  simp only [bind_ok]
  rw [hv]
  dsimp only
  rw [ht]
theorem not_ok {m : MB} {env : VL.Env} {st st1 : Store} {b : Bool} (h : m env st = .ok b st1) : mNot m env st = .ok (!b) st1 := by unfold mNot; rw [h]; rfl
theorem if_yes {c : MB} {a b : MS} {env : VL.Env} {st st1 : Store} (h : c env st = .ok true st1) : mIfS c a b env st = a env st1 := by unfold mIfS; rw [h]; rfl
theorem if_no {c : MB} {a b : MS} {env : VL.Env} {st st1 : Store} (h : c env st = .ok false st1) : mIfS c a b env st = b env st1 := by unfold mIfS; rw [h]; rfl
theorem and_no {a b : MB} {env : VL.Env} {st st1 : Store} (h : a env st = .ok false st1) : mAnd a b env st = .ok false st1 := by unfold mAnd; rw [h]; rfl
theorem and_yes {a b : MB} {env : VL.Env} {st st1 : Store} (h : a env st = .ok true st1) : mAnd a b env st = b env st1 := by unfold mAnd; rw [h]; rfl
theorem call1 {run : VL.Run} {a : MV} {env : VL.Env} {st st1 : Store} {s : SV} (h : a env st = .ok s st1) : mCall run (mCons a mNil) env st = run [s] st1 := by
  simp only [mCall, mCons, mNil, h, bind_ok]
theorem call2 {run : VL.Run} {a b : MV} {env : VL.Env} {st st1 st2 : Store} {s t : SV} (h : a env st = .ok s st1) (h2 : b env st1 = .ok t st2) : mCall run (mCons a (mCons b mNil)) env st = run [s, t] st2 := by
  simp only [mCall, mCons, mNil, h, h2, bind_ok]
theorem call3 {run : VL.Run} {a b c : MV} {env : VL.Env} {st st1 st2 st3 : Store} {s t u : SV} (h : a env st = .ok s st1) (h2 : b env st1 = .ok t st2) (h3 : c env st2 = .ok u st3) : mCall run (mCons a (mCons b (mCons c mNil))) env st = run [s, t, u] st3 := by
  simp only [mCall, mCons, mNil, h, h2, h3, bind_ok]
theorem call4 {run : VL.Run} {a b c e : MV} {env : VL.Env} {st st1 st2 st3 st4 : Store} {s t u v : SV} (h : a env st = .ok s st1) (h2 : b env st1 = .ok t st2) (h3 : c env st2 = .ok u st3) (h4 : e env st3 = .ok v st4) : mCall run (mCons a (mCons b (mCons c (mCons e mNil)))) env st = run [s, t, u, v] st4 := by
  simp only [mCall, mCons, mNil, h, h2, h3, h4, bind_ok]
theorem tup2 {a b : MV} {env : VL.Env} {st st1 st2 : Store} {s t : D} (h : a env st = .ok (.d s) st1) (h2 : b env st1 = .ok (.d t) st2) : mTup (mCons a (mCons b mNil)) env st = .ok (.d (.tup [s, t])) st2 := by
  simp only [mTup, mCons, mNil, h, h2, bind_ok, datas, List.length_cons, List.length_nil, Nat.zero_add, Nat.reduceAdd, if_pos sz2]
theorem sz3 : 3 ≤ sizeLine := by rw [sizeLine_eq]; decide
theorem tup3 {a b c : MV} {env : VL.Env} {st st1 st2 st3 : Store} {s t u : D} (h : a env st = .ok (.d s) st1) (h2 : b env st1 = .ok (.d t) st2) (h3 : c env st2 = .ok (.d u) st3) : mTup (mCons a (mCons b (mCons c mNil))) env st = .ok (.d (.tup [s, t, u])) st3 := by
  simp only [mTup, mCons, mNil, h, h2, h3, bind_ok, datas, List.length_cons, List.length_nil, Nat.zero_add, Nat.reduceAdd, if_pos sz3]
section
variable {st : Store} {a b c : Cell}
theorem h0 : (st ++ [a])[st.length]? = some a := by simp
theorem hs0 : List.set (st ++ [a]) st.length c = st ++ [c] := by simp [List.set_append]
end
/-! ### _law_row_text -/
theorem addS {x y : Str} (h : x.length + y.length ≤ 100000) : addD (.str x) (.str y) = some (.str (x ++ y)) := by
  unfold addD
  dsimp only
  rw [if_pos (by rw [sizeLine_eq]; omega)]
theorem rowText_ok (n : Nat) (st : Store) {r : Row} (h : RowOk r) : rn (n + 1) ._law_row_text [.d (rowD r)] st = .ok (.d (.str (rowTx r))) st := by
  show fin st (m__law_row_text (rn n) recX0 [some (.d (rowD r)), none, none] st) = _
  have h8 := nm_len h.nm
  have h72 := inner_len h
  have hk82 := keyTx_len h
  have h10 := intT_len h.v.1 h.v.2
  have p : ∀ (a b : Str), (a ++ b).length = a.length + b.length := Str.length_append
  have la : ("(" : Str).length = 1 := by decide +kernel
  have lb : (")" : Str).length = 1 := by decide +kernel
  have lc : (" = " : Str).length = 3 := by decide +kernel
  have hl : lenD [nsD r.ns] = some (.int r.ns.length) := by simp [nsD, lenD]
  have i1 : mAsg 1 (mBin idxD2 (mVar 0) (mC (.int 0))) [some (.d (rowD r)), none, none] st = .nx [some (.d (rowD r)), some (.d (.str r.nm)), none] st := asg_ok (bin_ok rfl rfl rfl rfl (idx0 r))
  have c1 : mBin gtD (mB lenD (mCons (mBin idxD2 (mVar 0) (mC (.int 1))) mNil)) (mC (.int 0)) [some (.d (rowD r)), some (.d (.str r.nm)), none] st = .ok (.d (.bl (decide ((0 : Int) < r.ns.length)))) st :=
    bin_ok (mB1 (bin_ok rfl rfl rfl rfl (idx1 r)) rfl hl) rfl rfl rfl rfl
  have i2 : mIfS (mTest (mBin gtD (mB lenD (mCons (mBin idxD2 (mVar 0) (mC (.int 1))) mNil)) (mC (.int 0)))) (mAsg 1 (mBin addD (mBin addD (mBin addD (mVar 1) (mC (.str "("))) (mJoin (mC (.str ", ")) (mLc (mItems (mBin idxD2 (mVar 0) (mC (.int 1)))) (.nm 2) [2] mYes (mB strD (mCons (mVar 2) mNil))))) (mC (.str ")")))) mNext [some (.d (rowD r)), some (.d (.str r.nm)), none] st = .nx [some (.d (rowD r)), some (.d (.str (keyTx r))), none] st := by
    by_cases hns : r.ns = []
    · have : decide ((0 : Int) < r.ns.length) = false := by rw [hns]; rfl
      rw [this] at c1
      rw [if_no (test_ok c1)]
      unfold keyTx
      rw [if_pos hns]
      rfl
    · have : decide ((0 : Int) < r.ns.length) = true := decide_eq_true (by have := List.length_pos_iff.mpr hns; omega)
      rw [this] at c1
      rw [if_yes (test_ok c1)]
      have e1 := strs_lc st h (env := [some (.d (rowD r)), some (.d (.str r.nm)), none]) 2 (fun x => [some (.d (rowD r)), some (.d (.str r.nm)), some (.d (.int x))]) (fun x => rfl) (fun x => rfl)
      have e3 : mItems (mBin idxD2 (mVar 0) (mC (.int 1))) [some (.d (rowD r)), some (.d (.str r.nm)), none] st = .ok (r.ns.map .int) st := by
        have q : mBin idxD2 (mVar 0) (mC (.int 1)) [some (.d (rowD r)), some (.d (.str r.nm)), none] st = .ok (.d (nsD r.ns)) st := bin_ok rfl rfl rfl rfl (idx1 r)
        unfold mItems
        rw [q]
        rfl
      have e2 : mLc (mItems (mBin idxD2 (mVar 0) (mC (.int 1)))) (.nm 2) [2] mYes (mB strD (mCons (mVar 2) mNil)) [some (.d (rowD r)), some (.d (.str r.nm)), none] st = .ok (.d (.lst (r.ns.map fun x => .str (intT x)))) st := by
        unfold mLc
        rw [e3]
        simp only [bind_ok]
        rw [if_pos (by rw [List.length_map, sizeLine_eq]; have := h.n6; omega)]
        show ((lcD _ _ _ _ [some (.d (rowD r)), some (.d (.str r.nm)), none] st).bind _) = _
        rw [e1]
        rfl
      have hj : joinD (.str ", ") (.lst (r.ns.map fun x => D.str (intT x))) = some (.str (innerT r.ns)) := by
        refine join_of intT ", " ?_
        have h3 : (", " : Str).length = 2 := by decide +kernel
        have h4 := ints_sum h
        rw [List.map_map] at h4
        have h6 := h.n6
        rw [h3]
        have h5 : (r.ns.map fun x => (intT x).length).sum ≤ 60 := h4
        omega
      have e4 : mJoin (mC (.str ", ")) (mLc (mItems (mBin idxD2 (mVar 0) (mC (.int 1)))) (.nm 2) [2] mYes (mB strD (mCons (mVar 2) mNil))) [some (.d (rowD r)), some (.d (.str r.nm)), none] st = .ok (.d (.str (innerT r.ns))) st := by
        unfold mJoin
        simp only [mC, bind_ok] at e2 ⊢
        rw [e2]
        simp only [bind_ok, view]
        rw [hj]
      rw [asg_ok (bin_ok (bin_ok (bin_ok rfl rfl rfl rfl (addS (by rw [la]; omega))) e4 rfl rfl (addS (by rw [p, la]; omega))) rfl rfl rfl (addS (by rw [p, p, la, lb]; omega)))]
      unfold keyTx
      rw [if_neg hns]
      rfl
  have c3 : mB strD (mCons (mBin idxD2 (mVar 0) (mC (.int 2))) mNil) [some (.d (rowD r)), some (.d (.str (keyTx r))), none] st = .ok (.d (.str (intT r.v))) st := by
    refine mB1 (bin_ok rfl rfl rfl rfl (idx2 r)) rfl ?_
    unfold strD
    dsimp only
    rw [if_pos (log2_small h.v.1 h.v.2)]
    rfl
  have i3 : mRet (mBin addD (mBin addD (mVar 1) (mC (.str " = "))) (mB strD (mCons (mBin idxD2 (mVar 0) (mC (.int 2))) mNil))) [some (.d (rowD r)), some (.d (.str (keyTx r))), none] st = .rt (.d (.str (rowTx r))) st :=
    ret_ok (bin_ok (bin_ok rfl rfl rfl rfl (addS (by rw [lc]; omega))) c3 rfl rfl (addS (by rw [p, lc]; omega)))
  have e : m__law_row_text (rn n) recX0 [some (.d (rowD r)), none, none] st = .rt (.d (.str (rowTx r))) st := seq_n i1 (seq_n i2 i3)
  rw [e, fin_same]
/-! ### _law_part -/
instance : DecidableEq Row := fun a b => decidable_of_iff (a.nm = b.nm ∧ a.ns = b.ns ∧ a.v = b.v) (by cases a; cases b; simp)
theorem eqv_row (a b : Row) : PyData.eqv (pRow a) (pRow b) = decide (a = b) := by
  obtain ⟨x, xs, v⟩ := a
  obtain ⟨y, ys, w⟩ := b
  rw [Bool.eq_iff_iff]
  simp only [pRow, PyData.eqv, PyData.eqvAll, eqv_ints, Bool.and_true, Bool.and_eq_true, decide_eq_true_eq, beq_iff_eq, Row.mk.injEq]
theorem strOk_nm {x : Str} (h : NmOk x) : PyData.strOk x = true := by
  obtain ⟨c, cs, hx, hc, _, _, h3⟩ := h.ex
  have hC : ∀ d ∈ CAPS.cps.toList, d < 0x110000 := by decide +kernel
  have hS : ∀ d ∈ SMALL.cps.toList, d < 0x110000 := by decide +kernel
  unfold PyData.strOk
  rw [← Array.all_toList, hx, List.all_eq_true]
  intro d hd
  rcases List.mem_cons.mp hd with rfl | hd
  · exact decide_eq_true (hC _ hc)
  · exact decide_eq_true (hS _ (h3 d hd))
theorem lay_row {r : Row} (h : RowOk r) : (pRow r).canLay0 = true := by
  simp [pRow, PyData.canLay0, PyData.canLayAll0, lay_ints, strOk_nm h.nm]
theorem depth_row1 (r : Row) : (pRow r).depth ≤ 2 := by simp [pRow, PyData.depth, PyData.depthAll, PySem.W.depth_ints]
theorem shaped_row {r : Row} (h : RowOk r) : SeqAt.shaped (pRow r) = true := by
  unfold SeqAt.shaped
  rw [lay_row h]
  have := depth_row1 r
  simp
  omega
theorem lay_rows : ∀ {rs : List Row}, (∀ r ∈ rs, RowOk r) → PyData.canLayAll0 (rs.map pRow) = true
  | [], _ => by simp [PyData.canLayAll0]
  | r :: rs, h => by
    simp only [List.map_cons, PyData.canLayAll0, lay_row (h r (by simp)), lay_rows fun x hx => h x (List.mem_cons_of_mem _ hx), Bool.and_self]
theorem depth_rows : ∀ rs : List Row, PyData.depthAll (rs.map pRow) ≤ 2
  | [] => by simp [PyData.depthAll]
  | r :: rs => by
    have h1 := depth_row1 r
    have h2 := depth_rows rs
    simp only [List.map_cons, PyData.depthAll]
    omega
theorem shaped_rows {rs : List Row} (h : ∀ r ∈ rs, RowOk r) : SeqAt.shaped (.list (rs.map pRow)) = true := by
  unfold SeqAt.shaped
  simp only [PyData.canLay0, lay_rows h, PyData.depth]
  have := depth_rows rs
  simp
  omega
theorem toPs_rows : ∀ rs : List Row, toPs (rs.map rowD) = some (rs.map pRow)
  | [] => by simp [toPs]
  | r :: rs => by simp only [List.map_cons, toPs, toP_row, toPs_rows rs]
theorem in_row {r : Row} {os : List Row} (h : RowOk r) (ho : ∀ x ∈ os, RowOk x) : inD3 (rowD r) (.lst (os.map rowD)) = some (.bl (decide (r ∈ os))) := by
  have h1 : inD2 (rowD r) (.lst (os.map rowD)) = none := by
    unfold inD2 inD rowD inB
    simp [itemsV, flatD]
  have h2 : toP (.lst (os.map rowD)) = some (.list (os.map pRow)) := by simp [toP, toPs_rows]
  unfold inD3
  rw [h1]
  dsimp only
  rw [toP_row, h2]
  dsimp only
  rw [if_pos ⟨shaped_row h, shaped_rows ho⟩]
  congr 2
  rw [Bool.eq_iff_iff, List.any_eq_true]
  simp only [List.mem_map, decide_eq_true_eq]
  constructor
  · rintro ⟨_, ⟨x, hx, rfl⟩, e⟩
    rw [eqv_row] at e
    have := of_decide_eq_true e
    subst this
    exact hx
  · intro hm
    exact ⟨_, ⟨r, hm, rfl⟩, by rw [eqv_row]; exact decide_eq_true rfl⟩
theorem part_ok (n : Nat) (st : Store) {rs os : List Row} (h : Good rs) (ho : Good os) : rn (n + 1) ._law_part [.d (.lst (rs.map rowD)), .d (.lst (os.map rowD))] st = .ok (.d (.bl (rs.all fun r => decide (r ∈ os)))) st := by
  show fin st (m__law_part (rn n) recX0 [some (.d (.lst (rs.map rowD))), some (.d (.lst (os.map rowD))), none] st) = _
  have e1 : lcD (.nm 2) mYes (mBin inD3 (mVar 2) (mVar 1)) (rs.map rowD) [some (.d (.lst (rs.map rowD))), some (.d (.lst (os.map rowD))), none] st = .ok (rs.map fun r => .bl (decide (r ∈ os))) st :=
    lc_map fun r hr => ⟨[some (.d (.lst (rs.map rowD))), some (.d (.lst (os.map rowD))), some (.d (rowD r))], rfl, bin_ok rfl rfl rfl rfl (in_row (h.ok r hr) ho.ok)⟩
  have e2 : mLc (mItems (mVar 0)) (.nm 2) [2] mYes (mBin inD3 (mVar 2) (mVar 1)) [some (.d (.lst (rs.map rowD))), some (.d (.lst (os.map rowD))), none] st = .ok (.d (.lst (rs.map fun r => .bl (decide (r ∈ os))))) st := by
    have e3 : mItems (mVar 0) [some (.d (.lst (rs.map rowD))), some (.d (.lst (os.map rowD))), none] st = .ok (rs.map rowD) st := rfl
    unfold mLc
    rw [e3]
    simp only [bind_ok]
    rw [if_pos (by rw [List.length_map]; exact h.sz)]
    show ((lcD _ _ _ _ [some (.d (.lst (rs.map rowD))), some (.d (.lst (os.map rowD))), none] st).bind _) = _
    rw [e1]
    rfl
  have e : m__law_part (rn n) recX0 [some (.d (.lst (rs.map rowD))), some (.d (.lst (os.map rowD))), none] st = .rt (.d (.bl (rs.all fun r => decide (r ∈ os)))) st := ret_ok (mB1 e2 rfl (all_bls _ _))
  rw [e, fin_same]
end K17
set_option Elab.async false
set_option linter.all false
set_option maxRecDepth 100000
set_option maxHeartbeats 4000000
namespace K17
open PySem L2 VL PyProof.Rows
/-! ### _law_all_rows -/
theorem tup5 {a b c e f : MV} {env : VL.Env} {st : Store} {s t u v w : D} (h : a env st = .ok (.d s) st) (h2 : b env st = .ok (.d t) st) (h3 : c env st = .ok (.d u) st) (h4 : e env st = .ok (.d v) st) (h5 : f env st = .ok (.d w) st) : mTup (mCons a (mCons b (mCons c (mCons e (mCons f mNil))))) env st = .ok (.d (.tup [s, t, u, v, w])) st := by
  simp only [mTup, mCons, mNil, h, h2, h3, h4, h5, bind_ok, datas, List.length_cons, List.length_nil, Nat.zero_add, Nat.reduceAdd, if_pos sz5]
theorem view_own {st : Store} {l : Nat} {m : Bool} {ds : List D} (h : st[l]? = some (.lst m ds)) : view st (.own l) = some (.lst ds) := by unfold view; dsimp only; rw [h]
theorem append_ok {mo me : MV} {env : VL.Env} {st st' : Store} {l : Nat} {ds : List D} {x : D} (ho : mo env st = .ok (.own l) st) (hl : st[l]? = some (.lst true ds)) (he : me env st = .ok (.d x) st) (hz : ds.length < sizeLine) (hs : List.set st l (.lst true (ds ++ [x])) = st') : mDrop (mAppend mo me) env st = .nx env st' := by
  unfold mDrop mAppend
  rw [ho]
  simp only [bind_ok]
  rw [hl]
  dsimp only
  rw [he]
  simp only [bind_ok]
  rw [hl]
  dsimp only
  rw [if_pos hz, hs]
  rfl
theorem ltD_int (a b : Int) : ltD (.int a) (.int b) = some (.bl (decide (a < b))) := rfl
noncomputable def allB (n : Nat) : MS := (mIfS (mTest (mBin ltD (mCall (rn n ._law_find) (mCons (mVar 0) (mCons (mBin idxD2 (mVar 3) (mC (.int 0))) (mCons (mBin idxD2 (mVar 3) (mC (.int 1))) mNil)))) (mC (.int 0)))) (mDrop (mAppend (mVar 2) (mVar 3))) mNext)
theorem newB_eq (rs : List Row) (r : Row) : newB rs r = decide (fnd rs r.key < 0) := by
  rw [Bool.eq_iff_iff, decide_eq_true_eq, fnd_neg, newB_key, lkp_none]
theorem all_loop (n : Nat) (st : Store) {rs : List Row} (hr : rs.length ≤ 100000) (o : Option SV) : ∀ (ys acc : List Row) (e : Option SV), (acc.length + ys.length ≤ 100000) →
    ∃ e', forD (.nm 3) (allB (n + 1)) (ys.map rowD) [some (.d (.lst (rs.map rowD))), o, some (.own st.length), e] (st ++ [.lst true (acc.map rowD)]) = .nx [some (.d (.lst (rs.map rowD))), o, some (.own st.length), e'] (st ++ [.lst true ((acc ++ ys.filter (newB rs)).map rowD)])
  | [], acc, e, _ => ⟨e, by simp [forD]⟩
  | r :: ys, acc, e, h => by
    have hf := find_ok n (st ++ [.lst true (acc.map rowD)]) (.d (.lst (rs.map rowD))) hr rfl r.nm r.ns
    have c1 : mTest (mBin ltD (mCall (rn (n + 1) ._law_find) (mCons (mVar 0) (mCons (mBin idxD2 (mVar 3) (mC (.int 0))) (mCons (mBin idxD2 (mVar 3) (mC (.int 1))) mNil)))) (mC (.int 0))) [some (.d (.lst (rs.map rowD))), o, some (.own st.length), some (.d (rowD r))] (st ++ [.lst true (acc.map rowD)]) = .ok (newB rs r) (st ++ [.lst true (acc.map rowD)]) := by
      rw [newB_eq]
      exact test_ok (bin_ok ((call3 rfl (bin_ok rfl rfl rfl rfl (idx0 r)) (bin_ok rfl rfl rfl rfl (idx1 r))).trans hf) rfl rfl rfl (ltD_int _ _))
    have e0 : forD (.nm 3) (allB (n + 1)) ((r :: ys).map rowD) [some (.d (.lst (rs.map rowD))), o, some (.own st.length), e] (st ++ [.lst true (acc.map rowD)]) = loopFl (allB (n + 1) [some (.d (.lst (rs.map rowD))), o, some (.own st.length), some (.d (rowD r))] (st ++ [.lst true (acc.map rowD)])) (forD (.nm 3) (allB (n + 1)) (ys.map rowD)) := rfl
    rw [e0]
    rw [List.length_cons] at h
    cases hb : newB rs r with
    | true =>
      rw [hb] at c1
      obtain ⟨e', ih⟩ := all_loop n st hr o ys (acc ++ [r]) (some (.d (rowD r))) (by rw [List.length_append, List.length_singleton]; omega)
      refine ⟨e', ?_⟩
      have b1 : allB (n + 1) [some (.d (.lst (rs.map rowD))), o, some (.own st.length), some (.d (rowD r))] (st ++ [.lst true (acc.map rowD)]) = .nx [some (.d (.lst (rs.map rowD))), o, some (.own st.length), some (.d (rowD r))] (st ++ [.lst true ((acc ++ [r]).map rowD)]) := by
        unfold allB
        rw [if_yes c1]
        exact append_ok rfl h0 rfl (by rw [List.length_map, sizeLine_eq]; omega) (by rw [hs0]; simp)
      rw [b1]
      show forD _ _ _ _ _ = _
      rw [ih, List.filter_cons, if_pos hb]
      simp
    | false =>
      rw [hb] at c1
      obtain ⟨e', ih⟩ := all_loop n st hr o ys acc (some (.d (rowD r))) (by omega)
      refine ⟨e', ?_⟩
      have b1 : allB (n + 1) [some (.d (.lst (rs.map rowD))), o, some (.own st.length), some (.d (rowD r))] (st ++ [.lst true (acc.map rowD)]) = .nx [some (.d (.lst (rs.map rowD))), o, some (.own st.length), some (.d (rowD r))] (st ++ [.lst true (acc.map rowD)]) := by
        unfold allB
        rw [if_no c1]
        rfl
      rw [b1]
      show forD _ _ _ _ _ = _
      rw [ih, List.filter_cons, if_neg (by rw [hb]; exact Bool.false_ne_true)]
def allL (rs os : List Row) : List Row := rs ++ os.filter (newB rs)
theorem allL_uniq {rs os : List Row} (h : Uniq rs) (ho : Uniq os) : Uniq (allL rs os) := by
  unfold allL Uniq
  rw [List.map_append, List.nodup_append]
  refine ⟨h, List.Nodup.sublist ((List.filter_sublist).map Row.key) ho, ?_⟩
  intro a ha b hb z
  subst z
  obtain ⟨r, hr, rfl⟩ := List.mem_map.mp hb
  have h2 := (List.mem_filter.mp hr).2
  rw [newB_key] at h2
  exact h2 ha
theorem allL_perm (rs os : List Row) : (allL rs os).Perm (orL rs os) := by
  unfold allL orL
  exact ((srt_perm rs).symm).append (((srt_perm os).filter (newB rs)).symm)
theorem allL_len {rs os : List Row} (h : Good rs) (ho : Good os) : (allL rs os).length ≤ 10000 := by
  rw [(allL_perm rs os).length_eq]
  exact orL_len h ho
theorem allRows_ok (n : Nat) (st : Store) {rs os : List Row} (h : Good rs) (ho : Good os) : rn (n + 2) ._law_all_rows [.d (.lst (rs.map rowD)), .d (.lst (os.map rowD))] st = .ok (.d (.lst ((srt (orL rs os)).map rowD))) st := by
  show fin st (m__law_all_rows (rn (n + 1)) recX0 [some (.d (.lst (rs.map rowD))), some (.d (.lst (os.map rowD))), none, none] st) = _
  have hl := h.le
  have hol := ho.le
  obtain ⟨e', hloop⟩ := all_loop n st (rs := rs) (by omega) (some (.d (.lst (os.map rowD)))) os rs none (by omega)
  have i1 : mAsg 2 (mListM (mVar 0)) [some (.d (.lst (rs.map rowD))), some (.d (.lst (os.map rowD))), none, none] st = .nx [some (.d (.lst (rs.map rowD))), some (.d (.lst (os.map rowD))), some (.own st.length), none] (st ++ [.lst true (rs.map rowD)]) := rfl
  have i2 : mFor (mItems (mVar 1)) (.nm 3) (allB (n + 1)) [some (.d (.lst (rs.map rowD))), some (.d (.lst (os.map rowD))), some (.own st.length), none] (st ++ [.lst true (rs.map rowD)]) = .nx [some (.d (.lst (rs.map rowD))), some (.d (.lst (os.map rowD))), some (.own st.length), e'] (st ++ [.lst true ((allL rs os).map rowD)]) := (for_run rfl).trans hloop
  have hq := sortedD_row (rs := allL rs os) (allL_uniq h.un ho.un) (by have := allL_len h ho; rw [sizeLine_eq]; omega)
  have i3 : mRet (mB sortedD (mCons (mVar 2) mNil)) [some (.d (.lst (rs.map rowD))), some (.d (.lst (os.map rowD))), some (.own st.length), e'] (st ++ [.lst true ((allL rs os).map rowD)]) = .rt (.d (.lst ((srt (allL rs os)).map rowD))) (st ++ [.lst true ((allL rs os).map rowD)]) :=
    ret_ok (mB1 (x := .lst ((allL rs os).map rowD)) rfl (view_own h0) hq)
  have e : m__law_all_rows (rn (n + 1)) recX0 [some (.d (.lst (rs.map rowD))), some (.d (.lst (os.map rowD))), none, none] st = .rt (.d (.lst ((srt (allL rs os)).map rowD))) (st ++ [.lst true ((allL rs os).map rowD)]) := seq_n i1 (seq_n i2 i3)
  rw [e, fin_app, srt_eq (allL_uniq h.un ho.un) (allL_perm rs os)]
/-! ### _law_due_join -/
def dueR (rs os : List Row) : D := match (srt rs).find? (clashB os) with
  | some r => clashD r.key
  | none => toldD (srt (orL rs os))
noncomputable def dueB (n : Nat) : MS := (mSeq (mAsg 3 (mCall (rn n ._law_find) (mCons (mVar 1) (mCons (mBin idxD2 (mVar 2) (mC (.int 0))) (mCons (mBin idxD2 (mVar 2) (mC (.int 1))) mNil)))))
    (mIfS (mAnd (mTest (mBin geD (mVar 3) (mC (.int 0)))) (mTest (mBin neD (mBin idxD2 (mBin idxD2 (mVar 1) (mVar 3)) (mC (.int 2))) (mBin idxD2 (mVar 2) (mC (.int 2)))))) (mRet (mTup (mCons (mC (.str "refused")) (mCons (mC (.str "Clash")) (mCons (mTup (mCons (mBin idxD2 (mVar 2) (mC (.int 0))) (mCons (mBin idxD2 (mVar 2) (mC (.int 1))) mNil))) (mCons (mC (.bl true)) (mCons (mC (.bl false)) mNil))))))) mNext))
theorem due_step (n : Nat) (st : Store) {os : List Row} (hol : os.length ≤ 100000) (x e : Option SV) (r : Row) :
    dueB (n + 1) [x, some (.d (.lst (os.map rowD))), some (.d (rowD r)), e] st = if clashB os r = true then .rt (.d (clashD r.key)) st else .nx [x, some (.d (.lst (os.map rowD))), some (.d (rowD r)), some (.d (.int (fnd os r.key)))] st := by
  have hf := find_ok n st (.d (.lst (os.map rowD))) hol rfl r.nm r.ns
  have i1 : mAsg 3 (mCall (rn (n + 1) ._law_find) (mCons (mVar 1) (mCons (mBin idxD2 (mVar 2) (mC (.int 0))) (mCons (mBin idxD2 (mVar 2) (mC (.int 1))) mNil)))) [x, some (.d (.lst (os.map rowD))), some (.d (rowD r)), e] st = .nx [x, some (.d (.lst (os.map rowD))), some (.d (rowD r)), some (.d (.int (fnd os r.key)))] st :=
    asg_ok ((call3 rfl (bin_ok rfl rfl rfl rfl (idx0 r)) (bin_ok rfl rfl rfl rfl (idx1 r))).trans hf)
  have c1 : mTest (mBin geD (mVar 3) (mC (.int 0))) [x, some (.d (.lst (os.map rowD))), some (.d (rowD r)), some (.d (.int (fnd os r.key)))] st = .ok (decide (0 ≤ fnd os r.key)) st := test_ok (bin_ok rfl rfl rfl rfl rfl)
  refine (seq_nx i1).trans ?_
  by_cases hn : fnd os r.key < 0
  · have hc : clashB os r = false := by
      unfold clashB
      rw [fnd_neg.mp hn]
    have hd : decide (0 ≤ fnd os r.key) = false := decide_eq_false (by omega)
    rw [hd] at c1
    rw [if_no (and_no c1), hc, if_neg Bool.false_ne_true]
    rfl
  · obtain ⟨j, hj, hfe, hk, hv⟩ := fnd_at hn
    have hd : decide (0 ≤ fnd os r.key) = true := decide_eq_true (by omega)
    rw [hd] at c1
    have hx : idxD2 (.lst (os.map rowD)) (.int (fnd os r.key)) = some (rowD os[j]) := by
      rw [hfe, idx_lst (by simpa using hj)]
      simp
    have c2 : mTest (mBin neD (mBin idxD2 (mBin idxD2 (mVar 1) (mVar 3)) (mC (.int 2))) (mBin idxD2 (mVar 2) (mC (.int 2)))) [x, some (.d (.lst (os.map rowD))), some (.d (rowD r)), some (.d (.int (fnd os r.key)))] st = .ok (!decide (os[j].v = r.v)) st :=
      test_ok (bin_ok (bin_ok (bin_ok rfl rfl rfl rfl hx) rfl rfl rfl (idx2 _)) (bin_ok rfl rfl rfl rfl (idx2 _)) rfl rfl (neD_int _ _))
    have hc : clashB os r = !decide (os[j].v = r.v) := by
      unfold clashB
      rw [hv]
      simp
    rw [hc]
    by_cases he : os[j].v = r.v
    · have : (!decide (os[j].v = r.v)) = false := by rw [decide_eq_true he]; rfl
      rw [this] at c2 ⊢
      rw [if_no ((and_yes c1).trans c2), if_neg Bool.false_ne_true]
      rfl
    · have : (!decide (os[j].v = r.v)) = true := by rw [decide_eq_false he]; rfl
      rw [this] at c2 ⊢
      rw [if_yes ((and_yes c1).trans c2), if_pos rfl]
      refine ret_ok ?_
      have t2 : mTup (mCons (mBin idxD2 (mVar 2) (mC (.int 0))) (mCons (mBin idxD2 (mVar 2) (mC (.int 1))) mNil)) [x, some (.d (.lst (os.map rowD))), some (.d (rowD r)), some (.d (.int (fnd os r.key)))] st = .ok (.d (keyOfD r.key)) st := tup2 (bin_ok rfl rfl rfl rfl (idx0 r)) (bin_ok rfl rfl rfl rfl (idx1 r))
      exact tup5 rfl rfl t2 rfl rfl
theorem due_loop (n : Nat) (st : Store) {os : List Row} (hol : os.length ≤ 100000) (x : Option SV) : ∀ (ys : List Row) (e2 e3 : Option SV), ∃ f2 f3, forD (.nm 2) (dueB (n + 1)) (ys.map rowD) [x, some (.d (.lst (os.map rowD))), e2, e3] st = match ys.find? (clashB os) with
    | some r => .rt (.d (clashD r.key)) st
    | none => .nx [x, some (.d (.lst (os.map rowD))), f2, f3] st
  | [], e2, e3 => ⟨e2, e3, rfl⟩
  | r :: ys, e2, e3 => by
    obtain ⟨f2, f3, ih⟩ := due_loop n st hol x ys (some (.d (rowD r))) (some (.d (.int (fnd os r.key))))
    have hs := due_step n st hol x e3 r
    have e : forD (.nm 2) (dueB (n + 1)) ((r :: ys).map rowD) [x, some (.d (.lst (os.map rowD))), e2, e3] st = loopFl (dueB (n + 1) [x, some (.d (.lst (os.map rowD))), some (.d (rowD r)), e3] st) (forD (.nm 2) (dueB (n + 1)) (ys.map rowD)) := rfl
    rw [e, hs]
    cases hc : clashB os r with
    | true => exact ⟨none, none, by rw [List.find?_cons_of_pos hc, if_pos rfl]; rfl⟩
    | false => exact ⟨f2, f3, by rw [List.find?_cons_of_neg (by rw [hc]; exact Bool.false_ne_true), if_neg Bool.false_ne_true]; exact ih⟩
theorem due_ok (n : Nat) (st : Store) {rs os : List Row} (h : Good rs) (ho : Good os) : rn (n + 3) ._law_due_join [.d (.lst (rs.map rowD)), .d (.lst (os.map rowD))] st = .ok (.d (dueR rs os)) st := by
  show fin st (m__law_due_join (rn (n + 2)) recX0 [some (.d (.lst (rs.map rowD))), some (.d (.lst (os.map rowD))), none, none] st) = _
  obtain ⟨f2, f3, hloop⟩ := due_loop (n + 1) st (os := os) (by have := ho.le; omega) (some (.d (.lst (rs.map rowD)))) (srt rs) none none
  have hq := sortedD_row h.un h.sz
  have e0 : mItems (mB sortedD (mCons (mVar 0) mNil)) [some (.d (.lst (rs.map rowD))), some (.d (.lst (os.map rowD))), none, none] st = .ok ((srt rs).map rowD) st := by
    unfold mItems
    rw [mB1 (x := .lst (rs.map rowD)) rfl rfl hq]
    rfl
  have i1 := (for_run (t := .nm 2) (b := dueB (n + 2)) e0).trans hloop
  have e : m__law_due_join (rn (n + 2)) recX0 [some (.d (.lst (rs.map rowD))), some (.d (.lst (os.map rowD))), none, none] st = .rt (.d (dueR rs os)) st := by
    unfold dueR
    cases hf : (srt rs).find? (clashB os) with
    | some r =>
      rw [hf] at i1
      exact seq_rt i1
    | none =>
      rw [hf] at i1
      have ha := allRows_ok n st h ho
      exact seq_n i1 (ret_ok (tup2 rfl (mB1 ((call2 rfl rfl).trans ha) rfl rfl)))
  rw [e, fin_same]
end K17
set_option Elab.async false
set_option linter.all false
set_option maxRecDepth 100000
set_option maxHeartbeats 4000000
namespace K17
open PySem L2 VL PyProof.Rows
/-! ### _law_others -/
theorem for_invN {t : Tgt} {b : MS} (N : Nat) (P : Nat → VL.Env → Store → Prop) : ∀ {ds : List D} (k : Nat), k + ds.length ≤ N → (∀ d ∈ ds, ∀ k env st, k < N → P k env st → ∃ env1 env2 st2, bindT t d env = some env1 ∧ b env1 st = .nx env2 st2 ∧ P (k + 1) env2 st2) → ∀ env st, P k env st → ∃ env' st', forD t b ds env st = .nx env' st' ∧ P (k + ds.length) env' st'
  | [], k, _, _, env, st, h => ⟨env, st, rfl, h⟩
  | d :: r, k, hk, hs, env, st, h => by
    rw [List.length_cons] at hk
    obtain ⟨env1, env2, st2, h1, h2, h3⟩ := hs d (by simp) k env st (by omega) h
    obtain ⟨env', st', e, h4⟩ := for_invN N P (ds := r) (k + 1) (by omega) (fun x hx => hs x (by simp [hx])) env2 st2 h3
    refine ⟨env', st', by simp only [forD, h1, h2, loopFl]; exact e, ?_⟩
    rw [List.length_cons, show k + (r.length + 1) = k + 1 + r.length by omega]
    exact h4
theorem idxk0 (k : Key) : idxD2 (keyOfD k) (.int 0) = some (.str k.1) := by simp [idxD2, idxD, keyOfD, atI, ixN]
theorem idxk1 (k : Key) : idxD2 (keyOfD k) (.int 1) = some (nsD k.2) := by simp [idxD2, idxD, keyOfD, atI, ixN]
theorem slice_ns (ns : List Int) (lo hi : Option Int) : ∃ ns' : List Int, ns'.length ≤ ns.length ∧ sliceD (nsD ns) lo hi = some (nsD ns') := by
  refine ⟨(ns.drop (HT.sIx ns.length 0 lo)).take (HT.sIx ns.length ns.length hi - HT.sIx ns.length 0 lo), ?_, ?_⟩
  · rw [List.length_take, List.length_drop]; omega
  · unfold nsD sliceD cutL
    simp [List.map_take, List.map_drop]
theorem add_ns {a b : List Int} (h : a.length + b.length ≤ 100000) : addD (nsD a) (nsD b) = some (nsD (a ++ b)) := by
  unfold nsD addD
  dsimp only
  rw [if_pos (by rw [List.length_map, List.length_map, sizeLine_eq]; omega), List.map_append]
theorem idx_ns {x : Int} {ns : List Int} : idxD2 (nsD (x :: ns)) (.int 0) = some (.int x) := by simp [idxD2, idxD, nsD, atI, ixN]
theorem tup1 {a : MV} {env : VL.Env} {st st1 : Store} {s : D} (h : a env st = .ok (.d s) st1) : mTup (mCons a mNil) env st = .ok (.d (.tup [s])) st1 := by
  have z : 1 ≤ sizeLine := by rw [sizeLine_eq]; decide
  simp only [mTup, mCons, mNil, h, bind_ok, datas, List.length_cons, List.length_nil, Nat.zero_add, if_pos z]
theorem slice_ok {m : MV} {lo hi : MP} {env : VL.Env} {st : Store} {s : SV} {x d : D} {l h : Option Int} (hm : m env st = .ok s st) (hl : lo env st = .ok l st) (hh : hi env st = .ok h st) (hv : view st s = some x) (hd : sliceD x l h = some d) : mSlice m lo hi env st = .ok (.d d) st := by
  unfold mSlice
  rw [hm]
  simp only [bind_ok]
  rw [hl]
  simp only [bind_ok]
  rw [hh]
  simp only [bind_ok]
  rw [hv]
  dsimp only
  rw [hd]
theorem addM_ok {ma mb : MV} {env : VL.Env} {st : Store} {s t : SV} {xs ys : List D} (ha : ma env st = .ok s st) (hb : mb env st = .ok t st) (hs : view st s = some (.lst xs)) (ht : view st t = some (.lst ys)) (hz : xs.length + ys.length ≤ 200000) : mAddM ma mb env st = .ok (.own st.length) (st ++ [.lst true (xs ++ ys)]) := by
  unfold mAddM
  rw [ha]
  simp only [bind_ok]
  rw [hb]
  simp only [bind_ok]
  rw [hs, ht]
  dsimp only
  rw [if_pos (by rw [sizeLine_eq]; omega)]
theorem lst2 {a b : MV} {env : VL.Env} {st st1 st2 : Store} {s t : D} (h : a env st = .ok (.d s) st1) (h2 : b env st1 = .ok (.d t) st2) : mLst (mCons a (mCons b mNil)) env st = .ok (.d (.lst [s, t])) st2 := by
  simp only [mLst, mCons, mNil, h, h2, bind_ok, datas, List.length_cons, List.length_nil, Nat.zero_add, Nat.reduceAdd, if_pos sz2]
def othB : MS := (mSeq (mAsg 1 (mAddM (mVar 1) (mLst (mCons (mTup (mCons (mBin idxD2 (mVar 2) (mC (.int 0))) (mCons (mBin addD (mBin idxD2 (mVar 2) (mC (.int 1))) (mTup (mCons (mC (.int 0)) mNil))) mNil))) (mCons (mTup (mCons (mBin idxD2 (mVar 2) (mC (.int 0))) (mCons (mSlice (mBin idxD2 (mVar 2) (mC (.int 1))) mNoPart (mPart (mC (.int (-1))))) mNil))) mNil)))))
    (mSeq (mDrop (mAppend (mVar 1) (mTup (mCons (mC (.str "Qu")) (mCons (mBin idxD2 (mVar 2) (mC (.int 1))) mNil)))))
    (mIfS (mTest (mBin gtD (mB lenD (mCons (mBin idxD2 (mVar 2) (mC (.int 1))) mNil)) (mC (.int 0)))) (mDrop (mAppend (mVar 1) (mTup (mCons (mBin idxD2 (mVar 2) (mC (.int 0))) (mCons (mBin addD (mTup (mCons (mBin addD (mBin idxD2 (mBin idxD2 (mVar 2) (mC (.int 1))) (mC (.int 0))) (mC (.int 1))) mNil)) (mSlice (mBin idxD2 (mVar 2) (mC (.int 1))) (mPart (mC (.int 1))) mNoPart)) mNil))))) mNext)))
/-- found stands in the last cell -/
def OthP (st : Store) (R : Option SV) (k : Nat) (env : VL.Env) (s : Store) : Prop := ∃ (t : Store) (ks : List Key) (e2 e3 : Option SV), env = [R, some (.own (st ++ t).length), e2, e3] ∧ s = (st ++ t) ++ [.lst true (ks.map keyOfD)] ∧ ks.length ≤ 4 + 4 * k
theorem oth_step (st : Store) (R : Option SV) {r : Row} (h : RowOk r) (k : Nat) (env : VL.Env) (s : Store) (hk : k < 10000) (hP : OthP st R k env s) : ∃ env1 env2 st2, bindT (.nm 2) (rowD r) env = some env1 ∧ othB env1 s = .nx env2 st2 ∧ OthP st R (k + 1) env2 st2 := by
  obtain ⟨t, ks, e2, e3, rfl, rfl, hks⟩ := hP
  have h6 := h.n6
  obtain ⟨n1, hn1, hs1⟩ := slice_ns r.ns none (some (-1))
  obtain ⟨n2, hn2, hs2⟩ := slice_ns r.ns (some 1) none
  have hl : lenD [nsD r.ns] = some (.int r.ns.length) := by simp [nsD, lenD]
  refine ⟨[R, some (.own (st ++ t).length), some (.d (rowD r)), e3], ?_⟩
  -- found + [..]
  have i1 : mAsg 1 (mAddM (mVar 1) (mLst (mCons (mTup (mCons (mBin idxD2 (mVar 2) (mC (.int 0))) (mCons (mBin addD (mBin idxD2 (mVar 2) (mC (.int 1))) (mTup (mCons (mC (.int 0)) mNil))) mNil))) (mCons (mTup (mCons (mBin idxD2 (mVar 2) (mC (.int 0))) (mCons (mSlice (mBin idxD2 (mVar 2) (mC (.int 1))) mNoPart (mPart (mC (.int (-1))))) mNil))) mNil)))) [R, some (.own (st ++ t).length), some (.d (rowD r)), e3] ((st ++ t) ++ [.lst true (ks.map keyOfD)]) =
      .nx [R, some (.own ((st ++ t) ++ [Cell.lst true (ks.map keyOfD)]).length), some (.d (rowD r)), e3] (((st ++ t) ++ [.lst true (ks.map keyOfD)]) ++ [.lst true ((ks ++ [(r.nm, r.ns ++ [0]), (r.nm, n1)]).map keyOfD)]) := by
    have q := addM_ok (ma := mVar 1) (mb := mLst (mCons (mTup (mCons (mBin idxD2 (mVar 2) (mC (.int 0))) (mCons (mBin addD (mBin idxD2 (mVar 2) (mC (.int 1))) (mTup (mCons (mC (.int 0)) mNil))) mNil))) (mCons (mTup (mCons (mBin idxD2 (mVar 2) (mC (.int 0))) (mCons (mSlice (mBin idxD2 (mVar 2) (mC (.int 1))) mNoPart (mPart (mC (.int (-1))))) mNil))) mNil)))
      (env := [R, some (.own (st ++ t).length), some (.d (rowD r)), e3]) (st := (st ++ t) ++ [.lst true (ks.map keyOfD)]) (s := .own (st ++ t).length) (xs := ks.map keyOfD) (ys := [keyOfD (r.nm, r.ns ++ [0]), keyOfD (r.nm, n1)]) rfl
      (lst2 (tup2 (bin_ok rfl rfl rfl rfl (idx0 r)) (bin_ok (bin_ok rfl rfl rfl rfl (idx1 r)) (tup1 rfl) rfl rfl (add_ns (a := r.ns) (b := [0]) (by simp; omega)))) (tup2 (bin_ok rfl rfl rfl rfl (idx0 r)) (slice_ok (bin_ok rfl rfl rfl rfl (idx1 r)) rfl rfl rfl hs1)))
      (view_own h0) rfl (by simp; omega)
    rw [asg_ok q]
    simp
  -- Qu
  have z1 : ((ks ++ [(r.nm, r.ns ++ [0]), (r.nm, n1)]).map keyOfD).length < sizeLine := by rw [List.length_map, List.length_append, sizeLine_eq]; simp; omega
  have i2 : mDrop (mAppend (mVar 1) (mTup (mCons (mC (.str "Qu")) (mCons (mBin idxD2 (mVar 2) (mC (.int 1))) mNil)))) [R, some (.own ((st ++ t) ++ [Cell.lst true (ks.map keyOfD)]).length), some (.d (rowD r)), e3] (((st ++ t) ++ [.lst true (ks.map keyOfD)]) ++ [.lst true ((ks ++ [(r.nm, r.ns ++ [0]), (r.nm, n1)]).map keyOfD)]) =
      .nx [R, some (.own ((st ++ t) ++ [Cell.lst true (ks.map keyOfD)]).length), some (.d (rowD r)), e3] (((st ++ t) ++ [.lst true (ks.map keyOfD)]) ++ [.lst true ((ks ++ [(r.nm, r.ns ++ [0]), (r.nm, n1), ("Qu", r.ns)]).map keyOfD)]) :=
    append_ok (x := keyOfD ("Qu", r.ns)) rfl h0 (tup2 rfl (bin_ok rfl rfl rfl rfl (idx1 r))) z1 (by rw [hs0]; simp)
  have c1 : mTest (mBin gtD (mB lenD (mCons (mBin idxD2 (mVar 2) (mC (.int 1))) mNil)) (mC (.int 0))) [R, some (.own ((st ++ t) ++ [Cell.lst true (ks.map keyOfD)]).length), some (.d (rowD r)), e3] (((st ++ t) ++ [.lst true (ks.map keyOfD)]) ++ [.lst true ((ks ++ [(r.nm, r.ns ++ [0]), (r.nm, n1), ("Qu", r.ns)]).map keyOfD)]) = .ok (decide ((0 : Int) < r.ns.length)) (((st ++ t) ++ [.lst true (ks.map keyOfD)]) ++ [.lst true ((ks ++ [(r.nm, r.ns ++ [0]), (r.nm, n1), ("Qu", r.ns)]).map keyOfD)]) :=
    test_ok (bin_ok (mB1 (bin_ok rfl rfl rfl rfl (idx1 r)) rfl hl) rfl rfl rfl rfl)
  cases hns : r.ns with
  | nil =>
    have hd : decide ((0 : Int) < r.ns.length) = false := by rw [hns]; rfl
    rw [hd] at c1
    refine ⟨_, _, rfl, seq_n i1 (seq_n i2 ((if_no c1).trans rfl)), t ++ [.lst true (ks.map keyOfD)], ks ++ [(r.nm, r.ns ++ [0]), (r.nm, n1), ("Qu", r.ns)], some (.d (rowD r)), e3, ?_, ?_, ?_⟩
    · rw [List.append_assoc]
    · rw [← List.append_assoc st]
    · rw [List.length_append]; simp; omega
  | cons x rest =>
    have hd : decide ((0 : Int) < r.ns.length) = true := decide_eq_true (by rw [hns, List.length_cons]; omega)
    rw [hd] at c1
    have z2 : ((ks ++ [(r.nm, r.ns ++ [0]), (r.nm, n1), ("Qu", r.ns)]).map keyOfD).length < sizeLine := by rw [List.length_map, List.length_append, sizeLine_eq]; simp; omega
    have hx : idxD2 (nsD r.ns) (.int 0) = some (.int x) := by rw [hns]; exact idx_ns
    have i3 : mDrop (mAppend (mVar 1) (mTup (mCons (mBin idxD2 (mVar 2) (mC (.int 0))) (mCons (mBin addD (mTup (mCons (mBin addD (mBin idxD2 (mBin idxD2 (mVar 2) (mC (.int 1))) (mC (.int 0))) (mC (.int 1))) mNil)) (mSlice (mBin idxD2 (mVar 2) (mC (.int 1))) (mPart (mC (.int 1))) mNoPart)) mNil)))) [R, some (.own ((st ++ t) ++ [Cell.lst true (ks.map keyOfD)]).length), some (.d (rowD r)), e3] (((st ++ t) ++ [.lst true (ks.map keyOfD)]) ++ [.lst true ((ks ++ [(r.nm, r.ns ++ [0]), (r.nm, n1), ("Qu", r.ns)]).map keyOfD)]) =
        .nx [R, some (.own ((st ++ t) ++ [Cell.lst true (ks.map keyOfD)]).length), some (.d (rowD r)), e3] (((st ++ t) ++ [.lst true (ks.map keyOfD)]) ++ [.lst true ((ks ++ [(r.nm, r.ns ++ [0]), (r.nm, n1), ("Qu", r.ns), (r.nm, [x + 1] ++ n2)]).map keyOfD)]) :=
      append_ok (x := keyOfD (r.nm, [x + 1] ++ n2)) rfl h0 (tup2 (bin_ok rfl rfl rfl rfl (idx0 r)) (bin_ok (tup1 (bin_ok (bin_ok (bin_ok rfl rfl rfl rfl (idx1 r)) rfl rfl rfl hx) rfl rfl rfl rfl)) (slice_ok (bin_ok rfl rfl rfl rfl (idx1 r)) rfl rfl rfl hs2) rfl rfl (add_ns (a := [x + 1]) (b := n2) (by simp; omega)))) z2 (by rw [hs0]; simp)
    refine ⟨_, _, rfl, seq_n i1 (seq_n i2 ((if_yes c1).trans i3)), t ++ [.lst true (ks.map keyOfD)], ks ++ [(r.nm, r.ns ++ [0]), (r.nm, n1), ("Qu", r.ns), (r.nm, [x + 1] ++ n2)], some (.d (rowD r)), e3, ?_, ?_, ?_⟩
    · rw [List.append_assoc]
    · rw [← List.append_assoc st]
    · rw [List.length_append]; simp; omega
end K17
set_option Elab.async false
set_option linter.all false
set_option maxRecDepth 100000
set_option maxHeartbeats 4000000
namespace K17
open PySem L2 VL PyProof.Rows
/-- the four keys that always stand in front -/
def fixedK : List Key := [("low", [1, 2, 3, 4, 5, 6, 7]), ("", []), ("Low", [100000]), ("Cb", [9])]
theorem others_ok (n : Nat) (st : Store) {rs : List Row} (h : ∀ r ∈ rs, RowOk r) (hl : rs.length ≤ 9000) : ∃ ks : List Key, ks.length ≤ 100000 ∧ (∀ k ∈ ks, lkp rs k = none) ∧ rn (n + 2) ._law_others [.d (.lst (rs.map rowD))] st = .ok (.d (.lst (ks.map keyOfD))) st := by
  have i1 : mAsg 1 (mLstM (mCons (mTup (mCons (mC (.str "low")) (mCons (mTup (mCons (mC (.int 1)) (mCons (mC (.int 2)) (mCons (mC (.int 3)) (mCons (mC (.int 4)) (mCons (mC (.int 5)) (mCons (mC (.int 6)) (mCons (mC (.int 7)) mNil)))))))) mNil))) (mCons (mTup (mCons (mC (.str "")) (mCons (mTup mNil) mNil))) (mCons (mTup (mCons (mC (.str "Low")) (mCons (mTup (mCons (mC (.int 100000)) mNil)) mNil))) (mCons (mTup (mCons (mC (.str "Cb")) (mCons (mTup (mCons (mC (.int 9)) mNil)) mNil))) mNil))))) [some (.d (.lst (rs.map rowD))), none, none, none] st =
      .nx [some (.d (.lst (rs.map rowD))), some (.own st.length), none, none] (st ++ [.lst true (fixedK.map keyOfD)]) := by
    have z1 : 1 ≤ sizeLine := by rw [sizeLine_eq]; decide
    have z7 : 7 ≤ sizeLine := by rw [sizeLine_eq]; decide
    simp only [mAsg, mLstM, mTup, mCons, mNil, mC, bind_ok, datas, List.length_cons, List.length_nil, Nat.zero_add, Nat.reduceAdd, Nat.zero_le, if_true, if_pos z1, if_pos sz2, if_pos sz4, if_pos z7, toFl_ok]
    rfl
  obtain ⟨env', s', hloop, t, ks, e2, e3, rfl, rfl, hks⟩ := for_invN (t := .nm 2) (b := othB) 9999 (OthP st (some (.d (.lst (rs.map rowD))))) (ds := rs.map rowD) 0 (by rw [List.length_map]; omega)
    (fun d hd k env s hk hP => by
      obtain ⟨r, hr, rfl⟩ := List.mem_map.mp hd
      exact oth_step st _ (h r hr) k env s (by omega) hP) [some (.d (.lst (rs.map rowD))), some (.own st.length), none, none] (st ++ [.lst true (fixedK.map keyOfD)]) ⟨[], fixedK, none, none, by simp, by simp, by decide⟩
  have hk2 : ks.length ≤ 40000 := by rw [List.length_map] at hks; omega
  refine ⟨ks.filter fun k => decide (fnd rs k < 0), Nat.le_trans (List.length_filter_le _ _) (by omega), fun k hk => fnd_neg.mp (of_decide_eq_true (List.mem_filter.mp hk).2), ?_⟩
  show fin st (m__law_others (rn (n + 1)) recX0 [some (.d (.lst (rs.map rowD))), none, none, none] st) = _
  have i2 : mFor (mItems (mVar 0)) (.nm 2) othB [some (.d (.lst (rs.map rowD))), some (.own st.length), none, none] (st ++ [.lst true (fixedK.map keyOfD)]) = .nx [some (.d (.lst (rs.map rowD))), some (.own (st ++ t).length), e2, e3] ((st ++ t) ++ [.lst true (ks.map keyOfD)]) := (for_run rfl).trans hloop
  have e1 : lcD (.nm 3) (mTest (mBin ltD (mCall (rn (n + 1) ._law_find) (mCons (mVar 0) (mCons (mBin idxD2 (mVar 3) (mC (.int 0))) (mCons (mBin idxD2 (mVar 3) (mC (.int 1))) mNil)))) (mC (.int 0)))) (mVar 3) (ks.map keyOfD) [some (.d (.lst (rs.map rowD))), some (.own (st ++ t).length), e2, none] ((st ++ t) ++ [.lst false (ks.map keyOfD)]) = .ok ((ks.filter fun k => decide (fnd rs k < 0)).map keyOfD) ((st ++ t) ++ [.lst false (ks.map keyOfD)]) := by
    refine lc_filter fun k hk => ⟨[some (.d (.lst (rs.map rowD))), some (.own (st ++ t).length), e2, some (.d (keyOfD k))], rfl, ?_, fun _ => rfl⟩
    have hf := find_ok n ((st ++ t) ++ [.lst false (ks.map keyOfD)]) (.d (.lst (rs.map rowD))) (rs := rs) (by omega) rfl k.1 k.2
    exact test_ok (bin_ok ((call3 rfl (bin_ok rfl rfl rfl rfl (idxk0 k)) (bin_ok rfl rfl rfl rfl (idxk1 k))).trans hf) rfl rfl rfl (ltD_int _ _))
  have i3 : mRet (mLc (mItems (mFrz (mVar 1))) (.nm 3) [3] (mTest (mBin ltD (mCall (rn (n + 1) ._law_find) (mCons (mVar 0) (mCons (mBin idxD2 (mVar 3) (mC (.int 0))) (mCons (mBin idxD2 (mVar 3) (mC (.int 1))) mNil)))) (mC (.int 0)))) (mVar 3)) [some (.d (.lst (rs.map rowD))), some (.own (st ++ t).length), e2, e3] ((st ++ t) ++ [.lst true (ks.map keyOfD)]) = .rt (.d (.lst ((ks.filter fun k => decide (fnd rs k < 0)).map keyOfD))) ((st ++ t) ++ [.lst false (ks.map keyOfD)]) := by
    refine ret_ok ?_
    have e3' : mItems (mFrz (mVar 1)) [some (.d (.lst (rs.map rowD))), some (.own (st ++ t).length), e2, e3] ((st ++ t) ++ [.lst true (ks.map keyOfD)]) = .ok (ks.map keyOfD) ((st ++ t) ++ [.lst false (ks.map keyOfD)]) := by
      unfold mItems mFrz
      simp only [mVar, bind_ok, List.getElem?_cons_zero, List.getElem?_cons_succ, h0, hs0, itemsD]
    unfold mLc
    rw [e3']
    simp only [bind_ok]
    rw [if_pos (by rw [List.length_map, sizeLine_eq]; omega)]
    show ((lcD _ _ _ _ [some (.d (.lst (rs.map rowD))), some (.own (st ++ t).length), e2, none] _).bind _) = _
    rw [e1]
    rfl
  have e : m__law_others (rn (n + 1)) recX0 [some (.d (.lst (rs.map rowD))), none, none, none] st = .rt (.d (.lst ((ks.filter fun k => decide (fnd rs k < 0)).map keyOfD))) ((st ++ t) ++ [.lst false (ks.map keyOfD)]) := seq_n i1 (seq_n i2 i3)
  rw [e, List.append_assoc, fin_app]
/-! ### _law_is_right -/
theorem plain_up : ∀ (k : Nat) (d : D), plainN k d → plainN (k + 1) d := by
  intro k
  induction k with
  | zero =>
    intro d h
    cases d with
    | bl b => trivial
    | int i => trivial
    | str x => trivial
    | _ => exact h.elim
  | succ k ih =>
    intro d h
    cases d with
    | bl b => trivial
    | int i => trivial
    | str x => trivial
    | tup ds => exact ⟨h.1, fun d hd => ih d (h.2 d hd)⟩
    | _ => exact h.elim
theorem plain_le {k m : Nat} (h : k ≤ m) {d : D} (hd : plainN k d) : plainN m d := by
  induction h with
  | refl => exact hd
  | step _ ih => exact plain_up _ _ ih
theorem plain_i (k : Nat) (i : Int) : plainN k (.int i) := by cases k <;> trivial
theorem plain_s (k : Nat) (x : Str) : plainN k (.str x) := by cases k <;> trivial
theorem plain_b (k : Nat) (b : Bool) : plainN k (.bl b) := by cases k <;> trivial
theorem plain_ns {ns : List Int} (h : ns.length ≤ 10000) : plainN 1 (nsD ns) := ⟨by rw [List.length_map]; exact h, fun d hd => by
  obtain ⟨i, _, rfl⟩ := List.mem_map.mp hd
  exact plain_i 0 i⟩
theorem plain_row {r : Row} (h : RowOk r) : plainN 2 (rowD r) := ⟨by simp, fun d hd => by
  simp only [List.mem_cons, List.not_mem_nil, or_false] at hd
  rcases hd with rfl | rfl | rfl
  · exact plain_s 1 _
  · exact plain_ns (by have := h.n6; omega)
  · exact plain_i 1 _⟩
theorem plain_rows {rs : List Row} (h : ∀ r ∈ rs, RowOk r) (hl : rs.length ≤ 10000) : plainN 3 (.tup (rs.map rowD)) := ⟨by rw [List.length_map]; exact hl, fun d hd => by
  obtain ⟨r, hr, rfl⟩ := List.mem_map.mp hd
  exact plain_row (h r hr)⟩
theorem plain_t2 {k : Nat} {a b : D} (ha : plainN k a) (hb : plainN k b) : plainN (k + 1) (.tup [a, b]) := ⟨by simp, fun d hd => by
  simp only [List.mem_cons, List.not_mem_nil, or_false] at hd
  rcases hd with rfl | rfl
  · exact ha
  · exact hb⟩
theorem plain_t3 {k : Nat} {a b c : D} (ha : plainN k a) (hb : plainN k b) (hc : plainN k c) : plainN (k + 1) (.tup [a, b, c]) := ⟨by simp, fun d hd => by
  simp only [List.mem_cons, List.not_mem_nil, or_false] at hd
  rcases hd with rfl | rfl | rfl
  · exact ha
  · exact hb
  · exact hc⟩
/-- if not _law_same(a, b): return False, where both are x -/
theorem same_if {k : Nat} {a b : MV} {env : VL.Env} {st st1 : Store} {x : D} (ha : a env st = .ok (.d x) st1) (hb : b env st1 = .ok (.d x) st1) (hp : plainN k x) : mIfS (mNot (mTruth (mCall (rn (k + 1) ._law_same) (mCons a (mCons b mNil))))) (mRet (mC (.bl false))) mNext env st = .nx env st1 := by
  have h := same_ok st1 k x hp
  have c := truth_ok ((call2 ha hb).trans h) (d := .bl true) rfl rfl
  rw [if_no (not_ok c)]
  rfl
theorem fld_rows (n : Nat) (env : VL.Env) (st : Store) {m : MV} {rs : List Row} (h : m env st = .ok (.d (gD rs)) st) : mFld [7] "rows" m env st = .ok (.d (.tup ((srt rs).map rowD))) st := by
  unfold mFld
  rw [h]
  simp only [bind_ok, gD, List.mem_singleton, if_true, lk_rows]
theorem fld_text (env : VL.Env) (st : Store) {m : MV} {rs : List Row} (h : m env st = .ok (.d (gD rs)) st) : mFld [7] "text" m env st = .ok (.d (.str (txt (srt rs)))) st := by
  unfold mFld
  rw [h]
  simp only [bind_ok, gD, List.mem_singleton, if_true, lk_text]
theorem unO_str (n : Nat) (env : VL.Env) (st : Store) {m : MV} {rs : List Row} (h : m env st = .ok (.d (gD rs)) st) : mUnO 7 okStrD (rn (n + 1) .Guesses___str__) m env st = .ok (.d (.str (txt (srt rs)))) st := by
  have hi : insOf st (.d (gD rs)) = some (7, [("_table" : Str), "rows", "text"]) := rfl
  unfold mUnO
  rw [h]
  simp only [bind_ok, hi, if_true]
  rw [str_ok n st rs]
  rfl
theorem rg4 : (100000 : Int) < 2 ^ 63 := by decide +kernel
theorem rg5a {j : Int} (h : j ≤ 100000) : j < 2 ^ 63 := Int.lt_of_le_of_lt h rg4
theorem rg5 {n : Nat} (hn : n ≤ 100000) : (n : Int) < 2 ^ 63 := rg5a (Int.ofNat_le.mpr hn)
theorem okLen_j {j : Int} (h : 0 ≤ j ∧ j < 2 ^ 63) : okLenD (.int j) = true := by
  unfold okLenD
  exact decide_eq_true h
theorem unO_any {c : Nat} {okD' : D → Bool} {run : VL.Run} {m : MV} {env : VL.Env} {st : Store} {s : SV} {ns : List Str} {x : D} (h : m env st = .ok s st) (hi : insOf st s = some (c, ns)) (hr : run [s] st = .ok (.d x) st) (ho : okD' x = true) : mUnO c okD' run m env st = .ok (.d x) st := by
  unfold mUnO
  rw [h]
  simp only [bind_ok]
  rw [hi]
  dsimp only
  rw [if_pos rfl, hr]
  simp only [bind_ok]
  rw [if_pos ho]
theorem okLen_n {n : Nat} (h : n ≤ 100000) : okLenD (.int n) = true := okLen_j ⟨Int.natCast_nonneg n, rg5 h⟩
theorem unO_len (n : Nat) (env : VL.Env) (st : Store) {m : MV} {rs : List Row} (hl : rs.length ≤ 100000) (h : m env st = .ok (.d (gD rs)) st) : mUnO 7 okLenD (rn (n + 1) .Guesses___len__) m env st = .ok (.d (.int rs.length)) st :=
  unO_any (ns := [("_table" : Str), "rows", "text"]) h rfl (len_ok n st rs) (okLen_n hl)
theorem listO_ok (n : Nat) (env : VL.Env) (st : Store) {m : MV} {rs : List Row} (hl : rs.length ≤ 100000) (h : m env st = .ok (.d (gD rs)) st) : mListO 7 "rows" (rn (n + 1) .Guesses___len__) m env st = .ok (.d (.lst ((srt rs).map rowD))) st := by
  have hr := len_ok n st rs
  unfold mListO
  rw [h]
  unfold gD at hr ⊢
  simp only [bind_ok, if_true, lk_rows]
  rw [hr]
  dsimp only
  rw [if_pos ⟨Int.natCast_nonneg _, by rw [sizeLine_eq]; omega⟩]
end K17
set_option Elab.async false
set_option linter.all false
set_option maxRecDepth 100000
set_option maxHeartbeats 4000000
namespace K17
open PySem L2 VL PyProof.Rows
noncomputable def rightB1 (n : Nat) : MS := (mSeq (mAsg 5 (mTup (mCons (mMeth 7 "at" (rn n .Guesses_at) (mVar 0) (mCons (mBin idxD2 (mVar 4) (mC (.int 0))) (mCons (mBin idxD2 (mVar 4) (mC (.int 1))) mNil))) (mCons (mMeth 7 "has" (rn n .Guesses_has) (mVar 0) (mCons (mBin idxD2 (mVar 4) (mC (.int 0))) (mCons (mBin idxD2 (mVar 4) (mC (.int 1))) mNil))) mNil))))
    (mIfS (mNot (mTruth (mCall (rn n ._law_same) (mCons (mVar 5) (mCons (mTup (mCons (mBin idxD2 (mVar 4) (mC (.int 2))) (mCons (mC (.bl true)) mNil))) mNil))))) (mRet (mC (.bl false))) mNext))
noncomputable def rightB2 (n : Nat) : MS := (mSeq (mAsg 5 (mTup (mCons (mMeth 7 "at" (rn n .Guesses_at) (mVar 0) (mCons (mBin idxD2 (mVar 6) (mC (.int 0))) (mCons (mBin idxD2 (mVar 6) (mC (.int 1))) mNil))) (mCons (mMeth 7 "has" (rn n .Guesses_has) (mVar 0) (mCons (mBin idxD2 (mVar 6) (mC (.int 0))) (mCons (mBin idxD2 (mVar 6) (mC (.int 1))) mNil))) mNil))))
    (mIfS (mNot (mTruth (mCall (rn n ._law_same) (mCons (mVar 5) (mCons (mTup (mCons (mC (.int 0)) (mCons (mC (.bl false)) mNil))) mNil))))) (mRet (mC (.bl false))) mNext))
theorem args2 {a b : MV} {env : VL.Env} {st : Store} {s t : SV} (h : a env st = .ok s st) (h2 : b env st = .ok t st) : mCons a (mCons b mNil) env st = .ok [s, t] st := by
  simp only [mCons, mNil, h, h2, bind_ok]
theorem right_step1 (n : Nat) (st : Store) {rs : List Row} (hu : Uniq rs) {r : Row} (hr : r ∈ rs) (R e2 e3 e5 e6 : Option SV) :
    ∃ f5, rightB1 (n + 2) [some (.d (gD rs)), R, e2, e3, some (.d (rowD r)), e5, e6] st = .nx [some (.d (gD rs)), R, e2, e3, some (.d (rowD r)), f5, e6] st := by
  have hv := lkp_row hu hr
  have hv' : lkp rs (r.nm, r.ns) = some r.v := hv
  have a1 := at_ok (n + 1) st rs r.nm r.ns
  have a2 := has_ok (n + 1) st rs r.nm r.ns
  rw [hv'] at a1 a2
  have g1 : mCons (mBin idxD2 (mVar 4) (mC (.int 0))) (mCons (mBin idxD2 (mVar 4) (mC (.int 1))) mNil) [some (.d (gD rs)), R, e2, e3, some (.d (rowD r)), e5, e6] st = .ok [.d (.str r.nm), .d (nsD r.ns)] st := args2 (bin_ok rfl rfl rfl rfl (idx0 r)) (bin_ok rfl rfl rfl rfl (idx1 r))
  have i1 := asg_ok (i := 5) (tup2 ((meth_g (run := rn (n + 2) .Guesses_at) (mo := mVar 0) no_at rfl g1).trans a1) ((meth_g (run := rn (n + 2) .Guesses_has) (mo := mVar 0) no_has rfl g1).trans a2))
  refine ⟨some (.d (.tup [.int r.v, .bl true])), seq_n i1 ?_⟩
  exact same_if (x := .tup [.int r.v, .bl true]) rfl (tup2 (bin_ok rfl rfl rfl rfl (idx2 r)) rfl) (plain_t2 (plain_i n _) (plain_b n _))
theorem right_step2 (n : Nat) (st : Store) {rs : List Row} {k : Key} (hk : lkp rs k = none) (R e2 e3 e4 e5 : Option SV) :
    ∃ f5, rightB2 (n + 2) [some (.d (gD rs)), R, e2, e3, e4, e5, some (.d (keyOfD k))] st = .nx [some (.d (gD rs)), R, e2, e3, e4, f5, some (.d (keyOfD k))] st := by
  have hk' : lkp rs (k.1, k.2) = none := hk
  have a1 := at_ok (n + 1) st rs k.1 k.2
  have a2 := has_ok (n + 1) st rs k.1 k.2
  rw [hk'] at a1 a2
  have g1 : mCons (mBin idxD2 (mVar 6) (mC (.int 0))) (mCons (mBin idxD2 (mVar 6) (mC (.int 1))) mNil) [some (.d (gD rs)), R, e2, e3, e4, e5, some (.d (keyOfD k))] st = .ok [.d (.str k.1), .d (nsD k.2)] st := args2 (bin_ok rfl rfl rfl rfl (idxk0 k)) (bin_ok rfl rfl rfl rfl (idxk1 k))
  have i1 := asg_ok (i := 5) (tup2 ((meth_g (run := rn (n + 2) .Guesses_at) (mo := mVar 0) no_at rfl g1).trans a1) ((meth_g (run := rn (n + 2) .Guesses_has) (mo := mVar 0) no_has rfl g1).trans a2))
  refine ⟨some (.d (.tup [.int 0, .bl false])), seq_n i1 ?_⟩
  exact same_if (x := .tup [.int 0, .bl false]) rfl (tup2 rfl rfl) (plain_t2 (plain_i n _) (plain_b n _))
theorem isi_gD (rs : List Row) : isiD isiT [gD rs, .cls 7] = some (.bl true) := isi_g rs
theorem right_ok (n : Nat) (st : Store) {rs ys : List Row} (h : Good rs) (hy : ys.Perm rs) : rn (n + 6) ._law_is_right [.d (gD rs), .d (.lst (ys.map rowD))] st = .ok (.d (.bl true)) st := by
  show fin st (m__law_is_right (rn (n + 5)) recX0 [some (.d (gD rs)), some (.d (.lst (ys.map rowD))), none, none, none, none, none] st) = _
  have hyu : Uniq ys := h.un.perm hy
  have hyo : ∀ r ∈ ys, RowOk r := fun r hr => h.ok r (hy.mem_iff.mp hr)
  have hyl : ys.length = rs.length := hy.length_eq
  have hle := h.le
  have hsz : ys.length ≤ sizeLine := by rw [hyl]; exact h.sz
  have hq := sortedD_row hyu hsz
  rw [srt_eq hyu hy] at hq
  have hsl : (srt rs).length = rs.length := srt_len rs
  have hso : ∀ r ∈ srt rs, RowOk r := fun r hr => h.ok r (srt_mem.mp hr)
  have hrange : (srt rs).length ≤ 10000 := by omega
  have i1 : mAsg 2 (mB tupleD (mCons (mB sortedD (mCons (mVar 1) mNil)) mNil)) [some (.d (gD rs)), some (.d (.lst (ys.map rowD))), none, none, none, none, none] st = .nx [some (.d (gD rs)), some (.d (.lst (ys.map rowD))), some (.d (.tup ((srt rs).map rowD))), none, none, none, none] st :=
    asg_ok (mB1 (mB1 rfl rfl hq) rfl rfl)
  have e1 : lcD (.nm 4) mYes (mCall (rn (n + 5) ._law_row_text) (mCons (mVar 4) mNil)) ((srt rs).map rowD) [some (.d (gD rs)), some (.d (.lst (ys.map rowD))), some (.d (.tup ((srt rs).map rowD))), none, none, none, none] st = .ok ((srt rs).map fun r => .str (rowTx r)) st :=
    lc_map fun r hr => ⟨[some (.d (gD rs)), some (.d (.lst (ys.map rowD))), some (.d (.tup ((srt rs).map rowD))), none, some (.d (rowD r)), none, none], rfl, (call1 rfl).trans (rowText_ok (n + 4) st (hso r hr))⟩
  have hj : joinD (.str "\n") (.lst ((srt rs).map fun r => D.str (rowTx r))) = some (.str (txt (srt rs))) := by
    refine join_of rowTx "\n" ?_
    have h1 := sum_le (fun r => (rowTx r).length) 95 (srt rs) fun r hr => rowTx_len (hso r hr)
    have h2 : ("\n" : Str).length = 1 := by decide +kernel
    rw [hsl] at h1 ⊢
    rw [h2]
    omega
  have e2 : mLc (mItems (mVar 2)) (.nm 4) [4] mYes (mCall (rn (n + 5) ._law_row_text) (mCons (mVar 4) mNil)) [some (.d (gD rs)), some (.d (.lst (ys.map rowD))), some (.d (.tup ((srt rs).map rowD))), none, none, none, none] st = .ok (.d (.lst ((srt rs).map fun r => .str (rowTx r)))) st := by
    have e3 : mItems (mVar 2) [some (.d (gD rs)), some (.d (.lst (ys.map rowD))), some (.d (.tup ((srt rs).map rowD))), none, none, none, none] st = .ok ((srt rs).map rowD) st := rfl
    unfold mLc
    rw [e3]
    simp only [bind_ok]
    rw [if_pos (by rw [List.length_map, hsl]; exact h.sz)]
    show ((lcD _ _ _ _ [some (.d (gD rs)), some (.d (.lst (ys.map rowD))), some (.d (.tup ((srt rs).map rowD))), none, none, none, none] st).bind _) = _
    rw [e1]
    rfl
  have i2 : mAsg 3 (mJoin (mC (.str "\n")) (mLc (mItems (mVar 2)) (.nm 4) [4] mYes (mCall (rn (n + 5) ._law_row_text) (mCons (mVar 4) mNil)))) [some (.d (gD rs)), some (.d (.lst (ys.map rowD))), some (.d (.tup ((srt rs).map rowD))), none, none, none, none] st = .nx [some (.d (gD rs)), some (.d (.lst (ys.map rowD))), some (.d (.tup ((srt rs).map rowD))), some (.d (.str (txt (srt rs)))), none, none, none] st := by
    refine asg_ok (s := .d (.str (txt (srt rs)))) ?_
    unfold mJoin
    simp only [mC, bind_ok]
    rw [e2]
    simp only [bind_ok, view]
    rw [hj]
  -- the class
  have c3 : mNot (mTruth (mB (isiD isiT) (mCons (mVar 0) (mCons (mC (.cls 7)) mNil)))) [some (.d (gD rs)), some (.d (.lst (ys.map rowD))), some (.d (.tup ((srt rs).map rowD))), some (.d (.str (txt (srt rs)))), none, none, none] st = .ok false st := by
    have hi := isi_gD rs
    have q : mB (isiD isiT) (mCons (mVar 0) (mCons (mC (.cls 7)) mNil)) [some (.d (gD rs)), some (.d (.lst (ys.map rowD))), some (.d (.tup ((srt rs).map rowD))), some (.d (.str (txt (srt rs)))), none, none, none] st = .ok (.d (.bl true)) st := by
      simp only [mB, mCons, mNil, mVar, mC, bind_ok, List.getElem?_cons_zero, views, view, hi]
    exact not_ok (truth_ok q rfl rfl)
  have i3 : mIfS (mNot (mTruth (mB (isiD isiT) (mCons (mVar 0) (mCons (mC (.cls 7)) mNil))))) (mRet (mC (.bl false))) mNext [some (.d (gD rs)), some (.d (.lst (ys.map rowD))), some (.d (.tup ((srt rs).map rowD))), some (.d (.str (txt (srt rs)))), none, none, none] st = .nx [some (.d (gD rs)), some (.d (.lst (ys.map rowD))), some (.d (.tup ((srt rs).map rowD))), some (.d (.str (txt (srt rs)))), none, none, none] st := (if_no c3).trans rfl
  have p3 := plain_rows hso hrange
  have i4 : mIfS (mNot (mTruth (mCall (rn (n + 5) ._law_same) (mCons (mTup (mCons (mFld [7] "rows" (mVar 0)) (mCons (mFld [7] "text" (mVar 0)) (mCons (mUnO 7 okStrD (rn (n + 5) .Guesses___str__) (mVar 0)) mNil)))) (mCons (mTup (mCons (mVar 2) (mCons (mVar 3) (mCons (mVar 3) mNil)))) mNil))))) (mRet (mC (.bl false))) mNext [some (.d (gD rs)), some (.d (.lst (ys.map rowD))), some (.d (.tup ((srt rs).map rowD))), some (.d (.str (txt (srt rs)))), none, none, none] st = .nx [some (.d (gD rs)), some (.d (.lst (ys.map rowD))), some (.d (.tup ((srt rs).map rowD))), some (.d (.str (txt (srt rs)))), none, none, none] st :=
    same_if (k := n + 4) (x := .tup [.tup ((srt rs).map rowD), .str (txt (srt rs)), .str (txt (srt rs))]) (tup3 (fld_rows n _ st rfl) (fld_text _ st rfl) (unO_str (n + 4) _ st rfl)) (tup3 rfl rfl rfl) (plain_le (by omega) (plain_t3 p3 (plain_s 3 _) (plain_s 3 _)))
  have hlen2 : lenD [.tup ((srt rs).map rowD)] = some (.int rs.length) := by
    show some (D.int (((srt rs).map rowD).length : Nat)) = _
    rw [List.length_map, hsl]
  have i5 : mIfS (mNot (mTruth (mCall (rn (n + 5) ._law_same) (mCons (mTup (mCons (mUnO 7 okLenD (rn (n + 5) .Guesses___len__) (mVar 0)) (mCons (mB tupleD (mCons (mListO 7 "rows" (rn (n + 5) .Guesses___len__) (mVar 0)) mNil)) mNil))) (mCons (mTup (mCons (mB lenD (mCons (mVar 2) mNil)) (mCons (mVar 2) mNil))) mNil))))) (mRet (mC (.bl false))) mNext [some (.d (gD rs)), some (.d (.lst (ys.map rowD))), some (.d (.tup ((srt rs).map rowD))), some (.d (.str (txt (srt rs)))), none, none, none] st = .nx [some (.d (gD rs)), some (.d (.lst (ys.map rowD))), some (.d (.tup ((srt rs).map rowD))), some (.d (.str (txt (srt rs)))), none, none, none] st :=
    same_if (k := n + 4) (x := .tup [.int rs.length, .tup ((srt rs).map rowD)]) (tup2 (unO_len (n + 4) _ st (by omega) rfl) (mB1 (listO_ok (n + 4) _ st (by omega) rfl) rfl rfl)) (tup2 (mB1 rfl rfl hlen2) rfl) (plain_le (by omega) (plain_t2 (plain_i 3 _) p3))
  -- the rows
  obtain ⟨env6, hloop6, a4, a5, rfl⟩ := for_nx (t := .nm 4) (b := rightB1 (n + 5)) (st := st) (fun env => ∃ a b, env = [some (.d (gD rs)), some (.d (.lst (ys.map rowD))), some (.d (.tup ((srt rs).map rowD))), some (.d (.str (txt (srt rs)))), a, b, none]) (ds := ys.map rowD)
    (fun d hd env he => by
      obtain ⟨r, hr, rfl⟩ := List.mem_map.mp hd
      obtain ⟨a, b, rfl⟩ := he
      obtain ⟨f5, hs⟩ := right_step1 (n + 3) st h.un (hy.mem_iff.mp hr) (some (.d (.lst (ys.map rowD)))) (some (.d (.tup ((srt rs).map rowD)))) (some (.d (.str (txt (srt rs))))) b none
      exact ⟨_, _, rfl, hs, _, _, rfl⟩) _ ⟨none, none, rfl⟩
  have i6 : mFor (mItems (mVar 1)) (.nm 4) (rightB1 (n + 5)) [some (.d (gD rs)), some (.d (.lst (ys.map rowD))), some (.d (.tup ((srt rs).map rowD))), some (.d (.str (txt (srt rs)))), none, none, none] st = .nx [some (.d (gD rs)), some (.d (.lst (ys.map rowD))), some (.d (.tup ((srt rs).map rowD))), some (.d (.str (txt (srt rs)))), a4, a5, none] st := (for_run rfl).trans hloop6
  -- the others
  obtain ⟨ks, hks, hkn, hoth⟩ := others_ok (n + 3) st (rs := ys) hyo (by omega)
  have hkn' : ∀ k ∈ ks, lkp rs k = none := fun k hk => by rw [← lkp_perm hyu hy k]; exact hkn k hk
  obtain ⟨env7, hloop7, b4, b5, b6, rfl⟩ := for_nx (t := .nm 6) (b := rightB2 (n + 5)) (st := st) (fun env => ∃ a b c, env = [some (.d (gD rs)), some (.d (.lst (ys.map rowD))), some (.d (.tup ((srt rs).map rowD))), some (.d (.str (txt (srt rs)))), a, b, c]) (ds := ks.map keyOfD)
    (fun d hd env he => by
      obtain ⟨k, hk, rfl⟩ := List.mem_map.mp hd
      obtain ⟨a, b, c, rfl⟩ := he
      obtain ⟨f5, hs⟩ := right_step2 (n + 3) st (hkn' k hk) (some (.d (.lst (ys.map rowD)))) (some (.d (.tup ((srt rs).map rowD)))) (some (.d (.str (txt (srt rs))))) a b
      exact ⟨_, _, rfl, hs, _, _, _, rfl⟩) _ ⟨a4, a5, none, rfl⟩
  have e7 : mItems (mCall (rn (n + 5) ._law_others) (mCons (mVar 1) mNil)) [some (.d (gD rs)), some (.d (.lst (ys.map rowD))), some (.d (.tup ((srt rs).map rowD))), some (.d (.str (txt (srt rs)))), a4, a5, none] st = .ok (ks.map keyOfD) st := by
    unfold mItems
    rw [(call1 (run := rn (n + 5) ._law_others) (a := mVar 1) (s := .d (.lst (ys.map rowD))) rfl).trans hoth]
    rfl
  have i7 : mFor (mItems (mCall (rn (n + 5) ._law_others) (mCons (mVar 1) mNil))) (.nm 6) (rightB2 (n + 5)) [some (.d (gD rs)), some (.d (.lst (ys.map rowD))), some (.d (.tup ((srt rs).map rowD))), some (.d (.str (txt (srt rs)))), a4, a5, none] st = .nx [some (.d (gD rs)), some (.d (.lst (ys.map rowD))), some (.d (.tup ((srt rs).map rowD))), some (.d (.str (txt (srt rs)))), b4, b5, b6] st := (for_run e7).trans hloop7
  have e : m__law_is_right (rn (n + 5)) recX0 [some (.d (gD rs)), some (.d (.lst (ys.map rowD))), none, none, none, none, none] st = .rt (.d (.bl true)) st :=
    seq_n i1 (seq_n i2 (seq_n i3 (seq_n i4 (seq_n i5 (seq_n i6 (seq_n i7 rfl))))))
  rw [e, fin_same]
end K17
set_option Elab.async false
set_option linter.all false
set_option maxRecDepth 100000
set_option maxHeartbeats 4000000
namespace K17
open PySem L2 VL PyProof.Rows
/-! ### joining is the same from either side -/
theorem clashB_iff {os : List Row} (ho : Uniq os) {r : Row} : clashB os r = true ↔ ∃ w, lkp os r.key = some w ∧ w ≠ r.v := by
  unfold clashB
  cases lkp os r.key with
  | none => simp
  | some w => simp
theorem find_min {xs : List Row} (h : xs.Pairwise fun a b => rLe a b = true) {p : Row → Bool} {r : Row} (hf : xs.find? p = some r) : r ∈ xs ∧ p r = true ∧ ∀ r2 ∈ xs, p r2 = true → rLe r r2 = true := by
  rw [List.find?_eq_some_iff_append] at hf
  obtain ⟨hp, as, bs, rfl, hn⟩ := hf
  refine ⟨by simp, hp, fun r2 h2 hp2 => ?_⟩
  rcases List.mem_append.mp h2 with h2 | h2
  · have := hn r2 h2
    rw [hp2] at this
    cases this
  · rcases List.mem_cons.mp h2 with rfl | h2
    · exact kLe_refl _
    · exact (List.pairwise_cons.mp (List.pairwise_append.mp h).2.1).1 r2 h2
theorem clash_sym {rs os : List Row} (hr : Uniq rs) (ho : Uniq os) {r : Row} (h : r ∈ rs) (hc : clashB os r = true) : ∃ r2 ∈ os, r2.key = r.key ∧ clashB rs r2 = true := by
  obtain ⟨w, hw, hne⟩ := (clashB_iff ho).mp hc
  have hm := (lkp_some ho).mp hw
  refine ⟨⟨r.key.1, r.key.2, w⟩, hm, rfl, (clashB_iff hr).mpr ⟨r.v, lkp_row hr h, fun z => hne z.symm⟩⟩
theorem find_sym {rs os : List Row} (hr : Uniq rs) (ho : Uniq os) {r : Row} (hf : (srt rs).find? (clashB os) = some r) : ∃ r2, (srt os).find? (clashB rs) = some r2 ∧ r2.key = r.key := by
  obtain ⟨h1, h2, h3⟩ := find_min (srt_sorted rs) hf
  obtain ⟨q, hq, hk, hc⟩ := clash_sym hr ho (srt_mem.mp h1) h2
  cases hg : (srt os).find? (clashB rs) with
  | none =>
    rw [List.find?_eq_none] at hg
    exact absurd hc (hg q (srt_mem.mpr hq))
  | some r2 =>
    obtain ⟨g1, g2, g3⟩ := find_min (srt_sorted os) hg
    refine ⟨r2, rfl, ?_⟩
    have l1 : kLe r2.key r.key = true := by rw [← hk]; exact g3 q (srt_mem.mpr hq) hc
    obtain ⟨q2, hq2, hk2, hc2⟩ := clash_sym ho hr (srt_mem.mp g1) g2
    have l2 : kLe r.key r2.key = true := by rw [← hk2]; exact h3 q2 (srt_mem.mpr hq2) hc2
    exact kLe_anti l1 l2
theorem find_none_sym {rs os : List Row} (hr : Uniq rs) (ho : Uniq os) (hf : (srt rs).find? (clashB os) = none) : (srt os).find? (clashB rs) = none := by
  cases hg : (srt os).find? (clashB rs) with
  | none => rfl
  | some r2 =>
    obtain ⟨q, hq, _⟩ := find_sym ho hr hg
    rw [hf] at hq
    cases hq
/-- no clash: the members are those of both -/
theorem orL_mem {rs os : List Row} (hr : Uniq rs) (ho : Uniq os) (hf : (srt rs).find? (clashB os) = none) {r : Row} : r ∈ orL rs os ↔ r ∈ rs ∨ r ∈ os := by
  unfold orL
  rw [List.mem_append, srt_mem, List.mem_filter, srt_mem]
  constructor
  · rintro (h | h)
    · exact .inl h
    · exact .inr h.1
  · rintro (h | h)
    · exact .inl h
    · by_cases hn : newB rs r = true
      · exact .inr ⟨h, hn⟩
      · rw [newB_key] at hn
        have hn' : r.key ∈ rs.map Row.key := Classical.byContradiction hn
        obtain ⟨q, hq, hk⟩ := List.mem_map.mp hn'
        rw [List.find?_eq_none] at hf
        have hc := hf q (srt_mem.mpr hq)
        have hv : lkp os q.key = some r.v := by rw [hk]; exact lkp_row ho h
        have : q.v = r.v := by
          by_cases hne : r.v = q.v
          · exact hne.symm
          · exact absurd ((clashB_iff ho).mpr ⟨r.v, hv, hne⟩) hc
        have e : q = r := by
          obtain ⟨a, b, c⟩ := q
          obtain ⟨a', b', c'⟩ := r
          have h1 := (Prod.mk.inj hk).1
          have h2 := (Prod.mk.inj hk).2
          simp only at h1 h2 this
          subst h1 h2 this
          rfl
        rw [← e]
        exact .inl hq
theorem orL_sym {rs os : List Row} (hr : Uniq rs) (ho : Uniq os) (hf : (srt rs).find? (clashB os) = none) : srt (orL rs os) = srt (orL os rs) := by
  refine srt_eq (orL_uniq hr ho) (perm_of_mem (orL_uniq hr ho) (orL_uniq ho hr) fun r => ?_)
  rw [orL_mem hr ho hf, orL_mem ho hr (find_none_sym hr ho hf)]
  exact Or.comm
theorem due_sym {rs os : List Row} (hr : Uniq rs) (ho : Uniq os) : dueR os rs = dueR rs os := by
  unfold dueR
  cases hf : (srt rs).find? (clashB os) with
  | none => rw [find_none_sym hr ho hf]; dsimp only; rw [orL_sym hr ho hf]
  | some r =>
    obtain ⟨r2, h1, h2⟩ := find_sym hr ho hf
    rw [h1]
    dsimp only
    rw [h2]
theorem join_due {rs os : List Row} (hl : (orL rs os).length ≤ 5000) : joinR rs os = dueR rs os := by
  unfold joinR dueR
  cases (srt rs).find? (clashB os) with
  | some r => rfl
  | none => dsimp only; rw [if_neg (by omega)]
theorem orL_le {rs os : List Row} (h : rs.length + os.length ≤ 5000) : (orL rs os).length ≤ 5000 := by
  unfold orL
  rw [List.length_append, srt_len]
  have h1 := List.length_filter_le (newB rs) (srt os)
  rw [srt_len] at h1
  omega
/-- joined with a part of it -/
theorem due_part {U rs : List Row} (hU : Uniq U) (hr : Uniq rs) (hs : ∀ r ∈ rs, r ∈ U) : dueR U rs = toldD (srt U) ∧ (orL U rs).length = U.length := by
  have hn : (srt U).find? (clashB rs) = none := by
    rw [List.find?_eq_none]
    intro r hm hc
    obtain ⟨w, hw, hne⟩ := (clashB_iff hr).mp hc
    have h1 := hs _ ((lkp_some hr).mp hw)
    have h2 := lkp_row hU h1
    have h3 := lkp_row hU (srt_mem.mp hm)
    have h4 : lkp U r.key = some w := h2
    rw [h3] at h4
    exact hne (Option.some.inj h4).symm
  have hp : (orL U rs).Perm U := perm_of_mem (orL_uniq hU hr) hU fun r => by
    rw [orL_mem hU hr hn]
    exact ⟨fun h => h.elim id (hs r), .inl⟩
  refine ⟨?_, hp.length_eq⟩
  unfold dueR
  rw [hn]
  dsimp only
  rw [srt_eq (orL_uniq hU hr) hp]
theorem lkp_mem {rs : List Row} (h : Uniq rs) (r : Row) : decide (lkp rs r.key = some r.v) = decide (r ∈ rs) := by
  rw [Bool.eq_iff_iff, decide_eq_true_eq, decide_eq_true_eq]
  exact lkp_some h
theorem plain_key {k : Key} (h : k.2.length ≤ 10000) : plainN 2 (keyOfD k) := plain_t2 (plain_s 1 _) (plain_ns h)
theorem plain_clash {k : Key} (h : k.2.length ≤ 10000) : plainN 3 (clashD k) := ⟨by simp, fun d hd => by
  simp only [List.mem_cons, List.not_mem_nil, or_false] at hd
  rcases hd with rfl | rfl | rfl | rfl | rfl
  · exact plain_s 2 _
  · exact plain_s 2 _
  · exact plain_key h
  · exact plain_b 2 _
  · exact plain_b 2 _⟩
theorem plain_told {rs : List Row} (h : ∀ r ∈ rs, RowOk r) (hl : rs.length ≤ 10000) : plainN 4 (toldD rs) := plain_t2 (plain_s 3 _) (plain_rows h hl)
theorem plain_due {rs os : List Row} (h : Good rs) (ho : Good os) : plainN 4 (dueR rs os) := by
  unfold dueR
  cases hf : (srt rs).find? (clashB os) with
  | some r =>
    have hm := srt_mem.mp (List.mem_of_find?_eq_some hf)
    exact plain_le (by omega) (plain_clash (k := r.key) (by have := (h.ok r hm).n6; show r.ns.length ≤ _; omega))
  | none => exact plain_told (fun r hr => orL_ok h.ok ho.ok r (srt_mem.mp hr)) (by rw [srt_len]; exact orL_len h ho)
end K17
set_option Elab.async false
set_option linter.all false
set_option maxRecDepth 100000
set_option maxHeartbeats 4000000
namespace K17
open PySem L2 VL PyProof.Rows
theorem args1 {a : MV} {env : VL.Env} {st : Store} {s : SV} (h : a env st = .ok s st) : mCons a mNil env st = .ok [s] st := by simp only [mCons, mNil, h, bind_ok]
theorem within_at (n : Nat) (st : Store) {rs os : List Row} (h : Good rs) (ho : Good os) {mo ma : MV} {env : VL.Env} (h1 : mo env st = .ok (.d (gD rs)) st) (h2 : ma env st = .ok (.d (gD os)) st) :
    mMeth 7 "within" (rn (n + 2) .Guesses_within) mo (mCons ma mNil) env st = .ok (.d (.bl (rs.all fun r => decide (r ∈ os)))) st := by
  have hw := within_ok n st rs os ho.un ho.sz h.sz
  rw [all_srt] at hw
  have e : (rs.all fun r => decide (lkp os r.key = some r.v)) = rs.all fun r => decide (r ∈ os) := by
    congr 1
    funext r
    exact lkp_mem ho.un r
  rw [e] at hw
  exact (meth_g (run := rn (n + 2) .Guesses_within) no_within h1 (args1 h2)).trans hw
theorem binO_at {run : VL.Run} (st : Store) {rs os : List Row} {ma mb : MV} {env : VL.Env} (h1 : ma env st = .ok (.d (gD rs)) st) (h2 : mb env st = .ok (.d (gD os)) st) : mBinO 7 run ma mb env st = run [.d (gD rs), .d (gD os)] st := by
  have hs : sOps 7 (.d (gD rs)) (.d (gD os)) st = true := rfl
  unfold mBinO
  rw [h1]
  simp only [bind_ok]
  rw [h2]
  simp only [bind_ok, hs, if_true]
theorem frz_d {m : MV} {env : VL.Env} {st st1 : Store} {x : D} (h : m env st = .ok (.d x) st1) : mFrz m env st = .ok (.d x) st1 := by unfold mFrz; rw [h]; rfl
theorem or_told (n : Nat) (st : Store) {rs os : List Row} (h : Good rs) (ho : Good os) (hf : (srt rs).find? (clashB os) = none) (hl : (orL rs os).length ≤ 5000) : rn (n + 5) .Guesses___or__ [.d (gD rs), .d (gD os)] st = .ok (.d (gD (orL rs os))) st := by
  rw [or_run n st h ho, hf]
  dsimp only
  rw [if_neg (by omega)]
theorem idx_t0 (a b : D) : idxD2 (.tup [a, b]) (.int 0) = some a := by simp [idxD2, idxD, atI, ixN]
theorem idx_t1 (a b : D) : idxD2 (.tup [a, b]) (.int 1) = some b := by simp [idxD2, idxD, atI, ixN]
theorem idx_c0 (k : Key) : idxD2 (clashD k) (.int 0) = some (.str "refused") := by simp [clashD, idxD2, idxD, atI, ixN]
theorem true_if {m : MV} {env : VL.Env} {st st1 : Store} (h : m env st = .ok (.d (.bl true)) st1) : mIfS (mNot (mTruth m)) (mRet (mC (.bl false))) mNext env st = .nx env st1 := by
  rw [if_no (not_ok (truth_ok h (d := .bl true) rfl rfl))]
  rfl
theorem andV_t {a b : MV} {env : VL.Env} {st st1 : Store} (h : a env st = .ok (.d (.bl true)) st1) : mAndV a b env st = b env st1 := by unfold mAndV; rw [h]; rfl
theorem two_right_ok (n : Nat) (st : Store) {rs os : List Row} (h : Good rs) (ho : Good os) (hl : rs.length + os.length ≤ 5000) :
    rn (n + 9) ._law_two_right [.d (gD rs), .d (.lst (rs.map rowD)), .d (gD os), .d (.lst (os.map rowD))] st = .ok (.d (.bl true)) st := by
  show fin st (m__law_two_right (rn (n + 8)) recX0 [some (.d (gD rs)), some (.d (.lst (rs.map rowD))), some (.d (gD os)), some (.d (.lst (os.map rowD))), none, none, none] st) = _
  have hU := orL_le hl
  have hU2 : (orL os rs).length ≤ 5000 := orL_le (by omega)
  have j1 : joinR rs os = dueR rs os := join_due hU
  have j2 : joinR os rs = dueR rs os := (join_due hU2).trans (due_sym h.un ho.un)
  have hp := plain_due h ho
  have hpair := pair_run (n + 1) st h ho
  rw [j1, j2] at hpair
  have e : m__law_two_right (rn (n + 8)) recX0 [some (.d (gD rs)), some (.d (.lst (rs.map rowD))), some (.d (gD os)), some (.d (.lst (os.map rowD))), none, none, none] st = .rt (.d (.bl true)) st := by
    refine seq_n (asg_ok ((call2 rfl rfl).trans (due_ok (n + 5) st h ho))) ?_
    refine seq_n (same_if (k := n + 7) (x := .tup [dueR rs os, dueR rs os]) ((call2 rfl rfl).trans hpair) (tup2 rfl rfl) (plain_le (by omega) (plain_t2 hp hp))) ?_
    refine seq_n (asg_ok (tup2 (within_at (n + 6) st h ho rfl rfl) (within_at (n + 6) st ho h rfl rfl))) ?_
    refine seq_n (same_if (k := n + 7) (x := .tup [.bl (rs.all fun r => decide (r ∈ os)), .bl (os.all fun r => decide (r ∈ rs))]) rfl (tup2 ((call2 rfl rfl).trans (part_ok (n + 7) st h ho)) ((call2 rfl rfl).trans (part_ok (n + 7) st ho h))) (plain_t2 (plain_b _ _) (plain_b _ _))) ?_
    have fin2 : ∀ t u : Option SV, mRet (mAndV (mCall (rn (n + 8) ._law_is_right) (mCons (mVar 0) (mCons (mVar 1) mNil))) (mCall (rn (n + 8) ._law_is_right) (mCons (mVar 2) (mCons (mVar 3) mNil)))) [some (.d (gD rs)), some (.d (.lst (rs.map rowD))), some (.d (gD os)), some (.d (.lst (os.map rowD))), some (.d (dueR rs os)), t, u] st = .rt (.d (.bl true)) st := fun t u =>
      ret_ok ((andV_t ((call2 rfl rfl).trans (right_ok (n + 2) st h (List.Perm.refl _)))).trans ((call2 rfl rfl).trans (right_ok (n + 2) st ho (List.Perm.refl _))))
    cases hf : (srt rs).find? (clashB os) with
    | some r =>
      have hd : dueR rs os = clashD r.key := by unfold dueR; rw [hf]
      have c : mBin eqD (mBin idxD2 (mVar 4) (mC (.int 0))) (mC (.str "told")) [some (.d (gD rs)), some (.d (.lst (rs.map rowD))), some (.d (gD os)), some (.d (.lst (os.map rowD))), some (.d (dueR rs os)), some (.d (.tup [.bl (rs.all fun r => decide (r ∈ os)), .bl (os.all fun r => decide (r ∈ rs))])), none] st = .ok (.d (.bl false)) st :=
        bin_ok (bin_ok rfl rfl rfl rfl (by rw [hd]; exact idx_c0 _)) rfl rfl rfl (by rw [eqD_str, decide_eq_false (show ¬ (("refused" : Str) = "told") by decide +kernel)])
      exact seq_n ((if_no (test_ok c)).trans rfl) (fin2 _ _)
    | none =>
      have hd : dueR rs os = toldD (srt (orL rs os)) := by unfold dueR; rw [hf]
      have hf2 := find_none_sym h.un ho.un hf
      have gU := orL_good h ho hU
      have gU2 := orL_good ho h hU2
      have c : mBin eqD (mBin idxD2 (mVar 4) (mC (.int 0))) (mC (.str "told")) [some (.d (gD rs)), some (.d (.lst (rs.map rowD))), some (.d (gD os)), some (.d (.lst (os.map rowD))), some (.d (dueR rs os)), some (.d (.tup [.bl (rs.all fun r => decide (r ∈ os)), .bl (os.all fun r => decide (r ∈ rs))])), none] st = .ok (.d (.bl true)) st :=
        bin_ok (bin_ok rfl rfl rfl rfl (by rw [hd]; exact idx_t0 _ _)) rfl rfl rfl (by rw [eqD_str, decide_eq_true (show (("told" : Str) = "told") by rfl)])
      have mU : ∀ r, r ∈ orL rs os ↔ r ∈ rs ∨ r ∈ os := fun r => orL_mem h.un ho.un hf
      have sub1 : ∀ r ∈ rs, r ∈ orL rs os := fun r hr => (mU r).mpr (.inl hr)
      have sub2 : ∀ r ∈ os, r ∈ orL rs os := fun r hr => (mU r).mpr (.inr hr)
      obtain ⟨dp, dl⟩ := due_part gU.un h.un sub1
      have hpr := pair_run (n + 1) st gU h
      have dl2 : (orL rs (orL rs os)).length ≤ 5000 := by
        have : (orL rs (orL rs os)).Perm (orL (orL rs os) rs) := by
          have hn : (srt (orL rs os)).find? (clashB rs) = none := by
            cases hq : (srt (orL rs os)).find? (clashB rs) with
            | none => rfl
            | some q =>
              have z := dp
              unfold dueR at z
              rw [hq] at z
              cases z
          refine perm_of_mem (orL_uniq h.un gU.un) (orL_uniq gU.un h.un) fun r => ?_
          rw [orL_mem h.un gU.un (find_none_sym gU.un h.un hn), orL_mem gU.un h.un hn]
          exact Or.comm
        rw [this.length_eq, dl]
        exact hU
      rw [join_due (by rw [dl]; exact hU), join_due dl2, due_sym gU.un h.un, dp, ← hd] at hpr
      have w1 : (rs.all fun r => decide (r ∈ orL rs os)) = true := List.all_eq_true.mpr fun r hr => decide_eq_true (sub1 r hr)
      have w2 : (os.all fun r => decide (r ∈ orL rs os)) = true := List.all_eq_true.mpr fun r hr => decide_eq_true (sub2 r hr)
      have w3 : ((orL rs os).all fun r => decide (r ∈ rs)) = os.all fun r => decide (r ∈ rs) := by
        rw [Bool.eq_iff_iff, List.all_eq_true, List.all_eq_true]
        constructor
        · intro hh r hr
          exact hh r (sub2 r hr)
        · intro hh r hr
          rcases (mU r).mp hr with z | z
          · exact decide_eq_true z
          · exact hh r z
      have wa := within_at (n + 6) st (rs := rs) (os := orL rs os) h gU (mo := mVar 0) (ma := mVar 6) (env := [some (.d (gD rs)), some (.d (.lst (rs.map rowD))), some (.d (gD os)), some (.d (.lst (os.map rowD))), some (.d (dueR rs os)), some (.d (.tup [.bl (rs.all fun r => decide (r ∈ os)), .bl (os.all fun r => decide (r ∈ rs))])), some (.d (gD (orL rs os)))]) rfl rfl
      have wb := within_at (n + 6) st (rs := os) (os := orL rs os) ho gU (mo := mVar 2) (ma := mVar 6) (env := [some (.d (gD rs)), some (.d (.lst (rs.map rowD))), some (.d (gD os)), some (.d (.lst (os.map rowD))), some (.d (dueR rs os)), some (.d (.tup [.bl (rs.all fun r => decide (r ∈ os)), .bl (os.all fun r => decide (r ∈ rs))])), some (.d (gD (orL rs os)))]) rfl rfl
      have wc := within_at (n + 6) st (rs := orL rs os) (os := rs) gU h (mo := mVar 6) (ma := mVar 0) (env := [some (.d (gD rs)), some (.d (.lst (rs.map rowD))), some (.d (gD os)), some (.d (.lst (os.map rowD))), some (.d (dueR rs os)), some (.d (.tup [.bl (rs.all fun r => decide (r ∈ os)), .bl (os.all fun r => decide (r ∈ rs))])), some (.d (gD (orL rs os)))]) rfl rfl
      rw [w1] at wa
      rw [w2] at wb
      rw [w3] at wc
      have hteq : txt (srt (orL rs os)) = txt (srt (orL os rs)) := by rw [orL_sym h.un ho.un hf]
      refine seq_n (env' := [some (.d (gD rs)), some (.d (.lst (rs.map rowD))), some (.d (gD os)), some (.d (.lst (os.map rowD))), some (.d (dueR rs os)), some (.d (.tup [.bl true, .bl true, .bl (os.all fun r => decide (r ∈ rs))])), some (.d (gD (orL rs os)))]) (st' := st) ((if_yes (test_ok c)).trans ?_) (fin2 _ _)
      refine seq_n (asg_ok (frz_d ((binO_at st rfl rfl).trans (or_told (n + 3) st h ho hf hU)))) ?_
      refine seq_n (true_if ((call2 rfl (mB1 (bin_ok rfl rfl rfl rfl (by rw [hd]; exact idx_t1 _ _)) rfl rfl)).trans (right_ok (n + 2) st gU (srt_perm _)))) ?_
      refine seq_n (same_if (k := n + 7) (x := .tup [dueR rs os, dueR rs os]) ((call2 rfl rfl).trans hpr) (tup2 rfl rfl) (plain_le (by omega) (plain_t2 hp hp))) ?_
      refine seq_n (asg_ok (tup3 wa wb wc)) ?_
      refine seq_n (same_if (k := n + 7) (x := .tup [.bl true, .bl true, .bl (os.all fun r => decide (r ∈ rs))]) rfl (tup3 rfl rfl ((call2 rfl rfl).trans (part_ok (n + 7) st ho h))) (plain_t3 (plain_b _ _) (plain_b _ _) (plain_b _ _))) ?_
      exact same_if (k := n + 7) (x := .bl true) ((binO_at st rfl (frz_d ((binO_at st rfl rfl).trans (or_told (n + 3) st ho h hf2 hU2)))).trans (eq_ok (n + 7) st _ _ hteq)) rfl (plain_b _ _)
  rw [e, fin_same]
end K17
set_option Elab.async false
set_option linter.all false
set_option maxRecDepth 100000
set_option maxHeartbeats 4000000
namespace K17
open PySem L2 VL PyProof.Rows
/-! ### drawing numbers, within a def -/
section
variable {st t : Store} {l : Nat} {c : Cell}
theorem in_get (hl : l < st.length) : (List.set st l c ++ t)[l]? = some c := by
  rw [List.getElem?_append_left (by simpa using hl), List.getElem?_set_self hl]
theorem in_set {c' : Cell} (hl : l < st.length) : List.set (List.set st l c ++ t) l c' = List.set st l c' ++ t := by
  rw [List.set_append_left _ _ (by simpa using hl), List.set_set]
theorem take_in (n : Nat) (hl : l < st.length) (hc : Pc c) {k : Int} (hk : 0 < k) (hk2 : k < 1073741824) :
    ∃ d c', rn (n + 1) ._law_take [.own l, .d (.int k)] (List.set st l c ++ t) = .ok (.d (.int d)) (List.set st l c' ++ t) ∧ Pc c' ∧ 0 ≤ d ∧ d < k := by
  obtain ⟨d, c', h1, h2, h3, h4⟩ := take_ok n (st := List.set st l c ++ t) (l := l) (in_get hl) hc hk hk2
  exact ⟨d, c', by rw [h1, in_set hl], h2, h3, h4⟩
end
theorem trOk_in {st t : Store} {l : Nat} {c : Cell} (hc : Pc c) : TrOk st (List.set st l c ++ t) := by
  refine ⟨by simp, fun j hj => ?_⟩
  rw [List.getElem?_append_left (by simpa using hj)]
  exact (trOk_set (st := st) (l := l) hc.obj).2 j hj
theorem fin_in {st t : Store} {l : Nat} {c : Cell} {x : D} (hc : Pc c) : fin st (.rt (.d x) (List.set st l c ++ t)) = .ok (.d x) (List.set st l c) := by
  rw [fin_d (trOk_in hc)]
  congr 1
  have : st.length = (List.set st l c).length := by simp
  rw [this]
  simp
theorem set_get {st : Store} {l : Nat} {c : Cell} (h : st[l]? = some c) : List.set st l c ++ [] = st := by rw [List.append_nil]; exact VL.set_same h
theorem idx_list {ds : List D} {d : Int} (h0 : 0 ≤ d) (h1 : d < ds.length) : ∃ x ∈ ds, idxD2 (.lst ds) (.int d) = some x := by
  obtain ⟨j, rfl⟩ := Int.eq_ofNat_of_zero_le h0
  have hj : j < ds.length := by omega
  exact ⟨ds[j], List.getElem_mem hj, idx_lst hj⟩
theorem lt_len {st : Store} {l : Nat} {c : Cell} (h : st[l]? = some c) : l < st.length := (List.getElem?_eq_some_iff.mp h).1
def bigs : List D := [.int 99999, .int 99998, .int 100, .int 1000, .int 12345]
theorem bigs_ok {x : D} (h : x ∈ bigs) : ∃ v : Int, x = .int v ∧ 0 ≤ v ∧ v ≤ 99999 := by
  simp only [bigs, List.mem_cons, List.not_mem_nil, or_false] at h
  rcases h with rfl | rfl | rfl | rfl | rfl <;> exact ⟨_, rfl, by decide, by decide⟩
theorem number_ok (n : Nat) {st : Store} {l : Nat} {c : Cell} (hl : st[l]? = some c) (hc : Pc c) : ∃ v c', rn (n + 2) ._law_number [.own l] st = .ok (.d (.int v)) (List.set st l c') ∧ Pc c' ∧ 0 ≤ v ∧ v ≤ 99999 := by
  have hlt := lt_len hl
  obtain ⟨d, c1, h1, p1, d0, d1⟩ := take_in (st := st) (t := []) n hlt hc (k := 13) (by decide) (by decide)
  rw [set_get hl] at h1
  have i1 : mAsg 1 (mCall (rn (n + 1) ._law_take) (mCons (mVar 0) (mCons (mC (.int 13)) mNil))) [some (.own l), none] st = .nx [some (.own l), some (.d (.int d))] (List.set st l c1 ++ []) := asg_ok ((call2 rfl rfl).trans h1)
  have c2 : mTest (mBin ltD (mVar 1) (mC (.int 12))) [some (.own l), some (.d (.int d))] (List.set st l c1 ++ []) = .ok (decide (d < 12)) (List.set st l c1 ++ []) := test_ok (bin_ok rfl rfl rfl rfl (ltD_int _ _))
  by_cases hd : d < 12
  · rw [decide_eq_true hd] at c2
    refine ⟨d, c1, ?_, p1, d0, by omega⟩
    show fin st (m__law_number (rn (n + 1)) recX0 [some (.own l), none] st) = _
    have e : m__law_number (rn (n + 1)) recX0 [some (.own l), none] st = .rt (.d (.int d)) (List.set st l c1 ++ []) := seq_n i1 (seq_rt ((if_yes c2).trans rfl))
    rw [e, fin_in p1]
  · rw [decide_eq_false hd] at c2
    obtain ⟨d2, c3, h3, p3, e0, e1⟩ := take_in (st := st) (t := []) n hlt p1 (k := 5) (by decide) (by decide)
    obtain ⟨x, hx, hix⟩ := idx_list (ds := bigs) e0 (by show d2 < 5; exact e1)
    obtain ⟨v, rfl, v0, v1⟩ := bigs_ok hx
    refine ⟨v, c3, ?_, p3, v0, v1⟩
    show fin st (m__law_number (rn (n + 1)) recX0 [some (.own l), none] st) = _
    have hb : mLst (mCons (mC (.int 99999)) (mCons (mC (.int 99998)) (mCons (mC (.int 100)) (mCons (mC (.int 1000)) (mCons (mC (.int 12345)) mNil))))) [some (.own l), some (.d (.int d))] (List.set st l c1 ++ []) = .ok (.d (.lst bigs)) (List.set st l c1 ++ []) := by
      simp only [mLst, mCons, mNil, mC, bind_ok, datas, List.length_cons, List.length_nil, Nat.zero_add, Nat.reduceAdd, if_pos sz5]
      rfl
    have e : m__law_number (rn (n + 1)) recX0 [some (.own l), none] st = .rt (.d (.int v)) (List.set st l c3 ++ []) :=
      seq_n i1 (seq_n ((if_no c2).trans rfl) (ret_ok (bin_ok hb ((call2 rfl rfl).trans h3) rfl rfl hix)))
    rw [e, fin_in p3]
theorem number_in (n : Nat) {st t : Store} {l : Nat} {c : Cell} (hl : l < st.length) (hc : Pc c) : ∃ v c', rn (n + 2) ._law_number [.own l] (List.set st l c ++ t) = .ok (.d (.int v)) (List.set st l c' ++ t) ∧ Pc c' ∧ 0 ≤ v ∧ v ≤ 99999 := by
  obtain ⟨v, c', h1, h2, h3, h4⟩ := number_ok n (st := List.set st l c ++ t) (l := l) (in_get hl) hc
  exact ⟨v, c', by rw [h1, in_set hl], h2, h3, h4⟩
/-! ### names -/
def menu : List D := [.str "Low", .str "Ca", .str "Pick", .str "Cab", .str "Cb", .str "Zz", .str "Abcdefgh"]
theorem nm_by {x : Str} {c : Nat} {cs : List Nat} (h : x.cps.toList = c :: cs) (hc : c ∈ CAPS.cps.toList) (h1 : 1 ≤ cs.length) (h2 : cs.length ≤ 7) (h3 : ∀ d ∈ cs, d ∈ SMALL.cps.toList) : NmOk x := ⟨c, cs, h, hc, h1, h2, h3⟩
theorem menu_ok {x : D} (h : x ∈ menu) : ∃ y : Str, x = .str y ∧ NmOk y := by
  simp only [menu, List.mem_cons, List.not_mem_nil, or_false] at h
  rcases h with rfl | rfl | rfl | rfl | rfl | rfl | rfl
  · exact ⟨_, rfl, nm_by (c := 76) (cs := [111, 119]) (by decide +kernel) (by decide +kernel) (by decide) (by decide) (by decide +kernel)⟩
  · exact ⟨_, rfl, nm_by (c := 67) (cs := [97]) (by decide +kernel) (by decide +kernel) (by decide) (by decide) (by decide +kernel)⟩
  · exact ⟨_, rfl, nm_by (c := 80) (cs := [105, 99, 107]) (by decide +kernel) (by decide +kernel) (by decide) (by decide) (by decide +kernel)⟩
  · exact ⟨_, rfl, nm_by (c := 67) (cs := [97, 98]) (by decide +kernel) (by decide +kernel) (by decide) (by decide) (by decide +kernel)⟩
  · exact ⟨_, rfl, nm_by (c := 67) (cs := [98]) (by decide +kernel) (by decide +kernel) (by decide) (by decide) (by decide +kernel)⟩
  · exact ⟨_, rfl, nm_by (c := 90) (cs := [122]) (by decide +kernel) (by decide +kernel) (by decide) (by decide) (by decide +kernel)⟩
  · exact ⟨_, rfl, nm_by (c := 65) (cs := [98, 99, 100, 101, 102, 103, 104]) (by decide +kernel) (by decide +kernel) (by decide) (by decide) (by decide +kernel)⟩
/-- a sign of a text -/
theorem idx_sign {x : Str} {d : Int} (hz : x.length ≤ 1000) (h0 : 0 ≤ d) (h1 : d < x.length) : ∃ c ∈ x.cps.toList, idxD2 (.str x) (.int d) = some (.str ⟨#[c]⟩) := by
  obtain ⟨j, rfl⟩ := Int.eq_ofNat_of_zero_le h0
  have hj : j < x.cps.toList.length := by
    have : x.cps.toList.length = x.length := by simp [Str.length]
    omega
  refine ⟨x.cps.toList[j], List.getElem_mem hj, ?_⟩
  have e : idxD2 (.str x) (.int (j : Nat)) = (if x.length ≤ sizeLine then (atI x.cps.toList (j : Nat)).map fun c => D.str ⟨#[c]⟩ else none) := rfl
  have hz2 : x.length ≤ sizeLine := by rw [sizeLine_eq]; omega
  rw [e, if_pos hz2]
  have h2 : atI x.cps.toList (j : Nat) = some x.cps.toList[j] := by
    unfold atI ixN
    rw [if_pos (Int.natCast_nonneg j), if_pos (by omega)]
    simp
  rw [h2]
  rfl
theorem caps_len : CAPS.length = 26 := by decide +kernel
theorem small_len : SMALL.length = 26 := by decide +kernel
end K17
set_option Elab.async false
set_option linter.all false
set_option maxRecDepth 100000
set_option maxHeartbeats 4000000
namespace K17
open PySem L2 VL PyProof.Rows
section
variable {st : Store} {l : Nat} {c x y : Cell}
theorem last_get : (List.set st l c ++ [x])[st.length]? = some x := by
  rw [List.getElem?_append_right (by simp)]
  simp
theorem last_set : List.set (List.set st l c ++ [x]) st.length y = List.set st l c ++ [y] := by
  rw [List.set_append_right _ _ (by simp)]
  simp
end
theorem append_ok2 {mo me : MV} {env : VL.Env} {st st2 st' : Store} {l : Nat} {b : Bool} {d0 ds : List D} {x : D} (ho : mo env st = .ok (.own l) st) (hl : st[l]? = some (.lst b d0)) (he : me env st = .ok (.d x) st2) (hl2 : st2[l]? = some (.lst true ds)) (hz : ds.length < sizeLine) (hs : List.set st2 l (.lst true (ds ++ [x])) = st') : mDrop (mAppend mo me) env st = .nx env st' := by
  unfold mDrop mAppend
  rw [ho]
  simp only [bind_ok]
  rw [hl]
  dsimp only
  rw [he]
  simp only [bind_ok]
  rw [hl2]
  dsimp only
  rw [if_pos hz, hs]
  rfl
theorem addI (a b : Int) : addD (.int a) (.int b) = some (.int (a + b)) := rfl
theorem intI (a : Int) : intD [.int a] = some (.int a) := rfl
theorem modI {a b : Int} (h : b ≠ 0) : modD (.int a) (.int b) = some (.int (a.fmod b)) := by
  unfold modD
  dsimp only
  rw [if_pos h]
/-- int(take(p, many) + e) % many -/
theorem mod_in (n : Nat) {st t : Store} {l : Nat} {c : Cell} (hl : l < st.length) (hc : Pc c) {m1 : Int} (hm : 0 < m1) (hm2 : m1 < 1073741824) {env : VL.Env} {me : MV} {u : Int} (h0 : env[0]? = some (some (.own l))) (he : ∀ s, me env s = .ok (.d (.int u)) s) :
    ∃ d c', mBin modD (mB intD (mCons (mBin addD (mCall (rn (n + 1) ._law_take) (mCons (mVar 0) (mCons (mC (.int m1)) mNil))) me) mNil)) (mC (.int m1)) env (List.set st l c ++ t) = .ok (.d (.int d)) (List.set st l c' ++ t) ∧ Pc c' ∧ 0 ≤ d ∧ d < m1 := by
  obtain ⟨d, c', h1, p1, d0, d1⟩ := take_in (st := st) (t := t) n hl hc hm hm2
  have hv : mVar 0 env (List.set st l c ++ t) = .ok (.own l) (List.set st l c ++ t) := by unfold mVar; rw [h0]
  exact ⟨_, c', bin_ok (mB1 (bin_ok ((call2 hv rfl).trans h1) (he _) rfl rfl (addI _ _)) rfl (intI _)) rfl rfl rfl (modI (by omega)), p1, Int.fmod_nonneg_of_pos _ hm, Int.fmod_lt_of_pos _ hm⟩
/-! ### a name -/
noncomputable def nameB (n : Nat) : MS := (mAsg 4 (mBin addD (mVar 4) (mBin idxD2 (mVar 3) (mCall (rn n ._law_take) (mCons (mVar 0) (mCons (mC (.int 26)) mNil))))))
def NmP (st : Store) (l : Nat) (turn : SV) (ch : Nat) (k : Nat) (env : VL.Env) (s : Store) : Prop := ∃ (c : Cell) (nm : Str) (cs : List Nat) (e5 : Option SV), env = [some (.own l), some turn, some (.d (.str CAPS)), some (.d (.str SMALL)), some (.d (.str nm)), e5, none, none] ∧ s = List.set st l c ++ [] ∧ Pc c ∧ nm.cps.toList = ch :: cs ∧ cs.length = k ∧ ∀ d ∈ cs, d ∈ SMALL.cps.toList
theorem name_step (n : Nat) (st : Store) {l : Nat} (hl : l < st.length) (turn : SV) (ch : Nat) (k : Nat) (hk : k < 7) (i : Int) {env : VL.Env} {s : Store} (h : NmP st l turn ch k env s) : ∃ env1 env2 st2, bindT (.nm 5) (.int i) env = some env1 ∧ nameB (n + 1) env1 s = .nx env2 st2 ∧ NmP st l turn ch (k + 1) env2 st2 := by
  obtain ⟨c, nm, cs, e5, rfl, rfl, hc, hn, hcl, hcs⟩ := h
  obtain ⟨d, c', h1, p1, d0, d1⟩ := take_in (st := st) (t := []) n hl hc (k := 26) (by decide) (by decide)
  obtain ⟨g, hg, hix⟩ := idx_sign (x := SMALL) (by rw [small_len]; decide) d0 (by rw [small_len]; exact d1)
  have hnl : nm.length = cs.length + 1 := by
    have : nm.length = nm.cps.toList.length := by simp [Str.length]
    rw [this, hn]; rfl
  have e1 : nameB (n + 1) [some (.own l), some turn, some (.d (.str CAPS)), some (.d (.str SMALL)), some (.d (.str nm)), some (.d (.int i)), none, none] (List.set st l c ++ []) = .nx [some (.own l), some turn, some (.d (.str CAPS)), some (.d (.str SMALL)), some (.d (.str (nm ++ ⟨#[g]⟩))), some (.d (.int i)), none, none] (List.set st l c' ++ []) :=
    asg_ok (bin_ok rfl (bin_ok rfl ((call2 rfl rfl).trans h1) rfl rfl hix) rfl rfl (addS (by rw [hnl]; show cs.length + 1 + 1 ≤ 100000; omega)))
  refine ⟨_, _, _, rfl, e1, c', nm ++ ⟨#[g]⟩, cs ++ [g], some (.d (.int i)), rfl, rfl, p1, ?_, by simp [hcl], fun d hd => ?_⟩
  · show (nm.cps ++ #[g]).toList = _
    rw [Array.toList_append, hn]
    rfl
  · rcases List.mem_append.mp hd with z | z
    · exact hcs d z
    · simp at z
      rw [z]
      exact hg
noncomputable def nameS (n : Nat) : MS := (mIfS (mTest (mBin eqD (mCall (rn n ._law_take) (mCons (mVar 0) (mCons (mC (.int 5)) mNil))) (mC (.int 4)))) (mSeq (mAsg 4 (mBin idxD2 (mVar 2) (mCall (rn n ._law_take) (mCons (mVar 0) (mCons (mC (.int 26)) mNil)))))
    (mFor (mRange1 (mBin addD (mC (.int 1)) (mCall (rn n ._law_take) (mCons (mVar 0) (mCons (mC (.int 7)) mNil))))) (.nm 5) (nameB n))) mNext)
theorem eqD_int (a b : Int) : eqD (.int a) (.int b) = some (.bl (decide (a = b))) := rfl
theorem name_ok (n : Nat) (st : Store) {l : Nat} (hl : l < st.length) (turn : SV) {c : Cell} (hc : Pc c) {nm : Str} (hn : NmOk nm) :
    ∃ c' nm' e5, nameS (n + 1) [some (.own l), some turn, some (.d (.str CAPS)), some (.d (.str SMALL)), some (.d (.str nm)), none, none, none] (List.set st l c ++ []) = .nx [some (.own l), some turn, some (.d (.str CAPS)), some (.d (.str SMALL)), some (.d (.str nm')), e5, none, none] (List.set st l c' ++ []) ∧ Pc c' ∧ NmOk nm' := by
  obtain ⟨d, c1, h1, p1, d0, d1⟩ := take_in (st := st) (t := []) n hl hc (k := 5) (by decide) (by decide)
  have t1 : mTest (mBin eqD (mCall (rn (n + 1) ._law_take) (mCons (mVar 0) (mCons (mC (.int 5)) mNil))) (mC (.int 4))) [some (.own l), some turn, some (.d (.str CAPS)), some (.d (.str SMALL)), some (.d (.str nm)), none, none, none] (List.set st l c ++ []) = .ok (decide (d = 4)) (List.set st l c1 ++ []) := test_ok (bin_ok ((call2 rfl rfl).trans h1) rfl rfl rfl (eqD_int _ _))
  by_cases hd : d = 4
  · rw [decide_eq_true hd] at t1
    obtain ⟨d2, c2, h2, p2, f0, f1⟩ := take_in (st := st) (t := []) n hl p1 (k := 26) (by decide) (by decide)
    obtain ⟨ch, hch, hix⟩ := idx_sign (x := CAPS) (by rw [caps_len]; decide) f0 (by rw [caps_len]; exact f1)
    have i1 : mAsg 4 (mBin idxD2 (mVar 2) (mCall (rn (n + 1) ._law_take) (mCons (mVar 0) (mCons (mC (.int 26)) mNil)))) [some (.own l), some turn, some (.d (.str CAPS)), some (.d (.str SMALL)), some (.d (.str nm)), none, none, none] (List.set st l c1 ++ []) = .nx [some (.own l), some turn, some (.d (.str CAPS)), some (.d (.str SMALL)), some (.d (.str ⟨#[ch]⟩)), none, none, none] (List.set st l c2 ++ []) := asg_ok (bin_ok rfl ((call2 rfl rfl).trans h2) rfl rfl hix)
    obtain ⟨d3, c3, h3, p3, g0', g1'⟩ := take_in (st := st) (t := []) n hl p2 (k := 7) (by decide) (by decide)
    obtain ⟨j, rfl⟩ := Int.eq_ofNat_of_zero_le g0'
    have hr : mBin addD (mC (.int 1)) (mCall (rn (n + 1) ._law_take) (mCons (mVar 0) (mCons (mC (.int 7)) mNil))) [some (.own l), some turn, some (.d (.str CAPS)), some (.d (.str SMALL)), some (.d (.str ⟨#[ch]⟩)), none, none, none] (List.set st l c2 ++ []) = .ok (.d (.int ((j + 1 : Nat) : Int))) (List.set st l c3 ++ []) :=
      bin_ok rfl ((call2 rfl rfl).trans h3) rfl rfl (by rw [addI]; congr 2; omega)
    obtain ⟨env', s', hloop, c4, nm', cs, e5, rfl, rfl, p4, hn4, hl4, hs4⟩ := for_invN (t := .nm 5) (b := nameB (n + 1)) 7 (NmP st l turn ch) (ds := rangeD 0 (j + 1)) 0 (by unfold rangeD; rw [List.length_map, List.length_range]; omega)
      (fun dd hd k env s hk hP => by
        obtain ⟨i, _, rfl⟩ := rangeD_mem hd
        exact name_step n st hl turn ch k hk i hP) [some (.own l), some turn, some (.d (.str CAPS)), some (.d (.str SMALL)), some (.d (.str ⟨#[ch]⟩)), none, none, none] (List.set st l c3 ++ []) ⟨c3, ⟨#[ch]⟩, [], none, rfl, rfl, p3, rfl, rfl, fun d hd => nomatch hd⟩
    have hl5 : cs.length = j + 1 := by
      rw [hl4]
      unfold rangeD
      rw [List.length_map, List.length_range]
      omega
    refine ⟨c4, nm', e5, ?_, p4, nm_by hn4 hch (by omega) (by omega) hs4⟩
    exact (if_yes t1).trans (seq_n i1 ((for_run (range_ok hr (by omega))).trans hloop))
  · rw [decide_eq_false hd] at t1
    exact ⟨c1, nm, none, (if_no t1).trans rfl, p1, hn⟩
/-! ### numbers -/
noncomputable def numB (n : Nat) : MS := (mDrop (mAppend (mVar 6) (mCall (rn n ._law_number) (mCons (mVar 0) mNil))))
def NuP (st : Store) (l : Nat) (turn : SV) (nm : Str) (k : Nat) (env : VL.Env) (s : Store) : Prop := ∃ (c : Cell) (ns : List Int) (e5 : Option SV), env = [some (.own l), some turn, some (.d (.str CAPS)), some (.d (.str SMALL)), some (.d (.str nm)), e5, some (.own st.length), none] ∧ s = List.set st l c ++ [.lst true (ns.map .int)] ∧ Pc c ∧ ns.length = k ∧ ∀ x ∈ ns, 0 ≤ x ∧ x ≤ 99999
theorem num_step (n : Nat) (st : Store) {l : Nat} (hl : l < st.length) (turn : SV) (nm : Str) (k : Nat) (hk : k < 6) (i : Int) {env : VL.Env} {s : Store} (h : NuP st l turn nm k env s) : ∃ env1 env2 st2, bindT (.nm 5) (.int i) env = some env1 ∧ numB (n + 2) env1 s = .nx env2 st2 ∧ NuP st l turn nm (k + 1) env2 st2 := by
  obtain ⟨c, ns, e5, rfl, rfl, hc, hnl, hns⟩ := h
  obtain ⟨v, c', h1, p1, v0, v1⟩ := number_in n (st := st) (t := [.lst true (ns.map .int)]) hl hc
  have e1 : numB (n + 2) [some (.own l), some turn, some (.d (.str CAPS)), some (.d (.str SMALL)), some (.d (.str nm)), some (.d (.int i)), some (.own st.length), none] (List.set st l c ++ [.lst true (ns.map .int)]) = .nx [some (.own l), some turn, some (.d (.str CAPS)), some (.d (.str SMALL)), some (.d (.str nm)), some (.d (.int i)), some (.own st.length), none] (List.set st l c' ++ [.lst true ((ns ++ [v]).map .int)]) :=
    append_ok2 rfl last_get ((call1 rfl).trans h1) last_get (by rw [List.length_map, hnl, sizeLine_eq]; omega) (by rw [last_set]; simp)
  refine ⟨_, _, _, rfl, e1, c', ns ++ [v], some (.d (.int i)), rfl, rfl, p1, by simp [hnl], fun x hx => ?_⟩
  rcases List.mem_append.mp hx with z | z
  · exact hns x z
  · simp at z
    rw [z]
    exact ⟨v0, v1⟩
def menu2 : List D := [.int 1, .int 0, .int 2, .int 1, .int 3, .int 6, .int 4, .int 5]
theorem menu2_ok {x : D} (h : x ∈ menu2) : ∃ j : Nat, x = .int (j : Int) ∧ j ≤ 6 := by
  simp only [menu2, List.mem_cons, List.not_mem_nil, or_false] at h
  rcases h with rfl | rfl | rfl | rfl | rfl | rfl | rfl | rfl
  · exact ⟨1, rfl, by decide⟩
  · exact ⟨0, rfl, by decide⟩
  · exact ⟨2, rfl, by decide⟩
  · exact ⟨1, rfl, by decide⟩
  · exact ⟨3, rfl, by decide⟩
  · exact ⟨6, rfl, by decide⟩
  · exact ⟨4, rfl, by decide⟩
  · exact ⟨5, rfl, by decide⟩
/-- a drawn entry -/
theorem entryD_ok (n : Nat) {st : Store} {l : Nat} {c0 : Cell} (hl0 : st[l]? = some c0) (hc0 : Pc c0) (turn : Int) (ht : 0 ≤ turn) :
    ∃ r c', rn (n + 3) ._law_draw_entry [.own l, .d (.int turn)] st = .ok (.d (rowD r)) (List.set st l c') ∧ Pc c' ∧ RowOk r := by
  have hl := lt_len hl0
  have z7 : 7 ≤ sizeLine := by rw [sizeLine_eq]; decide
  have z8 : 8 ≤ sizeLine := by rw [sizeLine_eq]; decide
  have hm1 : ∀ (env : VL.Env) (s : Store), mLst (mCons (mC (.str "Low")) (mCons (mC (.str "Ca")) (mCons (mC (.str "Pick")) (mCons (mC (.str "Cab")) (mCons (mC (.str "Cb")) (mCons (mC (.str "Zz")) (mCons (mC (.str "Abcdefgh")) mNil))))))) env s = .ok (.d (.lst menu)) s := fun env s => by
    simp only [mLst, mCons, mNil, mC, bind_ok, datas, List.length_cons, List.length_nil, Nat.zero_add, Nat.reduceAdd, if_pos z7]
    rfl
  have hm2 : ∀ (env : VL.Env) (s : Store), mLst (mCons (mC (.int 1)) (mCons (mC (.int 0)) (mCons (mC (.int 2)) (mCons (mC (.int 1)) (mCons (mC (.int 3)) (mCons (mC (.int 6)) (mCons (mC (.int 4)) (mCons (mC (.int 5)) mNil)))))))) env s = .ok (.d (.lst menu2)) s := fun env s => by
    simp only [mLst, mCons, mNil, mC, bind_ok, datas, List.length_cons, List.length_nil, Nat.zero_add, Nat.reduceAdd, if_pos z8]
    rfl
  obtain ⟨d1, c1, k1, p1, d10, d11⟩ := mod_in (n + 1) (st := st) (t := []) hl hc0 (m1 := 7) (by decide) (by decide) (env := [some (.own l), some (.d (.int turn)), some (.d (.str CAPS)), some (.d (.str SMALL)), none, none, none, none]) (me := mVar 1) (u := turn) rfl (fun _ => rfl)
  obtain ⟨x1, hx1, hix1⟩ := idx_list (ds := menu) d10 (by show d1 < 7; exact d11)
  obtain ⟨nm, rfl, hnm⟩ := menu_ok hx1
  rw [set_get hl0] at k1
  have i3 := asg_ok (i := 4) (bin_ok (hm1 _ _) k1 rfl rfl hix1)
  obtain ⟨c2, nm', e5, i4, p2, hnm'⟩ := name_ok (n + 1) st hl (.d (.int turn)) p1 hnm
  have i5 : mAsg 6 (mLstM mNil) [some (.own l), some (.d (.int turn)), some (.d (.str CAPS)), some (.d (.str SMALL)), some (.d (.str nm')), e5, none, none] (List.set st l c2 ++ []) = .nx [some (.own l), some (.d (.int turn)), some (.d (.str CAPS)), some (.d (.str SMALL)), some (.d (.str nm')), e5, some (.own st.length), none] (List.set st l c2 ++ [.lst true []]) := by
    have : (List.set st l c2 ++ ([] : Store)).length = st.length := by simp
    simp [mAsg, mLstM, mNil, bind_ok, datas, toFl_ok]
  obtain ⟨d3, c3, k3, p3, d30, d31⟩ := mod_in (n + 1) (st := st) (t := [.lst true []]) hl p2 (m1 := 8) (by decide) (by decide) (env := [some (.own l), some (.d (.int turn)), some (.d (.str CAPS)), some (.d (.str SMALL)), some (.d (.str nm')), e5, some (.own st.length), none]) (me := mVar 1) (u := turn) rfl (fun _ => rfl)
  obtain ⟨x3, hx3, hix3⟩ := idx_list (ds := menu2) d30 (by show d3 < 8; exact d31)
  obtain ⟨j, rfl, hj⟩ := menu2_ok hx3
  have hrange := range_ok (bin_ok (hm2 _ _) k3 rfl rfl hix3) (by omega)
  obtain ⟨env', s', hloop, c4, ns, e5', rfl, rfl, p4, hns1, hns2⟩ := for_invN (t := .nm 5) (b := numB (n + 2)) 6 (NuP st l (.d (.int turn)) nm') (ds := rangeD 0 j) 0 (by unfold rangeD; rw [List.length_map, List.length_range]; omega)
    (fun dd hd k env s hk hP => by
      obtain ⟨i, _, rfl⟩ := rangeD_mem hd
      exact num_step n st hl _ nm' k hk i hP) [some (.own l), some (.d (.int turn)), some (.d (.str CAPS)), some (.d (.str SMALL)), some (.d (.str nm')), e5, some (.own st.length), none] (List.set st l c3 ++ [.lst true []]) ⟨c3, [], e5, rfl, rfl, p3, rfl, fun x hx => nomatch hx⟩
  have hns6 : ns.length ≤ 6 := by
    rw [hns1]
    unfold rangeD
    rw [List.length_map, List.length_range]
    omega
  have i6 := (for_run (t := .nm 5) (b := numB (n + 2)) hrange).trans hloop
  obtain ⟨v, c5, h5, p5, v0, v1⟩ := number_in n (st := st) (t := [.lst true (ns.map .int)]) hl p4
  have i7 : mAsg 7 (mCall (rn (n + 2) ._law_number) (mCons (mVar 0) mNil)) [some (.own l), some (.d (.int turn)), some (.d (.str CAPS)), some (.d (.str SMALL)), some (.d (.str nm')), e5', some (.own st.length), none] (List.set st l c4 ++ [.lst true (ns.map .int)]) = .nx [some (.own l), some (.d (.int turn)), some (.d (.str CAPS)), some (.d (.str SMALL)), some (.d (.str nm')), e5', some (.own st.length), some (.d (.int v))] (List.set st l c5 ++ [.lst true (ns.map .int)]) := asg_ok ((call1 rfl).trans h5)
  have t8 : mTest (mBin ltD (mVar 7) (mC (.int 12))) [some (.own l), some (.d (.int turn)), some (.d (.str CAPS)), some (.d (.str SMALL)), some (.d (.str nm')), e5', some (.own st.length), some (.d (.int v))] (List.set st l c5 ++ [.lst true (ns.map .int)]) = .ok (decide (v < 12)) (List.set st l c5 ++ [.lst true (ns.map .int)]) := test_ok (bin_ok rfl rfl rfl rfl (ltD_int _ _))
  have i8 : ∃ w : Int, 0 ≤ w ∧ w ≤ 99999 ∧ mIfS (mTest (mBin ltD (mVar 7) (mC (.int 12)))) (mAsg 7 (mBin modD (mB intD (mCons (mBin addD (mBin addD (mVar 7) (mVar 1)) (mC (.int 1))) mNil)) (mC (.int 12)))) mNext [some (.own l), some (.d (.int turn)), some (.d (.str CAPS)), some (.d (.str SMALL)), some (.d (.str nm')), e5', some (.own st.length), some (.d (.int v))] (List.set st l c5 ++ [.lst true (ns.map .int)]) = .nx [some (.own l), some (.d (.int turn)), some (.d (.str CAPS)), some (.d (.str SMALL)), some (.d (.str nm')), e5', some (.own st.length), some (.d (.int w))] (List.set st l c5 ++ [.lst true (ns.map .int)]) := by
    by_cases hv : v < 12
    · rw [decide_eq_true hv] at t8
      have f0 := Int.fmod_nonneg_of_pos (v + turn + 1) (show (0 : Int) < 12 by decide)
      have f1 := Int.fmod_lt_of_pos (v + turn + 1) (show (0 : Int) < 12 by decide)
      exact ⟨(v + turn + 1).fmod 12, f0, by omega, (if_yes t8).trans (asg_ok (bin_ok (mB1 (bin_ok (bin_ok rfl rfl rfl rfl (addI _ _)) rfl rfl rfl (addI _ _)) rfl (intI _)) rfl rfl rfl (modI (by decide))))⟩
    · rw [decide_eq_false hv] at t8
      exact ⟨v, v0, v1, (if_no t8).trans rfl⟩
  obtain ⟨w, w0, w1, i8⟩ := i8
  refine ⟨⟨nm', ns, w⟩, c5, ?_, p5, ⟨hnm', hns6, hns2, w0, w1⟩⟩
  show fin st (m__law_draw_entry (rn (n + 2)) recX0 [some (.own l), some (.d (.int turn)), none, none, none, none, none, none] st) = _
  have e : m__law_draw_entry (rn (n + 2)) recX0 [some (.own l), some (.d (.int turn)), none, none, none, none, none, none] st = .rt (.d (rowD ⟨nm', ns, w⟩)) (List.set st l c5 ++ [.lst true (ns.map .int)]) := by
    refine seq_n (asg_ok rfl) (seq_n (asg_ok rfl) (seq_n i3 (seq_n i4 (seq_n i5 (seq_n i6 (seq_n i7 (seq_n i8 ?_)))))))
    exact ret_ok (tup3 rfl (mB1 rfl (view_own last_get) rfl) rfl)
  rw [e, fin_in p5]
end K17
set_option Elab.async false
set_option linter.all false
set_option maxRecDepth 100000
set_option maxHeartbeats 4000000
namespace K17
open PySem L2 VL PyProof.Rows
/-! ### drawn rows -/
theorem entry_in (n : Nat) {st t : Store} {l : Nat} {c : Cell} (hl : l < st.length) (hc : Pc c) (turn : Int) (ht : 0 ≤ turn) :
    ∃ r c', rn (n + 3) ._law_draw_entry [.own l, .d (.int turn)] (List.set st l c ++ t) = .ok (.d (rowD r)) (List.set st l c' ++ t) ∧ Pc c' ∧ RowOk r := by
  obtain ⟨r, c', h1, h2, h3⟩ := entryD_ok n (st := List.set st l c ++ t) (l := l) (in_get hl) hc turn ht
  exact ⟨r, c', by rw [h1, in_set hl], h2, h3⟩
theorem fin_own {st : Store} {l : Nat} {c : Cell} {b : Bool} {ds : List D} (hc : Pc c) : fin st (.rt (.own st.length) (List.set st l c ++ [.lst b ds])) = .ok (.d (.lst ds)) (List.set st l c) := by
  unfold fin
  dsimp only
  rw [if_pos (trOk_in hc)]
  unfold freezeR
  dsimp only
  rw [if_neg (Nat.lt_irrefl _), last_get]
  simp only [Option.bind_some, content, Option.map_some]
  congr 1
  have : st.length = (List.set st l c).length := by simp
  rw [this]
  simp
theorem and_f {a b : MB} {env : VL.Env} {st st1 : Store} (h : a env st = .ok false st1) : mAnd a b env st = .ok false st1 := by unfold mAnd; rw [h]; rfl
theorem and_t {a b : MB} {env : VL.Env} {st st1 : Store} (h : a env st = .ok true st1) : mAnd a b env st = b env st1 := by unfold mAnd; rw [h]; rfl
theorem lenD_lst (ds : List D) : lenD [.lst ds] = some (.int ds.length) := rfl
theorem gtD_int (a b : Int) : gtD (.int a) (.int b) = some (.bl (decide (b < a))) := rfl
theorem uniq_add {rs : List Row} {r : Row} (h : Uniq rs) (hk : lkp rs r.key = none) : Uniq (rs ++ [r]) := by
  rw [lkp_none] at hk
  unfold Uniq
  rw [List.map_append, List.nodup_append]
  refine ⟨h, by simp, fun a ha b hb z => ?_⟩
  simp at hb
  subst hb
  exact hk (z ▸ ha)
theorem ok_add {rs : List Row} {r : Row} (h : ∀ x ∈ rs, RowOk x) (hr : RowOk r) : ∀ x ∈ rs ++ [r], RowOk x := fun x hx => by
  rcases List.mem_append.mp hx with z | z
  · exact h x z
  · simp at z
    exact z ▸ hr
noncomputable def rowsB (n : Nat) : MS := mSeq (mAsg 4 (mCall (rn n ._law_draw_entry) (mCons (mVar 0) (mCons (mVar 3) mNil))))
    (mSeq (mIfS (mAnd (mTest (mBin gtD (mB lenD (mCons (mVar 2) mNil)) (mC (.int 0)))) (mTest (mBin eqD (mCall (rn n ._law_take) (mCons (mVar 0) (mCons (mC (.int 3)) mNil))) (mC (.int 2))))) (mAsg 4 (mTup (mCons (mBin idxD2 (mBin idxD2 (mVar 2) (mC (.int 0))) (mC (.int 0))) (mCons (mBin idxD2 (mVar 4) (mC (.int 1))) (mCons (mBin idxD2 (mVar 4) (mC (.int 2))) mNil))))) mNext)
    (mIfS (mTest (mBin ltD (mCall (rn n ._law_find) (mCons (mVar 2) (mCons (mBin idxD2 (mVar 4) (mC (.int 0))) (mCons (mBin idxD2 (mVar 4) (mC (.int 1))) mNil)))) (mC (.int 0)))) (mDrop (mAppend (mVar 2) (mVar 4))) mNext))
def RoP (st : Store) (l : Nat) (many : SV) (k : Nat) (env : VL.Env) (s : Store) : Prop := ∃ (c : Cell) (rs : List Row) (e3 e4 : Option SV), env = [some (.own l), some many, some (.own st.length), e3, e4] ∧ s = List.set st l c ++ [.lst true (rs.map rowD)] ∧ Pc c ∧ rs.length ≤ k ∧ Uniq rs ∧ ∀ r ∈ rs, RowOk r
theorem rows_step (n : Nat) (st : Store) {l : Nat} (hl : l < st.length) (many : SV) (k : Nat) (hk : k < 10) (i : Nat) {env : VL.Env} {s : Store} (h : RoP st l many k env s) : ∃ env1 env2 st2, bindT (.nm 3) (.int (i : Int)) env = some env1 ∧ rowsB (n + 3) env1 s = .nx env2 st2 ∧ RoP st l many (k + 1) env2 st2 := by
  obtain ⟨c, rs, e3, e4, rfl, rfl, hc, hlen, hu, hok⟩ := h
  obtain ⟨r, c1, k1, p1, hr⟩ := entry_in n (t := [.lst true (rs.map rowD)]) hl hc (i : Int) (Int.natCast_nonneg i)
  have i1 : mAsg 4 (mCall (rn (n + 3) ._law_draw_entry) (mCons (mVar 0) (mCons (mVar 3) mNil))) [some (.own l), some many, some (.own st.length), some (.d (.int (i : Int))), e4] (List.set st l c ++ [.lst true (rs.map rowD)]) = .nx [some (.own l), some many, some (.own st.length), some (.d (.int (i : Int))), some (.d (rowD r))] (List.set st l c1 ++ [.lst true (rs.map rowD)]) := asg_ok ((call2 rfl rfl).trans k1)
  have i2 : ∃ r' c2, mIfS (mAnd (mTest (mBin gtD (mB lenD (mCons (mVar 2) mNil)) (mC (.int 0)))) (mTest (mBin eqD (mCall (rn (n + 3) ._law_take) (mCons (mVar 0) (mCons (mC (.int 3)) mNil))) (mC (.int 2))))) (mAsg 4 (mTup (mCons (mBin idxD2 (mBin idxD2 (mVar 2) (mC (.int 0))) (mC (.int 0))) (mCons (mBin idxD2 (mVar 4) (mC (.int 1))) (mCons (mBin idxD2 (mVar 4) (mC (.int 2))) mNil))))) mNext [some (.own l), some many, some (.own st.length), some (.d (.int (i : Int))), some (.d (rowD r))] (List.set st l c1 ++ [.lst true (rs.map rowD)]) = .nx [some (.own l), some many, some (.own st.length), some (.d (.int (i : Int))), some (.d (rowD r'))] (List.set st l c2 ++ [.lst true (rs.map rowD)]) ∧ RowOk r' ∧ Pc c2 := by
    have t1 : mTest (mBin gtD (mB lenD (mCons (mVar 2) mNil)) (mC (.int 0))) [some (.own l), some many, some (.own st.length), some (.d (.int (i : Int))), some (.d (rowD r))] (List.set st l c1 ++ [.lst true (rs.map rowD)]) = .ok (decide ((0 : Int) < (rs.map rowD).length)) (List.set st l c1 ++ [.lst true (rs.map rowD)]) := test_ok (bin_ok (mB1 rfl (view_own last_get) (lenD_lst _)) rfl rfl rfl (gtD_int _ _))
    cases hrs : rs with
    | nil =>
      rw [hrs] at t1
      have t1' := t1.trans (congrArg (fun b => R.ok b (List.set st l c1 ++ [Cell.lst true (([] : List Row).map rowD)])) (show decide ((0 : Int) < (([] : List Row).map rowD).length) = false from rfl))
      exact ⟨r, c1, (if_no (and_f t1')).trans rfl, hr, p1⟩
    | cons q rest =>
      rw [← hrs]
      have hpos : (0 : Int) < (rs.map rowD).length := by rw [hrs, List.length_map, List.length_cons]; omega
      rw [decide_eq_true hpos] at t1
      obtain ⟨d, c2, k2, p2, d0, d1⟩ := take_in (st := st) (t := [.lst true (rs.map rowD)]) (n + 2) hl p1 (k := 3) (by decide) (by decide)
      have t2 : mTest (mBin eqD (mCall (rn (n + 3) ._law_take) (mCons (mVar 0) (mCons (mC (.int 3)) mNil))) (mC (.int 2))) [some (.own l), some many, some (.own st.length), some (.d (.int (i : Int))), some (.d (rowD r))] (List.set st l c1 ++ [.lst true (rs.map rowD)]) = .ok (decide (d = 2)) (List.set st l c2 ++ [.lst true (rs.map rowD)]) := test_ok (bin_ok ((call2 rfl rfl).trans k2) rfl rfl rfl (eqD_int _ _))
      by_cases hd : d = 2
      · rw [decide_eq_true hd] at t2
        have hq : RowOk q := hok q (by rw [hrs]; simp)
        have hx : idxD2 (.lst (rs.map rowD)) (.int 0) = some (rowD q) := by
          rw [hrs]
          exact idx_lst (ds := (q :: rest).map rowD) (i := 0) (by simp)
        refine ⟨⟨q.nm, r.ns, r.v⟩, c2, (if_yes ((and_t t1).trans t2)).trans ?_, ⟨hq.nm, hr.n6, hr.ns, hr.v⟩, p2⟩
        exact asg_ok (tup3 (bin_ok (bin_ok rfl rfl (view_own last_get) rfl hx) rfl rfl rfl (idx0 q)) (bin_ok rfl rfl rfl rfl (idx1 r)) (bin_ok rfl rfl rfl rfl (idx2 r)))
      · rw [decide_eq_false hd] at t2
        exact ⟨r, c2, (if_no ((and_t t1).trans t2)).trans rfl, hr, p2⟩
  obtain ⟨r', c2, i2, hr', p2⟩ := i2
  have hf := find_ok (n + 2) (List.set st l c2 ++ [.lst true (rs.map rowD)]) (.own st.length) (rs := rs) (by omega) (view_own last_get) r'.nm r'.ns
  have t3 : mTest (mBin ltD (mCall (rn (n + 3) ._law_find) (mCons (mVar 2) (mCons (mBin idxD2 (mVar 4) (mC (.int 0))) (mCons (mBin idxD2 (mVar 4) (mC (.int 1))) mNil)))) (mC (.int 0))) [some (.own l), some many, some (.own st.length), some (.d (.int (i : Int))), some (.d (rowD r'))] (List.set st l c2 ++ [.lst true (rs.map rowD)]) = .ok (decide (fnd rs r'.key < 0)) (List.set st l c2 ++ [.lst true (rs.map rowD)]) :=
    test_ok (bin_ok ((call3 rfl (bin_ok rfl rfl rfl rfl (idx0 r')) (bin_ok rfl rfl rfl rfl (idx1 r'))).trans hf) rfl rfl rfl (ltD_int _ _))
  by_cases hn : fnd rs r'.key < 0
  · rw [decide_eq_true hn] at t3
    refine ⟨_, _, _, rfl, seq_n i1 (seq_n i2 ((if_yes t3).trans (append_ok (ds := rs.map rowD) (x := rowD r') rfl last_get rfl (by rw [List.length_map, sizeLine_eq]; omega) last_set))), c2, rs ++ [r'], _, _, rfl, by simp, p2, by simp; omega, uniq_add hu (fnd_neg.mp hn), ok_add hok hr'⟩
  · rw [decide_eq_false hn] at t3
    exact ⟨_, _, _, rfl, seq_n i1 (seq_n i2 ((if_no t3).trans rfl)), c2, rs, _, _, rfl, rfl, p2, by omega, hu, hok⟩
theorem rows_ok (n : Nat) {st : Store} {l : Nat} {c0 : Cell} (hl0 : st[l]? = some c0) (hc0 : Pc c0) {j : Nat} (hj : j ≤ 6) {m : Int} (hm : m = (j : Int)) :
    ∃ rs c', rn (n + 4) ._law_draw_rows [.own l, .d (.int m)] st = .ok (.d (.lst (rs.map rowD))) (List.set st l c') ∧ Pc c' ∧ Uniq rs ∧ (∀ r ∈ rs, RowOk r) ∧ rs.length ≤ 6 := by
  have hl := lt_len hl0
  have i1 : mAsg 2 (mLstM mNil) [some (.own l), some (.d (.int m)), none, none, none] st = .nx [some (.own l), some (.d (.int m)), some (.own st.length), none, none] (List.set st l c0 ++ [.lst true []]) := by
    rw [VL.set_same hl0]
    simp [mAsg, mLstM, mNil, bind_ok, datas, toFl_ok]
  obtain ⟨env', s', hloop, c', rs, e3, e4, rfl, rfl, p, hlen, hu, hok⟩ := for_invN (t := .nm 3) (b := rowsB (n + 3)) 10 (RoP st l (.d (.int m))) (ds := rangeD 0 j) 0 (by unfold rangeD; rw [List.length_map, List.length_range]; omega)
    (fun dd hd k env s hk hP => by
      obtain ⟨i, _, rfl⟩ := rangeD_mem hd
      exact rows_step n st hl _ k hk i hP) [some (.own l), some (.d (.int m)), some (.own st.length), none, none] (List.set st l c0 ++ [.lst true []]) ⟨c0, [], none, none, rfl, rfl, hc0, Nat.le_refl _, List.nodup_nil, fun r hr => nomatch hr⟩
  have hlen6 : rs.length ≤ 6 := by
    unfold rangeD at hlen
    rw [List.length_map, List.length_range] at hlen
    omega
  refine ⟨rs, c', ?_, p, hu, hok, hlen6⟩
  show fin st (m__law_draw_rows (rn (n + 3)) recX0 [some (.own l), some (.d (.int m)), none, none, none] st) = _
  have e : m__law_draw_rows (rn (n + 3)) recX0 [some (.own l), some (.d (.int m)), none, none, none] st = .rt (.own st.length) (List.set st l c' ++ [.lst true (rs.map rowD)]) := by
    refine seq_n i1 (seq_n ((for_run (t := .nm 3) (b := rowsB (n + 3)) (range_ok (n := j) (by rw [← hm]; rfl) (by omega))).trans hloop) ?_)
    exact ret_ok rfl
  rw [e, fin_own p]
end K17
set_option Elab.async false
set_option linter.all false
set_option maxRecDepth 100000
set_option maxHeartbeats 4000000
namespace K17
open PySem L2 VL PyProof.Rows
/-! ### the second rows -/
noncomputable def sndB (n : Nat) : MS := (mSeq (mAsg 5 (mBin modD (mB intD (mCons (mBin addD (mCall (rn n ._law_take) (mCons (mVar 0) (mCons (mC (.int 5)) mNil))) (mVar 2)) mNil)) (mC (.int 5))))
    (mIfS (mTest (mBin eqD (mVar 5) (mC (.int 1)))) (mDrop (mAppend (mVar 3) (mTup (mCons (mBin idxD2 (mVar 4) (mC (.int 0))) (mCons (mBin idxD2 (mVar 4) (mC (.int 1))) (mCons (mBin modD (mB intD (mCons (mBin addD (mBin addD (mBin idxD2 (mVar 4) (mC (.int 2))) (mC (.int 1))) (mCall (rn n ._law_take) (mCons (mVar 0) (mCons (mC (.int 5)) mNil)))) mNil)) (mC (.int 100000))) mNil)))))) (mIfS (mTest (mBin neD (mVar 5) (mC (.int 3)))) (mDrop (mAppend (mVar 3) (mVar 4))) mNext)))
section
variable {st : Store} {l : Nat} {X T e6 e7 : Option SV} {turn : Int}
theorem snd_step (n : Nat) (hl : l < st.length) {fs : List Row} (hfl : fs.length ≤ 1000) (hu : Uniq fs) (hok : ∀ r ∈ fs, RowOk r) {c : Cell} (hc : Pc c) {r : Row} (hr : RowOk r) (hk : r.key ∉ fs.map Row.key) (e5 : Option SV) :
    ∃ c' fs' e5', sndB (n + 1) [some (.own l), X, some (.d (.int turn)), some (.own st.length), some (.d (rowD r)), e5, e6, e7] (List.set st l c ++ [.lst true (fs.map rowD)]) = .nx [some (.own l), X, some (.d (.int turn)), some (.own st.length), some (.d (rowD r)), e5', e6, e7] (List.set st l c' ++ [.lst true (fs'.map rowD)]) ∧ Pc c' ∧ (fs' = fs ∨ ∃ r', RowOk r' ∧ r'.key = r.key ∧ fs' = fs ++ [r']) := by
  obtain ⟨d, c1, k1, p1, d0, d1⟩ := mod_in n (st := st) (t := [.lst true (fs.map rowD)]) hl hc (m1 := 5) (by decide) (by decide) (env := [some (.own l), X, some (.d (.int turn)), some (.own st.length), some (.d (rowD r)), e5, e6, e7]) (me := mVar 2) (u := turn) rfl (fun _ => rfl)
  have i1 : mAsg 5 (mBin modD (mB intD (mCons (mBin addD (mCall (rn (n + 1) ._law_take) (mCons (mVar 0) (mCons (mC (.int 5)) mNil))) (mVar 2)) mNil)) (mC (.int 5))) [some (.own l), X, some (.d (.int turn)), some (.own st.length), some (.d (rowD r)), e5, e6, e7] (List.set st l c ++ [.lst true (fs.map rowD)]) = .nx [some (.own l), X, some (.d (.int turn)), some (.own st.length), some (.d (rowD r)), some (.d (.int d)), e6, e7] (List.set st l c1 ++ [.lst true (fs.map rowD)]) := asg_ok k1
  have t1 : mTest (mBin eqD (mVar 5) (mC (.int 1))) [some (.own l), X, some (.d (.int turn)), some (.own st.length), some (.d (rowD r)), some (.d (.int d)), e6, e7] (List.set st l c1 ++ [.lst true (fs.map rowD)]) = .ok (decide (d = 1)) (List.set st l c1 ++ [.lst true (fs.map rowD)]) := test_ok (bin_ok rfl rfl rfl rfl (eqD_int _ _))
  have t2 : mTest (mBin neD (mVar 5) (mC (.int 3))) [some (.own l), X, some (.d (.int turn)), some (.own st.length), some (.d (rowD r)), some (.d (.int d)), e6, e7] (List.set st l c1 ++ [.lst true (fs.map rowD)]) = .ok (!decide (d = 3)) (List.set st l c1 ++ [.lst true (fs.map rowD)]) := test_ok (bin_ok rfl rfl rfl rfl (neD_int _ _))
  have hz : (fs.map rowD).length < sizeLine := by rw [List.length_map, sizeLine_eq]; omega
  by_cases h1 : d = 1
  · rw [decide_eq_true h1] at t1
    obtain ⟨g, c2, k2, p2, g0, g1⟩ := take_in (st := st) (t := [.lst true (fs.map rowD)]) n hl p1 (k := 5) (by decide) (by decide)
    have f0 := Int.fmod_nonneg_of_pos (r.v + 1 + g) (show (0 : Int) < 100000 by decide)
    have f1 := Int.fmod_lt_of_pos (r.v + 1 + g) (show (0 : Int) < 100000 by decide)
    refine ⟨c2, fs ++ [⟨r.nm, r.ns, (r.v + 1 + g).fmod 100000⟩], some (.d (.int d)), seq_n i1 ((if_yes t1).trans ?_), p2, .inr ⟨⟨r.nm, r.ns, (r.v + 1 + g).fmod 100000⟩, ⟨hr.nm, hr.n6, hr.ns, f0, by show (r.v + 1 + g).fmod 100000 ≤ 99999; omega⟩, rfl, rfl⟩⟩
    refine append_ok2 (x := rowD ⟨r.nm, r.ns, (r.v + 1 + g).fmod 100000⟩) rfl last_get ?_ last_get hz (by rw [last_set, List.map_append]; rfl)
    refine tup3 (bin_ok rfl rfl rfl rfl (idx0 r)) (bin_ok rfl rfl rfl rfl (idx1 r)) ?_
    exact bin_ok (mB1 (bin_ok (bin_ok (bin_ok rfl rfl rfl rfl (idx2 r)) rfl rfl rfl (addI _ _)) ((call2 rfl rfl).trans k2) rfl rfl (addI _ _)) rfl (intI _)) rfl rfl rfl (modI (by decide))
  · rw [decide_eq_false h1] at t1
    by_cases h3 : d = 3
    · rw [decide_eq_true h3] at t2
      exact ⟨c1, fs, _, seq_n i1 ((if_no t1).trans ((if_no t2).trans rfl)), p1, .inl rfl⟩
    · rw [decide_eq_false h3] at t2
      refine ⟨c1, fs ++ [r], _, seq_n i1 ((if_no t1).trans ((if_yes t2).trans (append_ok (ds := fs.map rowD) (x := rowD r) rfl last_get rfl hz (by rw [last_set]; simp)))), p1, .inr ⟨r, hr, rfl, rfl⟩⟩
theorem snd_loop (n : Nat) (hl : l < st.length) : ∀ (xs : List Row) {fs : List Row} (hfl : fs.length + xs.length ≤ 1000) (hu : Uniq fs) (hok : ∀ r ∈ fs, RowOk r) {c : Cell} (hc : Pc c) (hx : Uniq xs) (hxo : ∀ r ∈ xs, RowOk r) (hk : ∀ r ∈ xs, r.key ∉ fs.map Row.key) (e4 e5 : Option SV),
    ∃ c' fs' e4' e5', forD (.nm 4) (sndB (n + 1)) (xs.map rowD) [some (.own l), X, some (.d (.int turn)), some (.own st.length), e4, e5, e6, e7] (List.set st l c ++ [.lst true (fs.map rowD)]) = .nx [some (.own l), X, some (.d (.int turn)), some (.own st.length), e4', e5', e6, e7] (List.set st l c' ++ [.lst true (fs'.map rowD)]) ∧ Pc c' ∧ Uniq fs' ∧ (∀ r ∈ fs', RowOk r) ∧ fs'.length ≤ fs.length + xs.length
  | [], fs, hfl, hu, hok, c, hc, _, _, _, e4, e5 => ⟨c, fs, e4, e5, rfl, hc, hu, hok, by simp⟩
  | r :: xs, fs, hfl, hu, hok, c, hc, hx, hxo, hk, e4, e5 => by
    rw [List.length_cons] at hfl
    have hx2 : Uniq xs ∧ r.key ∉ xs.map Row.key := by
      unfold Uniq at hx
      rw [List.map_cons, List.nodup_cons] at hx
      exact ⟨hx.2, hx.1⟩
    obtain ⟨c1, f1, e5', s1, p1, hf⟩ := snd_step (X := X) (e6 := e6) (e7 := e7) (turn := turn) n hl (fs := fs) (by omega) hu hok hc (hxo r (by simp)) (hk r (by simp)) e5
    have hf1 : Uniq f1 ∧ (∀ r ∈ f1, RowOk r) ∧ f1.length ≤ fs.length + 1 ∧ ∀ q ∈ xs, q.key ∉ f1.map Row.key := by
      rcases hf with rfl | ⟨r', hr', hkey, rfl⟩
      · exact ⟨hu, hok, by omega, fun q hq => hk q (by simp [hq])⟩
      · refine ⟨uniq_add hu (lkp_none.mpr (hkey ▸ hk r (by simp))), ok_add hok hr', by simp, fun q hq z => ?_⟩
        rw [List.map_append, List.mem_append] at z
        rcases z with z | z
        · exact hk q (by simp [hq]) z
        · simp only [List.map_cons, List.map_nil, List.mem_singleton] at z
          rw [hkey] at z
          exact hx2.2 (z ▸ List.mem_map_of_mem hq)
    obtain ⟨c2, f2, g4, g5, s2, p2, u2, o2, l2⟩ := snd_loop n hl xs (fs := f1) (by omega) hf1.1 hf1.2.1 p1 hx2.1 (fun q hq => hxo q (by simp [hq])) hf1.2.2.2 (some (.d (rowD r))) e5'
    refine ⟨c2, f2, g4, g5, ?_, p2, u2, o2, by rw [List.length_cons]; omega⟩
    rw [List.map_cons]
    have hb : bindT (.nm 4) (rowD r) [some (.own l), X, some (.d (.int turn)), some (.own st.length), e4, e5, e6, e7] = some [some (.own l), X, some (.d (.int turn)), some (.own st.length), some (.d (rowD r)), e5, e6, e7] := rfl
    simp only [forD, hb, s1, loopFl]
    exact s2
end
noncomputable def sndC (n : Nat) : MS := (mSeq (mAsg 4 (mCall (rn n ._law_draw_entry) (mCons (mVar 0) (mCons (mBin addD (mVar 6) (mBin mulD (mC (.int 2)) (mVar 2))) mNil))))
    (mIfS (mTest (mBin ltD (mCall (rn n ._law_find) (mCons (mVar 3) (mCons (mBin idxD2 (mVar 4) (mC (.int 0))) (mCons (mBin idxD2 (mVar 4) (mC (.int 1))) mNil)))) (mC (.int 0)))) (mDrop (mAppend (mVar 3) (mVar 4))) mNext))
def ScP (st : Store) (l : Nat) (X : Option SV) (turn : Int) (e5 e7 : Option SV) (N : Nat) (k : Nat) (env : VL.Env) (s : Store) : Prop := ∃ (c : Cell) (rs : List Row) (e4 e6 : Option SV), env = [some (.own l), X, some (.d (.int turn)), some (.own st.length), e4, e5, e6, e7] ∧ s = List.set st l c ++ [.lst true (rs.map rowD)] ∧ Pc c ∧ rs.length ≤ N + k ∧ Uniq rs ∧ ∀ r ∈ rs, RowOk r
theorem mul2 (b : Int) : mulD (.int 2) (.int b) = some (.int (2 * b)) := by
  unfold mulD
  dsimp only
  rw [if_pos (show CMul 2 b from .inl ⟨by decide, by decide⟩)]
theorem sndC_step (n : Nat) (st : Store) {l : Nat} (hl : l < st.length) (X : Option SV) (turn : Int) (ht : 0 ≤ turn) (e5 e7 : Option SV) (N : Nat) (hN : N ≤ 100) (k : Nat) (hk : k < 10) (i : Int) (hi : 0 ≤ i) {env : VL.Env} {s : Store} (h : ScP st l X turn e5 e7 N k env s) : ∃ env1 env2 st2, bindT (.nm 6) (.int i) env = some env1 ∧ sndC (n + 3) env1 s = .nx env2 st2 ∧ ScP st l X turn e5 e7 N (k + 1) env2 st2 := by
  obtain ⟨c, rs, e4, e6, rfl, rfl, hc, hlen, hu, hok⟩ := h
  obtain ⟨r, c1, k1, p1, hr⟩ := entry_in n (t := [.lst true (rs.map rowD)]) hl hc (i + 2 * turn) (by omega)
  have i1 : mAsg 4 (mCall (rn (n + 3) ._law_draw_entry) (mCons (mVar 0) (mCons (mBin addD (mVar 6) (mBin mulD (mC (.int 2)) (mVar 2))) mNil))) [some (.own l), X, some (.d (.int turn)), some (.own st.length), e4, e5, some (.d (.int i)), e7] (List.set st l c ++ [.lst true (rs.map rowD)]) = .nx [some (.own l), X, some (.d (.int turn)), some (.own st.length), some (.d (rowD r)), e5, some (.d (.int i)), e7] (List.set st l c1 ++ [.lst true (rs.map rowD)]) := asg_ok ((call2 rfl (bin_ok rfl (bin_ok rfl rfl rfl rfl (mul2 _)) rfl rfl (addI _ _))).trans k1)
  have hf := find_ok (n + 2) (List.set st l c1 ++ [.lst true (rs.map rowD)]) (.own st.length) (rs := rs) (by omega) (view_own last_get) r.nm r.ns
  have t3 : mTest (mBin ltD (mCall (rn (n + 3) ._law_find) (mCons (mVar 3) (mCons (mBin idxD2 (mVar 4) (mC (.int 0))) (mCons (mBin idxD2 (mVar 4) (mC (.int 1))) mNil)))) (mC (.int 0))) [some (.own l), X, some (.d (.int turn)), some (.own st.length), some (.d (rowD r)), e5, some (.d (.int i)), e7] (List.set st l c1 ++ [.lst true (rs.map rowD)]) = .ok (decide (fnd rs r.key < 0)) (List.set st l c1 ++ [.lst true (rs.map rowD)]) :=
    test_ok (bin_ok ((call3 rfl (bin_ok rfl rfl rfl rfl (idx0 r)) (bin_ok rfl rfl rfl rfl (idx1 r))).trans hf) rfl rfl rfl (ltD_int _ _))
  by_cases hn : fnd rs r.key < 0
  · rw [decide_eq_true hn] at t3
    refine ⟨_, _, _, rfl, seq_n i1 ((if_yes t3).trans (append_ok (ds := rs.map rowD) (x := rowD r) rfl last_get rfl (by rw [List.length_map, sizeLine_eq]; omega) last_set)), c1, rs ++ [r], _, _, rfl, by simp, p1, by simp; omega, uniq_add hu (fnd_neg.mp hn), ok_add hok hr⟩
  · rw [decide_eq_false hn] at t3
    exact ⟨_, _, _, rfl, seq_n i1 ((if_no t3).trans rfl), c1, rs, _, _, rfl, rfl, p1, by omega, hu, hok⟩
def menu4 : List D := [.int 1, .int 0, .int 2, .int 3]
theorem menu4_ok {x : D} (h : x ∈ menu4) : ∃ j : Nat, x = .int (j : Int) ∧ j ≤ 3 := by
  simp only [menu4, List.mem_cons, List.not_mem_nil, or_false] at h
  rcases h with rfl | rfl | rfl | rfl
  · exact ⟨1, rfl, by decide⟩
  · exact ⟨0, rfl, by decide⟩
  · exact ⟨2, rfl, by decide⟩
  · exact ⟨3, rfl, by decide⟩
theorem z4 : 4 ≤ sizeLine := by rw [sizeLine_eq]; decide
theorem cut_hi {ds : List D} {k : Nat} (hk : k ≤ ds.length) : cutL ds (some (k : Int)) none = ds.drop k := by
  unfold cutL
  rw [HT.sIx_nat, HT.sIx_none, Nat.min_eq_left hk]
  exact List.take_of_length_le (by rw [List.length_drop]; omega)
theorem cut_lo {ds : List D} {k : Nat} (hk : k ≤ ds.length) : cutL ds none (some (k : Int)) = ds.take k := by
  unfold cutL
  rw [HT.sIx_nat, HT.sIx_none, Nat.min_eq_left hk]
  rfl
theorem second_ok (n : Nat) {st : Store} {l : Nat} {c0 : Cell} (hl0 : st[l]? = some c0) (hc0 : Pc c0) {rs : List Row} (hr : ∀ r ∈ rs, RowOk r) (hru : Uniq rs) (hrl : rs.length ≤ 6) (turn : Int) (ht : 0 ≤ turn) :
    ∃ os c', rn (n + 4) ._law_draw_second [.own l, .d (.lst (rs.map rowD)), .d (.int turn)] st = .ok (.d (.lst (os.map rowD))) (List.set st l c') ∧ Pc c' ∧ Uniq os ∧ (∀ r ∈ os, RowOk r) ∧ os.length ≤ 9 := by
  have hl := lt_len hl0
  have i1 : mAsg 3 (mLstM mNil) [some (.own l), some (.d (.lst (rs.map rowD))), some (.d (.int turn)), none, none, none, none, none] st = .nx [some (.own l), some (.d (.lst (rs.map rowD))), some (.d (.int turn)), some (.own st.length), none, none, none, none] (List.set st l c0 ++ [.lst true []]) := by
    rw [VL.set_same hl0]
    simp [mAsg, mLstM, mNil, bind_ok, datas, toFl_ok]
  obtain ⟨c1, f1, e4, e5, s1, p1, u1, o1, l1⟩ := snd_loop (st := st) (X := some (.d (.lst (rs.map rowD)))) (e6 := none) (e7 := none) (turn := turn) (n + 2) hl rs (fs := []) (by simp; omega) List.nodup_nil (fun r hr => nomatch hr) hc0 hru hr (fun r hr z => nomatch z) none none
  have i2 := (for_run (it := mItems (mVar 1)) (t := .nm 4) (b := sndB (n + 3)) (env := [some (.own l), some (.d (.lst (rs.map rowD))), some (.d (.int turn)), some (.own st.length), none, none, none, none]) (st := List.set st l c0 ++ [.lst true []]) (ds := rs.map rowD) rfl).trans s1
  -- more
  have hm4 : ∀ (env : VL.Env) (s : Store), mLst (mCons (mC (.int 1)) (mCons (mC (.int 0)) (mCons (mC (.int 2)) (mCons (mC (.int 3)) mNil)))) env s = .ok (.d (.lst menu4)) s := fun env s => by
    simp only [mLst, mCons, mNil, mC, bind_ok, datas, List.length_cons, List.length_nil, Nat.zero_add, Nat.reduceAdd, if_pos z4]
    rfl
  obtain ⟨d3, c3, k3, p3, d30, d31⟩ := take_in (n + 2) (st := st) (t := [.lst true (f1.map rowD)]) hl p1 (k := 4) (by decide) (by decide)
  obtain ⟨x3, hx3, hix3⟩ := idx_list (ds := menu4) d30 (by show d3 < 4; exact d31)
  obtain ⟨j, rfl, hj⟩ := menu4_ok hx3
  have hrange := range_ok (m := mBin idxD2 (mLst (mCons (mC (.int 1)) (mCons (mC (.int 0)) (mCons (mC (.int 2)) (mCons (mC (.int 3)) mNil))))) (mCall (rn (n + 3) ._law_take) (mCons (mVar 0) (mCons (mC (.int 4)) mNil)))) (env := [some (.own l), some (.d (.lst (rs.map rowD))), some (.d (.int turn)), some (.own st.length), e4, e5, none, none]) (bin_ok (hm4 _ _) ((call2 rfl rfl).trans k3) rfl rfl hix3) (by omega)
  obtain ⟨env', s', hloop, c4, os, g4, g6, rfl, rfl, p4, hlen, u4, o4⟩ := for_invN (t := .nm 6) (b := sndC (n + 3)) 10 (ScP st l (some (.d (.lst (rs.map rowD)))) turn e5 none 6) (ds := rangeD 0 j) 0 (by unfold rangeD; rw [List.length_map, List.length_range]; omega)
    (fun dd hd k env s hk hP => by
      obtain ⟨i, _, rfl⟩ := rangeD_mem hd
      exact sndC_step n st hl _ turn ht e5 none 6 (by omega) k hk i (Int.natCast_nonneg i) hP) [some (.own l), some (.d (.lst (rs.map rowD))), some (.d (.int turn)), some (.own st.length), e4, e5, none, none] (List.set st l c3 ++ [.lst true (f1.map rowD)]) ⟨c3, f1, e4, none, rfl, rfl, p3, by simp at l1; omega, u1, o1⟩
  have hlen9 : os.length ≤ 9 := by
    unfold rangeD at hlen
    rw [List.length_map, List.length_range] at hlen
    omega
  have i3 := (for_run (t := .nm 6) (b := sndC (n + 3)) hrange).trans hloop
  -- at
  have hat : ((os.map rowD).length : Int) + 1 < 1073741824 := by rw [List.length_map]; omega
  have hat0 : (0 : Int) < ((os.map rowD).length : Int) + 1 := by omega
  generalize hq : ((os.map rowD).length : Int) = q at hat hat0
  obtain ⟨at1, c5, k5, p5, a0, a1⟩ := take_in (n + 2) (st := st) (t := [.lst true (os.map rowD)]) hl p4 (k := q + 1) hat0 hat
  have i4 : mAsg 7 (mCall (rn (n + 3) ._law_take) (mCons (mVar 0) (mCons (mBin addD (mB lenD (mCons (mVar 3) mNil)) (mC (.int 1))) mNil))) [some (.own l), some (.d (.lst (rs.map rowD))), some (.d (.int turn)), some (.own st.length), g4, e5, g6, none] (List.set st l c4 ++ [.lst true (os.map rowD)]) = .nx [some (.own l), some (.d (.lst (rs.map rowD))), some (.d (.int turn)), some (.own st.length), g4, e5, g6, some (.d (.int at1))] (List.set st l c5 ++ [.lst true (os.map rowD)]) := asg_ok ((call2 rfl (bin_ok (mB1 rfl (view_own last_get) (lenD_lst _)) rfl rfl rfl (by rw [hq]; exact addI _ _))).trans k5)
  obtain ⟨a, ha⟩ := Int.eq_ofNat_of_zero_le a0
  have hal : a ≤ (os.map rowD).length := by omega
  have hal2 : a ≤ os.length := by rw [List.length_map] at hal; exact hal
  have hadd : addD (.lst ((os.map rowD).drop a)) (.lst ((os.map rowD).take a)) = some (.lst ((os.drop a ++ os.take a).map rowD)) := by
    unfold addD
    dsimp only
    rw [if_pos (by rw [List.length_drop, List.length_take, List.length_map, sizeLine_eq]; omega), List.map_append, List.map_drop, List.map_take]
  have i5 : mRet (mBin addD (mSlice (mVar 3) (mPart (mVar 7)) mNoPart) (mSlice (mVar 3) mNoPart (mPart (mVar 7)))) [some (.own l), some (.d (.lst (rs.map rowD))), some (.d (.int turn)), some (.own st.length), g4, e5, g6, some (.d (.int at1))] (List.set st l c5 ++ [.lst true (os.map rowD)]) = .rt (.d (.lst ((os.drop a ++ os.take a).map rowD))) (List.set st l c5 ++ [.lst true (os.map rowD)]) := by
    refine ret_ok (bin_ok (s := .d (.lst ((os.map rowD).drop a))) (t := .d (.lst ((os.map rowD).take a))) (slice_ok (s := .own st.length) (l := some at1) (h := none) rfl rfl rfl (view_own last_get) ?_) (slice_ok (s := .own st.length) (l := none) (h := some at1) rfl rfl rfl (view_own last_get) ?_) rfl rfl hadd)
    · unfold sliceD
      dsimp only
      rw [ha, cut_hi hal]
    · unfold sliceD
      dsimp only
      rw [ha, cut_lo hal]
  have hperm : (os.drop a ++ os.take a).Perm os := by
    have h1 := List.perm_append_comm (l₁ := os.drop a) (l₂ := os.take a)
    rwa [List.take_append_drop] at h1
  refine ⟨os.drop a ++ os.take a, c5, ?_, p5, u4.perm hperm, fun r hr => o4 r (hperm.mem_iff.mp hr), by rw [hperm.length_eq]; exact hlen9⟩
  show fin st (m__law_draw_second (rn (n + 3)) recX0 [some (.own l), some (.d (.lst (rs.map rowD))), some (.d (.int turn)), none, none, none, none, none] st) = _
  have e : m__law_draw_second (rn (n + 3)) recX0 [some (.own l), some (.d (.lst (rs.map rowD))), some (.d (.int turn)), none, none, none, none, none] st = .rt (.d (.lst ((os.drop a ++ os.take a).map rowD))) (List.set st l c5 ++ [.lst true (os.map rowD)]) := seq_n i1 (seq_n i2 (seq_n i3 (seq_n i4 i5)))
  rw [e, fin_in p5]
end K17
set_option Elab.async false
set_option linter.all false
set_option maxRecDepth 100000
set_option maxHeartbeats 4000000
namespace K17
open PySem L2 VL PyProof.Rows
/-! ### the source of numbers -/
def absI (i : Int) : Int := if i < 0 then -i else i
theorem absI0 (i : Int) : 0 ≤ absI i := by unfold absI; split <;> omega
theorem law_new_ok (n : Nat) (st : Store) (ns : List Int) (hns : ns.length ≤ 1000) : ∃ c, rn (n + 1) ._law_new [.d (.scr (ns.map .int))] st = .ok (.own st.length) (st ++ [c]) ∧ Pc c := by
  obtain ⟨ms, hms⟩ : ∃ ms : List Int, cutL (ns.map D.int) none (some 63) = ms.map .int ∧ ms.length ≤ 1000 := by
    refine ⟨(ns.drop (HT.sIx (ns.map D.int).length 0 none)).take (HT.sIx (ns.map D.int).length (ns.map D.int).length (some 63) - HT.sIx (ns.map D.int).length 0 none), ?_, ?_⟩
    · unfold cutL
      rw [List.map_take, List.map_drop]
    · rw [List.length_take, List.length_drop]; omega
  refine ⟨pc (ms.map absI) 0 0 0, ?_, _, _, _, _, rfl, Int.le_refl _, Int.natCast_nonneg _, Int.le_refl _, Int.le_refl _, fun x hx => by obtain ⟨y, _, rfl⟩ := List.mem_map.mp hx; exact absI0 y⟩
  show finK (m__law_new (rn n) recX0 [some (.d (.scr (ns.map .int))), none] st) = _
  have e1 : lcD (.nm 1) mYes (mB absD (mCons (mVar 1) mNil)) (ms.map .int) [some (.d (.scr (ns.map .int))), none] st = .ok (ms.map fun i => .int (absI i)) st :=
    lc_map (enc := fun i => D.int i) (f := fun i => D.int (absI i)) fun i _ => ⟨[some (.d (.scr (ns.map .int))), some (.d (.int i))], rfl, mB1 rfl rfl rfl⟩
  have e2 : mItems (mSlice (mVar 0) mNoPart (mPart (mC (.int 63)))) [some (.d (.scr (ns.map .int))), none] st = .ok (ms.map .int) st := by
    have h := slice_ok (m := mVar 0) (lo := mNoPart) (hi := mPart (mC (.int 63))) (env := [some (.d (.scr (ns.map .int))), none]) (st := st) (s := .d (.scr (ns.map .int))) (l := none) (h := some 63) (d := .lst (ms.map .int)) rfl rfl rfl rfl (by unfold sliceD; dsimp only; rw [hms.1])
    unfold mItems
    rw [h]
    rfl
  have e3 : mLc (mItems (mSlice (mVar 0) mNoPart (mPart (mC (.int 63))))) (.nm 1) [1] mYes (mB absD (mCons (mVar 1) mNil)) [some (.d (.scr (ns.map .int))), none] st = .ok (.d (.lst (ms.map fun i => .int (absI i)))) st := by
    unfold mLc
    rw [e2]
    simp only [bind_ok]
    rw [if_pos (by rw [List.length_map, sizeLine_eq]; omega)]
    show ((lcD _ _ _ _ [some (.d (.scr (ns.map .int))), none] st).bind _) = _
    rw [e1]
    rfl
  have e : m__law_new (rn n) recX0 [some (.d (.scr (ns.map .int))), none] st = .rt (.own st.length) (st ++ [pc (ms.map absI) 0 0 0]) := by
    refine ret_ok ?_
    simp only [mLstM, mCons, mNil, mC, e3, bind_ok, datas, List.length_cons, List.length_nil, Nat.zero_add, Nat.reduceAdd, if_pos z4]
    unfold pc
    rw [List.map_map]
    rfl
  rw [e]
  rfl
/-! ### the law -/
def pairD (os : List Row) : D := .lst [gD os, .lst (os.map rowD)]
noncomputable def lawB (n : Nat) : MS := (mSeq (mAsg 6 (mCall (rn n ._law_draw_second) (mCons (mVar 1) (mCons (mVar 2) (mCons (mVar 5) mNil)))))
    (mSeq (mAsg 7 (mFrzO (mMake 7 (rn n .Guesses___init__) (mCons (mB listD2 (mCons (mVar 6) mNil)) mNil))))
    (mSeq (mIfS (mNot (mTruth (mCall (rn n ._law_two_right) (mCons (mVar 3) (mCons (mVar 2) (mCons (mVar 7) (mCons (mVar 6) mNil))))))) (mRet (mC (.bl false))) mNext)
    (mDrop (mAppend (mVar 4) (mLst (mCons (mVar 7) (mCons (mVar 6) mNil))))))))
def LawP (S : Option SV) (rs : List Row) (q : Nat) (k : Nat) (env : VL.Env) (s : Store) : Prop := ∃ (c : Cell) (t : Store) (oss : List (List Row)) (e5 e6 e7 : Option SV), env = [S, some (.own 0), some (.d (.lst (rs.map rowD))), some (.d (gD rs)), some (.own (q + 1)), e5, e6, e7, none, none] ∧ s = c :: t ∧ Pc c ∧ t[q]? = some (.lst true (oss.map pairD)) ∧ oss.length = k ∧ ∀ os ∈ oss, Good os ∧ os.length ≤ 9
theorem set0 (c c' : Cell) (t : Store) : List.set (c :: t) 0 c' = c' :: t := rfl
theorem law_step (n : Nat) {S : Option SV} {rs : List Row} (hg : Good rs) (hl : rs.length ≤ 6) (q : Nat) (k : Nat) (hk : k < 4) (i : Nat) {env : VL.Env} {s : Store} (h : LawP S rs q k env s) :
    ∃ env1 env2 st2, bindT (.nm 5) (.int (i : Int)) env = some env1 ∧ lawB (n + 9) env1 s = .nx env2 st2 ∧ LawP S rs q (k + 1) env2 st2 := by
  obtain ⟨c, t, oss, e5, e6, e7, rfl, rfl, hc, ht, hlen, hoss⟩ := h
  have hi : (0 : Int) ≤ (i : Int) := Int.natCast_nonneg i
  generalize (i : Int) = turn at hi
  obtain ⟨os, c1, k1, p1, u1, o1, l1⟩ := second_ok (n + 5) (st := c :: t) (l := 0) rfl hc hg.ok hg.un hl turn hi
  rw [set0] at k1
  have go : Good os := ⟨o1, u1, by omega⟩
  have i1 : mAsg 6 (mCall (rn (n + 9) ._law_draw_second) (mCons (mVar 1) (mCons (mVar 2) (mCons (mVar 5) mNil)))) [S, some (.own 0), some (.d (.lst (rs.map rowD))), some (.d (gD rs)), some (.own (q + 1)), some (.d (.int turn)), e6, e7, none, none] (c :: t) = .nx [S, some (.own 0), some (.d (.lst (rs.map rowD))), some (.d (gD rs)), some (.own (q + 1)), some (.d (.int turn)), some (.d (.lst (os.map rowD))), e7, none, none] (c1 :: t) := asg_ok ((call3 rfl rfl rfl).trans k1)
  have i2 : mAsg 7 (mFrzO (mMake 7 (rn (n + 9) .Guesses___init__) (mCons (mB listD2 (mCons (mVar 6) mNil)) mNil))) [S, some (.own 0), some (.d (.lst (rs.map rowD))), some (.d (gD rs)), some (.own (q + 1)), some (.d (.int turn)), some (.d (.lst (os.map rowD))), e7, none, none] (c1 :: t) = .nx [S, some (.own 0), some (.d (.lst (rs.map rowD))), some (.d (gD rs)), some (.own (q + 1)), some (.d (.int turn)), some (.d (.lst (os.map rowD))), some (.d (gD os)), none, none] ((c1 :: t) ++ [.dead]) := asg_ok (make_ok (n + 5) (c1 :: t) _ o1 u1 (by omega) (mB1 rfl rfl rfl))
  have i3 := true_if (m := mCall (rn (n + 9) ._law_two_right) (mCons (mVar 3) (mCons (mVar 2) (mCons (mVar 7) (mCons (mVar 6) mNil))))) (env := [S, some (.own 0), some (.d (.lst (rs.map rowD))), some (.d (gD rs)), some (.own (q + 1)), some (.d (.int turn)), some (.d (.lst (os.map rowD))), some (.d (gD os)), none, none]) ((call4 rfl rfl rfl rfl).trans (two_right_ok n ((c1 :: t) ++ [.dead]) hg go (by omega)))
  have hq : q < t.length := lt_len ht
  have hget : ((c1 :: t) ++ [Cell.dead])[q + 1]? = some (.lst true (oss.map pairD)) := by
    show (t ++ [Cell.dead])[q]? = _
    rw [List.getElem?_append_left hq, ht]
  have i4 := append_ok (mo := mVar 4) (me := mLst (mCons (mVar 7) (mCons (mVar 6) mNil))) (env := [S, some (.own 0), some (.d (.lst (rs.map rowD))), some (.d (gD rs)), some (.own (q + 1)), some (.d (.int turn)), some (.d (.lst (os.map rowD))), some (.d (gD os)), none, none]) (st' := c1 :: (List.set (t ++ [.dead]) q (.lst true ((oss ++ [os]).map pairD)))) rfl hget (lst2 rfl rfl) (by rw [List.length_map, sizeLine_eq]; omega) (by rw [List.map_append]; rfl)
  refine ⟨_, _, _, rfl, seq_n i1 (seq_n i2 (seq_n i3 i4)), c1, _, oss ++ [os], _, _, _, rfl, rfl, p1, ?_, by simp [hlen], fun x hx => ?_⟩
  · exact List.getElem?_set_self (by rw [List.length_append]; omega)
  · rcases List.mem_append.mp hx with z | z
    · exact hoss x z
    · simp at z
      subst z
      exact ⟨go, l1⟩
def menu7 : List D := [.int 3, .int 2, .int 4, .int 1, .int 0, .int 5, .int 6]
theorem menu7_ok {x : D} (h : x ∈ menu7) : ∃ j : Nat, x = .int (j : Int) ∧ j ≤ 6 := by
  simp only [menu7, List.mem_cons, List.not_mem_nil, or_false] at h
  rcases h with rfl | rfl | rfl | rfl | rfl | rfl | rfl
  · exact ⟨3, rfl, by decide⟩
  · exact ⟨2, rfl, by decide⟩
  · exact ⟨4, rfl, by decide⟩
  · exact ⟨1, rfl, by decide⟩
  · exact ⟨0, rfl, by decide⟩
  · exact ⟨5, rfl, by decide⟩
  · exact ⟨6, rfl, by decide⟩
theorem z7 : 7 ≤ sizeLine := by rw [sizeLine_eq]; decide
theorem idx_pair0 (os : List Row) : idxD2 (pairD os) (.int 0) = some (gD os) := idx_lst (ds := [gD os, .lst (os.map rowD)]) (i := 0) (by simp)
theorem idx_pair1 (os : List Row) : idxD2 (pairD os) (.int 1) = some (.lst (os.map rowD)) := idx_lst (ds := [gD os, .lst (os.map rowD)]) (i := 1) (by simp)
theorem take0 (n : Nat) {c : Cell} (t : Store) (hc : Pc c) {k : Int} (hk : 0 < k) (hk2 : k < 1073741824) :
    ∃ d c', rn (n + 1) ._law_take [.own 0, .d (.int k)] (c :: t) = .ok (.d (.int d)) (c' :: t) ∧ Pc c' ∧ 0 ≤ d ∧ d < k := by
  obtain ⟨d, c', h1, h2, h3, h4⟩ := take_ok n (st := c :: t) (l := 0) rfl hc hk hk2
  exact ⟨d, c', h1, h2, h3, h4⟩
/-- one of the seconds -/
theorem pick_ok (n : Nat) {env : VL.Env} {c : Cell} {t : Store} {q : Nat} {oss : List (List Row)} (hc : Pc c) (ht : t[q]? = some (.lst true (oss.map pairD))) (hlen : oss.length = 4) (h4 : env[4]? = some (some (.own (q + 1)))) (h1 : env[1]? = some (some (.own 0))) :
    ∃ os ∈ oss, ∃ c', mBin idxD2 (mVar 4) (mCall (rn (n + 1) ._law_take) (mCons (mVar 1) (mCons (mC (.int 4)) mNil))) env (c :: t) = .ok (.d (pairD os)) (c' :: t) ∧ Pc c' := by
  obtain ⟨d, c1, k1, p1, d0, d1⟩ := take0 n t hc (k := 4) (by decide) (by decide)
  obtain ⟨x, hx, hix⟩ := idx_list (ds := oss.map pairD) d0 (by rw [List.length_map, hlen]; exact d1)
  obtain ⟨os, hos, rfl⟩ := List.mem_map.mp hx
  have v4 : ∀ s, mVar 4 env s = .ok (.own (q + 1)) s := fun s => by unfold mVar; rw [h4]
  have v1 : ∀ s, mVar 1 env s = .ok (.own 0) s := fun s => by unfold mVar; rw [h1]
  exact ⟨os, hos, c1, bin_ok (v4 _) ((call2 (v1 _) rfl).trans k1) (view_own (l := q + 1) ht) rfl hix, p1⟩
theorem good_nil : Good [] := ⟨fun r hr => (nomatch hr), List.nodup_nil, Nat.zero_le _⟩
theorem fin_nil {x : D} {st : Store} : ∃ st', fin [] (.rt (.d x) st) = .ok (.d x) st' := ⟨_, fin_d (st := []) ⟨Nat.zero_le _, fun l hl => absurd hl (Nat.not_lt_zero _)⟩⟩
end K17
set_option Elab.async false
set_option linter.all false
set_option maxRecDepth 100000
set_option maxHeartbeats 400000
namespace K17
open PySem L2 VL PyProof.Rows
theorem call0 {run : VL.Run} {env : VL.Env} {st : Store} : mCall run mNil env st = run [] st := rfl
theorem law_of {R : Rec} {X : RecX} {S : SV} {b : D} (h : ∃ st', m_law R X [some S, none, none, none, none, none, none, none, none, none] [] = .rt (.d b) st') : ∃ st', runDef false 1 10 (m_law R X) [S] [] = .ok (.d b) st' := by
  obtain ⟨st', h⟩ := h
  obtain ⟨st2, h2⟩ := fin_nil (x := b) (st := st')
  refine ⟨st2, ?_⟩
  show fin [] (m_law R X [some S, none, none, none, none, none, none, none, none, none] []) = _
  rw [h, h2]
theorem law_run (n : Nat) (X : RecX) : runs X (n + 1) .law = runDef false 1 10 (m_law (runs X n) X) := rfl
theorem law_main (n : Nat) (hlarge : ∀ st, rn (n + 9) ._law_large_right [] st = .ok (.d (.bl true)) st) (ns : List Int) (hns : ns.length ≤ 1000) : ∃ st', rn (n + 10) .law [.d (.scr (ns.map .int))] [] = .ok (.d (.bl true)) st' := by
  have hrun : rn (n + 10) .law = runDef false 1 10 (m_law (rn (n + 9)) recX0) := law_run (n + 9) recX0
  rw [hrun]
  refine law_of ?_
  generalize hS : (some (SV.d (.scr (ns.map D.int))) : Option SV) = S
  obtain ⟨c0, k0, p0⟩ := law_new_ok (n + 8) [] ns hns
  have i1 : mAsg 1 (mCall (rn (n + 9) ._law_new) (mCons (mVar 0) mNil)) [S, none, none, none, none, none, none, none, none, none] [] = .nx [S, some (.own 0), none, none, none, none, none, none, none, none] [c0] := by
    subst hS
    exact asg_ok ((call1 rfl).trans k0)
  obtain ⟨d1, c1, k1, p1, d10, d11⟩ := take0 (n + 8) [] p0 (k := 50) (by decide) (by decide)
  have t1 : mTest (mBin eqD (mCall (rn (n + 9) ._law_take) (mCons (mVar 1) (mCons (mC (.int 50)) mNil))) (mC (.int 49))) [S, some (.own 0), none, none, none, none, none, none, none, none] [c0] = .ok (decide (d1 = 49)) [c1] := test_ok (bin_ok ((call2 rfl rfl).trans k1) rfl rfl rfl (eqD_int _ _))
  by_cases h49 : d1 = 49
  · rw [decide_eq_true h49] at t1
    exact ⟨_, seq_n i1 (seq_rt ((if_yes t1).trans (ret_ok (call0.trans (hlarge [c1])))))⟩
  rw [decide_eq_false h49] at t1
  have i2 := (if_no (a := mRet (mCall (rn (n + 9) ._law_large_right) mNil)) (b := mNext) t1).trans (show mNext _ _ = .nx _ _ from rfl)
  -- rows
  have hm7 : ∀ (env : VL.Env) (s : Store), mLst (mCons (mC (.int 3)) (mCons (mC (.int 2)) (mCons (mC (.int 4)) (mCons (mC (.int 1)) (mCons (mC (.int 0)) (mCons (mC (.int 5)) (mCons (mC (.int 6)) mNil))))))) env s = .ok (.d (.lst menu7)) s := fun env s => by
    simp only [mLst, mCons, mNil, mC, bind_ok, datas, List.length_cons, List.length_nil, Nat.zero_add, Nat.reduceAdd, if_pos z7]
    rfl
  obtain ⟨d2, c2, k2, p2, d20, d21⟩ := take0 (n + 8) [] p1 (k := 7) (by decide) (by decide)
  obtain ⟨x2, hx2, hix2⟩ := idx_list (ds := menu7) d20 (by show d2 < 7; exact d21)
  obtain ⟨j, rfl, hj⟩ := menu7_ok hx2
  generalize hjm : ((j : Nat) : Int) = jm at hix2
  obtain ⟨rs, c3, k3, p3, u3, o3, l3⟩ := rows_ok (n + 5) (st := [c2]) (l := 0) rfl p2 hj hjm.symm
  rw [set0] at k3
  have g3 : Good rs := ⟨o3, u3, by omega⟩
  have i3 : mAsg 2 (mCall (rn (n + 9) ._law_draw_rows) (mCons (mVar 1) (mCons (mBin idxD2 (mLst (mCons (mC (.int 3)) (mCons (mC (.int 2)) (mCons (mC (.int 4)) (mCons (mC (.int 1)) (mCons (mC (.int 0)) (mCons (mC (.int 5)) (mCons (mC (.int 6)) mNil)))))))) (mCall (rn (n + 9) ._law_take) (mCons (mVar 1) (mCons (mC (.int 7)) mNil)))) mNil))) [S, some (.own 0), none, none, none, none, none, none, none, none] [c1] = .nx [S, some (.own 0), some (.d (.lst (rs.map rowD))), none, none, none, none, none, none, none] [c3] :=
    asg_ok ((call2 rfl (bin_ok (hm7 _ _) ((call2 rfl rfl).trans k2) rfl rfl hix2)).trans k3)
  have i4 : mAsg 3 (mFrzO (mMake 7 (rn (n + 9) .Guesses___init__) (mCons (mB listD2 (mCons (mVar 2) mNil)) mNil))) [S, some (.own 0), some (.d (.lst (rs.map rowD))), none, none, none, none, none, none, none] [c3] = .nx [S, some (.own 0), some (.d (.lst (rs.map rowD))), some (.d (gD rs)), none, none, none, none, none, none] [c3, .dead] := asg_ok (make_ok (n + 5) [c3] _ o3 u3 (by omega) (mB1 rfl rfl rfl))
  have i5 := true_if (m := mCall (rn (n + 9) ._law_two_right) (mCons (mVar 3) (mCons (mVar 2) (mCons (mVar 3) (mCons (mVar 2) mNil))))) (env := [S, some (.own 0), some (.d (.lst (rs.map rowD))), some (.d (gD rs)), none, none, none, none, none, none]) (st := [c3, .dead]) ((call4 rfl rfl rfl rfl).trans (two_right_ok n [c3, .dead] g3 g3 (by omega)))
  have m6 : mFrzO (mMake 7 (rn (n + 9) .Guesses___init__) (mCons (mLst mNil) mNil)) [S, some (.own 0), some (.d (.lst (rs.map rowD))), some (.d (gD rs)), none, none, none, none, none, none] [c3, .dead] = .ok (.d (gD [])) [c3, .dead, .dead] := make_ok (n + 5) [c3, .dead] _ (rs := []) good_nil.ok good_nil.un good_nil.le (by simp [mLst, mNil, bind_ok, datas])
  have i6 := true_if (m := mCall (rn (n + 9) ._law_two_right) (mCons (mVar 3) (mCons (mVar 2) (mCons (mFrzO (mMake 7 (rn (n + 9) .Guesses___init__) (mCons (mLst mNil) mNil))) (mCons (mLst mNil) mNil))))) (env := [S, some (.own 0), some (.d (.lst (rs.map rowD))), some (.d (gD rs)), none, none, none, none, none, none]) (st := [c3, .dead]) ((call4 rfl rfl m6 (v := .d (.lst [])) (by simp [mLst, mNil, bind_ok, datas])).trans (two_right_ok n [c3, .dead, .dead] g3 good_nil (by simp; omega)))
  have i7 : mAsg 4 (mLstM mNil) [S, some (.own 0), some (.d (.lst (rs.map rowD))), some (.d (gD rs)), none, none, none, none, none, none] [c3, .dead, .dead] = .nx [S, some (.own 0), some (.d (.lst (rs.map rowD))), some (.d (gD rs)), some (.own (2 + 1)), none, none, none, none, none] [c3, .dead, .dead, .lst true []] := by
    simp [mAsg, mLstM, mNil, bind_ok, datas, toFl_ok]
  obtain ⟨env', s', hloop, c8, t8, oss, f5, f6, f7, rfl, rfl, p8, ht8, hlen, hoss⟩ := for_invN (t := .nm 5) (b := lawB (n + 9)) 4 (LawP S rs 2) (ds := rangeD 0 4) 0 (by unfold rangeD; rw [List.length_map, List.length_range]; omega)
    (fun dd hd k env s hk hP => by
      obtain ⟨i, _, rfl⟩ := rangeD_mem hd
      exact law_step n g3 l3 2 k hk i hP) [S, some (.own 0), some (.d (.lst (rs.map rowD))), some (.d (gD rs)), some (.own (2 + 1)), none, none, none, none, none] [c3, .dead, .dead, .lst true []] ⟨c3, _, [], none, none, none, rfl, rfl, p3, rfl, rfl, fun x hx => nomatch hx⟩
  have i8 := (for_run (it := mRange1 (mC (.int 4))) (t := .nm 5) (b := lawB (n + 9)) (range_ok (n := 4) rfl (by decide))).trans hloop
  have hlen4 : oss.length = 4 := by
    rw [hlen]
    unfold rangeD
    rw [List.length_map, List.length_range]
  obtain ⟨o9, ho9, c9, k9, p9⟩ := pick_ok (n + 8) (env := [S, some (.own 0), some (.d (.lst (rs.map rowD))), some (.d (gD rs)), some (.own (2 + 1)), f5, f6, f7, none, none]) p8 ht8 hlen4 rfl rfl
  obtain ⟨o10, ho10, c10, k10, p10⟩ := pick_ok (n + 8) (env := [S, some (.own 0), some (.d (.lst (rs.map rowD))), some (.d (gD rs)), some (.own (2 + 1)), f5, f6, f7, some (.d (pairD o9)), none]) p9 ht8 hlen4 rfl rfl
  obtain ⟨g9, l9⟩ := hoss o9 ho9
  obtain ⟨g10, l10⟩ := hoss o10 ho10
  have i11 := true_if (m := mCall (rn (n + 9) ._law_two_right) (mCons (mBin idxD2 (mVar 8) (mC (.int 0))) (mCons (mBin idxD2 (mVar 8) (mC (.int 1))) (mCons (mBin idxD2 (mVar 9) (mC (.int 0))) (mCons (mBin idxD2 (mVar 9) (mC (.int 1))) mNil))))) (env := [S, some (.own 0), some (.d (.lst (rs.map rowD))), some (.d (gD rs)), some (.own (2 + 1)), f5, f6, f7, some (.d (pairD o9)), some (.d (pairD o10))]) (st := c10 :: t8)
    ((call4 (bin_ok rfl rfl rfl rfl (idx_pair0 o9)) (bin_ok rfl rfl rfl rfl (idx_pair1 o9)) (bin_ok rfl rfl rfl rfl (idx_pair0 o10)) (bin_ok rfl rfl rfl rfl (idx_pair1 o10))).trans (two_right_ok n (c10 :: t8) g9 g10 (by omega)))
  refine ⟨c10 :: t8, seq_n i1 (seq_n i2 (seq_n i3 (seq_n i4 (seq_n i5 (seq_n i6 (seq_n i7 (seq_n i8 (seq_n (asg_ok k9) (seq_n (asg_ok k10) (seq_n i11 ?_))))))))))⟩
  exact ret_ok ((call2 rfl rfl).trans (right_ok (n + 3) (c10 :: t8) g3 (List.Perm.refl _)))
end K17
set_option Elab.async false
set_option linter.all false
set_option maxRecDepth 100000
set_option maxHeartbeats 1000000
namespace K17
open PySem L2 VL PyProof.Rows
/-! ### many rows -/
abbrev CA : Str := "Ca"
abbrev CB : Str := "Cb"
theorem ca_ne : CA ≠ CB := by decide +kernel
theorem nm_ca : NmOk CA := nm_by (c := 67) (cs := [97]) (by decide +kernel) (by decide +kernel) (by decide) (by decide) (by decide +kernel)
theorem nm_cb : NmOk CB := nm_by (c := 67) (cs := [98]) (by decide +kernel) (by decide +kernel) (by decide) (by decide) (by decide +kernel)
def mk (x : Str) (v : Int) (i : Nat) : Row := ⟨x, [(0 : Int) + (i : Nat)], v⟩
def many (x : Str) (v : Int) (N : Nat) : List Row := (List.range N).map (mk x v)
theorem many_len (x : Str) (v : Int) (N : Nat) : (many x v N).length = N := by unfold many; rw [List.length_map, List.length_range]
theorem many_mem {x : Str} {v : Int} {N : Nat} {r : Row} : r ∈ many x v N ↔ ∃ i, i < N ∧ r = mk x v i := by
  unfold many
  rw [List.mem_map]
  constructor
  · rintro ⟨i, hi, rfl⟩
    exact ⟨i, List.mem_range.mp hi, rfl⟩
  · rintro ⟨i, hi, rfl⟩
    exact ⟨i, List.mem_range.mpr hi, rfl⟩
theorem mk_ok {x : Str} (hx : NmOk x) {v : Int} (hv : 0 ≤ v ∧ v ≤ 99999) {i : Nat} (hi : i < 99999) : RowOk (mk x v i) := ⟨hx, by show (1 : Nat) ≤ 6; decide, fun y hy => by
  have : y = (0 : Int) + (i : Nat) := by simpa [mk] using hy
  omega, hv⟩
theorem row1_ok {x : Str} (hx : NmOk x) {v i : Int} (hv : 0 ≤ v ∧ v ≤ 99999) (hi : 0 ≤ i ∧ i ≤ 99999) : RowOk ⟨x, [i], v⟩ := ⟨hx, by show (1 : Nat) ≤ 6; decide, fun y hy => by
  have : y = i := by simpa using hy
  omega, hv⟩
theorem many_ok {x : Str} (hx : NmOk x) {v : Int} (hv : 0 ≤ v ∧ v ≤ 99999) {N : Nat} (hN : N ≤ 99999) : ∀ r ∈ many x v N, RowOk r := fun r hr => by
  obtain ⟨i, hi, rfl⟩ := many_mem.mp hr
  exact mk_ok hx hv (by omega)
theorem mk_key {x : Str} {v : Int} {i : Nat} : (mk x v i).key = (x, [(0 : Int) + (i : Nat)]) := rfl
theorem key_inj {x y : Str} {a b : Int} (h : ((x, [a]) : Key) = (y, [b])) : x = y ∧ a = b := by
  have h1 := congrArg Prod.fst h
  have h2 := congrArg Prod.snd h
  dsimp only at h1 h2
  exact ⟨h1, (List.cons.inj h2).1⟩
theorem many_uniq (x : Str) (v : Int) (N : Nat) : Uniq (many x v N) := by
  unfold Uniq many
  rw [List.map_map]
  exact List.pairwise_map.mpr (List.nodup_range.imp fun h z => h (by
    have := (key_inj z).2
    omega))
open PySem.W in
theorem kLe_num (x : Str) {a b : Int} (h : a ≤ b) : kLe (x, [a]) (x, [b]) = true := by
  by_cases e : b = a
  · subst e
    exact kLe_refl _
  · rw [kLe_def]
    simp only [pKey, keyToks, keyToksAll, List.map_cons, List.map_nil, List.cons_append, List.nil_append]
    rw [lex_self (O := itemOrd), lex_self (O := itemOrd), lex_self (O := itemOrd), lex_self (O := itemOrd)]
    rw [lex_diff (O := itemOrd) (x := Sum.inl b) (y := Sum.inl a) (fun z => e (Sum.inl.inj z))]
    show (!decide (b < a)) = true
    rw [decide_eq_false (by omega)]
    rfl
open PySem.W in
theorem kLe_ab (a b : List Int) : kLe (CA, a) (CB, b) = true := by
  rw [kLe_def]
  simp only [pKey, keyToks, keyToksAll, List.cons_append, List.nil_append]
  rw [lex_self (O := itemOrd)]
  rw [lex_diff (O := itemOrd) (x := Sum.inr CB.cps.toList) (y := Sum.inr CA.cps.toList) (fun z => absurd (Sum.inr.inj z) (by decide +kernel))]
  decide +kernel
theorem many_sorted (x : Str) (v : Int) (N : Nat) : (many x v N).Pairwise fun a b => rLe a b = true := by
  unfold many
  refine List.pairwise_map.mpr (List.pairwise_lt_range.imp fun {a b} h => ?_)
  show kLe (x, [(0 : Int) + (a : Nat)]) (x, [(0 : Int) + (b : Nat)]) = true
  exact kLe_num x (by omega)
theorem srt_many (x : Str) (v : Int) (N : Nat) : srt (many x v N) = many x v N := List.mergeSort_of_pairwise (many_sorted x v N)
theorem ab_sorted (v w : Int) (N M : Nat) : (many CA v N ++ many CB w M).Pairwise fun a b => rLe a b = true := by
  refine List.pairwise_append.mpr ⟨many_sorted _ _ _, many_sorted _ _ _, fun a ha b hb => ?_⟩
  obtain ⟨i, _, rfl⟩ := many_mem.mp ha
  obtain ⟨j, _, rfl⟩ := many_mem.mp hb
  exact kLe_ab _ _
theorem srt_ab (v w : Int) (N M : Nat) : srt (many CA v N ++ many CB w M) = many CA v N ++ many CB w M := List.mergeSort_of_pairwise (ab_sorted v w N M)
theorem not_many {x y : Str} {v : Int} {N : Nat} {a : Int} (h : x ≠ y ∨ (N : Int) ≤ a) : ((y, [a]) : Key) ∉ (many x v N).map Row.key := fun z => by
  obtain ⟨r, hr, e⟩ := List.mem_map.mp z
  obtain ⟨i, hi, rfl⟩ := many_mem.mp hr
  rw [mk_key] at e
  obtain ⟨e1, e2⟩ := key_inj e
  rcases h with h | h
  · exact h e1
  · omega
theorem ab_uniq (v w : Int) (N M : Nat) : Uniq (many CA v N ++ many CB w M) := by
  unfold Uniq
  rw [List.map_append, List.nodup_append]
  refine ⟨many_uniq _ _ _, many_uniq _ _ _, fun a ha b hb z => ?_⟩
  subst z
  obtain ⟨r, hr, rfl⟩ := List.mem_map.mp hb
  obtain ⟨i, hi, rfl⟩ := many_mem.mp hr
  exact not_many (.inl ca_ne) ha
theorem noclash {os : List Row} {r : Row} (h : ∀ q ∈ os, q.key = r.key → q.v = r.v) : clashB os r = false := by
  unfold clashB
  cases hl : lkp os r.key with
  | none => rfl
  | some w =>
    dsimp only
    unfold lkp at hl
    obtain ⟨q, hq, rfl⟩ := Option.map_eq_some_iff.mp hl
    have h1 := List.find?_some hq
    have h2 := List.mem_of_find?_eq_some hq
    rw [h q h2 (of_decide_eq_true h1)]
    simp
theorem find_clash_none {rs os : List Row} (h : ∀ r ∈ rs, ∀ q ∈ os, q.key = r.key → q.v = r.v) : (srt rs).find? (clashB os) = none := by
  rw [List.find?_eq_none]
  intro r hr
  rw [noclash (h r (srt_mem.mp hr))]
  exact Bool.false_ne_true
theorem mem_lkp {os : List Row} (hu : Uniq os) {r : Row} (h : r ∈ os) : lkp os r.key = some r.v := by
  have := lkp_mem hu r
  rw [decide_eq_true h] at this
  exact of_decide_eq_true this
end K17
set_option Elab.async false
set_option linter.all false
set_option maxRecDepth 100000
set_option maxHeartbeats 1000000
namespace K17
open PySem L2 VL PyProof.Rows
/-! ### rows of the large case -/
section
variable {NA NB : Nat}
abbrev lA (NA : Nat) : List Row := many CA 1 NA
abbrev lB (NB : Nat) : List Row := many CB 2 NB
abbrev l3 (NB : Nat) : List Row := lB NB ++ [⟨CA, [2999], 1⟩, ⟨CA, [0], 1⟩]
abbrev l6 (NB : Nat) : List Row := lB NB ++ [⟨CB, [99999], 2⟩]
abbrev l7 (NB : Nat) : List Row := lB NB ++ [⟨CB, [99999], 2⟩, ⟨CA, [2999], 0⟩]
abbrev l8 (NB : Nat) : List Row := l7 NB ++ [⟨CA, [71], 2⟩]
theorem uniq2 {rs : List Row} {a : Row} (h : Uniq rs) (ha : a.key ∉ rs.map Row.key) : Uniq (rs ++ [a]) := uniq_add h (lkp_none.mpr ha)
theorem notin_add {rs : List Row} {k : Key} {a : Row} (h : k ∉ rs.map Row.key) (ha : k ≠ a.key) : k ∉ (rs ++ [a]).map Row.key := by
  rw [List.map_append, List.mem_append]
  rintro (z | z)
  · exact h z
  · simp at z
    exact ha z
theorem key_ne {x y : Str} {a b : Int} (h : x ≠ y ∨ a ≠ b) : ((x, [a]) : Key) ≠ (y, [b]) := fun z => by
  obtain ⟨h1, h2⟩ := key_inj z
  rcases h with h | h
  · exact h h1
  · exact h h2
theorem ok_ca {v i : Int} (hv : 0 ≤ v ∧ v ≤ 99999) (hi : 0 ≤ i ∧ i ≤ 99999) : RowOk ⟨CA, [i], v⟩ := row1_ok nm_ca hv hi
theorem ok_cb {v i : Int} (hv : 0 ≤ v ∧ v ≤ 99999) (hi : 0 ≤ i ∧ i ≤ 99999) : RowOk ⟨CB, [i], v⟩ := row1_ok nm_cb hv hi
theorem good_A (hA : NA = 3000) : Good (lA NA) := ⟨many_ok nm_ca (by decide) (by omega), many_uniq _ _ _, by rw [many_len]; omega⟩
theorem okB (hB : NB = 2000) : ∀ r ∈ lB NB, RowOk r := many_ok nm_cb (by decide) (by omega)
theorem good_3 (hB : NB = 2000) : Good (l3 NB) := by
  have e : l3 NB = (lB NB ++ [⟨CA, [2999], 1⟩]) ++ [⟨CA, [0], 1⟩] := by simp
  rw [e]
  refine ⟨ok_add (ok_add (okB hB) (ok_ca (by decide) (by decide))) (ok_ca (by decide) (by decide)), uniq2 (uniq2 (many_uniq _ _ _) (not_many (.inl ca_ne.symm))) (notin_add (not_many (.inl ca_ne.symm)) (key_ne (.inr (by decide)))), ?_⟩
  rw [List.length_append, List.length_append, many_len]
  show NB + 1 + 1 ≤ 5000
  omega
theorem good_6 (hB : NB = 2000) : Good (l6 NB) := by
  refine ⟨ok_add (okB hB) (ok_cb (by decide) (by decide)), uniq2 (many_uniq _ _ _) (not_many (.inr (by omega))), ?_⟩
  rw [List.length_append, many_len]
  show NB + 1 ≤ 5000
  omega
theorem good_8 (hB : NB = 2000) : Good (l8 NB) := by
  have e : l8 NB = ((lB NB ++ [⟨CB, [99999], 2⟩]) ++ [⟨CA, [2999], 0⟩]) ++ [⟨CA, [71], 2⟩] := by simp
  rw [e]
  refine ⟨ok_add (ok_add (good_6 hB).ok (ok_ca (by decide) (by decide))) (ok_ca (by decide) (by decide)), uniq2 (uniq2 (good_6 hB).un (notin_add (not_many (.inl ca_ne.symm)) (key_ne (.inl ca_ne)))) (notin_add (notin_add (not_many (.inl ca_ne.symm)) (key_ne (.inl ca_ne))) (key_ne (.inr (by decide)))), ?_⟩
  rw [List.length_append, List.length_append, List.length_append, many_len]
  show NB + 1 + 1 + 1 ≤ 5000
  omega
theorem clash_3 : (srt (lA NA)).find? (clashB (l3 NB)) = none := find_clash_none fun r hr q hq hk => by
  obtain ⟨i, hi, rfl⟩ := many_mem.mp hr
  rcases List.mem_append.mp hq with z | z
  · obtain ⟨j, hj, rfl⟩ := many_mem.mp z
    exact absurd (key_inj hk).1.symm ca_ne
  · simp only [List.mem_cons, List.not_mem_nil, or_false] at z
    rcases z with rfl | rfl <;> rfl
theorem clash_6 : (srt (lA NA)).find? (clashB (l6 NB)) = none := find_clash_none fun r hr q hq hk => by
  obtain ⟨i, hi, rfl⟩ := many_mem.mp hr
  rcases List.mem_append.mp hq with z | z
  · obtain ⟨j, hj, rfl⟩ := many_mem.mp z
    exact absurd (key_inj hk).1.symm ca_ne
  · simp only [List.mem_cons, List.not_mem_nil, or_false] at z
    subst z
    exact absurd (key_inj hk).1.symm ca_ne
theorem mem_A {i : Nat} (hi : i < NA) {k : Int} (hk : k = (i : Int)) : (⟨CA, [k], 1⟩ : Row) ∈ lA NA := many_mem.mpr ⟨i, hi, by unfold mk; rw [hk, Int.zero_add]⟩
theorem perm_3 (hA : NA = 3000) (hB : NB = 2000) : (orL (lA NA) (l3 NB)).Perm (lA NA ++ lB NB) := by
  refine perm_of_mem (orL_uniq (good_A hA).un (good_3 hB).un) (ab_uniq _ _ _ _) fun r => ?_
  rw [orL_mem (good_A hA).un (good_3 hB).un clash_3, List.mem_append, List.mem_append]
  constructor
  · rintro (h | h | h)
    · exact .inl h
    · exact .inr h
    · simp only [List.mem_cons, List.not_mem_nil, or_false] at h
      rcases h with rfl | rfl
      · exact .inl (mem_A (i := 2999) (by omega) rfl)
      · exact .inl (mem_A (i := 0) (by omega) rfl)
  · rintro (h | h)
    · exact .inl h
    · exact .inr (.inl h)
theorem len_3 (hA : NA = 3000) (hB : NB = 2000) : (orL (lA NA) (l3 NB)).length = 5000 := by
  rw [(perm_3 hA hB).length_eq, List.length_append, many_len, many_len]
  omega
theorem good_G (hA : NA = 3000) (hB : NB = 2000) : Good (orL (lA NA) (l3 NB)) := orL_good (good_A hA) (good_3 hB) (by rw [len_3 hA hB]; exact Nat.le_refl _)
theorem srt_G (hA : NA = 3000) (hB : NB = 2000) : srt (orL (lA NA) (l3 NB)) = lA NA ++ lB NB := (srt_eq (good_G hA hB).un (perm_3 hA hB)).trans (srt_ab _ _ _ _)
theorem G_in (hA : NA = 3000) (hB : NB = 2000) : ((orL (lA NA) (l3 NB)).all fun r => decide (r ∈ lA NA)) = false := by
  cases h : ((orL (lA NA) (l3 NB)).all fun r => decide (r ∈ lA NA)) with
  | false => rfl
  | true =>
    have hm : mk CB 2 0 ∈ orL (lA NA) (l3 NB) := (perm_3 hA hB).mem_iff.mpr (List.mem_append.mpr (.inr (many_mem.mpr ⟨0, by omega, rfl⟩)))
    have h2 := of_decide_eq_true (List.all_eq_true.mp h _ hm)
    obtain ⟨i, hi, e⟩ := many_mem.mp h2
    exact absurd (key_inj (congrArg Row.key e)).1.symm ca_ne
theorem A_in (hA : NA = 3000) (hB : NB = 2000) : ((lA NA).all fun r => decide (r ∈ orL (lA NA) (l3 NB))) = true :=
  List.all_eq_true.mpr fun r hr => decide_eq_true ((perm_3 hA hB).mem_iff.mpr (List.mem_append.mpr (.inl hr)))
theorem G_a (hA : NA = 3000) (hB : NB = 2000) : ((srt (orL (lA NA) (l3 NB))).map rowD)[2999]? = some (rowD ⟨CA, [2999], 1⟩) := by
  rw [srt_G hA hB, List.getElem?_map, List.getElem?_append_left (by rw [many_len]; omega)]
  unfold lA many
  rw [List.getElem?_map, List.getElem?_range (by omega)]
  rfl
theorem G_b (hA : NA = 3000) (hB : NB = 2000) : ((srt (orL (lA NA) (l3 NB))).map rowD)[3000]? = some (rowD ⟨CB, [0], 2⟩) := by
  rw [srt_G hA hB, List.getElem?_map, List.getElem?_append_right (by rw [many_len]; omega), many_len, show 3000 - NA = 0 by omega]
  unfold lB many
  rw [List.getElem?_map, List.getElem?_range (by omega)]
  rfl
/-! ### too large, both ways -/
theorem perm_6 (hA : NA = 3000) (hB : NB = 2000) : (orL (lA NA) (l6 NB)).length = 5001 ∧ (orL (l6 NB) (lA NA)).length = 5001 := by
  have gA := good_A hA
  have g6 := good_6 hB
  have hu : Uniq (lA NA ++ l6 NB) := by
    have : lA NA ++ l6 NB = (lA NA ++ lB NB) ++ [⟨CB, [99999], 2⟩] := by rw [List.append_assoc]
    rw [this]
    refine uniq2 (ab_uniq _ _ _ _) ?_
    rw [List.map_append, List.mem_append]
    rintro (z | z)
    · exact not_many (.inl ca_ne) z
    · exact not_many (.inr (by omega)) z
  have hl : (lA NA ++ l6 NB).length = 5001 := by
    rw [List.length_append, List.length_append, many_len, many_len]
    show NA + (NB + 1) = 5001
    omega
  have p1 : (orL (lA NA) (l6 NB)).Perm (lA NA ++ l6 NB) := perm_of_mem (orL_uniq gA.un g6.un) hu fun r => by
    rw [orL_mem gA.un g6.un clash_6]
    exact List.mem_append.symm
  have p2 : (orL (l6 NB) (lA NA)).Perm (lA NA ++ l6 NB) := perm_of_mem (orL_uniq g6.un gA.un) hu fun r => by
    rw [orL_mem g6.un gA.un (find_none_sym gA.un g6.un clash_6)]
    exact Or.comm.trans List.mem_append.symm
  exact ⟨by rw [p1.length_eq, hl], by rw [p2.length_eq, hl]⟩
theorem join_6 (hA : NA = 3000) (hB : NB = 2000) : joinR (lA NA) (l6 NB) = bigD ∧ joinR (l6 NB) (lA NA) = bigD := by
  obtain ⟨h1, h2⟩ := perm_6 hA hB
  constructor
  · unfold joinR
    rw [clash_6]
    dsimp only
    rw [if_pos (by rw [h1]; decide)]
  · unfold joinR
    rw [find_none_sym (good_A hA).un (good_6 hB).un clash_6]
    dsimp only
    rw [if_pos (by rw [h2]; decide)]
/-! ### a clash, both ways -/
theorem find_8 (hA : NA = 3000) (hB : NB = 2000) : (srt (lA NA)).find? (clashB (l8 NB)) = some (mk CA 1 71) := by
  rw [srt_many]
  suffices hf : (List.range NA).find? (clashB (l8 NB) ∘ mk CA 1) = some 71 by
    unfold many
    rw [List.find?_map, hf]
    rfl
  refine List.find?_range_eq_some.mpr ⟨?_, List.mem_range.mpr (by omega), fun j hj => ?_⟩
  · have hm : (⟨CA, [71], 2⟩ : Row) ∈ l8 NB := List.mem_append.mpr (.inr (by simp))
    have hl := mem_lkp (good_8 hB).un hm
    show clashB (l8 NB) (mk CA 1 71) = true
    unfold clashB
    have hk : (mk CA 1 71).key = (⟨CA, [71], 2⟩ : Row).key := rfl
    rw [hk, hl]
    rfl
  · show (!clashB (l8 NB) (mk CA 1 j)) = true
    rw [noclash fun q hq hk => ?_]
    · rfl
    · rcases List.mem_append.mp hq with z | z
      · rcases List.mem_append.mp z with z | z
        · obtain ⟨i, hi, rfl⟩ := many_mem.mp z
          exact absurd (key_inj hk).1.symm ca_ne
        · simp only [List.mem_cons, List.not_mem_nil, or_false] at z
          rcases z with rfl | rfl
          · exact absurd (key_inj hk).1.symm ca_ne
          · have := (key_inj hk).2
            omega
      · simp only [List.mem_cons, List.not_mem_nil, or_false] at z
        subst z
        have := (key_inj hk).2
        omega
theorem join_8 (hA : NA = 3000) (hB : NB = 2000) : joinR (lA NA) (l8 NB) = clashD (CA, [71]) ∧ joinR (l8 NB) (lA NA) = clashD (CA, [71]) := by
  have h := find_8 hA hB
  obtain ⟨r2, h1, h2⟩ := find_sym (good_A hA).un (good_8 hB).un h
  constructor
  · unfold joinR
    rw [h]
    rfl
  · unfold joinR
    rw [h1]
    dsimp only
    rw [h2]
    rfl
end
end K17
set_option Elab.async false
set_option linter.all false
set_option maxRecDepth 100000
set_option maxHeartbeats 1000000
namespace K17
open PySem L2 VL PyProof.Rows
/-! ### _law_large_right -/
theorem lc_many {x : Str} {v : Int} {K : Int} {N : Nat} (hK : K = (N : Int)) (hN : N ≤ 100000) (e0 e1 e2 e3 e4 e5 e6 e7 : Option SV) (st : Store) :
    mLc (mRange1 (mC (.int K))) (.nm 1) [1] mYes (mTup (mCons (mC (.str x)) (mCons (mTup (mCons (mVar 1) mNil)) (mCons (mC (.int v)) mNil)))) [e0, e1, e2, e3, e4, e5, e6, e7] st = .ok (.d (.lst ((many x v N).map rowD))) st := by
  have h1 : lcD (.nm 1) mYes (mTup (mCons (mC (.str x)) (mCons (mTup (mCons (mVar 1) mNil)) (mCons (mC (.int v)) mNil)))) ((List.range N).map fun i => D.int ((0 : Int) + (i : Nat))) [e0, none, e2, e3, e4, e5, e6, e7] st = .ok ((List.range N).map fun i => rowD (mk x v i)) st :=
    lc_map (enc := fun i : Nat => D.int ((0 : Int) + (i : Nat))) (f := fun i : Nat => rowD (mk x v i)) fun i _ => ⟨[e0, some (.d (.int ((0 : Int) + (i : Nat)))), e2, e3, e4, e5, e6, e7], rfl, tup3 rfl (tup1 rfl) rfl⟩
  have h2 : mRange1 (mC (.int K)) [e0, e1, e2, e3, e4, e5, e6, e7] st = .ok (rangeD 0 N) st := range_ok (by rw [hK]; rfl) hN
  unfold mLc
  rw [h2]
  simp only [bind_ok]
  rw [if_pos (by unfold rangeD; rw [List.length_map, List.length_range, sizeLine_eq]; omega)]
  show ((lcD _ _ _ ((List.range N).map fun i => D.int ((0 : Int) + (i : Nat))) [e0, none, e2, e3, e4, e5, e6, e7] st).bind _) = _
  rw [h1]
  unfold many
  rw [List.map_map]
  rfl
theorem binO_st {run : VL.Run} {st st1 : Store} {rs os : List Row} {ma mb : MV} {env : VL.Env} (h1 : ma env st = .ok (.d (gD rs)) st) (h2 : mb env st = .ok (.d (gD os)) st1) : mBinO 7 run ma mb env st = run [.d (gD rs), .d (gD os)] st1 := by
  have hs : sOps 7 (.d (gD rs)) (.d (gD os)) st1 = true := rfl
  unfold mBinO
  rw [h1]
  simp only [bind_ok]
  rw [h2]
  simp only [bind_ok, hs, if_true]
theorem add_rows {xs ys : List Row} (h : xs.length + ys.length ≤ 100000) : addD (.lst (xs.map rowD)) (.lst (ys.map rowD)) = some (.lst ((xs ++ ys).map rowD)) := by
  unfold addD
  dsimp only
  rw [if_pos (by rw [List.length_map, List.length_map, sizeLine_eq]; omega), List.map_append]
theorem idx_tq {ds : List D} {k : Int} {i : Nat} {d : D} (hk : k = (i : Int)) (h : ds[i]? = some d) : idxD2 (.tup ds) (.int k) = some d := by
  subst hk
  obtain ⟨hi, rfl⟩ := List.getElem?_eq_some_iff.mp h
  have h2 : (i : Int) < (ds.length : Int) := by omega
  simp [idxD2, idxD, atI, ixN, hi]
theorem lst1 {a : MV} {env : VL.Env} {st st1 : Store} {s : D} (h : a env st = .ok (.d s) st1) : mLst (mCons a mNil) env st = .ok (.d (.lst [s])) st1 := by
  have z : 1 ≤ sizeLine := by rw [sizeLine_eq]; decide
  simp only [mLst, mCons, mNil, h, bind_ok, datas, List.length_cons, List.length_nil, Nat.zero_add, if_pos z]
theorem lit_row {x : Str} {i v : Int} (env : VL.Env) (st : Store) : mTup (mCons (mC (.str x)) (mCons (mTup (mCons (mC (.int i)) mNil)) (mCons (mC (.int v)) mNil))) env st = .ok (.d (rowD ⟨x, [i], v⟩)) st := tup3 rfl (tup1 rfl) rfl
theorem plain_big : plainN 3 bigD := ⟨by simp, fun d hd => by
  simp only [List.mem_cons, List.not_mem_nil, or_false] at hd
  rcases hd with rfl | rfl | rfl | rfl | rfl
  · exact plain_s 2 _
  · exact plain_s 2 _
  · exact plain_i 2 _
  · exact plain_b 2 _
  · exact plain_b 2 _⟩
section
variable {NA NB : Nat}
theorem large_run (n : Nat) (st : Store) (hA : NA = 3000) (hB : NB = 2000) : ∃ t, m__law_large_right (rn (n + 8)) recX0 [none, none, none, none, none, none, none, none] st = .rt (.d (.bl true)) (st ++ t) := by
  have gA := good_A hA
  have g3 := good_3 hB
  have g6 := good_6 hB
  have g8 := good_8 hB
  have gG := good_G hA hB
  have kA : (3000 : Int) = (NA : Int) := by omega
  have kB : (2000 : Int) = (NB : Int) := by omega
  have i1 : mAsg 0 (mFrzO (mMake 7 (rn (n + 8) .Guesses___init__) (mCons (mLc (mRange1 (mC (.int 3000))) (.nm 1) [1] mYes (mTup (mCons (mC (.str "Ca")) (mCons (mTup (mCons (mVar 1) mNil)) (mCons (mC (.int 1)) mNil))))) mNil))) [none, none, none, none, none, none, none, none] st = .nx [some (.d (gD (lA NA))), none, none, none, none, none, none, none] (st ++ [.dead]) :=
    asg_ok (make_ok (n + 4) st _ gA.ok gA.un gA.le (lc_many kA (by omega) _ _ _ _ _ _ _ _ st))
  generalize hs1 : st ++ [Cell.dead] = st1 at i1
  have i2 : mAsg 2 (mLc (mRange1 (mC (.int 2000))) (.nm 1) [1] mYes (mTup (mCons (mC (.str "Cb")) (mCons (mTup (mCons (mVar 1) mNil)) (mCons (mC (.int 2)) mNil))))) [some (.d (gD (lA NA))), none, none, none, none, none, none, none] st1 = .nx [some (.d (gD (lA NA))), none, some (.d (.lst ((lB NB).map rowD))), none, none, none, none, none] st1 :=
    asg_ok (lc_many kB (by omega) _ _ _ _ _ _ _ _ st1)
  have hl6 : (lB NB).length = NB := many_len _ _ _
  have a3 : mBin addD (mVar 2) (mLst (mCons (mTup (mCons (mC (.str "Ca")) (mCons (mTup (mCons (mC (.int 2999)) mNil)) (mCons (mC (.int 1)) mNil)))) (mCons (mTup (mCons (mC (.str "Ca")) (mCons (mTup (mCons (mC (.int 0)) mNil)) (mCons (mC (.int 1)) mNil)))) mNil))) [some (.d (gD (lA NA))), none, some (.d (.lst ((lB NB).map rowD))), none, none, none, none, none] st1 = .ok (.d (.lst ((l3 NB).map rowD))) st1 :=
    bin_ok rfl (lst2 (lit_row _ _) (lit_row _ _)) rfl rfl (add_rows (ys := [⟨CA, [2999], 1⟩, ⟨CA, [0], 1⟩]) (by rw [hl6]; show NB + 2 ≤ 100000; omega))
  have i3 : mAsg 3 (mFrz (mBinO 7 (rn (n + 8) .Guesses___or__) (mVar 0) (mFrzO (mMake 7 (rn (n + 8) .Guesses___init__) (mCons (mBin addD (mVar 2) (mLst (mCons (mTup (mCons (mC (.str "Ca")) (mCons (mTup (mCons (mC (.int 2999)) mNil)) (mCons (mC (.int 1)) mNil)))) (mCons (mTup (mCons (mC (.str "Ca")) (mCons (mTup (mCons (mC (.int 0)) mNil)) (mCons (mC (.int 1)) mNil)))) mNil)))) mNil))))) [some (.d (gD (lA NA))), none, some (.d (.lst ((lB NB).map rowD))), none, none, none, none, none] st1 = .nx [some (.d (gD (lA NA))), none, some (.d (.lst ((lB NB).map rowD))), some (.d (gD (orL (lA NA) (l3 NB)))), none, none, none, none] (st1 ++ [.dead]) :=
    asg_ok (frz_d ((binO_st rfl (make_ok (n + 4) st1 _ g3.ok g3.un g3.le a3)).trans (or_told (n + 3) (st1 ++ [.dead]) gA g3 clash_3 (by rw [len_3 hA hB]; exact Nat.le_refl _))))
  generalize hs2 : st1 ++ [Cell.dead] = st2 at i3
  generalize hG : orL (lA NA) (l3 NB) = G at i3 gG
  have hGl : G.length = 5000 := by rw [← hG]; exact len_3 hA hB
  have hGa : ((srt G).map rowD)[2999]? = some (rowD ⟨CA, [2999], 1⟩) := by rw [← hG]; exact G_a hA hB
  have hGb : ((srt G).map rowD)[3000]? = some (rowD ⟨CB, [0], 2⟩) := by rw [← hG]; exact G_b hA hB
  have hGin : (G.all fun r => decide (r ∈ lA NA)) = false := by rw [← hG]; exact G_in hA hB
  have hAin : ((lA NA).all fun r => decide (r ∈ G)) = true := by rw [← hG]; exact A_in hA hB
  have m4 : mUnO 7 okLenD (rn (n + 8) .Guesses___len__) (mVar 3) [some (.d (gD (lA NA))), none, some (.d (.lst ((lB NB).map rowD))), some (.d (gD G)), none, none, none, none] st2 = .ok (.d (.int 5000)) st2 := by
    have := unO_len (n + 7) [some (.d (gD (lA NA))), none, some (.d (.lst ((lB NB).map rowD))), some (.d (gD G)), none, none, none, none] st2 (m := mVar 3) (rs := G) (by rw [hGl]; decide) rfl
    rw [hGl] at this
    exact this
  have i4 : mAsg 4 (mTup (mCons (mUnO 7 okLenD (rn (n + 8) .Guesses___len__) (mVar 3)) (mCons (mBin idxD2 (mFld [7] "rows" (mVar 3)) (mC (.int 2999))) (mCons (mBin idxD2 (mFld [7] "rows" (mVar 3)) (mC (.int 3000))) mNil)))) [some (.d (gD (lA NA))), none, some (.d (.lst ((lB NB).map rowD))), some (.d (gD G)), none, none, none, none] st2 = .nx [some (.d (gD (lA NA))), none, some (.d (.lst ((lB NB).map rowD))), some (.d (gD G)), some (.d (.tup [.int 5000, rowD ⟨CA, [2999], 1⟩, rowD ⟨CB, [0], 2⟩])), none, none, none] st2 :=
    asg_ok (tup3 m4 (bin_ok (fld_rows n _ st2 rfl) rfl rfl rfl (idx_tq (i := 2999) rfl hGa)) (bin_ok (fld_rows n _ st2 rfl) rfl rfl rfl (idx_tq (i := 3000) rfl hGb)))
  have p4 : plainN 3 (.tup [.int 5000, rowD ⟨CA, [2999], 1⟩, rowD ⟨CB, [0], 2⟩]) := plain_t3 (plain_i 2 _) (plain_row (ok_ca (by decide) (by decide))) (plain_row (ok_cb (by decide) (by decide)))
  have i5 := same_if (k := n + 7) (a := mVar 4) (b := mTup (mCons (mC (.int 5000)) (mCons (mTup (mCons (mC (.str "Ca")) (mCons (mTup (mCons (mC (.int 2999)) mNil)) (mCons (mC (.int 1)) mNil)))) (mCons (mTup (mCons (mC (.str "Cb")) (mCons (mTup (mCons (mC (.int 0)) mNil)) (mCons (mC (.int 2)) mNil)))) mNil)))) (env := [some (.d (gD (lA NA))), none, some (.d (.lst ((lB NB).map rowD))), some (.d (gD G)), some (.d (.tup [.int 5000, rowD ⟨CA, [2999], 1⟩, rowD ⟨CB, [0], 2⟩])), none, none, none]) (st := st2) (st1 := st2) rfl (tup3 rfl (lit_row _ _) (lit_row _ _)) (plain_le (by omega) p4)
  generalize hv4 : (some (SV.d (.tup [.int 5000, rowD ⟨CA, [2999], 1⟩, rowD ⟨CB, [0], 2⟩])) : Option SV) = v4 at i4 i5
  have w1 : mMeth 7 "within" (rn (n + 8) .Guesses_within) (mVar 3) (mCons (mVar 0) mNil) [some (.d (gD (lA NA))), none, some (.d (.lst ((lB NB).map rowD))), some (.d (gD G)), v4, none, none, none] st2 = .ok (.d (.bl false)) st2 := by
    have := within_at (n + 6) st2 gG gA (mo := mVar 3) (ma := mVar 0) (env := [some (.d (gD (lA NA))), none, some (.d (.lst ((lB NB).map rowD))), some (.d (gD G)), v4, none, none, none]) rfl rfl
    rw [hGin] at this
    exact this
  have w2 : mMeth 7 "within" (rn (n + 8) .Guesses_within) (mVar 0) (mCons (mVar 3) mNil) [some (.d (gD (lA NA))), none, some (.d (.lst ((lB NB).map rowD))), some (.d (gD G)), v4, none, none, none] st2 = .ok (.d (.bl true)) st2 := by
    have := within_at (n + 6) st2 gA gG (mo := mVar 0) (ma := mVar 3) (env := [some (.d (gD (lA NA))), none, some (.d (.lst ((lB NB).map rowD))), some (.d (gD G)), v4, none, none, none]) rfl rfl
    rw [hAin] at this
    exact this
  have i6 := same_if (k := n + 7) (x := .tup [.bl false, .bl true]) (tup2 w1 w2) (b := mTup (mCons (mC (.bl false)) (mCons (mC (.bl true)) mNil))) (tup2 rfl rfl) (plain_t2 (plain_b _ _) (plain_b _ _))
  have i7 : mAsg 5 (mTup (mCons (mC (.str "refused")) (mCons (mC (.str "TooLarge")) (mCons (mC (.int 0)) (mCons (mC (.bl true)) (mCons (mC (.bl false)) mNil)))))) [some (.d (gD (lA NA))), none, some (.d (.lst ((lB NB).map rowD))), some (.d (gD G)), v4, none, none, none] st2 = .nx [some (.d (gD (lA NA))), none, some (.d (.lst ((lB NB).map rowD))), some (.d (gD G)), v4, some (.d bigD), none, none] st2 := asg_ok (tup5 rfl rfl rfl rfl rfl)
  have a8 : mBin addD (mVar 2) (mLst (mCons (mTup (mCons (mC (.str "Cb")) (mCons (mTup (mCons (mC (.int 99999)) mNil)) (mCons (mC (.int 2)) mNil)))) mNil)) [some (.d (gD (lA NA))), none, some (.d (.lst ((lB NB).map rowD))), some (.d (gD G)), v4, some (.d bigD), none, none] st2 = .ok (.d (.lst ((l6 NB).map rowD))) st2 :=
    bin_ok rfl (lst1 (lit_row _ _)) rfl rfl (add_rows (ys := [⟨CB, [99999], 2⟩]) (by rw [hl6]; show NB + 1 ≤ 100000; omega))
  have i8 : mAsg 6 (mFrzO (mMake 7 (rn (n + 8) .Guesses___init__) (mCons (mBin addD (mVar 2) (mLst (mCons (mTup (mCons (mC (.str "Cb")) (mCons (mTup (mCons (mC (.int 99999)) mNil)) (mCons (mC (.int 2)) mNil)))) mNil))) mNil))) [some (.d (gD (lA NA))), none, some (.d (.lst ((lB NB).map rowD))), some (.d (gD G)), v4, some (.d bigD), none, none] st2 = .nx [some (.d (gD (lA NA))), none, some (.d (.lst ((lB NB).map rowD))), some (.d (gD G)), v4, some (.d bigD), some (.d (gD (l6 NB))), none] (st2 ++ [.dead]) :=
    asg_ok (make_ok (n + 4) st2 _ g6.ok g6.un g6.le a8)
  generalize hs3 : st2 ++ [Cell.dead] = st3 at i8
  have j9 := pair_run (n + 1) st3 gA g6
  rw [(join_6 hA hB).1, (join_6 hA hB).2] at j9
  have i9 := same_if (k := n + 7) (x := .tup [bigD, bigD]) (a := mCall (rn (n + 8) ._law_pair) (mCons (mVar 0) (mCons (mVar 6) mNil))) (b := mTup (mCons (mVar 5) (mCons (mVar 5) mNil))) (env := [some (.d (gD (lA NA))), none, some (.d (.lst ((lB NB).map rowD))), some (.d (gD G)), v4, some (.d bigD), some (.d (gD (l6 NB))), none]) ((call2 rfl rfl).trans j9) (tup2 rfl rfl) (plain_le (by omega) (plain_t2 plain_big plain_big))
  have i10 : mAsg 2 (mBin addD (mVar 2) (mLst (mCons (mTup (mCons (mC (.str "Cb")) (mCons (mTup (mCons (mC (.int 99999)) mNil)) (mCons (mC (.int 2)) mNil)))) (mCons (mTup (mCons (mC (.str "Ca")) (mCons (mTup (mCons (mC (.int 2999)) mNil)) (mCons (mC (.int 0)) mNil)))) mNil)))) [some (.d (gD (lA NA))), none, some (.d (.lst ((lB NB).map rowD))), some (.d (gD G)), v4, some (.d bigD), some (.d (gD (l6 NB))), none] st3 = .nx [some (.d (gD (lA NA))), none, some (.d (.lst ((l7 NB).map rowD))), some (.d (gD G)), v4, some (.d bigD), some (.d (gD (l6 NB))), none] st3 :=
    asg_ok (bin_ok rfl (lst2 (lit_row _ _) (lit_row _ _)) rfl rfl (add_rows (ys := [⟨CB, [99999], 2⟩, ⟨CA, [2999], 0⟩]) (by rw [hl6]; show NB + 2 ≤ 100000; omega)))
  have a11 : mBin addD (mVar 2) (mLst (mCons (mTup (mCons (mC (.str "Ca")) (mCons (mTup (mCons (mC (.int 71)) mNil)) (mCons (mC (.int 2)) mNil)))) mNil)) [some (.d (gD (lA NA))), none, some (.d (.lst ((l7 NB).map rowD))), some (.d (gD G)), v4, some (.d bigD), some (.d (gD (l6 NB))), none] st3 = .ok (.d (.lst ((l8 NB).map rowD))) st3 :=
    bin_ok rfl (lst1 (lit_row _ _)) rfl rfl (add_rows (ys := [⟨CA, [71], 2⟩]) (by rw [List.length_append, hl6]; show NB + 2 + 1 ≤ 100000; omega))
  have i11 : mAsg 6 (mFrzO (mMake 7 (rn (n + 8) .Guesses___init__) (mCons (mBin addD (mVar 2) (mLst (mCons (mTup (mCons (mC (.str "Ca")) (mCons (mTup (mCons (mC (.int 71)) mNil)) (mCons (mC (.int 2)) mNil)))) mNil))) mNil))) [some (.d (gD (lA NA))), none, some (.d (.lst ((l7 NB).map rowD))), some (.d (gD G)), v4, some (.d bigD), some (.d (gD (l6 NB))), none] st3 = .nx [some (.d (gD (lA NA))), none, some (.d (.lst ((l7 NB).map rowD))), some (.d (gD G)), v4, some (.d bigD), some (.d (gD (l8 NB))), none] (st3 ++ [.dead]) :=
    asg_ok (make_ok (n + 4) st3 _ g8.ok g8.un g8.le a11)
  generalize hs4 : st3 ++ [Cell.dead] = st4 at i11
  have i12 : mAsg 7 (mTup (mCons (mC (.str "refused")) (mCons (mC (.str "Clash")) (mCons (mTup (mCons (mC (.str "Ca")) (mCons (mTup (mCons (mC (.int 71)) mNil)) mNil))) (mCons (mC (.bl true)) (mCons (mC (.bl false)) mNil)))))) [some (.d (gD (lA NA))), none, some (.d (.lst ((l7 NB).map rowD))), some (.d (gD G)), v4, some (.d bigD), some (.d (gD (l8 NB))), none] st4 = .nx [some (.d (gD (lA NA))), none, some (.d (.lst ((l7 NB).map rowD))), some (.d (gD G)), v4, some (.d bigD), some (.d (gD (l8 NB))), some (.d (clashD (CA, [71])))] st4 :=
    asg_ok (tup5 rfl rfl (tup2 rfl (tup1 rfl)) rfl rfl)
  have j13 := pair_run (n + 1) st4 gA g8
  rw [(join_8 hA hB).1, (join_8 hA hB).2] at j13
  have pc : plainN 3 (clashD (CA, [71])) := plain_clash (by show (1 : Nat) ≤ 10000; decide)
  have i13 : mRet (mCall (rn (n + 8) ._law_same) (mCons (mCall (rn (n + 8) ._law_pair) (mCons (mVar 0) (mCons (mVar 6) mNil))) (mCons (mTup (mCons (mVar 7) (mCons (mVar 7) mNil))) mNil))) [some (.d (gD (lA NA))), none, some (.d (.lst ((l7 NB).map rowD))), some (.d (gD G)), v4, some (.d bigD), some (.d (gD (l8 NB))), some (.d (clashD (CA, [71])))] st4 = .rt (.d (.bl true)) st4 :=
    ret_ok ((call2 ((call2 rfl rfl).trans j13) (tup2 rfl rfl)).trans (same_ok st4 (n + 7) _ (plain_le (by omega) (plain_t2 pc pc))))
  refine ⟨[.dead, .dead, .dead, .dead], ?_⟩
  have hst : st ++ [Cell.dead, .dead, .dead, .dead] = st4 := by
    rw [← hs4, ← hs3, ← hs2, ← hs1]
    simp
  rw [hst]
  exact seq_n i1 (seq_n i2 (seq_n i3 (seq_n i4 (seq_n i5 (seq_n i6 (seq_n i7 (seq_n i8 (seq_n i9 (seq_n i10 (seq_n i11 (seq_n i12 i13)))))))))))
end
theorem runDef_fin {a n : Nat} {mb : MS} {ss : List SV} {st : Store} (h : ss.length = a) : runDef false a n mb ss st = fin st (mb (initEnv ss n) st) := by
  unfold runDef
  rw [if_pos h, if_neg Bool.false_ne_true]
theorem large_of {R : Rec} {X : RecX} {b : D} {st : Store} (h : ∃ t, m__law_large_right R X [none, none, none, none, none, none, none, none] st = .rt (.d b) (st ++ t)) : runDef false 0 8 (m__law_large_right R X) [] st = .ok (.d b) st := by
  obtain ⟨t, h⟩ := h
  have e : initEnv [] 8 = [none, none, none, none, none, none, none, none] := rfl
  rw [runDef_fin (a := 0) (ss := []) rfl, e, h, fin_app]
theorem large_run0 (n : Nat) (X : RecX) : runs X (n + 1) ._law_large_right = runDef false 0 8 (m__law_large_right (runs X n) X) := rfl
theorem large_ok (n : Nat) (st : Store) : rn (n + 9) ._law_large_right [] st = .ok (.d (.bl true)) st := by
  have hrun : rn (n + 9) ._law_large_right = runDef false 0 8 (m__law_large_right (rn (n + 8)) recX0) := large_run0 (n + 8) recX0
  rw [hrun]
  exact large_of (large_run (NA := 3000) (NB := 2000) n st rfl rfl)
theorem law_all (ns : List Int) (hns : ns.length ≤ 63) : ∃ st', runs recX0 20 .law [.d (.scr (ns.map .int))] [] = .ok (.d (.bl true)) st' :=
  law_main 10 (fun st => large_ok 10 st) ns (by omega)
end K17
open PySem PySem.W PyProof.Rows
set_option Elab.async false
set_option maxRecDepth 100000 in
set_option maxHeartbeats 0 in
theorem PySem.Challenge.cw_rightatlast_k17_guesses_joined_holds : PySem.Challenge.rw_rightatlast_k17_guesses_joined.Holds := by
  w_on; o_law; k_head; (case hw => w_witness2)
  k_fill
  refine K17.walk (l := PySem.Challenge.rw_rightatlast_k17_guesses_joined) ?hmirr rfl rfl (fun w h Y => PySem.W.kIn_of Y) ?F
  case F =>
    intro w mg fa h KX G hmg
    refine' K17.all_mk KX G hmg ?aC7 ?aC6 ?aC5 ?aC4 ?aC2 ?aC1 ?aC0 ?a0 ?l0 ?c0 ?k0 ?a1 ?l1 ?c1 ?k1 ?a2 ?l2 ?c2 ?k2 ?a3 ?l3 ?c3 ?k3 ?a4 ?l4 ?c4 ?k4 ?a5 ?l5 ?c5 ?k5 ?a6 ?l6 ?c6 ?k6 ?a7 ?l7 ?c7 ?k7 ?a8 ?l8 ?c8 ?k8 ?a9 ?l9 ?c9 ?k9 ?a10 ?l10 ?c10 ?k10 ?a11 ?l11 ?c11 ?k11 ?a12 ?l12 ?c12 ?k12 ?a13 ?l13 ?c13 ?k13 ?a14 ?l14 ?c14 ?k14 ?a15 ?l15 ?c15 ?k15 ?a16 ?l16 ?c16 ?k16 ?a17 ?l17 ?c17 ?k17 ?a18 ?l18 ?c18 ?k18 ?i18 ?a19 ?l19 ?c19 ?k19 ?i19 ?a20 ?l20 ?c20 ?k20 ?i20 ?a21 ?l21 ?c21 ?k21 ?i21 ?a22 ?l22 ?c22 ?k22 ?i22 ?a23 ?l23 ?c23 ?k23 ?i23 ?a24 ?l24 ?c24 ?k24 ?i24 ?a25 ?l25 ?c25 ?k25 ?i25 ?a26 ?l26 ?c26 ?k26 ?i26 ?a27 ?l27 ?c27 ?k27 ?a28 ?l28 ?c28 ?k28 ?a29 ?l29 ?c29 ?k29 ?a30 ?l30 ?c30 ?k30 ?a31 ?l31 ?c31 ?k31 ?a32 ?l32 ?c32 ?k32 ?z_abs ?z_all ?z_bool ?z_enumerate ?z_int ?z_isinstance ?z_iter ?z_len ?z_list ?z_range ?z_sorted ?z_str ?z_tuple ?v_CAPITALS ?v_MOST_ENTERED ?v_MOST_ENTRIES ?v_MOST_KEY_NUMBERS ?v_SMALL ?pg7 ?hd7 ?po7 ?sa7 ?mk7 ?kc7 ?sf7 ?ka7 ?kb7 ?kt7 ?km7 ?to7_NoneType ?to7_bool ?to7_int ?to7_str ?to7_list ?to7_tuple ?to7_dict ?ot7_bool ?ot7_int ?ot7_str ?ot7_list ?ot7_tuple ?ot7_dict ?na7__table ?na7_rows ?na7_text ?e0x1 ?e0k1 ?e0s1 ?e0t1 ?ai ?li ?ci ?ki ?ii ?yg6 ?yk6 ?ys6 ?yd6 ?ya6 ?ym6 ?yt6 ?yg1 ?yk1 ?ys1 ?yd1 ?ya1 ?ym1 ?yt1 ?xb1 ?xb2 ?yp6_6 ?yp6_1 ?yp1_6 ?yp1_1 ?kp6_1 ?kp6_4 ?kp6_5 ?kp6_2 ?kp6_0 ?kp1_6 ?kp1_4 ?kp1_5 ?kp1_2 ?kp1_0 ?xl ?xbmt ?xsa ?xex ?xty ?xkc ?xi ?xit ?xfl ?xcd ?xcode ?xvs2 ?xfi ?xcell ?xcls ?xsub2 ?xsup ?xtop ?xopq ?xal ?xva ?xna1 ?xna2
    (case aC7 => first | k_is | k_exc | rfl)
    (case aC6 => first | k_is | k_exc | rfl)
    (case aC5 => first | k_is | k_exc | rfl)
    (case aC4 => first | k_is | k_exc | rfl)
    (case aC2 => first | k_is | k_exc | rfl)
    (case aC1 => first | k_is | k_exc | rfl)
    (case aC0 => first | k_is | k_exc | rfl)
    (case a0 => first | k_is | k_exc | rfl)
    (case l0 => first | k_is | k_exc | rfl)
    (case c0 => first | k_is | k_exc | rfl)
    (case k0 => first | k_is | k_exc | rfl)
    (case a1 => first | k_is | k_exc | rfl)
    (case l1 => first | k_is | k_exc | rfl)
    (case c1 => first | k_is | k_exc | rfl)
    (case k1 => first | k_is | k_exc | rfl)
    (case a2 => first | k_is | k_exc | rfl)
    (case l2 => first | k_is | k_exc | rfl)
    (case c2 => first | k_is | k_exc | rfl)
    (case k2 => first | k_is | k_exc | rfl)
    (case a3 => first | k_is | k_exc | rfl)
    (case l3 => first | k_is | k_exc | rfl)
    (case c3 => first | k_is | k_exc | rfl)
    (case k3 => first | k_is | k_exc | rfl)
    (case a4 => first | k_is | k_exc | rfl)
    (case l4 => first | k_is | k_exc | rfl)
    (case c4 => first | k_is | k_exc | rfl)
    (case k4 => first | k_is | k_exc | rfl)
    (case a5 => first | k_is | k_exc | rfl)
    (case l5 => first | k_is | k_exc | rfl)
    (case c5 => first | k_is | k_exc | rfl)
    (case k5 => first | k_is | k_exc | rfl)
    (case a6 => first | k_is | k_exc | rfl)
    (case l6 => first | k_is | k_exc | rfl)
    (case c6 => first | k_is | k_exc | rfl)
    (case k6 => first | k_is | k_exc | rfl)
    (case a7 => first | k_is | k_exc | rfl)
    (case l7 => first | k_is | k_exc | rfl)
    (case c7 => first | k_is | k_exc | rfl)
    (case k7 => first | k_is | k_exc | rfl)
    (case a8 => first | k_is | k_exc | rfl)
    (case l8 => first | k_is | k_exc | rfl)
    (case c8 => first | k_is | k_exc | rfl)
    (case k8 => first | k_is | k_exc | rfl)
    (case a9 => first | k_is | k_exc | rfl)
    (case l9 => first | k_is | k_exc | rfl)
    (case c9 => first | k_is | k_exc | rfl)
    (case k9 => first | k_is | k_exc | rfl)
    (case a10 => first | k_is | k_exc | rfl)
    (case l10 => first | k_is | k_exc | rfl)
    (case c10 => first | k_is | k_exc | rfl)
    (case k10 => first | k_is | k_exc | rfl)
    (case a11 => first | k_is | k_exc | rfl)
    (case l11 => first | k_is | k_exc | rfl)
    (case c11 => first | k_is | k_exc | rfl)
    (case k11 => first | k_is | k_exc | rfl)
    (case a12 => first | k_is | k_exc | rfl)
    (case l12 => first | k_is | k_exc | rfl)
    (case c12 => first | k_is | k_exc | rfl)
    (case k12 => first | k_is | k_exc | rfl)
    (case a13 => first | k_is | k_exc | rfl)
    (case l13 => first | k_is | k_exc | rfl)
    (case c13 => first | k_is | k_exc | rfl)
    (case k13 => first | k_is | k_exc | rfl)
    (case a14 => first | k_is | k_exc | rfl)
    (case l14 => first | k_is | k_exc | rfl)
    (case c14 => first | k_is | k_exc | rfl)
    (case k14 => first | k_is | k_exc | rfl)
    (case a15 => first | k_is | k_exc | rfl)
    (case l15 => first | k_is | k_exc | rfl)
    (case c15 => first | k_is | k_exc | rfl)
    (case k15 => first | k_is | k_exc | rfl)
    (case a16 => first | k_is | k_exc | rfl)
    (case l16 => first | k_is | k_exc | rfl)
    (case c16 => first | k_is | k_exc | rfl)
    (case k16 => first | k_is | k_exc | rfl)
    (case a17 => first | k_is | k_exc | rfl)
    (case l17 => first | k_is | k_exc | rfl)
    (case c17 => first | k_is | k_exc | rfl)
    (case k17 => first | k_is | k_exc | rfl)
    (case a18 => first | k_is | k_exc | rfl)
    (case l18 => first | k_is | k_exc | rfl)
    (case c18 => first | k_is | k_exc | rfl)
    (case k18 => first | k_is | k_exc | rfl)
    (case i18 => first | k_is | k_exc | rfl)
    (case a19 => first | k_is | k_exc | rfl)
    (case l19 => first | k_is | k_exc | rfl)
    (case c19 => first | k_is | k_exc | rfl)
    (case k19 => first | k_is | k_exc | rfl)
    (case i19 => first | k_is | k_exc | rfl)
    (case a20 => first | k_is | k_exc | rfl)
    (case l20 => first | k_is | k_exc | rfl)
    (case c20 => first | k_is | k_exc | rfl)
    (case k20 => first | k_is | k_exc | rfl)
    (case i20 => first | k_is | k_exc | rfl)
    (case a21 => first | k_is | k_exc | rfl)
    (case l21 => first | k_is | k_exc | rfl)
    (case c21 => first | k_is | k_exc | rfl)
    (case k21 => first | k_is | k_exc | rfl)
    (case i21 => first | k_is | k_exc | rfl)
    (case a22 => first | k_is | k_exc | rfl)
    (case l22 => first | k_is | k_exc | rfl)
    (case c22 => first | k_is | k_exc | rfl)
    (case k22 => first | k_is | k_exc | rfl)
    (case i22 => first | k_is | k_exc | rfl)
    (case a23 => first | k_is | k_exc | rfl)
    (case l23 => first | k_is | k_exc | rfl)
    (case c23 => first | k_is | k_exc | rfl)
    (case k23 => first | k_is | k_exc | rfl)
    (case i23 => first | k_is | k_exc | rfl)
    (case a24 => first | k_is | k_exc | rfl)
    (case l24 => first | k_is | k_exc | rfl)
    (case c24 => first | k_is | k_exc | rfl)
    (case k24 => first | k_is | k_exc | rfl)
    (case i24 => first | k_is | k_exc | rfl)
    (case a25 => first | k_is | k_exc | rfl)
    (case l25 => first | k_is | k_exc | rfl)
    (case c25 => first | k_is | k_exc | rfl)
    (case k25 => first | k_is | k_exc | rfl)
    (case i25 => first | k_is | k_exc | rfl)
    (case a26 => first | k_is | k_exc | rfl)
    (case l26 => first | k_is | k_exc | rfl)
    (case c26 => first | k_is | k_exc | rfl)
    (case k26 => first | k_is | k_exc | rfl)
    (case i26 => first | k_is | k_exc | rfl)
    (case a27 => first | k_is | k_exc | rfl)
    (case l27 => first | k_is | k_exc | rfl)
    (case c27 => first | k_is | k_exc | rfl)
    (case k27 => first | k_is | k_exc | rfl)
    (case a28 => first | k_is | k_exc | rfl)
    (case l28 => first | k_is | k_exc | rfl)
    (case c28 => first | k_is | k_exc | rfl)
    (case k28 => first | k_is | k_exc | rfl)
    (case a29 => first | k_is | k_exc | rfl)
    (case l29 => first | k_is | k_exc | rfl)
    (case c29 => first | k_is | k_exc | rfl)
    (case k29 => first | k_is | k_exc | rfl)
    (case a30 => first | k_is | k_exc | rfl)
    (case l30 => first | k_is | k_exc | rfl)
    (case c30 => first | k_is | k_exc | rfl)
    (case k30 => first | k_is | k_exc | rfl)
    (case a31 => first | k_is | k_exc | rfl)
    (case l31 => first | k_is | k_exc | rfl)
    (case c31 => first | k_is | k_exc | rfl)
    (case k31 => first | k_is | k_exc | rfl)
    (case a32 => first | k_is | k_exc | rfl)
    (case l32 => first | k_is | k_exc | rfl)
    (case c32 => first | k_is | k_exc | rfl)
    (case k32 => first | k_is | k_exc | rfl)
    (case z_abs => first | k_is | k_exc | rfl)
    (case z_all => first | k_is | k_exc | rfl)
    (case z_bool => first | k_is | k_exc | rfl)
    (case z_enumerate => first | k_is | k_exc | rfl)
    (case z_int => first | k_is | k_exc | rfl)
    (case z_isinstance => first | k_is | k_exc | rfl)
    (case z_iter => first | k_is | k_exc | rfl)
    (case z_len => first | k_is | k_exc | rfl)
    (case z_list => first | k_is | k_exc | rfl)
    (case z_range => first | k_is | k_exc | rfl)
    (case z_sorted => first | k_is | k_exc | rfl)
    (case z_str => first | k_is | k_exc | rfl)
    (case z_tuple => first | k_is | k_exc | rfl)
    (case v_CAPITALS => first | k_is | k_exc | rfl)
    (case v_MOST_ENTERED => first | k_is | k_exc | rfl)
    (case v_MOST_ENTRIES => first | k_is | k_exc | rfl)
    (case v_MOST_KEY_NUMBERS => first | k_is | k_exc | rfl)
    (case v_SMALL => first | k_is | k_exc | rfl)
    (case pg7 => first | k_is | k_exc | rfl)
    (case hd7 => first | k_is | k_exc | rfl)
    (case po7 => first | k_is | k_exc | rfl)
    (case sa7 => first | k_is | k_exc | rfl)
    (case mk7 => first | k_is | k_exc | rfl)
    (case kc7 => first | k_is | k_exc | rfl)
    (case sf7 => first | k_is | k_exc | rfl)
    (case ka7 => first | k_is | k_exc | rfl)
    (case kb7 => first | k_is | k_exc | rfl)
    (case kt7 => first | k_is | k_exc | rfl)
    (case km7 => first | k_is | k_exc | rfl)
    (case to7_NoneType => first | k_is | k_exc | rfl)
    (case to7_bool => first | k_is | k_exc | rfl)
    (case to7_int => first | k_is | k_exc | rfl)
    (case to7_str => first | k_is | k_exc | rfl)
    (case to7_list => first | k_is | k_exc | rfl)
    (case to7_tuple => first | k_is | k_exc | rfl)
    (case to7_dict => first | k_is | k_exc | rfl)
    (case ot7_bool => first | k_is | k_exc | rfl)
    (case ot7_int => first | k_is | k_exc | rfl)
    (case ot7_str => first | k_is | k_exc | rfl)
    (case ot7_list => first | k_is | k_exc | rfl)
    (case ot7_tuple => first | k_is | k_exc | rfl)
    (case ot7_dict => first | k_is | k_exc | rfl)
    (case na7__table => first | k_is | k_exc | rfl)
    (case na7_rows => first | k_is | k_exc | rfl)
    (case na7_text => first | k_is | k_exc | rfl)
    (case e0x1 => first | k_is | k_exc | rfl)
    (case e0k1 => first | k_is | k_exc | rfl)
    (case e0s1 => first | k_is | k_exc | rfl)
    (case e0t1 => first | k_is | k_exc | rfl)
    (case ai => first | k_is | k_exc | rfl)
    (case li => first | k_is | k_exc | rfl)
    (case ci => first | k_is | k_exc | rfl)
    (case ki => first | k_is | k_exc | rfl)
    (case ii => first | k_is | k_exc | rfl)
    (case yg6 => first | k_is | k_exc | rfl)
    (case yk6 => first | k_is | k_exc | rfl)
    (case ys6 => first | k_is | k_exc | rfl)
    (case yd6 => first | k_is | k_exc | rfl)
    (case ya6 => first | k_is | k_exc | rfl)
    (case ym6 => first | k_is | k_exc | rfl)
    (case yt6 => first | k_is | k_exc | rfl)
    (case yg1 => first | k_is | k_exc | rfl)
    (case yk1 => first | k_is | k_exc | rfl)
    (case ys1 => first | k_is | k_exc | rfl)
    (case yd1 => first | k_is | k_exc | rfl)
    (case ya1 => first | k_is | k_exc | rfl)
    (case ym1 => first | k_is | k_exc | rfl)
    (case yt1 => first | k_is | k_exc | rfl)
    (case xb1 => first | k_is | k_exc | rfl)
    (case xb2 => first | k_is | k_exc | rfl)
    (case yp6_6 => first | k_is | k_exc | rfl)
    (case yp6_1 => first | k_is | k_exc | rfl)
    (case yp1_6 => first | k_is | k_exc | rfl)
    (case yp1_1 => first | k_is | k_exc | rfl)
    (case kp6_1 => first | k_is | k_exc | rfl)
    (case kp6_4 => first | k_is | k_exc | rfl)
    (case kp6_5 => first | k_is | k_exc | rfl)
    (case kp6_2 => first | k_is | k_exc | rfl)
    (case kp6_0 => first | k_is | k_exc | rfl)
    (case kp1_6 => first | k_is | k_exc | rfl)
    (case kp1_4 => first | k_is | k_exc | rfl)
    (case kp1_5 => first | k_is | k_exc | rfl)
    (case kp1_2 => first | k_is | k_exc | rfl)
    (case kp1_0 => first | k_is | k_exc | rfl)
    (case xl => first | k_is | k_exc | rfl)
    (case xbmt => first | k_is | k_exc | rfl)
    (case xsa => first | k_is | k_exc | rfl)
    (case xex => first | k_is | k_exc | rfl)
    (case xty => first | k_is | k_exc | rfl)
    (case xkc => first | k_is | k_exc | rfl)
    (case xi => first | k_is | k_exc | rfl)
    (case xit => first | k_is | k_exc | rfl)
    (case xfl => first | k_is | k_exc | rfl)
    (case xcd => first | k_is | k_exc | rfl)
    (case xcode => first | k_is | k_exc | rfl)
    (case xvs2 => first | k_is | k_exc | rfl)
    (case xfi => first | k_is | k_exc | rfl)
    (case xcell => first | k_is | k_exc | rfl)
    (case xcls => first | k_is | k_exc | rfl)
    (case xsub2 => first | k_is | k_exc | rfl)
    (case xsup => first | k_is | k_exc | rfl)
    (case xtop => first | k_is | k_exc | rfl)
    (case xopq => first | k_is | k_exc | rfl)
    (case xal => first | k_is | k_exc | rfl)
    (case xva => first | k_is | k_exc | rfl)
    (case xna1 => first | k_is | k_exc | rfl)
    (case xna2 => first | k_is | k_exc | rfl)
  case hmirr => exact K17.law_all
