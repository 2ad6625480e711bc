import PyProof.Rows.All
import Wide.All
import OpenK.AllK
import Wide.FinOn
import HandS.Base
import HandS.Call
import HandS.List
import HandS.Comp
import HandS.Ends
import HandS.Dict
import HandS.Iter
import HandS.Text
import HandS.Exc
import HandS.TryOnly
import HandS.ExcOwn
import HandS.Wide
import HandS.Style
import HandS.TupAny
import HandS.TupMul
import HandS.TupLe
import HandS.IsInst
import HandS.SortInts
import HandS.Deep
import HandS.Zip
import HandS.ForMost
import HandS.ForExc
import HandS.Gcd
import HandS.Small
import HandS.Defaults
import HandS.HeadEnd
import HandS.HeadHook1
import HandS.HeadHook2
import HandS.Head0
import HandS.Head1
import HandS.Head2
import PySem.Challenge.RW_wetfolds_k18_whole_moves_of_rows
set_option Elab.async false
set_option linter.all false
set_option maxRecDepth 100000
section P_PX1
set_option maxHeartbeats 4000000
namespace PX
open PySem PySem.Spec PyProof.Rows L2

/-! ### values, cells, stores -/
inductive D where
  | py (d : PyData)
  | loc (n : Nat)
  | raw (v : V)
inductive Cell where
  | lst (l : List PyData)
  | dI (l : List (Key × PyData))
  | dT (l : List (List Key × PyData))
abbrev Store := List Cell
abbrev Ev := List (Option D)
/-- an error: its class's name, its field -/
structure Ex where
  cls : Str
  pay : Option (Str × Int)
inductive R (α : Type) where
  | ok (a : α) (S : Store)
  | exc (x : Ex) (S : Store)
  | no
abbrev M (α : Type) := Ev → Store → R α

/-! ### the relation to the heap -/
def Sm (H H' : Hp) : Prop := ∀ b o, H b = some o → H' b = some o
theorem Sm.refl (H : Hp) : Sm H H := fun _ _ h => h
theorem Sm.trans {H H1 H2 : Hp} (a : Sm H H1) (b : Sm H1 H2) : Sm H H2 := fun c o h => b c o (a c o h)
/-- the heap without what may change -/
def fz (ρ : List Addr) (H : Hp) : Hp := fun a => if a ∈ ρ then none else H a
theorem fz_in {ρ : List Addr} {H : Hp} {a : Addr} (h : a ∈ ρ) : fz ρ H a = none := if_pos h
theorem fz_out {ρ : List Addr} {H : Hp} {a : Addr} (h : a ∉ ρ) : fz ρ H a = H a := if_neg h
theorem fz_some {ρ : List Addr} {H : Hp} {a : Addr} {o : HO} (h : fz ρ H a = some o) : a ∉ ρ ∧ H a = some o := by
  unfold fz at h
  split at h
  · cases h
  · exact ⟨by assumption, h⟩
theorem fz_sub (ρ : List Addr) (H : Hp) : Sm (fz ρ H) H := fun _ _ h => (fz_some h).2
theorem rd_mono {H H' : Hp} {a : Addr} {u : HO} (e : Sm H H') (h : Rd H a u) : Rd H' a u := by
  rcases h with h | ⟨o, h⟩
  · exact .inl (e _ _ h)
  · exact .inr ⟨o, e _ _ h⟩
theorem sqt_mono {K : PySem.W.Frag} {H H' : Hp} {a : Addr} {xs : List V} (e : Sm H H') (h : SqT K H a xs) : SqT K H' a xs := by
  rcases h with h | h
  · exact .inl (rd_mono e h)
  · exact .inr h
theorem sql_mono {K : PySem.W.Frag} {H H' : Hp} {a : Addr} {xs : List V} (e : Sm H H') (h : SqL K H a xs) : SqL K H' a xs := by
  rcases h with h | h
  · exact .inl (rd_mono e h)
  · exact .inr h
mutual
theorem dp_mono {K : PySem.W.Frag} {H H' : Hp} (e : Sm H H') : ∀ {v : V} {d : PyData}, Dp K H v d → Dp K H' v d
  | _, _, .non => .non
  | _, _, .bl b => .bl b
  | _, _, .int i => .int i
  | _, _, .str x => .str x
  | _, _, .lst h a => .lst (sql_mono e h) (dpa_mono e a)
  | _, _, .tup h a => .tup (sqt_mono e h) (dpa_mono e a)
theorem dpa_mono {K : PySem.W.Frag} {H H' : Hp} (e : Sm H H') : ∀ {vs : List V} {ds : List PyData}, DpAll K H vs ds → DpAll K H' vs ds
  | _, _, .nil => .nil
  | _, _, .cons a b => .cons (dp_mono e a) (dpa_mono e b)
end
section
variable {K : PySem.W.Frag} {H : Hp}
theorem dpa_length : ∀ {vs : List V} {ds : List PyData}, DpAll K H vs ds → vs.length = ds.length
  | _, _, .nil => rfl
  | _, _, .cons _ b => by rw [List.length_cons, List.length_cons, dpa_length b]
theorem dpa_get : ∀ {vs : List V} {ds : List PyData} {i : Nat} {d : PyData}, DpAll K H vs ds → ds[i]? = some d → ∃ v, vs[i]? = some v ∧ Dp K H v d
  | _, _, _, _, .nil, h => by simp at h
  | _, _, 0, _, .cons a _, h => ⟨_, rfl, by simp at h; subst h; exact a⟩
  | _, _, i + 1, _, .cons _ b, h => by
    obtain ⟨v, e, q⟩ := dpa_get (i := i) b (by simpa using h)
    exact ⟨v, by simpa using e, q⟩
theorem dpa_getV : ∀ {vs : List V} {ds : List PyData} {i : Nat} {v : V}, DpAll K H vs ds → vs[i]? = some v → ∃ d, ds[i]? = some d ∧ Dp K H v d
  | _, _, _, _, .nil, h => by simp at h
  | _, _, 0, _, .cons a _, h => ⟨_, rfl, by simp at h; subst h; exact a⟩
  | _, _, i + 1, _, .cons _ b, h => by
    obtain ⟨v, e, q⟩ := dpa_getV (i := i) b (by simpa using h)
    exact ⟨v, by simpa using e, q⟩
theorem dpa_append : ∀ {vs ws : List V} {ds es : List PyData}, DpAll K H vs ds → DpAll K H ws es → DpAll K H (vs ++ ws) (ds ++ es)
  | _, _, _, _, .nil, h => h
  | _, _, _, _, .cons a b, h => .cons a (dpa_append b h)
theorem dpa_take : ∀ {vs : List V} {ds : List PyData} (n : Nat), DpAll K H vs ds → DpAll K H (vs.take n) (ds.take n)
  | _, _, 0, _ => by simp; exact .nil
  | _, _, _ + 1, .nil => by simp; exact .nil
  | _, _, n + 1, .cons a b => .cons a (dpa_take n b)
theorem dpa_drop : ∀ {vs : List V} {ds : List PyData} (n : Nat), DpAll K H vs ds → DpAll K H (vs.drop n) (ds.drop n)
  | _, _, 0, h => h
  | _, _, _ + 1, .nil => by simp; exact .nil
  | _, _, n + 1, .cons _ b => dpa_drop n b
theorem dpa_reverse {vs : List V} {ds : List PyData} (h : DpAll K H vs ds) : DpAll K H vs.reverse ds.reverse := by
  have aux : ∀ {vs : List V} {ds : List PyData}, DpAll K H vs ds → DpAll K H vs.reverse ds.reverse := by
    intro vs
    induction vs with
    | nil => intro ds h; cases h; exact .nil
    | cons v vs ih => intro ds h; cases h with
      | cons a b => rw [List.reverse_cons, List.reverse_cons]; exact dpa_append (ih b) (.cons a .nil)
  exact aux h
theorem dpa_set : ∀ {vs : List V} {ds : List PyData} (n : Nat) {v : V} {d : PyData}, Dp K H v d → DpAll K H vs ds → DpAll K H (vs.set n v) (ds.set n d)
  | _, _, _, _, _, _, .nil => by simp; exact .nil
  | _, _, 0, _, _, h, .cons _ b => .cons h b
  | _, _, n + 1, _, _, h, .cons a b => .cons a (dpa_set n h b)
end

def CellOk (K : PySem.W.Frag) (F : Hp) (o : Option HO) : Cell → Prop
  | .lst l => ∃ xs, o = some (.lst xs) ∧ DpAll K F xs l ∧ xs.length ≤ sizeLine
  | .dI l => ∃ ws, o = some (.dK ws) ∧ Paired (fun (w : Key × V) (p : Key × PyData) => w.1 = p.1 ∧ Dp K F w.2 p.2) ws l ∧ ws.length ≤ sizeLine
  | .dT l => ∃ ws, o = some (.dT ws) ∧ Paired (fun (w : List Key × V) (p : List Key × PyData) => w.1 = p.1 ∧ Dp K F w.2 p.2) ws l ∧ ws.length ≤ sizeLine
theorem CellOk.mono {K : PySem.W.Frag} {F F' : Hp} {o : Option HO} {c : Cell} (e : Sm F F') (h : CellOk K F o c) : CellOk K F' o c := by
  cases c with
  | lst l => obtain ⟨xs, h1, h2, h3⟩ := h; exact ⟨xs, h1, dpa_mono e h2, h3⟩
  | dI l => obtain ⟨xs, h1, h2, h3⟩ := h; exact ⟨xs, h1, Paired.mapP h2 fun _ _ z => ⟨z.1, dp_mono e z.2⟩, h3⟩
  | dT l => obtain ⟨xs, h1, h2, h3⟩ := h; exact ⟨xs, h1, Paired.mapP h2 fun _ _ z => ⟨z.1, dp_mono e z.2⟩, h3⟩

structure Sim (K : PySem.W.Frag) (ρ : List Addr) (S : Store) (H : Hp) : Prop where
  len : ρ.length = S.length
  nd : ρ.Nodup
  cell : ∀ (n : Nat) (a : Addr) (c : Cell), ρ[n]? = some a → S[n]? = some c → CellOk K (fz ρ H) (H a) c
/-- a value -/
def RepD (K : PySem.W.Frag) (ρ : List Addr) (H : Hp) (v : V) : D → Prop
  | .py d => Dp K (fz ρ H) v d
  | .loc n => ∃ a, ρ[n]? = some a ∧ v = .ref a
  | .raw w => v = w
/-- later -/
structure Ext (ρ : List Addr) (H : Hp) (ρ' : List Addr) (H' : Hp) : Prop where
  pre : ∃ τ, ρ' = ρ ++ τ
  fr : Sm (fz ρ H) (fz ρ' H')
theorem Ext.refl (ρ : List Addr) (H : Hp) : Ext ρ H ρ H := ⟨⟨[], by simp⟩, Sm.refl _⟩
theorem Ext.trans {ρ ρ1 ρ2 : List Addr} {H H1 H2 : Hp} (a : Ext ρ H ρ1 H1) (b : Ext ρ1 H1 ρ2 H2) : Ext ρ H ρ2 H2 := by
  obtain ⟨⟨τ, e⟩, f⟩ := a
  obtain ⟨⟨τ', e'⟩, f'⟩ := b
  exact ⟨⟨τ ++ τ', by rw [e', e, List.append_assoc]⟩, f.trans f'⟩
theorem RepD.mono {K : PySem.W.Frag} {ρ ρ' : List Addr} {H H' : Hp} {v : V} {d : D} (e : Ext ρ H ρ' H') (h : RepD K ρ H v d) : RepD K ρ' H' v d := by
  cases d with
  | py d => exact dp_mono e.fr h
  | loc n =>
    obtain ⟨a, h1, h2⟩ := h
    obtain ⟨τ, e1⟩ := e.pre
    refine ⟨a, ?_, h2⟩
    rw [e1]
    have hn : n < ρ.length := by
      rcases Nat.lt_or_ge n ρ.length with q | q
      · exact q
      · rw [List.getElem?_eq_none q] at h1; cases h1
    rw [List.getElem?_append_left hn]
    exact h1
  | raw w => exact h
def REnv (K : PySem.W.Frag) (ρ : List Addr) (H : Hp) (σ : L2.St) (env : Ev) : Prop :=
  σ.length = env.length ∧ ∀ (i : Nat) (d : D), env[i]? = some (some d) → ∃ v, σ[i]? = some (some v) ∧ RepD K ρ H v d
theorem REnv.mono {K : PySem.W.Frag} {ρ ρ' : List Addr} {H H' : Hp} {σ : L2.St} {env : Ev} (e : Ext ρ H ρ' H') (h : REnv K ρ H σ env) : REnv K ρ' H' σ env :=
  ⟨h.1, fun i d q => let ⟨v, h1, h2⟩ := h.2 i d q; ⟨v, h1, h2.mono e⟩⟩
theorem REnv.set {K : PySem.W.Frag} {ρ : List Addr} {H : Hp} {σ : L2.St} {env : Ev} (h : REnv K ρ H σ env) (i : Nat) {v : V} {d : D} (r : RepD K ρ H v d) : REnv K ρ H (σ.set i (some v)) (env.set i (some d)) := by
  refine ⟨by rw [List.length_set, List.length_set]; exact h.1, fun j e q => ?_⟩
  by_cases hj : i = j
  · subst hj
    have hi : i < env.length := by
      rcases Nat.lt_or_ge i env.length with z | z
      · exact z
      · rw [List.getElem?_eq_none (by rw [List.length_set]; exact z)] at q; cases q
    rw [List.getElem?_set_self hi] at q
    cases q
    exact ⟨v, by rw [List.getElem?_set_self (by rw [h.1]; exact hi)], r⟩
  · rw [List.getElem?_set_ne hj] at q ⊢
    exact h.2 j e q
/-- the error's own dict -/
def XRep (mg : Str → Option Value) (H : Hp) (x : Ex) (cls : Value) (o : Option Addr) : Prop :=
  ∃ C, mg x.cls = some (.ref C) ∧ cls = .ref C ∧ match x.pay with
    | none => o = none
    | some (f, i) => ∃ a, o = some a ∧ H a = some (.xd [(f, .int i)])

/-! ### readings -/
section
variable {α β γ : Type}
/-- what is wanted of a result -/
def Post (K : PySem.W.Frag) (mg : Str → Option Value) (W : WX) (rep : List Addr → Hp → β → α → Prop) (ρ : List Addr) (σ : L2.St) (H : Hp) (Q : β → Hp → Prop) : R α → Prop
  | .ok d S' => ∀ v H' ρ', Ext ρ H ρ' H' → Sim K ρ' S' H' → rep ρ' H' v d → Q v H'
  | .exc x S' => ∀ cls o H' ρ', Ext ρ H ρ' H' → Sim K ρ' S' H' → XRep mg H' x cls o → W cls o σ H'
  | .no => False
def tM (K : PySem.W.Frag) (mg : Str → Option Value) (W : WX) (rep : List Addr → Hp → β → α → Prop) (m : M α) : L2.St → Hp → (β → Hp → Prop) → Prop := fun σ H Q =>
  ∃ ρ S env, Sim K ρ S H ∧ REnv K ρ H σ env ∧ Post K mg W rep ρ σ H Q (m env S)
def bd (r : R α) (k : α → Store → R γ) : R γ := match r with
  | .ok a S => k a S
  | .exc x S => .exc x S
  | .no => .no
variable {K : PySem.W.Frag} {mg : Str → Option Value} {W : WX}
theorem Post.ext {rep : List Addr → Hp → β → α → Prop} {ρ ρ1 : List Addr} {σ : L2.St} {H H1 : Hp} {Q : β → Hp → Prop} {r : R α} (e : Ext ρ H ρ1 H1) (h : Post K mg W rep ρ σ H Q r) : Post K mg W rep ρ1 σ H1 Q r := by
  cases r with
  | ok d S => exact fun v H' ρ' x => h v H' ρ' (e.trans x)
  | exc d S => exact fun v o H' ρ' x => h v o H' ρ' (e.trans x)
  | no => exact h
theorem tM.bind {δ : Type} {rep : List Addr → Hp → β → α → Prop} {rep' : List Addr → Hp → δ → γ → Prop} {ρ : List Addr} {S : Store} {env : Ev} {σ : L2.St} {H : Hp} {Q : δ → Hp → Prop} {T : β → Hp → Prop} {m : M α} {k : α → Store → R γ}
    (sim : Sim K ρ S H) (re : REnv K ρ H σ env) (h : Post K mg W rep' ρ σ H Q (bd (m env S) k))
    (hk : ∀ ρ1 S1 v a H1, Ext ρ H ρ1 H1 → Sim K ρ1 S1 H1 → REnv K ρ1 H1 σ env → rep ρ1 H1 v a → Post K mg W rep' ρ1 σ H1 Q (k a S1) → T v H1) : tM K mg W rep m σ H T := by
  refine ⟨ρ, S, env, sim, re, ?_⟩
  cases e : m env S with
  | ok a S1 =>
    rw [e] at h
    exact fun v H1 ρ1 x s r => hk ρ1 S1 v a H1 x s (re.mono x) r (Post.ext x h)
  | exc x S1 =>
    rw [e] at h
    exact h
  | no =>
    rw [e] at h
    exact h
end
abbrev tE (K : PySem.W.Frag) (mg : Str → Option Value) (W : WX) (m : M D) : TE := tM K mg W (RepD K) m
abbrev tT (K : PySem.W.Frag) (mg : Str → Option Value) (W : WX) (m : M Bool) : TT := tM K mg W (fun _ _ b c => b = c) m
def RepDs (K : PySem.W.Frag) (ρ : List Addr) (H : Hp) (vs : List V) (ds : List D) : Prop := Paired (RepD K ρ H) vs ds
abbrev tA (K : PySem.W.Frag) (mg : Str → Option Value) (W : WX) (m : M (List D)) : TA := tM K mg W (RepDs K) m
theorem RepDs.mono {K : PySem.W.Frag} {ρ ρ' : List Addr} {H H' : Hp} {vs : List V} {ds : List D} (e : Ext ρ H ρ' H') (h : RepDs K ρ H vs ds) : RepDs K ρ' H' vs ds := Paired.mapP h fun _ _ z => z.mono e

/-! statements -/
inductive F where
  | nx | rt (d : D) | bk | ct
inductive RS where
  | go (f : F) (env : Ev) (S : Store)
  | exc (x : Ex) (env : Ev) (S : Store)
  | no
abbrev MS := Ev → Store → RS
def PostS (K : PySem.W.Frag) (mg : Str → Option Value) (W : WX) (ρ : List Addr) (H : Hp) (D : Ends) : RS → Prop
  | .go .nx env S => ∀ σ' H' ρ', Ext ρ H ρ' H' → Sim K ρ' S H' → REnv K ρ' H' σ' env → D.nx σ' H'
  | .go .bk env S => ∀ σ' H' ρ', Ext ρ H ρ' H' → Sim K ρ' S H' → REnv K ρ' H' σ' env → D.bk σ' H'
  | .go .ct env S => ∀ σ' H' ρ', Ext ρ H ρ' H' → Sim K ρ' S H' → REnv K ρ' H' σ' env → D.ct σ' H'
  | .go (.rt d) _ S => ∀ v H' ρ', Ext ρ H ρ' H' → Sim K ρ' S H' → RepD K ρ' H' v d → D.rt v H'
  | .exc x env S => ∀ cls o σ' H' ρ', Ext ρ H ρ' H' → Sim K ρ' S H' → REnv K ρ' H' σ' env → XRep mg H' x cls o → W cls o σ' H'
  | .no => False
def tS (K : PySem.W.Frag) (mg : Str → Option Value) (W : WX) (m : MS) : TS := fun D σ H => ∃ ρ S env, Sim K ρ S H ∧ REnv K ρ H σ env ∧ PostS K mg W ρ H D (m env S)
theorem PostS.ext {K : PySem.W.Frag} {mg : Str → Option Value} {W : WX} {ρ ρ1 : List Addr} {H H1 : Hp} {D : Ends} {r : RS} (e : Ext ρ H ρ1 H1) (h : PostS K mg W ρ H D r) : PostS K mg W ρ1 H1 D r := by
  match r, h with
  | .go .nx _ _, h => exact fun σ' H' ρ' x => h σ' H' ρ' (e.trans x)
  | .go .bk _ _, h => exact fun σ' H' ρ' x => h σ' H' ρ' (e.trans x)
  | .go .ct _ _, h => exact fun σ' H' ρ' x => h σ' H' ρ' (e.trans x)
  | .go (.rt d) _ _, h => exact fun σ' H' ρ' x => h σ' H' ρ' (e.trans x)
  | .exc x _ _, h => exact fun c o σ' H' ρ' x => h c o σ' H' ρ' (e.trans x)
def bs (r : R α) (env : Ev) (k : α → Store → RS) : RS := match r with
  | .ok a S => k a S
  | .exc x S => .exc x env S
  | .no => .no
theorem tM.bindS {α β : Type} {K : PySem.W.Frag} {mg : Str → Option Value} {W : WX} {rep : List Addr → Hp → β → α → Prop} {ρ : List Addr} {S : Store} {env : Ev} {σ : L2.St} {H : Hp} {D : Ends} {T : β → Hp → Prop} {m : M α} {k : α → Store → RS}
    (sim : Sim K ρ S H) (re : REnv K ρ H σ env) (h : PostS K mg W ρ H D (bs (m env S) env k))
    (hk : ∀ ρ1 S1 v a H1, Ext ρ H ρ1 H1 → Sim K ρ1 S1 H1 → REnv K ρ1 H1 σ env → rep ρ1 H1 v a → PostS K mg W ρ1 H1 D (k a S1) → T v H1) : tM K mg W rep m σ H T := by
  refine ⟨ρ, S, env, sim, re, ?_⟩
  cases e : m env S with
  | ok a S1 =>
    rw [e] at h
    exact fun v H1 ρ1 x s r => hk ρ1 S1 v a H1 x s (re.mono x) r (PostS.ext x h)
  | exc x S1 =>
    rw [e] at h
    exact fun cls o H' ρ' x s r => h cls o σ H' ρ' x s (re.mono x) r
  | no =>
    rw [e] at h
    exact h

theorem pe_imp {X : Cx} {e : Expr} {t t' : TE} (h : PE X e t) (i : ∀ σ H Q, t' σ H Q → t σ H Q) : PE X e t' := ⟨fun pins s σ H Q I q => h.run pins s σ H Q I (i σ H Q q)⟩
theorem pt_imp {X : Cx} {e : Expr} {t t' : TT} (h : PT X e t) (i : ∀ σ H Q, t' σ H Q → t σ H Q) : PT X e t' := ⟨fun pins s σ H Q I q => h.run pins s σ H Q I (i σ H Q q)⟩
theorem pw_imp {X : Cx} {e : Expr} {t t' : TT} (h : PW X e t) (i : ∀ σ H Q, t' σ H Q → t σ H Q) : PW X e t' := ⟨fun w pins s σ H Q I q => h.run w pins s σ H Q I (i σ H Q q)⟩
theorem pa_imp {X : Cx} {e : List Expr} {t t' : TA} (h : PA X e t) (i : ∀ σ H Q, t' σ H Q → t σ H Q) : PA X e t' := ⟨fun p pins s σ H Q I q => h.run p pins s σ H Q I (i σ H Q q)⟩
theorem ps_imp {X : Cx} {e : Stmt} {t t' : TS} (h : PS X e t) (i : ∀ D σ H, t' D σ H → t D σ H) : PS X e t' := ⟨fun pins s σ H D I q => h.run pins s σ H D I (i D σ H q)⟩
theorem pss_imp {X : Cx} {e : List Stmt} {t t' : TS} (h : PSs X e t) (i : ∀ D σ H, t' D σ H → t D σ H) : PSs X e t' := ⟨fun pins s σ H D I q => h.run pins s σ H D I (i D σ H q)⟩
end PX

end P_PX1
section P_PX2
set_option maxHeartbeats 4000000
namespace PX
open PySem PySem.Spec PyProof.Rows L2

/-! ### reading what is held -/
def rd (S : Store) : D → Option PyData
  | .py d => some d
  | .loc n => match S[n]? with
    | some (.lst l) => some (.list l)
    | _ => none
  | .raw _ => none
theorem rd_ok {K : PySem.W.Frag} {ρ : List Addr} {S : Store} {H : Hp} {v : V} {d : D} {p : PyData} (sim : Sim K ρ S H) (r : RepD K ρ H v d) (h : rd S d = some p) : Dp K H v p := by
  cases d with
  | py d => cases h; exact dp_mono (fz_sub ρ H) r
  | loc n =>
    obtain ⟨a, h1, rfl⟩ := r
    unfold rd at h
    cases hc : S[n]? with
    | none => simp only [hc] at h; cases h
    | some c =>
      simp only [hc] at h
      cases c with
      | lst l =>
        cases h
        obtain ⟨xs, e, q, _⟩ := sim.cell n a _ h1 hc
        exact .lst (SqL.of e) (dpa_mono (fz_sub ρ H) q)
      | dI l => cases h
      | dT l => cases h
  | raw v => cases h
/-- an answer -/
def retP (o : Option PyData) (S : Store) : R D := match o with
  | some p => .ok (.py p) S
  | none => .no
def isSc : PyData → Bool
  | .none => true
  | .bool _ => true
  | .int _ => true
  | .str _ => true
  | _ => false
def scV : PyData → V
  | .none => .non
  | .bool b => .bl b
  | .int i => .int i
  | .str s => .str s
  | _ => .non
theorem dp_sc {K : PySem.W.Frag} {H : Hp} {p : PyData} (h : isSc p = true) : Dp K H (scV p) p := by
  cases p with
  | none => exact .non
  | bool b => exact .bl b
  | int i => exact .int i
  | str s => exact .str s
  | list l => cases h
  | tuple l => cases h
  | dict l => cases h
section
variable {K : PySem.W.Frag} {mg : Str → Option Value} {W : WX} {ρ : List Addr} {S : Store} {H : Hp} {σ : L2.St} {Q : V → Hp → Prop}
theorem post_v {v : V} {d : D} (sim : Sim K ρ S H) (r : RepD K ρ H v d) (h : Post K mg W (RepD K) ρ σ H Q (.ok d S)) : Q v H := h v H ρ (Ext.refl _ _) sim r
theorem post_sc {p : PyData} (sim : Sim K ρ S H) (hs : isSc p = true) (h : Post K mg W (RepD K) ρ σ H Q (.ok (.py p) S)) : Q (scV p) H := post_v (d := .py p) sim (dp_sc hs) h
theorem sim_new {p : Addr} (sim : Sim K ρ S H) (hp : H p = none) : p ∉ ρ := by
  intro hm
  obtain ⟨n, hn, e⟩ := List.getElem_of_mem hm
  have h1 : ρ[n]? = some p := by rw [List.getElem?_eq_getElem hn, e]
  have hn2 : n < S.length := by rw [← sim.len]; exact hn
  have hc := sim.cell n p _ h1 (List.getElem?_eq_getElem hn2)
  cases hq : S[n] with
  | lst l => rw [hq] at hc; obtain ⟨xs, e, _⟩ := hc; rw [hp] at e; cases e
  | dI l => rw [hq] at hc; obtain ⟨xs, e, _⟩ := hc; rw [hp] at e; cases e
  | dT l => rw [hq] at hc; obtain ⟨xs, e, _⟩ := hc; rw [hp] at e; cases e
theorem fz_upd {p : Addr} {o : HO} (hn : p ∉ ρ) : fz ρ (upd H p o) = upd (fz ρ H) p o := by
  funext a
  unfold fz upd
  by_cases h1 : a = p
  · subst h1; simp [hn]
  · simp [h1]
theorem fz_upd_in {p : Addr} {o : HO} (hn : p ∈ ρ) : fz ρ (upd H p o) = fz ρ H := by
  funext a
  unfold fz upd
  by_cases h1 : a = p
  · subst h1; simp [hn]
  · simp [h1]
theorem fz_app_upd {p : Addr} {o : HO} (hn : p ∉ ρ) (hp : H p = none) : fz (ρ ++ [p]) (upd H p o) = fz ρ H := by
  funext a
  unfold fz upd
  by_cases h1 : a = p
  · subst h1; simp [hn, hp]
  · simp [h1]
theorem sm_upd {p : Addr} {o : HO} (hp : H p = none) : Sm H (upd H p o) := fun b u e => by
  rw [upd_ne (ne_of_none e hp)]
  exact e
theorem ext_new {p : Addr} {o : HO} (sim : Sim K ρ S H) (hp : H p = none) : Ext ρ H ρ (upd H p o) := by
  refine ⟨⟨[], by simp⟩, ?_⟩
  rw [fz_upd (sim_new sim hp)]
  refine sm_upd ?_
  rw [fz_out (sim_new sim hp)]
  exact hp
theorem Sim.upd {p : Addr} {o : HO} (sim : Sim K ρ S H) (hp : H p = none) : Sim K ρ S (upd H p o) := by
  refine ⟨sim.len, sim.nd, fun n a c h1 h2 => ?_⟩
  have q := sim.cell n a c h1 h2
  have ha : a ≠ p := fun e => sim_new sim hp (by rw [← e]; exact List.mem_of_getElem? h1)
  rw [upd_ne ha]
  exact q.mono (ext_new (o := o) sim hp).fr
/-- a new object that stays as it is -/
theorem post_new {p : Addr} {o : HO} {d : PyData} (sim : Sim K ρ S H) (hp : H p = none) (hd : Dp K (fz ρ (L2.upd H p o)) (.ref p) d) (h : Post K mg W (RepD K) ρ σ H Q (.ok (.py d) S)) : Q (.ref p) (L2.upd H p o) :=
  h _ _ ρ (ext_new sim hp) (sim.upd hp) hd
theorem post_tup {p : Addr} {xs : List V} {ds : List PyData} (sim : Sim K ρ S H) (hp : H p = none) (hd : DpAll K (fz ρ H) xs ds) (h : Post K mg W (RepD K) ρ σ H Q (.ok (.py (.tuple ds)) S)) : Q (.ref p) (L2.upd H p (.tup xs)) := by
  refine post_new sim hp (.tup (.inl (.inl ?_)) (dpa_mono (ext_new sim hp).fr hd)) h
  rw [fz_out (sim_new sim hp), upd_same]
/-- a new list or dict that may change -/
theorem Sim.push {p : Addr} {o : HO} {c : Cell} (sim : Sim K ρ S H) (hp : H p = none) (hc : CellOk K (fz ρ H) (some o) c) : Sim K (ρ ++ [p]) (S ++ [c]) (L2.upd H p o) := by
  have hn := sim_new sim hp
  refine ⟨by simp [sim.len], ?_, fun n a c' h1 h2 => ?_⟩
  · rw [List.nodup_append]
    refine ⟨sim.nd, by simp, fun x hx y hy => ?_⟩
    rw [List.mem_singleton] at hy
    rw [hy]
    exact fun e => hn (by rw [← e]; exact hx)
  · rw [fz_app_upd hn hp]
    by_cases hl : n < ρ.length
    · rw [List.getElem?_append_left hl] at h1
      rw [List.getElem?_append_left (by rw [← sim.len]; exact hl)] at h2
      have ha : a ≠ p := fun e => hn (by rw [← e]; exact List.mem_of_getElem? h1)
      rw [upd_ne ha]
      exact sim.cell n a c' h1 h2
    · have hl2 : n = ρ.length := by
        have := (List.getElem?_eq_some_iff.mp h1).1
        rw [List.length_append, List.length_singleton] at this
        omega
      rw [hl2] at h1
      rw [hl2, sim.len] at h2
      simp at h1 h2
      subst h1 h2
      rw [upd_same]
      exact hc
theorem post_loc {p : Addr} {o : HO} {c : Cell} (sim : Sim K ρ S H) (hp : H p = none) (hc : CellOk K (fz ρ H) (some o) c) (h : Post K mg W (RepD K) ρ σ H Q (.ok (.loc S.length) (S ++ [c]))) : Q (.ref p) (L2.upd H p o) := by
  have hn := sim_new sim hp
  refine h _ _ (ρ ++ [p]) ⟨⟨[p], rfl⟩, ?_⟩ (sim.push hp hc) ⟨p, ?_, rfl⟩
  · rw [fz_app_upd hn hp]
    exact Sm.refl _
  · rw [← sim.len]
    simp
end

/-! ### operators by values -/
def OpD (K : PySem.W.Frag) (r : R2) (g : D → D → Store → R D) : Prop := ∀ (mg : Str → Option Value) (W : WX) (ρ : List Addr) (S : Store) (σ : L2.St) (H : Hp) (Q : V → Hp → Prop) (x y : V) (dx dy : D), Sim K ρ S H → RepD K ρ H x dx → RepD K ρ H y dy → Post K mg W (RepD K) ρ σ H Q (g dx dy S) → r x y H Q
def UnD (K : PySem.W.Frag) (r : V → Hp → VK → Prop) (g : D → Store → R D) : Prop := ∀ (mg : Str → Option Value) (W : WX) (ρ : List Addr) (S : Store) (σ : L2.St) (H : Hp) (Q : V → Hp → Prop) (x : V) (dx : D), Sim K ρ S H → RepD K ρ H x dx → Post K mg W (RepD K) ρ σ H Q (g dx S) → r x H Q
def CaD (K : PySem.W.Frag) (r : List V → Hp → VK → Prop) (g : List D → Store → R D) : Prop := ∀ (mg : Str → Option Value) (W : WX) (ρ : List Addr) (S : Store) (σ : L2.St) (H : Hp) (Q : V → Hp → Prop) (xs : List V) (ds : List D), Sim K ρ S H → RepDs K ρ H xs ds → Post K mg W (RepD K) ρ σ H Q (g ds S) → r xs H Q

/-! the programs' words -/
def mV (i : Nat) : M D := fun env S => match env[i]? with
  | some (some d) => .ok d S
  | _ => .no
def mK (d : PyData) : M D := fun _ S => .ok (.py d) S
def m1 (g : D → Store → R D) (a : M D) : M D := fun env S => bd (a env S) fun x S1 => g x S1
def m2 (g : D → D → Store → R D) (a b : M D) : M D := fun env S => bd (a env S) fun x S1 => bd (b env S1) fun y S2 => g x y S2
def mNil : M (List D) := fun _ S => .ok [] S
def mCons (a : M D) (r : M (List D)) : M (List D) := fun env S => bd (a env S) fun x S1 => bd (r env S1) fun xs S2 => .ok (x :: xs) S2
def mCall (g : List D → Store → R D) (as : M (List D)) : M D := fun env S => bd (as env S) fun xs S1 => g xs S1
def mIf (c : M Bool) (a b : M D) : M D := fun env S => bd (c env S) fun k S1 => if k then a env S1 else b env S1
def mAndT (a b : M Bool) : M Bool := fun env S => bd (a env S) fun k S1 => if k then b env S1 else .ok false S1
def mOrT (a b : M Bool) : M Bool := fun env S => bd (a env S) fun k S1 => if k then .ok true S1 else b env S1
def mNotT (a : M Bool) : M Bool := fun env S => bd (a env S) fun k S1 => .ok (!k) S1
/-- and, or of truth values -/
def mAnd (a b : M D) : M D := fun env S => bd (a env S) fun x S1 => match x with
  | .py (.bool k) => if k then b env S1 else .ok (.py (.bool false)) S1
  | _ => .no
def mOr (a b : M D) : M D := fun env S => bd (a env S) fun x S1 => match x with
  | .py (.bool k) => if k then .ok (.py (.bool true)) S1 else b env S1
  | _ => .no
def mNot (a : M D) : M D := fun env S => bd (a env S) fun x S1 => match x with
  | .py (.bool k) => .ok (.py (.bool (!k))) S1
  | _ => .no
/-- a test that is a truth value -/
def mB (a : M D) : M Bool := fun env S => bd (a env S) fun x S1 => match x with
  | .py (.bool k) => .ok k S1
  | _ => .no

section
variable {X : Cx} {mg : Str → Option Value} {W : WX} {a b c : Expr} {pos : Pos} {ma mb mc : M D}
theorem se_var {i : Nat} {e : Expr} (h : PE X e (tVar i)) : PE X e (tE X.K mg W (mV i)) := by
  refine pe_imp h fun σ H Q ⟨ρ, S, env, sim, re, q⟩ => ?_
  unfold mV at q
  cases he : env[i]? with
  | none => rw [he] at q; exact q.elim
  | some o =>
    rw [he] at q
    cases o with
    | none => exact q.elim
    | some d =>
      obtain ⟨v, hv, r⟩ := re.2 i d he
      exact ⟨v, hv, q v H ρ (Ext.refl _ _) sim r⟩
theorem se_c {e : Expr} {p : PyData} (hs : isSc p = true) (h : PE X e (tC (scV p))) : PE X e (tE X.K mg W (mK p)) :=
  pe_imp h fun σ H Q ⟨ρ, S, env, sim, re, q⟩ => post_sc sim hs q
theorem se_op {op : Operator} {r : R2} {g : D → D → Store → R D} (ho : OpR X (binaryOp op) r) (hg : OpD X.K r g) (ha : PE X a (tE X.K mg W ma)) (hb : PE X b (tE X.K mg W mb)) : PE X (.BinOp a op b pos) (tE X.K mg W (m2 g ma mb)) := by
  refine pe_imp (pe_op ho ha hb) fun σ H Q ⟨ρ, S, env, sim, re, q⟩ => ?_
  refine tM.bind sim re q fun ρ1 S1 x dx H1 e1 sim1 re1 r1 q1 => ?_
  refine tM.bind sim1 re1 q1 fun ρ2 S2 y dy H2 e2 sim2 re2 r2 q2 => ?_
  exact hg mg W ρ2 S2 σ H2 Q x y dx dy sim2 (r1.mono e2) r2 q2
theorem se_un {op : UnaryOp} {r : V → Hp → VK → Prop} {g : D → Store → R D} (ho : UnR X (unaryOp op) r) (hg : UnD X.K r g) (ha : PE X a (tE X.K mg W ma)) : PE X (.UnaryOp op a pos) (tE X.K mg W (m1 g ma)) := by
  refine pe_imp (pe_un ho ha) fun σ H Q ⟨ρ, S, env, sim, re, q⟩ => ?_
  refine tM.bind sim re q fun ρ1 S1 x dx H1 e1 sim1 re1 r1 q1 => ?_
  exact hg mg W ρ1 S1 σ H1 Q x dx sim1 r1 q1
theorem se_cmp {op : CmpOp} {r : R2} {g : D → D → Store → R D} (ho : OpR X (compareOp op) r) (hg : OpD X.K r g) (ha : PE X a (tE X.K mg W ma)) (hb : PE X b (tE X.K mg W mb)) (hm : behindInMarks op b = false) : PE X (.Compare a [op] [b] pos) (tE X.K mg W (m2 g ma mb)) := by
  refine pe_imp (pe_cmpR ho ha hb hm) fun σ H Q ⟨ρ, S, env, sim, re, q⟩ => ?_
  refine tM.bind sim re q fun ρ1 S1 x dx H1 e1 sim1 re1 r1 q1 => ?_
  refine tM.bind sim1 re1 q1 fun ρ2 S2 y dy H2 e2 sim2 re2 r2 q2 => ?_
  exact hg mg W ρ2 S2 σ H2 Q x y dx dy sim2 (r1.mono e2) r2 q2
theorem tB_of {σ : L2.St} {H : Hp} {Q : Bool → Hp → Prop} {ρ : List Addr} {S : Store} {env : Ev} (sim : Sim X.K ρ S H) (re : REnv X.K ρ H σ env) (q : Post X.K mg W (fun _ _ b c => b = c) ρ σ H Q (mB ma env S)) : tE X.K mg W ma σ H fun x H1 => ∃ k, x = .bl k ∧ Q k H1 := by
  unfold mB at q
  refine tM.bind sim re q fun ρ1 S1 x dx H1 e1 sim1 re1 r1 q1 => ?_
  cases dx with
  | py d =>
    cases d with
    | bool k =>
      cases r1
      exact ⟨k, rfl, q1 k H1 ρ1 (Ext.refl _ _) sim1 rfl⟩
    | _ => exact q1.elim
  | _ => exact q1.elim
/-- a comparison as a test -/
theorem st_cmp {op : CmpOp} {r : R2} {g : D → D → Store → R D} (ho : OpR X (compareOp op) r) (hg : OpD X.K r g) (ha : PE X a (tE X.K mg W ma)) (hb : PE X b (tE X.K mg W mb)) (hm : behindInMarks op b = false) : PT X (.Compare a [op] [b] pos) (tT X.K mg W (mB (m2 g ma mb))) := by
  refine pt_imp (pt_cmpR ho ha hb hm) fun σ H Q ⟨ρ, S, env, sim, re, q⟩ => ?_
  have q' := tB_of sim re q
  obtain ⟨ρ', S', env', sim', re', q2⟩ := q'
  show tOp r (tE X.K mg W ma) (tE X.K mg W mb) σ H _
  refine tM.bind sim' re' q2 fun ρ1 S1 x dx H1 e1 sim1 re1 r1 q1 => ?_
  refine tM.bind sim1 re1 q1 fun ρ2 S2 y dy H2 e2 sim2 re2 r2 q2 => ?_
  exact hg mg W ρ2 S2 σ H2 _ x y dx dy sim2 (r1.mono e2) r2 q2
/-- any other expression as a test -/
theorem st_val (ha : PE X a (tE X.K mg W ma)) (he : ∀ whole, isTrue a X.env whole = (do let v ← whole; standAt a.pos; holding [v] (truthy v)) := by intro _; rfl) : PT X a (tT X.K mg W (mB ma)) :=
  pt_imp (pt_val ha he) fun σ H Q ⟨ρ, S, env, sim, re, q⟩ => tB_of sim re q
theorem st_not {ta : M Bool} (ha : PT X a (tT X.K mg W ta)) : PT X (.UnaryOp .Not a pos) (tT X.K mg W (mNotT ta)) := by
  refine pt_imp (pt_not ha) fun σ H Q ⟨ρ, S, env, sim, re, q⟩ => ?_
  refine tM.bind sim re q fun ρ1 S1 x k H1 e1 sim1 re1 r1 q1 => ?_
  subst r1
  exact q1 _ H1 ρ1 (Ext.refl _ _) sim1 rfl
theorem sw_and1 {ta : M Bool} (ha : PT X a (tT X.K mg W ta)) : PW X (.BoolOp .And [a] pos) (tT X.K mg W ta) := pw_and1 ha
theorem sw_or1 {ta : M Bool} (ha : PT X a (tT X.K mg W ta)) : PW X (.BoolOp .Or [a] pos) (tT X.K mg W ta) := pw_or1 ha
theorem sw_and {ta tb : M Bool} {rest : List Expr} (ha : PT X a (tT X.K mg W ta)) (hb : PW X (.BoolOp .And (b :: rest) pos) (tT X.K mg W tb)) : PW X (.BoolOp .And (a :: b :: rest) pos) (tT X.K mg W (mAndT ta tb)) := by
  refine pw_imp (pw_and ha hb) fun σ H Q ⟨ρ, S, env, sim, re, q⟩ => ?_
  refine tM.bind sim re q fun ρ1 S1 x k H1 e1 sim1 re1 r1 q1 => ?_
  subst r1
  cases x with
  | true => rw [if_pos rfl]; rw [if_pos rfl] at q1; exact ⟨ρ1, S1, env, sim1, re1, q1⟩
  | false => rw [if_neg Bool.false_ne_true]; rw [if_neg Bool.false_ne_true] at q1; exact q1 _ H1 ρ1 (Ext.refl _ _) sim1 rfl
theorem sw_or {ta tb : M Bool} {rest : List Expr} (ha : PT X a (tT X.K mg W ta)) (hb : PW X (.BoolOp .Or (b :: rest) pos) (tT X.K mg W tb)) : PW X (.BoolOp .Or (a :: b :: rest) pos) (tT X.K mg W (mOrT ta tb)) := by
  refine pw_imp (pw_or ha hb) fun σ H Q ⟨ρ, S, env, sim, re, q⟩ => ?_
  refine tM.bind sim re q fun ρ1 S1 x k H1 e1 sim1 re1 r1 q1 => ?_
  subst r1
  cases x with
  | false => rw [if_neg Bool.false_ne_true]; rw [if_neg Bool.false_ne_true] at q1; exact ⟨ρ1, S1, env, sim1, re1, q1⟩
  | true => rw [if_pos rfl]; rw [if_pos rfl] at q1; exact q1 _ H1 ρ1 (Ext.refl _ _) sim1 rfl
theorem st_w {e : Expr} {ta : M Bool} (h : PW X e (tT X.K mg W ta)) : PT X e (tT X.K mg W ta) := h.pt
theorem bool_of {σ : L2.St} {H : Hp} {Q : VK} {ρ : List Addr} {S : Store} {env : Ev} {f : Bool → Store → R D} (sim : Sim X.K ρ S H) (re : REnv X.K ρ H σ env)
    (q : Post X.K mg W (RepD X.K) ρ σ H Q (bd (ma env S) fun x S1 => match x with | .py (.bool k) => f k S1 | _ => .no))
    {T : V → Hp → Prop} (hT : ∀ ρ1 S1 H1 k, Sim X.K ρ1 S1 H1 → REnv X.K ρ1 H1 σ env → Post X.K mg W (RepD X.K) ρ1 σ H1 Q (f k S1) → T (.bl k) H1) : tE X.K mg W ma σ H T := by
  refine tM.bind sim re q fun ρ1 S1 x dx H1 e1 sim1 re1 r1 q1 => ?_
  cases dx with
  | py d =>
    cases d with
    | bool k => cases r1; exact hT ρ1 S1 H1 k sim1 re1 q1
    | _ => exact q1.elim
  | _ => exact q1.elim
theorem se_and {rest : List Expr} (ha : PE X a (tE X.K mg W ma)) (hb : PE X (.BoolOp .And (b :: rest) pos) (tE X.K mg W mb)) : PE X (.BoolOp .And (a :: b :: rest) pos) (tE X.K mg W (mAnd ma mb)) := by
  refine pe_imp (pe_and ha hb) fun σ H Q ⟨ρ, S, env, sim, re, q⟩ => ?_
  refine bool_of sim re q fun ρ1 S1 H1 k sim1 re1 q1 => ⟨k, rfl, ?_⟩
  cases k with
  | true => rw [if_pos rfl]; exact ⟨ρ1, S1, env, sim1, re1, q1⟩
  | false => rw [if_neg Bool.false_ne_true]; exact post_sc (p := .bool false) sim1 rfl q1
theorem se_or {rest : List Expr} (ha : PE X a (tE X.K mg W ma)) (hb : PE X (.BoolOp .Or (b :: rest) pos) (tE X.K mg W mb)) : PE X (.BoolOp .Or (a :: b :: rest) pos) (tE X.K mg W (mOr ma mb)) := by
  refine pe_imp (pe_or ha hb) fun σ H Q ⟨ρ, S, env, sim, re, q⟩ => ?_
  refine bool_of sim re q fun ρ1 S1 H1 k sim1 re1 q1 => ⟨k, rfl, ?_⟩
  cases k with
  | false => rw [if_neg Bool.false_ne_true]; exact ⟨ρ1, S1, env, sim1, re1, q1⟩
  | true => rw [if_pos rfl]; exact post_sc (p := .bool true) sim1 rfl q1
theorem se_one {op : BoolOp} (ha : PE X a (tE X.K mg W ma)) : PE X (.BoolOp op [a] pos) (tE X.K mg W ma) := pe_one ha
theorem se_not (ha : PE X a (tE X.K mg W ma)) : PE X (.UnaryOp .Not a pos) (tE X.K mg W (mNot ma)) := by
  refine pe_imp (pe_not ha) fun σ H Q ⟨ρ, S, env, sim, re, q⟩ => ?_
  exact bool_of sim re q fun ρ1 S1 H1 k sim1 re1 q1 => ⟨k, rfl, post_sc (p := .bool (!k)) sim1 rfl q1⟩
theorem se_if {tc : M Bool} (hc : PT X c (tT X.K mg W tc)) (ha : PE X a (tE X.K mg W ma)) (hb : PE X b (tE X.K mg W mb)) : PE X (.IfExp c a b pos) (tE X.K mg W (mIf tc ma mb)) := by
  refine pe_imp (pe_ifExp hc ha hb) fun σ H Q ⟨ρ, S, env, sim, re, q⟩ => ?_
  refine tM.bind sim re q fun ρ1 S1 x k H1 e1 sim1 re1 r1 q1 => ?_
  subst r1
  cases x with
  | true => rw [if_pos rfl]; exact ⟨ρ1, S1, env, sim1, re1, q1⟩
  | false => rw [if_neg Bool.false_ne_true]; exact ⟨ρ1, S1, env, sim1, re1, q1⟩
/-! arguments, displays, calls -/
theorem sa_nil : PA X [] (tA X.K mg W mNil) := pa_imp pa_nil fun σ H Q ⟨ρ, S, env, sim, re, q⟩ => q [] H ρ (Ext.refl _ _) sim .nil
theorem sa_cons {e : Expr} {es : List Expr} {me : M D} {mr : M (List D)} (he : PE X e (tE X.K mg W me)) (hr : PA X es (tA X.K mg W mr)) (hs : starEach (e :: es) X.env = (false, eval e X.env) :: starEach es X.env := by rfl) : PA X (e :: es) (tA X.K mg W (mCons me mr)) := by
  refine pa_imp (pa_cons he hr hs) fun σ H Q ⟨ρ, S, env, sim, re, q⟩ => ?_
  refine tM.bind sim re q fun ρ1 S1 x dx H1 e1 sim1 re1 r1 q1 => ?_
  refine tM.bind sim1 re1 q1 fun ρ2 S2 xs ds H2 e2 sim2 re2 r2 q2 => ?_
  exact q2 _ H2 ρ2 (Ext.refl _ _) sim2 (.cons (r1.mono e2) r2)
end
/-- data alone -/
def pys : List D → Option (List PyData)
  | [] => some []
  | .py d :: r => (pys r).map (d :: ·)
  | _ :: _ => none
theorem pys_ok {K : PySem.W.Frag} {ρ : List Addr} {H : Hp} : ∀ {xs : List V} {ds : List D} {ps : List PyData}, RepDs K ρ H xs ds → pys ds = some ps → DpAll K (fz ρ H) xs ps
  | _, _, _, .nil, h => by cases h; exact .nil
  | _, _, _, .cons (a := x) (b := d) r rr, h => by
    cases d with
    | py d =>
      unfold pys at h
      cases e : pys _ with
      | none => rw [e] at h; cases h
      | some ps => rw [e] at h; cases h; exact .cons r (pys_ok rr e)
    | loc n => cases h
    | raw v => cases h
def fits (n : Nat) : Bool := decide (n ≤ 16777216)
theorem fits_ok {n : Nat} (h : fits n = true) : n ≤ sizeLine := by rw [sizeLine_eq]; exact of_decide_eq_true h
def gTupD (ds : List D) (S : Store) : R D := match pys ds with
  | some ps => if fits ps.length then .ok (.py (.tuple ps)) S else .no
  | none => .no
def gLstD (ds : List D) (S : Store) : R D := match pys ds with
  | some ps => if fits ps.length then .ok (.loc S.length) (S ++ [.lst ps]) else .no
  | none => .no
section
variable {X : Cx} {mg : Str → Option Value} {W : WX} {pos : Pos}
theorem se_tup {es : List Expr} {x1} {m : M (List D)} (h : PA X es (tA X.K mg W m)) : PE X (.Tuple es x1 pos) (tE X.K mg W (mCall gTupD m)) := by
  refine pe_imp (pe_tup h) fun σ H Q ⟨ρ, S, env, sim, re, q⟩ => ?_
  refine tM.bind sim re q fun ρ1 S1 xs ds H1 e1 sim1 re1 r1 q1 => ?_
  unfold gTupD at q1
  cases hp : pys ds with
  | none => rw [hp] at q1; exact q1.elim
  | some ps =>
    rw [hp] at q1
    have hd := pys_ok r1 hp
    cases hf : fits ps.length with
    | false => simp only [hf] at q1; exact q1.elim
    | true =>
      simp only [hf] at q1
      exact ⟨by rw [dpa_length hd]; exact fits_ok hf, fun p hp => post_tup sim1 hp hd q1⟩
theorem se_lst {es : List Expr} {m : M (List D)} (h : PA X es (tA X.K mg W m)) : PE X (.List es pos) (tE X.K mg W (mCall gLstD m)) := by
  refine pe_imp (pe_lst h) fun σ H Q ⟨ρ, S, env, sim, re, q⟩ => ?_
  refine tM.bind sim re q fun ρ1 S1 xs ds H1 e1 sim1 re1 r1 q1 => ?_
  unfold gLstD at q1
  cases hp : pys ds with
  | none => rw [hp] at q1; exact q1.elim
  | some ps =>
    rw [hp] at q1
    have hd := pys_ok r1 hp
    cases hf : fits ps.length with
    | false => simp only [hf] at q1; exact q1.elim
    | true =>
      simp only [hf] at q1
      exact ⟨by rw [dpa_length hd]; exact fits_ok hf, fun p hp => post_loc (c := .lst ps) sim1 hp ⟨xs, rfl, hd, by rw [dpa_length hd]; exact fits_ok hf⟩ q1⟩
theorem se_callB {x : Str} {p : Pos} {e : Expr} {es : List Expr} {id : String} {r : List V → Hp → VK → Prop} {g : List D → Store → R D} {m : M (List D)} (hc : CallR X (.builtin id) r) (hcd : CaD X.K r g) (hg : Gl X x) (hm : X.mg x = none) (hv : bootBuiltins x = some (.builtin id)) (ha : PA X (e :: es) (tA X.K mg W m))
    (hn : x ≠ "__name__" := by decide) (hdb : (x == ("__debug__" : Str)) = false := by decide) (he : starEach (e :: es) X.env = (false, eval e X.env) :: starEach es X.env := by rfl) (hpl : (backTo pos (starEach es X.env)).any (·.1) = false := by rfl) :
    PE X (.Call (.Name x p) (e :: es) [] pos) (tE X.K mg W (mCall g m)) := by
  refine pe_imp (pe_callB hc hg hm hv ha hn hdb he hpl) fun σ H Q ⟨ρ, S, env, sim, re, q⟩ => ?_
  refine tM.bind sim re q fun ρ1 S1 xs ds H1 e1 sim1 re1 r1 q1 => ?_
  exact hcd mg W ρ1 S1 σ H1 Q xs ds sim1 r1 q1
theorem se_callTy {x : Str} {p : Pos} {e : Expr} {es : List Expr} {T : String} {r : List V → Hp → VK → Prop} {g : List D → Store → R D} {m : M (List D)} (hc : CallR X (.type T) r) (hcd : CaD X.K r g) (hg : Gl X x) (hm : X.mg x = none) (hv : bootBuiltins x = some (.type T)) (ha : PA X (e :: es) (tA X.K mg W m))
    (hn : x ≠ "__name__" := by decide) (hdb : (x == ("__debug__" : Str)) = false := by decide) (he : starEach (e :: es) X.env = (false, eval e X.env) :: starEach es X.env := by rfl) (hpl : (backTo pos (starEach es X.env)).any (·.1) = false := by rfl) :
    PE X (.Call (.Name x p) (e :: es) [] pos) (tE X.K mg W (mCall g m)) := by
  refine pe_imp (pe_callTy hc hg hm hv ha hn hdb he hpl) fun σ H Q ⟨ρ, S, env, sim, re, q⟩ => ?_
  refine tM.bind sim re q fun ρ1 S1 xs ds H1 e1 sim1 re1 r1 q1 => ?_
  exact hcd mg W ρ1 S1 σ H1 Q xs ds sim1 r1 q1
end

/-! ### a list that nobody changes any more -/
/-- the newest cells go; a new list becomes data -/
def frR (n : Nat) : R D → R D
  | .ok (.loc k) S => if n ≤ k then (match S[k]? with
      | some (.lst l) => .ok (.py (.list l)) (S.take n)
      | _ => .ok (.loc k) S) else .ok (.loc k) S
  | .ok (.py d) S => .ok (.py d) (S.take n)
  | r => r
def mFr (m : M D) : M D := fun env S => frR S.length (m env S)
theorem Ext.cut {K : PySem.W.Frag} {ρ ρ' : List Addr} {H H' : Hp} {S' : Store} {n : Nat} (e : Ext ρ H ρ' H') (sim : Sim K ρ' S' H') (hn : n = ρ.length) : Ext ρ H ρ H' ∧ Sim K ρ (S'.take n) H' ∧ Sm (fz ρ' H') (fz ρ H') := by
  obtain ⟨⟨τ, rfl⟩, f⟩ := e
  have sm : Sm (fz (ρ ++ τ) H') (fz ρ H') := fun a o h => by
    obtain ⟨h1, h2⟩ := fz_some h
    rw [fz_out (fun z => h1 (List.mem_append_left _ z))]
    exact h2
  refine ⟨⟨⟨[], by simp⟩, f.trans sm⟩, ⟨?_, (List.nodup_append.mp sim.nd).1, fun k a c h1 h2 => ?_⟩, sm⟩
  · have := sim.len
    rw [List.length_append] at this
    rw [List.length_take, hn]
    omega
  · have hk : k < ρ.length := (List.getElem?_eq_some_iff.mp h1).1
    refine (sim.cell k a c (by rw [List.getElem?_append_left hk]; exact h1) ?_).mono sm
    rw [List.getElem?_take] at h2
    rw [if_pos (by rw [hn]; exact hk)] at h2
    exact h2
theorem fr_post {K : PySem.W.Frag} {mg : Str → Option Value} {W : WX} {ρ : List Addr} {S : Store} {σ : L2.St} {H : Hp} {Q : VK} {r : R D} (sim : Sim K ρ S H) (q : Post K mg W (RepD K) ρ σ H Q (frR S.length r)) : Post K mg W (RepD K) ρ σ H Q r := by
  cases r with
  | no => exact q
  | exc x S' => exact q
  | ok d S' =>
    cases d with
    | raw v => exact q
    | py d =>
      intro v H' ρ' x s r
      obtain ⟨h1, h2, h3⟩ := Ext.cut x s sim.len.symm
      exact q v H' ρ h1 h2 (dp_mono h3 r)
    | loc k =>
      simp only [frR] at q
      by_cases hk : S.length ≤ k
      · rw [if_pos hk] at q
        cases hc : S'[k]? with
        | none => simp only [hc] at q; exact q
        | some c =>
          cases c with
          | dI l => simp only [hc] at q; exact q
          | dT l => simp only [hc] at q; exact q
          | lst l =>
            simp only [hc] at q
            intro v H' ρ' x s r
            obtain ⟨h1, h2, h3⟩ := Ext.cut x s sim.len.symm
            obtain ⟨a, ha, rfl⟩ := r
            obtain ⟨xs, e, hd, _⟩ := s.cell k a _ ha hc
            refine q _ H' ρ h1 h2 (.lst (.inl (.inl ?_)) (dpa_mono h3 hd))
            have hn : a ∉ ρ := fun hm => by
              obtain ⟨⟨τ, e1⟩, _⟩ := x
              rw [e1] at ha
              have nd := s.nd
              rw [e1] at nd
              rw [List.getElem?_append_right (by rw [sim.len]; exact hk)] at ha
              exact (List.nodup_append.mp nd).2.2 a hm a (List.mem_of_getElem? ha) rfl
            rw [fz_out hn]
            exact e
      · rw [if_neg hk] at q
        exact q
theorem se_fr {X : Cx} {mg : Str → Option Value} {W : WX} {e : Expr} {m : M D} (h : PE X e (tE X.K mg W m)) : PE X e (tE X.K mg W (mFr m)) :=
  pe_imp h fun σ H Q ⟨ρ, S, env, sim, re, q⟩ => ⟨ρ, S, env, sim, re, fr_post sim q⟩
end PX

end P_PX2
section P_PX3
set_option maxHeartbeats 4000000
namespace PX
open PySem PySem.Spec PyProof.Rows L2

/-! ### what a value is -/
theorem rep_py {K : PySem.W.Frag} {ρ : List Addr} {H : Hp} {v : V} {p : PyData} (r : RepD K ρ H v (.py p)) : Dp K H v p := dp_mono (fz_sub ρ H) r
theorem dp_int {K : PySem.W.Frag} {H : Hp} {v : V} {i : Int} (h : Dp K H v (.int i)) : v = .int i := by cases h; rfl
theorem dp_bool {K : PySem.W.Frag} {H : Hp} {v : V} {i : Bool} (h : Dp K H v (.bool i)) : v = .bl i := by cases h; rfl
theorem dp_str {K : PySem.W.Frag} {H : Hp} {v : V} {i : Str} (h : Dp K H v (.str i)) : v = .str i := by cases h; rfl
theorem dp_tup {K : PySem.W.Frag} {H : Hp} {v : V} {l : List PyData} (h : Dp K H v (.tuple l)) : ∃ a xs, v = .ref a ∧ SqT K H a xs ∧ DpAll K H xs l := by
  cases h with
  | tup h1 h2 => exact ⟨_, _, rfl, h1, h2⟩
theorem dp_lst {K : PySem.W.Frag} {H : Hp} {v : V} {l : List PyData} (h : Dp K H v (.list l)) : ∃ a xs, v = .ref a ∧ SqL K H a xs ∧ DpAll K H xs l := by
  cases h with
  | lst h1 h2 => exact ⟨_, _, rfl, h1, h2⟩
theorem dp_non {K : PySem.W.Frag} {H : Hp} {v : V} (h : Dp K H v .none) : v = .non := by cases h; rfl
section
variable {K : PySem.W.Frag}

/-! ### arithmetic -/
def gI (f : Int → Int → PyData) : D → D → Store → R D := fun x y S => match x, y with
  | .py (.int i), .py (.int j) => .ok (.py (f i j)) S
  | _, _ => .no
theorem od_int {g : Int → Int → V} {f : Int → Int → PyData} (hf : ∀ i j, isSc (f i j) = true ∧ scV (f i j) = g i j) : OpD K (rI0 g) (gI f) := by
  intro mg W ρ S σ H Q x y dx dy sim rx ry q
  unfold gI at q
  split at q
  · rename_i i j
    refine ⟨i, j, dp_int (rep_py rx), dp_int (rep_py ry), ?_⟩
    rw [← (hf i j).2]
    exact post_sc sim (hf i j).1 q
  · exact q.elim
def gIc (c : Int → Int → Bool) (f : Int → Int → PyData) : D → D → Store → R D := fun x y S => match x, y with
  | .py (.int i), .py (.int j) => if c i j then .ok (.py (f i j)) S else .no
  | _, _ => .no
theorem od_intc {C : Int → Int → Prop} {c : Int → Int → Bool} {g : Int → Int → V} {f : Int → Int → PyData} (hc : ∀ i j, c i j = true → C i j) (hf : ∀ i j, isSc (f i j) = true ∧ scV (f i j) = g i j) : OpD K (rI C g) (gIc c f) := by
  intro mg W ρ S σ H Q x y dx dy sim rx ry q
  unfold gIc at q
  split at q
  · rename_i i j
    split at q
    · rename_i h
      refine ⟨i, j, dp_int (rep_py rx), dp_int (rep_py ry), hc i j h, ?_⟩
      rw [← (hf i j).2]
      exact post_sc sim (hf i j).1 q
    · exact q.elim
  · exact q.elim
def gSub := gI fun i j => .int (i - j)
def gLtI := gI fun i j => .bool (decide (i < j))
def gLe := gI fun i j => .bool (decide (i ≤ j))
def gGt := gI fun i j => .bool (decide (j < i))
def gGe := gI fun i j => .bool (decide (j ≤ i))
def cMul (i j : Int) : Bool := decide (i.natAbs < 18446744073709551616) || decide (j.natAbs < 18446744073709551616)
theorem cMul_ok {i j : Int} (h : cMul i j = true) : CMul i j := by
  unfold cMul at h
  rw [Bool.or_eq_true] at h
  rcases h with h | h
  · have := of_decide_eq_true h; exact .inl ⟨by omega, by omega⟩
  · have := of_decide_eq_true h; exact .inr ⟨by omega, by omega⟩
def gMulI := gIc cMul fun i j => .int (i * j)
def cDiv (_ j : Int) : Bool := decide (0 < j) && decide (j.natAbs.log2 < 9000)
theorem cDiv_ok {i j : Int} (h : cDiv i j = true) : CDivW i j := by
  unfold cDiv at h
  rw [Bool.and_eq_true] at h
  exact ⟨of_decide_eq_true h.1, of_decide_eq_true h.2⟩
def gDiv := gIc cDiv fun i j => .int (i / j)
def gMod := gIc (fun _ j => decide (0 < j)) fun i j => .int (i % j)
def cPow (i j : Int) : Bool := decide (0 ≤ j) && decide (j ≤ 1000000) && decide (i.natAbs < 18446744073709551616)
theorem cPow_ok {i j : Int} (h : cPow i j = true) : CPow i j := by
  unfold cPow at h
  rw [Bool.and_eq_true, Bool.and_eq_true] at h
  exact ⟨of_decide_eq_true h.1.1, of_decide_eq_true h.1.2, by have := of_decide_eq_true h.2; omega⟩
def gPow := gIc cPow fun i j => .int (i ^ j.toNat)
theorem od_sub : OpD K (rI0 fun i j => .int (i - j)) gSub := od_int fun _ _ => ⟨rfl, rfl⟩
theorem od_ltI : OpD K (rI0 fun i j => .bl (decide (i < j))) gLtI := od_int fun _ _ => ⟨rfl, rfl⟩
theorem od_le : OpD K (rI0 fun i j => .bl (decide (i ≤ j))) gLe := od_int fun _ _ => ⟨rfl, rfl⟩
theorem od_gt : OpD K (rI0 fun i j => .bl (decide (j < i))) gGt := od_int fun _ _ => ⟨rfl, rfl⟩
theorem od_ge : OpD K (rI0 fun i j => .bl (decide (j ≤ i))) gGe := od_int fun _ _ => ⟨rfl, rfl⟩
theorem od_mulI : OpD K (rI CMul fun i j => .int (i * j)) gMulI := od_intc (fun _ _ h => cMul_ok h) fun _ _ => ⟨rfl, rfl⟩
theorem od_div : OpD K (rI CDivW fun i j => .int (i / j)) gDiv := od_intc (fun _ _ h => cDiv_ok h) fun _ _ => ⟨rfl, rfl⟩
theorem od_mod : OpD K (rI (fun _ j => 0 < j) fun i j => .int (i % j)) gMod := od_intc (fun _ _ h => of_decide_eq_true h) fun _ _ => ⟨rfl, rfl⟩
theorem od_pow : OpD K (rI CPow fun i j => .int (i ^ j.toNat)) gPow := od_intc (fun _ _ h => cPow_ok h) fun _ _ => ⟨rfl, rfl⟩
def gNeg : D → Store → R D := fun x S => match x with
  | .py (.int i) => .ok (.py (.int (-i))) S
  | _ => .no
theorem ud_neg : UnD K (rU fun i => .int (-i)) gNeg := by
  intro mg W ρ S σ H Q x dx sim rx q
  unfold gNeg at q
  split at q
  · rename_i i
    exact ⟨i, dp_int (rep_py rx), post_sc (p := .int (-i)) sim rfl q⟩
  · exact q.elim
end

/-! ### a sum of lists, for whichever list -/
def rCatL (K : PySem.W.Frag) : R2 := fun x y H Q => ∃ l b xs zs, x = .ref l ∧ y = .ref b ∧ SqL K H l xs ∧ SqL K H b zs ∧ xs.length + zs.length ≤ sizeLine ∧ ∀ p, H p = none → Q (.ref p) (upd H p (.lst (xs ++ zs)))
theorem op_catL {X : Cx} : OpR X (binaryOp .Add) (rCatL X.K) := by
  intro pins s σ H x y v u Q I rx ry h
  obtain ⟨l, b, xs, zs, rfl, rfl, hH, hB, hz, q⟩ := h
  cases rx
  cases ry
  obtain ⟨its, r, ⟨o, n, e, ec, ed, es⟩, z⟩ := I.list hH
  obtain ⟨its2, r2, ⟨o2, n2, e2, ec2, ed2, es2⟩, z2⟩ := I.list hB
  have hl := r.length
  have hl2 := r2.length
  obtain ⟨oc, od, odt, osl⟩ := o
  obtain ⟨oc2, od2, odt2, osl2⟩ := o2
  simp only at ec ed es ec2 ed2 es2
  subst ec ed es ec2 ed2 es2
  refine concat_meets ⟨_, e, rfl⟩ ⟨_, e2, rfl⟩ noFill_list_add seq_list_add PySem.F.slot_list_add PySem.F.entry_list_add (PySem.F.args_list_add_2 _ _) (list_addW l b its.toArray its2.toArray n n2 _ _ osl osl2 (by rw [List.size_toArray, List.size_toArray]; omega)) ⟨e, e2, ?_⟩
  have ea : its.toArray ++ its2.toArray = (its ++ its2).toArray := by simp
  rw [ea]
  exact ⟨.ref _, _, I.lnew (t' := s.toks) (r.append r2) (by rw [List.length_append]; omega), rfl, q _ I.fresh⟩
section
variable {K : PySem.W.Frag}
theorem or_d {r r' : R2} {g : D → D → Store → R D} (c : D → D → Store → Bool) (h : OpD K r fun x y S => if c x y S then g x y S else .no) (h' : OpD K r' fun x y S => if c x y S then .no else g x y S) : OpD K (fun x y H Q => r x y H Q ∨ r' x y H Q) g := by
  intro mg W ρ S σ H Q x y dx dy sim rx ry q
  cases hc : c dx dy S with
  | true => exact .inl (h mg W ρ S σ H Q x y dx dy sim rx ry (by simp only [hc]; exact q))
  | false => exact .inr (h' mg W ρ S σ H Q x y dx dy sim rx ry (by simp only [hc]; exact q))
/-- + : ints, tuples, lists, texts -/
def gAdd : D → D → Store → R D := fun x y S => match rd S x, rd S y with
  | some (.int i), some (.int j) => .ok (.py (.int (i + j))) S
  | some (.tuple a), some (.tuple b) => if fits (a.length + b.length) then .ok (.py (.tuple (a ++ b))) S else .no
  | some (.list a), some (.list b) => if fits (a.length + b.length) then .ok (.loc S.length) (S ++ [.lst (a ++ b)]) else .no
  | some (.str a), some (.str b) => if fits (a.length + b.length) then .ok (.py (.str (a ++ b))) S else .no
  | _, _ => .no
def rAddA (K : PySem.W.Frag) : R2 := fun x y H Q => (∃ i j, x = .int i ∧ y = .int j ∧ Q (.int (i + j)) H) ∨ (rCatA K x y H Q ∨ (rCatL K x y H Q ∨ ∃ i j, x = .str i ∧ y = .str j ∧ i.length + j.length ≤ sizeLine ∧ Q (.str (i ++ j)) H))
theorem op_addA {X : Cx} : OpR X (binaryOp .Add) (rAddA X.K) := OpR.or op_add (OpR.or op_catA (OpR.or op_catL op_add_str))
theorem rd_tup {S : Store} {d : D} {l : List PyData} (h : rd S d = some (.tuple l)) : d = .py (.tuple l) := by
  cases d with
  | py d => cases h; rfl
  | loc n =>
    unfold rd at h
    cases hc : S[n]? with
    | none => simp only [hc] at h; cases h
    | some c => simp only [hc] at h; cases c <;> cases h
  | raw v => cases h
theorem od_add : OpD K (rAddA K) gAdd := by
  intro mg W ρ S σ H Q x y dx dy sim rx ry q
  unfold gAdd at q
  split at q
  · rename_i i j hx hy
    exact .inl ⟨i, j, dp_int (rd_ok sim rx hx), dp_int (rd_ok sim ry hy), post_sc (p := .int (i + j)) sim rfl q⟩
  · rename_i a b hx hy
    have ex := rd_tup hx
    have ey := rd_tup hy
    subst ex ey
    split at q
    · rename_i hf
      obtain ⟨p, xs, rfl, h1, d1⟩ := dp_tup (show Dp K (fz ρ H) x (.tuple a) from rx)
      obtain ⟨p2, ys, rfl, h2, d2⟩ := dp_tup (show Dp K (fz ρ H) y (.tuple b) from ry)
      have hl := dpa_length d1
      have hl2 := dpa_length d2
      refine .inr (.inl ⟨p, p2, xs, ys, rfl, rfl, sqt_mono (fz_sub ρ H) h1, sqt_mono (fz_sub ρ H) h2, by rw [hl, hl2]; exact fits_ok hf, fun e => ?_, fun _ e => ?_, fun _ _ p hp => post_tup sim hp (dpa_append d1 d2) q⟩)
      · subst e
        cases d1
        rw [List.nil_append] at q
        exact post_v (d := .py (.tuple b)) sim ry q
      · subst e
        cases d2
        rw [List.append_nil] at q
        exact post_v (d := .py (.tuple a)) sim rx q
    · exact q.elim
  · rename_i a b hx hy
    split at q
    · rename_i hf
      obtain ⟨p, xs, rfl, h1, d1⟩ := dp_lst (rd_ok sim rx hx)
      obtain ⟨p2, ys, rfl, h2, d2⟩ := dp_lst (rd_ok sim ry hy)
      have hl := dpa_length d1
      have hl2 := dpa_length d2
      -- the items are data, so they stand in the part that stays
      obtain ⟨xs', e1, d1'⟩ : ∃ xs', SqL K H p xs' ∧ DpAll K (fz ρ H) xs' a := by
        cases dx with
        | py d => cases hx; obtain ⟨p', xs', e, h, d⟩ := dp_lst (show Dp K (fz ρ H) (.ref p) (.list a) from rx); cases e; exact ⟨xs', sql_mono (fz_sub ρ H) h, d⟩
        | loc n =>
          obtain ⟨p', e, e'⟩ := rx
          cases e'
          unfold rd at hx
          cases hc : S[n]? with
          | none => simp only [hc] at hx; cases hx
          | some c =>
            simp only [hc] at hx
            cases c with
            | lst l => cases hx; obtain ⟨xs', e3, d, _⟩ := sim.cell n p _ e hc; exact ⟨xs', SqL.of e3, d⟩
            | dI l => cases hx
            | dT l => cases hx
        | raw v => cases hx
      obtain ⟨ys', e2, d2'⟩ : ∃ xs', SqL K H p2 xs' ∧ DpAll K (fz ρ H) xs' b := by
        cases dy with
        | py d => cases hy; obtain ⟨p', xs', e, h, d⟩ := dp_lst (show Dp K (fz ρ H) (.ref p2) (.list b) from ry); cases e; exact ⟨xs', sql_mono (fz_sub ρ H) h, d⟩
        | loc n =>
          obtain ⟨p', e, e'⟩ := ry
          cases e'
          unfold rd at hy
          cases hc : S[n]? with
          | none => simp only [hc] at hy; cases hy
          | some c =>
            simp only [hc] at hy
            cases c with
            | lst l => cases hy; obtain ⟨xs', e3, d, _⟩ := sim.cell n p2 _ e hc; exact ⟨xs', SqL.of e3, d⟩
            | dI l => cases hy
            | dT l => cases hy
        | raw v => cases hy
      have hz : xs'.length + ys'.length ≤ sizeLine := by rw [dpa_length d1', dpa_length d2']; exact fits_ok hf
      exact .inr (.inr (.inl ⟨p, p2, xs', ys', rfl, rfl, e1, e2, hz, fun c hc => post_loc (c := .lst (a ++ b)) sim hc ⟨_, rfl, dpa_append d1' d2', by rw [List.length_append]; exact hz⟩ q⟩))
    · exact q.elim
  · rename_i a b hx hy
    split at q
    · rename_i hf
      exact .inr (.inr (.inr ⟨a, b, dp_str (rd_ok sim rx hx), dp_str (rd_ok sim ry hy), fits_ok hf, post_sc (p := .str (a ++ b)) sim rfl q⟩))
    · exact q.elim
  · exact q.elim
/-- the list that a value tells, its items in the part that stays -/
theorem rd_lst {ρ : List Addr} {S : Store} {H : Hp} {v : V} {d : D} {l : List PyData} (sim : Sim K ρ S H) (r : RepD K ρ H v d) (h : rd S d = some (.list l)) : ∃ p xs, v = .ref p ∧ SqL K H p xs ∧ DpAll K (fz ρ H) xs l := by
  cases d with
  | py d => cases h; obtain ⟨p', xs', e, h, d⟩ := dp_lst (show Dp K (fz ρ H) v (.list l) from r); exact ⟨p', xs', e, sql_mono (fz_sub ρ H) h, d⟩
  | loc n =>
    obtain ⟨p', e, e'⟩ := r
    unfold rd at h
    cases hc : S[n]? with
    | none => simp only [hc] at h; cases h
    | some c =>
      simp only [hc] at h
      cases c with
      | lst l => cases h; obtain ⟨xs', e3, d, _⟩ := sim.cell n p' _ e hc; exact ⟨p', xs', e', SqL.of e3, d⟩
      | dI l => cases h
      | dT l => cases h
  | raw v => cases h
theorem rd_tupl {ρ : List Addr} {S : Store} {H : Hp} {v : V} {d : D} {l : List PyData} (r : RepD K ρ H v d) (h : rd S d = some (.tuple l)) : ∃ p xs, v = .ref p ∧ SqT K H p xs ∧ DpAll K (fz ρ H) xs l := by
  have e := rd_tup h
  subst e
  obtain ⟨p', xs', e, h, d⟩ := dp_tup (show Dp K (fz ρ H) v (.tuple l) from r)
  exact ⟨p', xs', e, sqt_mono (fz_sub ρ H) h, d⟩

/-! ### == and != -/
def gEq : D → D → Store → R D := fun x y S => match rd S x, rd S y with
  | some p, some q => if SeqAt.shaped p && SeqAt.shaped q then .ok (.py (.bool (PyData.eqv p q))) S else .no
  | _, _ => .no
def gNe : D → D → Store → R D := fun x y S => match rd S x, rd S y with
  | some p, some q => if SeqAt.shaped p && SeqAt.shaped q then .ok (.py (.bool (!PyData.eqv p q))) S else .no
  | _, _ => .no
theorem od_eq : OpD K (rEqD K) gEq := by
  intro mg W ρ S σ H Q x y dx dy sim rx ry q
  unfold gEq at q
  split at q
  · rename_i a b hx hy
    split at q
    · rename_i hf
      rw [Bool.and_eq_true] at hf
      exact ⟨a, b, rd_ok sim rx hx, rd_ok sim ry hy, hf.1, hf.2, post_sc (p := .bool _) sim rfl q⟩
    · exact q.elim
  · exact q.elim
theorem od_ne : OpD K (rNeD K) gNe := by
  intro mg W ρ S σ H Q x y dx dy sim rx ry q
  unfold gNe at q
  split at q
  · rename_i a b hx hy
    split at q
    · rename_i hf
      rw [Bool.and_eq_true] at hf
      exact ⟨a, b, rd_ok sim rx hx, rd_ok sim ry hy, hf.1, hf.2, post_sc (p := .bool _) sim rfl q⟩
    · exact q.elim
  · exact q.elim
/-! ### is None, is True .. -/
def isNone : D → Bool
  | .py .none => true
  | _ => false
def gIs : D → D → Store → R D := fun x y S => match y with
  | .py .none => (match x with
    | .raw _ => .no
    | _ => .ok (.py (.bool (isNone x))) S)
  | .py (.bool b) => (match x with
    | .py (.bool a) => .ok (.py (.bool (decide (a = b)))) S
    | _ => .no)
  | _ => .no
def gIsNot : D → D → Store → R D := fun x y S => match y with
  | .py .none => (match x with
    | .raw _ => .no
    | _ => .ok (.py (.bool (!isNone x))) S)
  | .py (.bool b) => (match x with
    | .py (.bool a) => .ok (.py (.bool (!decide (a = b)))) S
    | _ => .no)
  | _ => .no
def rIsA : R2 := fun x y H Q => (y = .non ∧ Q (.bl (decide (x = .non))) H) ∨ rIsB x y H Q
def rIsNotA : R2 := fun x y H Q => (y = .non ∧ Q (.bl (!decide (x = .non))) H) ∨ rNotB x y H Q
theorem op_isA {X : Cx} : OpR X (compareOp .Is) rIsA := OpR.or op_isN op_isBl
theorem op_isnotA {X : Cx} : OpR X (compareOp .IsNot) rIsNotA := OpR.or op_notN op_notBl
theorem isNone_ok {ρ : List Addr} {H : Hp} {v : V} {d : D} (r : RepD K ρ H v d) (hr : ∀ w, d ≠ .raw w) : decide (v = .non) = isNone d := by
  cases d with
  | raw w => exact absurd rfl (hr w)
  | loc n => obtain ⟨a, _, rfl⟩ := r; rfl
  | py d =>
    cases d with
    | none => rw [dp_non (rep_py r)]; rfl
    | bool b => rw [dp_bool (rep_py r)]; rfl
    | int b => rw [dp_int (rep_py r)]; rfl
    | str b => rw [dp_str (rep_py r)]; rfl
    | list l => obtain ⟨a, _, rfl, _⟩ := dp_lst (rep_py r); rfl
    | tuple l => obtain ⟨a, _, rfl, _⟩ := dp_tup (rep_py r); rfl
    | dict l => cases (rep_py r)
theorem od_is : OpD K rIsA gIs := by
  intro mg W ρ S σ H Q x y dx dy sim rx ry q
  unfold gIs at q
  split at q
  · split at q
    · exact q.elim
    · rename_i hr
      refine .inl ⟨dp_non (rep_py ry), ?_⟩
      rw [isNone_ok rx fun w e => hr w e]
      exact post_sc (p := .bool _) sim rfl q
  · split at q
    · rename_i a
      exact .inr ⟨_, _, dp_bool (rep_py rx), dp_bool (rep_py ry), post_sc (p := .bool _) sim rfl q⟩
    · exact q.elim
  · exact q.elim
theorem od_isnot : OpD K rIsNotA gIsNot := by
  intro mg W ρ S σ H Q x y dx dy sim rx ry q
  unfold gIsNot at q
  split at q
  · split at q
    · exact q.elim
    · rename_i hr
      refine .inl ⟨dp_non (rep_py ry), ?_⟩
      rw [isNone_ok rx fun w e => hr w e]
      exact post_sc (p := .bool _) sim rfl q
  · split at q
    · rename_i a
      exact .inr ⟨_, _, dp_bool (rep_py rx), dp_bool (rep_py ry), post_sc (p := .bool _) sim rfl q⟩
    · exact q.elim
  · exact q.elim
end
end PX

end P_PX3
section P_PX4
set_option maxHeartbeats 4000000
namespace PX
open PySem PySem.Spec PyProof.Rows L2

/-! ### what is walked -/
def Walks (K : PySem.W.Frag) (ρ : List Addr) (H : Hp) (J : It) (ps : List PyData) : Prop :=
  ∀ (i : Nat) (ρ' : List Addr) (H' : Hp), Ext ρ H ρ' H' →
    (ps.length ≤ i → J.stop i H') ∧ (∀ p, ps[i]? = some p → J.go i H' ∧ ∀ x H'', J.yld i H' x H'' → (∃ T o, H' T = none ∧ H'' = upd H' T o ∨ H'' = H') ∧ (∀ S, Sim K ρ' S H' → Dp K (fz ρ' H'') x p))
abbrev tI (K : PySem.W.Frag) (mg : Str → Option Value) (W : WX) (m : M (List PyData)) : TI := tM K mg W (Walks K) m
theorem pi_imp {X : Cx} {tg e : Expr} {t t' : TI} (h : PI X tg e t) (i : ∀ σ H R, t' σ H R → t σ H R) : PI X tg e t' := ⟨fun pins s σ H R I q => h.run pins s σ H R I (i σ H R q)⟩
/-- the items of data -/
def itemsOf : D → Option (List PyData)
  | .py (.list l) => some l
  | .py (.tuple l) => some l
  | _ => none
def gItems (x : D) (S : Store) : R (List PyData) := match itemsOf x with
  | some l => .ok l S
  | none => .no
def mItems (m : M D) : M (List PyData) := fun env S => bd (m env S) gItems
def iSeq (K : PySem.W.Frag) (tl : TE) : TI := fun σ H R => tl σ H fun x H1 => ∃ a, x = .ref a ∧ (((∃ xs, SqL K H1 a xs) ∧ R (Itl K a) H1) ∨ ((∃ xs, SqT K H1 a xs) ∧ R (Itt K a) H1))
section
variable {X : Cx} {mg : Str → Option Value} {W : WX} {tg : Expr}
theorem pi_seq {l : Expr} {tl : TE} (hl : PE X l tl) : PI X tg l (iSeq X.K tl) := by
  refine ⟨fun pins s σ H R I h => ?_⟩
  refine thn (hl.run pins s σ H _ I h) fun v s1 ⟨x, H1, I1, r1, q1⟩ => ?_
  obtain ⟨a, e, q⟩ := q1
  subst e
  cases r1
  rcases q with ⟨⟨xs, hq⟩, q⟩ | ⟨⟨xs, hq⟩, q⟩
  · obtain ⟨its, rv, p, hz⟩ := I1.list hq
    refine wpAny_pyIter_list p.isList ?_
    refine ⟨s1.heap.objs.size, [s1.heap.objs.size], _, _, H1, rfl, I1.kept (t' := s1.toks) fun b o e => Heap.get?_push_of_some _ e, turn_list a _, ⟨_, Heap.get?_push_size _ rfl, rfl, rfl⟩, fun b hb => ?_, q⟩
    have e : b = s1.heap.objs.size := by simpa using hb
    subst e
    exact I1.fpOk (Nat.le_refl _) (I1.hok.fresh (Nat.le_refl _))
  · obtain ⟨its, rv, p, hz⟩ := I1.tuple hq
    refine wpAny_pyIter_tuple (show s1.heap.IsTuple a its.toArray from p) ?_
    refine ⟨s1.heap.objs.size, [s1.heap.objs.size], _, _, H1, rfl, I1.kept (t' := s1.toks) fun b o e => Heap.get?_push_of_some _ e, turn_tuple a _, ⟨_, Heap.get?_push_size _ rfl, rfl, rfl⟩, fun b hb => ?_, q⟩
    have e : b = s1.heap.objs.size := by simpa using hb
    subst e
    exact I1.fpOk (Nat.le_refl _) (I1.hok.fresh (Nat.le_refl _))
theorem walks_list {K : PySem.W.Frag} {ρ : List Addr} {H : Hp} {a : Addr} {xs : List V} {ps : List PyData} (h : SqL K (fz ρ H) a xs) (hd : DpAll K (fz ρ H) xs ps) : Walks K ρ H (Itl K a) ps := by
  intro i ρ' H' e
  have hs : SqL K H' a xs := sql_mono (fz_sub ρ' H') (sql_mono e.fr h)
  have hd' := dpa_mono e.fr hd
  refine ⟨fun hl => ⟨xs, hs, by rw [dpa_length hd]; exact hl⟩, fun p hp => ?_⟩
  obtain ⟨v, hv, dv⟩ := dpa_get hd' hp
  refine ⟨⟨xs, v, hs, hv⟩, fun x H'' y => ?_⟩
  obtain ⟨e1, y⟩ := y
  subst e1
  have ev : x = v := Option.some.inj ((y xs hs).symm.trans hv)
  subst ev
  exact ⟨⟨0, .lst [], .inr rfl⟩, fun _ _ => dv⟩
theorem walks_tup {K : PySem.W.Frag} {ρ : List Addr} {H : Hp} {a : Addr} {xs : List V} {ps : List PyData} (h : SqT K (fz ρ H) a xs) (hd : DpAll K (fz ρ H) xs ps) : Walks K ρ H (Itt K a) ps := by
  intro i ρ' H' e
  have hs : SqT K H' a xs := sqt_mono (fz_sub ρ' H') (sqt_mono e.fr h)
  have hd' := dpa_mono e.fr hd
  refine ⟨fun hl => ⟨xs, hs, by rw [dpa_length hd]; exact hl⟩, fun p hp => ?_⟩
  obtain ⟨v, hv, dv⟩ := dpa_get hd' hp
  refine ⟨⟨xs, v, hs, hv⟩, fun x H'' y => ?_⟩
  obtain ⟨e1, y⟩ := y
  subst e1
  have ev : x = v := Option.some.inj ((y xs hs).symm.trans hv)
  subst ev
  exact ⟨⟨0, .lst [], .inr rfl⟩, fun _ _ => dv⟩
theorem si_seq {l : Expr} {m : M D} (hl : PE X l (tE X.K mg W m)) : PI X tg l (tI X.K mg W (mItems m)) := by
  refine pi_imp (pi_seq hl) fun σ H R ⟨ρ, S, env, sim, re, q⟩ => ?_
  refine tM.bind sim re q fun ρ1 S1 x dx H1 e1 sim1 re1 r1 q1 => ?_
  unfold gItems at q1
  cases dx with
  | loc n => exact q1.elim
  | raw v => exact q1.elim
  | py d =>
    cases d with
    | list l =>
      obtain ⟨a, xs, e, h, d⟩ := dp_lst (show Dp X.K (fz ρ1 H1) x (.list l) from r1)
      exact ⟨a, e, .inl ⟨⟨xs, sql_mono (fz_sub _ _) h⟩, q1 _ H1 ρ1 (Ext.refl _ _) sim1 (walks_list h d)⟩⟩
    | tuple l =>
      obtain ⟨a, xs, e, h, d⟩ := dp_tup (show Dp X.K (fz ρ1 H1) x (.tuple l) from r1)
      exact ⟨a, e, .inr ⟨⟨xs, sqt_mono (fz_sub _ _) h⟩, q1 _ H1 ρ1 (Ext.refl _ _) sim1 (walks_tup h d)⟩⟩
    | _ => exact q1.elim
/-- range -/
def rangeL (lo : Int) : Nat → List PyData
  | 0 => []
  | n + 1 => .int lo :: rangeL (lo + 1) n
theorem rangeL_len : ∀ (n : Nat) (lo : Int), (rangeL lo n).length = n
  | 0, _ => rfl
  | n + 1, lo => by show (rangeL (lo + 1) n).length + 1 = n + 1; rw [rangeL_len n]
theorem rangeL_get : ∀ (n : Nat) (lo : Int) (i : Nat), (rangeL lo n)[i]? = if i < n then some (.int (lo + i)) else none
  | 0, lo, i => by simp [rangeL]
  | n + 1, lo, 0 => by simp [rangeL]
  | n + 1, lo, i + 1 => by
    show (rangeL (lo + 1) n)[i]? = _
    rw [rangeL_get n (lo + 1) i]
    by_cases h : i < n
    · rw [if_pos h, if_pos (by omega)]; congr 2; omega
    · rw [if_neg h, if_neg (by omega)]
theorem walks_range {K : PySem.W.Frag} {ρ : List Addr} {H : Hp} {lo : Int} {n : Nat} : Walks K ρ H (Itr lo n) (rangeL lo n) := by
  intro i ρ' H' e
  refine ⟨fun hl => by rw [rangeL_len] at hl; exact hl, fun p hp => ?_⟩
  rw [rangeL_get] at hp
  by_cases h : i < n
  · rw [if_pos h] at hp
    cases hp
    refine ⟨h, fun x H'' y => ?_⟩
    obtain ⟨e1, e2⟩ := y
    subst e1 e2
    exact ⟨⟨0, .lst [], .inr rfl⟩, fun _ _ => .int _⟩
  · rw [if_neg h] at hp; cases hp
def inR (i : Int) : Bool := decide (-4611686018427387904 ≤ i) && decide (i < 4611686018427387904)
theorem inR_ok {i : Int} (h : inR i = true) : -(2 ^ 62) ≤ i ∧ i < 2 ^ 62 := by
  unfold inR at h
  rw [Bool.and_eq_true] at h
  have h1 := of_decide_eq_true h.1
  have h2 := of_decide_eq_true h.2
  exact ⟨by omega, by omega⟩
def gRange1 (ds : List D) (S : Store) : R (List PyData) := match ds with
  | [.py (.int j)] => if inR j then .ok (rangeL 0 j.toNat) S else .no
  | _ => .no
def gRange2 (ds : List D) (S : Store) : R (List PyData) := match ds with
  | [.py (.int i), .py (.int j)] => if inR i && inR j then .ok (rangeL i (j - i).toNat) S else .no
  | _ => .no
def mCallI (g : List D → Store → R (List PyData)) (as : M (List D)) : M (List PyData) := fun env S => bd (as env S) fun xs S1 => g xs S1
theorem reps1 {K : PySem.W.Frag} {ρ : List Addr} {H : Hp} {xs : List V} {p : PyData} (r : RepDs K ρ H xs [.py p]) : ∃ x, xs = [x] ∧ Dp K (fz ρ H) x p := by
  cases r with
  | cons r rr => cases rr; exact ⟨_, rfl, r⟩
theorem reps2 {K : PySem.W.Frag} {ρ : List Addr} {H : Hp} {xs : List V} {p q : PyData} (r : RepDs K ρ H xs [.py p, .py q]) : ∃ x y, xs = [x, y] ∧ Dp K (fz ρ H) x p ∧ Dp K (fz ρ H) y q := by
  cases r with
  | cons r rr => cases rr with
    | cons r2 rr => cases rr; exact ⟨_, _, rfl, r, r2⟩
theorem si_range1 {a : Expr} {m : M (List D)} {p pos : Pos} (hg : Gl X "range") (hm : X.mg "range" = none) (ha : PA X [a] (tA X.K mg W m)) (hs : starEach [a] X.env = [(false, eval a X.env)] := by rfl) : PI X tg (.Call (.Name "range" p) [a] [] pos) (tI X.K mg W (mCallI gRange1 m)) := by
  refine pi_imp (pi_range1 hg hm ha hs) fun σ H R ⟨ρ, S, env, sim, re, q⟩ => ?_
  refine tM.bind sim re q fun ρ1 S1 xs ds H1 e1 sim1 re1 r1 q1 => ?_
  unfold gRange1 at q1
  split at q1
  · rename_i j
    obtain ⟨x, rfl, d⟩ := reps1 r1
    split at q1
    · rename_i hj
      obtain ⟨h1, h2⟩ := inR_ok hj
      exact ⟨j, by rw [dp_int d], h1, h2, q1 _ H1 ρ1 (Ext.refl _ _) sim1 walks_range⟩
    · exact q1.elim
  · exact q1.elim
theorem si_range2 {a b : Expr} {m : M (List D)} {p pos : Pos} (hg : Gl X "range") (hm : X.mg "range" = none) (ha : PA X [a, b] (tA X.K mg W m)) (hs : starEach [a, b] X.env = [(false, eval a X.env), (false, eval b X.env)] := by rfl) (hs2 : starEach [b] X.env = [(false, eval b X.env)] := by rfl) :
    PI X tg (.Call (.Name "range" p) [a, b] [] pos) (tI X.K mg W (mCallI gRange2 m)) := by
  refine pi_imp (pi_range2 hg hm ha hs hs2) fun σ H R ⟨ρ, S, env, sim, re, q⟩ => ?_
  refine tM.bind sim re q fun ρ1 S1 xs ds H1 e1 sim1 re1 r1 q1 => ?_
  unfold gRange2 at q1
  split at q1
  · rename_i i j
    obtain ⟨x, y, rfl, d, d2⟩ := reps2 r1
    split at q1
    · rename_i hj
      rw [Bool.and_eq_true] at hj
      obtain ⟨h1, h2⟩ := inR_ok hj.1
      obtain ⟨h3, h4⟩ := inR_ok hj.2
      exact ⟨i, j, by rw [dp_int d, dp_int d2], ⟨h1, h2, h3, h4⟩, q1 _ H1 ρ1 (Ext.refl _ _) sim1 walks_range⟩
    · exact q1.elim
  · exact q1.elim
/-! zip of two tuples, of two lists -/
def zipT : List PyData → List PyData → List PyData
  | x :: xs, y :: ys => .tuple [x, y] :: zipT xs ys
  | _, _ => []
theorem zipT_get : ∀ (xs ys : List PyData) (i : Nat), (zipT xs ys)[i]? = match xs[i]?, ys[i]? with
    | some x, some y => some (.tuple [x, y])
    | _, _ => none
  | [], ys, i => by simp [zipT]
  | x :: xs, [], i => by simp [zipT]
  | x :: xs, y :: ys, 0 => by simp [zipT]
  | x :: xs, y :: ys, i + 1 => by
    show (zipT xs ys)[i]? = _
    rw [zipT_get xs ys i]
    simp
theorem zipT_len : ∀ (xs ys : List PyData), (zipT xs ys).length = min xs.length ys.length
  | [], ys => by simp [zipT]
  | x :: xs, [] => by simp [zipT]
  | x :: xs, y :: ys => by simp [zipT, zipT_len xs ys]
def gZip (ds : List D) (S : Store) : R (List PyData) := match ds with
  | [.py (.tuple a), .py (.tuple b)] => .ok (zipT a b) S
  | [.py (.list a), .py (.list b)] => .ok (zipT a b) S
  | _ => .no
theorem dp_pair {K : PySem.W.Frag} {ρ : List Addr} {S : Store} {H : Hp} {T : Addr} {x y : V} {p q : PyData} (sim : Sim K ρ S H) (hT : H T = none) (h1 : Dp K (fz ρ H) x p) (h2 : Dp K (fz ρ H) y q) : Dp K (fz ρ (L2.upd H T (.tup [x, y]))) (.ref T) (.tuple [p, q]) := by
  have e := (ext_new (o := .tup [x, y]) sim hT).fr
  refine .tup (.inl (.inl ?_)) (.cons (dp_mono e h1) (.cons (dp_mono e h2) .nil))
  rw [fz_out (sim_new sim hT), upd_same]
theorem walks_zipT {K : PySem.W.Frag} {ρ : List Addr} {H : Hp} {a b : Addr} {xs ys : List V} {ps qs : List PyData} (h : SqT K (fz ρ H) a xs) (hd : DpAll K (fz ρ H) xs ps) (h2 : SqT K (fz ρ H) b ys) (hd2 : DpAll K (fz ρ H) ys qs) : Walks K ρ H (RZ.ItzT K a b) (zipT ps qs) := by
  intro i ρ' H' e
  have hs : SqT K H' a xs := sqt_mono (fz_sub ρ' H') (sqt_mono e.fr h)
  have hs2 : SqT K H' b ys := sqt_mono (fz_sub ρ' H') (sqt_mono e.fr h2)
  have hd' := dpa_mono e.fr hd
  have hd2' := dpa_mono e.fr hd2
  refine ⟨fun hl => ⟨xs, ys, hs, hs2, ?_⟩, fun p hp => ?_⟩
  · rw [zipT_len] at hl
    rw [dpa_length hd, dpa_length hd2]
    omega
  rw [zipT_get] at hp
  cases e1 : ps[i]? with
  | none => rw [e1] at hp; cases hp
  | some p1 =>
    cases e2 : qs[i]? with
    | none => rw [e1, e2] at hp; cases hp
    | some p2 =>
      rw [e1, e2] at hp
      cases hp
      obtain ⟨v, hv, dv⟩ := dpa_get hd' e1
      obtain ⟨v2, hv2, dv2⟩ := dpa_get hd2' e2
      refine ⟨⟨xs, ys, v, v2, hs, hs2, hv, hv2⟩, fun x H'' y => ?_⟩
      obtain ⟨T, u, u2, rfl, hT, rfl, f1, f2⟩ := y
      have eu : u = v := Option.some.inj ((f1 xs hs).symm.trans hv)
      have eu2 : u2 = v2 := Option.some.inj ((f2 ys hs2).symm.trans hv2)
      subst eu eu2
      exact ⟨⟨T, _, .inl ⟨hT, rfl⟩⟩, fun S sim => dp_pair sim hT dv dv2⟩
theorem walks_zipL {K : PySem.W.Frag} {ρ : List Addr} {H : Hp} {a b : Addr} {xs ys : List V} {ps qs : List PyData} (h : SqL K (fz ρ H) a xs) (hd : DpAll K (fz ρ H) xs ps) (h2 : SqL K (fz ρ H) b ys) (hd2 : DpAll K (fz ρ H) ys qs) : Walks K ρ H (Itz K a b) (zipT ps qs) := by
  intro i ρ' H' e
  have hs : SqL K H' a xs := sql_mono (fz_sub ρ' H') (sql_mono e.fr h)
  have hs2 : SqL K H' b ys := sql_mono (fz_sub ρ' H') (sql_mono e.fr h2)
  have hd' := dpa_mono e.fr hd
  have hd2' := dpa_mono e.fr hd2
  refine ⟨fun hl => ⟨xs, ys, hs, hs2, ?_⟩, fun p hp => ?_⟩
  · rw [zipT_len] at hl
    rw [dpa_length hd, dpa_length hd2]
    omega
  rw [zipT_get] at hp
  cases e1 : ps[i]? with
  | none => rw [e1] at hp; cases hp
  | some p1 =>
    cases e2 : qs[i]? with
    | none => rw [e1, e2] at hp; cases hp
    | some p2 =>
      rw [e1, e2] at hp
      cases hp
      obtain ⟨v, hv, dv⟩ := dpa_get hd' e1
      obtain ⟨v2, hv2, dv2⟩ := dpa_get hd2' e2
      refine ⟨⟨xs, ys, v, v2, hs, hs2, hv, hv2⟩, fun x H'' y => ?_⟩
      obtain ⟨T, u, u2, rfl, hT, rfl, f1, f2⟩ := y
      have eu : u = v := Option.some.inj ((f1 xs hs).symm.trans hv)
      have eu2 : u2 = v2 := Option.some.inj ((f2 ys hs2).symm.trans hv2)
      subst eu eu2
      exact ⟨⟨T, _, .inl ⟨hT, rfl⟩⟩, fun S sim => dp_pair sim hT dv dv2⟩
theorem si_zip {e e2 : Expr} {m : M (List D)} {p pos tpos : Pos} {elts : List Expr} {kk : Nat} (hg : Gl X "zip") (hm : X.mg "zip" = none) (ha : PA X [e, e2] (tA X.K mg W m))
    (hs : starEach [e, e2] X.env = (false, eval e X.env) :: starEach [e2] X.env := by rfl) (hpl : (backTo pos (starEach [e2] X.env)).any (·.1) = false := by rfl) :
    PI X (.Tuple elts kk tpos) (.Call (.Name "zip" p) [e, e2] [] pos) (tI X.K mg W (mCallI gZip m)) := by
  refine pi_imp (RZ.pi_zipA hg hm ha hs hpl) fun σ H R ⟨ρ, S, env, sim, re, q⟩ => ?_
  refine tM.bind sim re q fun ρ1 S1 xs ds H1 e1 sim1 re1 r1 q1 => ?_
  unfold gZip at q1
  split at q1
  · obtain ⟨x, y, rfl, d, d2⟩ := reps2 r1
    obtain ⟨a, xs, rfl, h, hd⟩ := dp_tup d
    obtain ⟨b, ys, rfl, h2, hd2⟩ := dp_tup d2
    exact ⟨a, b, xs, ys, rfl, .inr ⟨sqt_mono (fz_sub _ _) h, sqt_mono (fz_sub _ _) h2, q1 _ H1 ρ1 (Ext.refl _ _) sim1 (walks_zipT h hd h2 hd2)⟩⟩
  · obtain ⟨x, y, rfl, d, d2⟩ := reps2 r1
    obtain ⟨a, xs, rfl, h, hd⟩ := dp_lst d
    obtain ⟨b, ys, rfl, h2, hd2⟩ := dp_lst d2
    exact ⟨a, b, xs, ys, rfl, .inl ⟨sql_mono (fz_sub _ _) h, sql_mono (fz_sub _ _) h2, q1 _ H1 ρ1 (Ext.refl _ _) sim1 (walks_zipL h hd h2 hd2)⟩⟩
  · exact q1.elim
end

/-! ### targets -/
abbrev MG := D → Ev → Store → R Ev
def OnlyAt (ws : List Nat) (σ σ' : L2.St) : Prop := σ'.length = σ.length ∧ ∀ j, j ∉ ws → σ'[j]? = σ[j]?
def PostG (K : PySem.W.Frag) (ρ : List Addr) (ws : List Nat) (σ : L2.St) (H : Hp) (Q : L2.St → Hp → Prop) : R Ev → Prop
  | .ok env S => ∀ σ' H' ρ', Ext ρ H ρ' H' → Sim K ρ' S H' → REnv K ρ' H' σ' env → OnlyAt ws σ σ' → Q σ' H'
  | _ => False
def tG (K : PySem.W.Frag) (ws : List Nat) (m : MG) : TG := fun v σ H Q => ∃ ρ S env d, Sim K ρ S H ∧ REnv K ρ H σ env ∧ RepD K ρ H v d ∧ PostG K ρ ws σ H Q (m d env S)
def tGs (K : PySem.W.Frag) (ws : List Nat) (m : List D → Ev → Store → R Ev) : TGs := fun vs σ H Q => ∃ ρ S env ds, Sim K ρ S H ∧ REnv K ρ H σ env ∧ RepDs K ρ H vs ds ∧ PostG K ρ ws σ H Q (m ds env S)
theorem pg_imp {X : Cx} {e : Expr} {t t' : TG} (h : PG X e t) (i : ∀ v σ H Q, t' v σ H Q → t v σ H Q) : PG X e t' := ⟨fun pins s σ H v u Q I r q => h.run pins s σ H v u Q I r (i v σ H Q q)⟩
theorem pgs_imp {X : Cx} {e : List Expr} {t t' : TGs} (h : PGs X e t) (i : ∀ v σ H Q, t' v σ H Q → t v σ H Q) : PGs X e t' := ⟨fun pins s σ H v u Q I r q => h.run pins s σ H v u Q I r (i v σ H Q q)⟩
theorem OnlyAt.trans {ws ws' : List Nat} {σ σ1 σ2 : L2.St} (a : OnlyAt ws σ σ1) (b : OnlyAt ws' σ1 σ2) : OnlyAt (ws ++ ws') σ σ2 :=
  ⟨b.1.trans a.1, fun j hj => (b.2 j fun z => hj (List.mem_append_right _ z)).trans (a.2 j fun z => hj (List.mem_append_left _ z))⟩
theorem onlyAt_set (σ : L2.St) (i : Nat) (v : Option V) : OnlyAt [i] σ (σ.set i v) := ⟨by rw [List.length_set], fun j hj => by rw [List.getElem?_set_ne (fun e => hj (by simp [e]))]⟩
def aN (i : Nat) : MG := fun d env S => .ok (env.set i (some d)) S
def asNil : List D → Ev → Store → R Ev := fun ds env S => match ds with
  | [] => .ok env S
  | _ => .no
def asCons (a : MG) (r : List D → Ev → Store → R Ev) : List D → Ev → Store → R Ev := fun ds env S => match ds with
  | d :: ds => bd (a d env S) fun env1 S1 => r ds env1 S1
  | [] => .no
def aT (n : Nat) (r : List D → Ev → Store → R Ev) : MG := fun d env S => match d with
  | .py (.tuple l) => if l.length = n then r (l.map D.py) env S else .no
  | _ => .no
theorem dpa_reps {K : PySem.W.Frag} {ρ : List Addr} {H : Hp} : ∀ {xs : List V} {ps : List PyData}, DpAll K (fz ρ H) xs ps → RepDs K ρ H xs (ps.map D.py)
  | _, _, .nil => .nil
  | _, _, .cons a b => .cons a (dpa_reps b)
section
variable {X : Cx} {pos : Pos}
theorem sg_name {i : Nat} {tg : Expr} (h : PG X tg (gName i)) : PG X tg (tG X.K [i] (aN i)) :=
  pg_imp h fun v σ H Q ⟨ρ, S, env, d, sim, re, r, q⟩ => q _ H ρ (Ext.refl _ _) sim (re.set i r) (onlyAt_set _ _ _)
theorem sgs_nil : PGs X [] (tGs X.K [] asNil) := pgs_imp pgs_nil fun vs σ H Q ⟨ρ, S, env, ds, sim, re, r, q⟩ => by
  cases r with
  | nil => exact ⟨rfl, q σ H ρ (Ext.refl _ _) sim re ⟨rfl, fun _ _ => rfl⟩⟩
  | cons _ _ => exact q.elim
theorem sgs_cons {e : Expr} {es : List Expr} {w w' : List Nat} {a : MG} {r : List D → Ev → Store → R Ev} (h1 : PG X e (tG X.K w a)) (h2 : PGs X es (tGs X.K w' r))
    (hs : (assignEach (e :: es) X.env).map (·.2) = assign e X.env :: (assignEach es X.env).map (·.2) := by rfl) : PGs X (e :: es) (tGs X.K (w ++ w') (asCons a r)) := by
  refine pgs_imp (pgs_cons h1 h2 hs) fun vs σ H Q ⟨ρ, S, env, ds, sim, re, rr, q⟩ => ?_
  cases rr with
  | nil => exact q.elim
  | @cons v d vs ds r0 rr =>
    refine ⟨_, _, rfl, ρ, S, env, d, sim, re, r0, ?_⟩
    unfold asCons at q
    simp only at q
    cases e1 : a d env S with
    | no => rw [e1] at q; exact q.elim
    | exc x S1 => rw [e1] at q; exact q.elim
    | ok env1 S1 =>
      rw [e1] at q
      intro σ' H' ρ' x sim' re' oa
      refine ⟨ρ', S1, env1, ds, sim', re', RepDs.mono x rr, ?_⟩
      have q : PostG X.K ρ (w ++ w') σ H Q (r ds env1 S1) := q
      show PostG X.K ρ' w' σ' H' Q (r ds env1 S1)
      cases e2 : r ds env1 S1 with
      | no => rw [e2] at q; exact q.elim
      | exc x S1 => rw [e2] at q; exact q.elim
      | ok env2 S2 =>
        rw [e2] at q
        exact fun σ2 H2 ρ2 x2 s2 re2 oa2 => q σ2 H2 ρ2 (x.trans x2) s2 re2 (oa.trans oa2)
theorem sg_tup {es : List Expr} {k n : Nat} {w : List Nat} {r : List D → Ev → Store → R Ev} (hc : X.calm = true) (h : PGs X es (tGs X.K w r))
    (hn : (assignEach es X.env).length = n := by rfl) (hst : (assignEach es X.env).findIdx? (·.1) = none := by rfl) : PG X (.Tuple es k pos) (tG X.K w (aT n r)) := by
  refine pg_imp (pg_tup hc h hn hst) fun v σ H Q ⟨ρ, S, env, d, sim, re, r0, q⟩ => ?_
  unfold aT at q
  split at q
  · rename_i l
    split at q
    · rename_i hl
      obtain ⟨a, xs, rfl, h1, hd⟩ := dp_tup (show Dp X.K (fz ρ H) v (.tuple l) from r0)
      exact ⟨a, xs, rfl, sqt_mono (fz_sub _ _) h1, by rw [dpa_length hd, hl], ρ, S, env, _, sim, re, dpa_reps hd, q⟩
    · exact q.elim
  · exact q.elim
end
end PX

end P_PX4
section P_PX5
set_option maxHeartbeats 4000000
namespace PX
open PySem PySem.Spec PyProof.Rows L2

/-! ### loops -/
def forS (a : MG) (b : MS) : List PyData → MS
  | [] => fun env S => .go .nx env S
  | p :: ps => fun env S => match a (.py p) env S with
    | .ok env1 S1 => (match b env1 S1 with
      | .go .nx env2 S2 => forS a b ps env2 S2
      | .go .ct env2 S2 => forS a b ps env2 S2
      | .go .bk env2 S2 => .go .nx env2 S2
      | .go (.rt d) env2 S2 => .go (.rt d) env2 S2
      | .exc x env2 S2 => .exc x env2 S2
      | .no => .no)
    | _ => .no
def sFor (m : M (List PyData)) (a : MG) (b : MS) : MS := fun env S => bs (m env S) env fun ps S1 => forS a b ps env S1
def whS (c : M Bool) (b : MS) : Nat → MS
  | 0 => fun _ _ => .no
  | n + 1 => fun env S => match c env S with
    | .ok k S1 => if k then (match b env S1 with
      | .go .nx env2 S2 => whS c b n env2 S2
      | .go .ct env2 S2 => whS c b n env2 S2
      | .go .bk env2 S2 => .go .nx env2 S2
      | .go (.rt d) env2 S2 => .go (.rt d) env2 S2
      | .exc x env2 S2 => .exc x env2 S2
      | .no => .no) else .go .nx env S1
    | .exc x S1 => .exc x env S1
    | .no => .no
section
variable {X : Cx} {mg : Str → Option Value} {W : WX} {pos : Pos}
theorem drop_some {α : Type} {l : List α} {i : Nat} {x : α} (h : l[i]? = some x) : l.drop i = x :: l.drop (i + 1) := by
  obtain ⟨hi, e⟩ := List.getElem?_eq_some_iff.mp h
  rw [List.drop_eq_getElem_cons hi, e]
theorem ss_for {tg iter : Expr} {body : List Stmt} {mi : M (List PyData)} {a : MG} {ws : List Nat} {b : MS} (hp : PassesOwn (model X.prog X.w) X.A X.env X.xe) (hc : X.calm = true) (hi : PI X tg iter (tI X.K mg W mi)) (hg : PG X tg (tG X.K ws a)) (hb : PSs X body (tS X.K mg W b))
    (hs : ∀ x, foldedSetIterable iter X.env x = pure x := by intro _; rfl) : PS X (.For tg iter body [] pos) (tS X.K mg W (sFor mi a b)) := by
  refine ps_imp (ps_for hp hc hi hg hb hs) fun D σ H ⟨ρ, S, env, sim, re, q⟩ => ?_
  refine tM.bindS sim re q fun ρ1 S1 J ps H1 e1 sim1 re1 wk q1 => ?_
  refine ⟨fun i m σ' H' => m = ps.length - i ∧ i ≤ ps.length ∧ ∃ ρ' S' env', Ext ρ1 H1 ρ' H' ∧ Sim X.K ρ' S' H' ∧ REnv X.K ρ' H' σ' env' ∧ PostS X.K mg W ρ' H' D (forS a b (ps.drop i) env' S'),
    ⟨ps.length, by simp, Nat.zero_le _, ρ1, S1, env, Ext.refl _ _, sim1, re1, q1⟩, ?_⟩
  rintro i m σ' H' ⟨rfl, hle, ρ', S', env', x', sim', re', q'⟩
  obtain ⟨w1, w2⟩ := wk i ρ' H' x'
  cases hp : ps[i]? with
  | none =>
    have hl : ps.length ≤ i := List.getElem?_eq_none_iff.mp hp
    refine .inl ⟨w1 hl, ?_⟩
    rw [List.drop_eq_nil_of_le hl] at q'
    exact q' σ' H' ρ' (Ext.refl _ _) sim' re'
  | some p =>
    have hlt : i < ps.length := (List.getElem?_eq_some_iff.mp hp).1
    obtain ⟨go, yl⟩ := w2 p hp
    rw [drop_some hp] at q'
    refine .inr ⟨go, fun σ2 H2 => ∃ ρ2 S2 env2, Ext ρ1 H1 ρ2 H2 ∧ Sim X.K ρ2 S2 H2 ∧ REnv X.K ρ2 H2 σ2 env2 ∧ PostS X.K mg W ρ2 H2 D (forS a b (ps.drop (i + 1)) env2 S2), fun σ2 H2 n => ⟨ps.length - (i + 1), by omega, rfl, hlt, n⟩, fun x H'' y => ?_⟩
    obtain ⟨⟨T, o, hh⟩, hd⟩ := yl x H'' y
    have hd := hd S' sim'
    obtain ⟨xe, sim2⟩ : Ext ρ' H' ρ' H'' ∧ Sim X.K ρ' S' H'' := by
      rcases hh with ⟨hT, rfl⟩ | rfl
      · exact ⟨ext_new sim' hT, sim'.upd hT⟩
      · exact ⟨Ext.refl _ _, sim'⟩
    refine ⟨ρ', S', env', .py p, sim2, re'.mono xe, hd, ?_⟩
    unfold forS at q'
    cases ea : a (.py p) env' S' with
    | no => simp only [ea] at q'; exact q'.elim
    | exc z S3 => simp only [ea] at q'; exact q'.elim
    | ok env3 S3 =>
      simp only [ea] at q'
      intro σ3 H3 ρ3 x3 sim3 re3 _
      refine ⟨ρ3, S3, env3, sim3, re3, ?_⟩
      have tr : Ext ρ' H' ρ3 H3 := xe.trans x3
      have go_on : ∀ env4 S4, PostS X.K mg W ρ' H' D (forS a b (ps.drop (i + 1)) env4 S4) → ∀ σ5 H5 ρ5, Ext ρ3 H3 ρ5 H5 → Sim X.K ρ5 S4 H5 → REnv X.K ρ5 H5 σ5 env4 →
          ∃ ρ2 S2 env2, Ext ρ1 H1 ρ2 H5 ∧ Sim X.K ρ2 S2 H5 ∧ REnv X.K ρ2 H5 σ5 env2 ∧ PostS X.K mg W ρ2 H5 D (forS a b (ps.drop (i + 1)) env2 S2) :=
        fun env4 S4 q4 σ5 H5 ρ5 x5 s5 r5 => ⟨ρ5, S4, env4, x'.trans (tr.trans x5), s5, r5, PostS.ext (tr.trans x5) q4⟩
      cases eb : b env3 S3 with
      | no => simp only [eb] at q'; exact q'.elim
      | exc z env4 S4 => simp only [eb] at q'; exact fun c o σ5 H5 ρ5 x5 => q' c o σ5 H5 ρ5 (tr.trans x5)
      | go f env4 S4 =>
        cases f with
        | nx => simp only [eb] at q'; exact go_on env4 S4 q'
        | ct => simp only [eb] at q'; exact go_on env4 S4 q'
        | bk => simp only [eb] at q'; exact fun σ5 H5 ρ5 x5 => q' σ5 H5 ρ5 (tr.trans x5)
        | rt d => simp only [eb] at q'; exact fun v H5 ρ5 x5 => q' v H5 ρ5 (tr.trans x5)
theorem ss_while {c : Expr} {body : List Stmt} {mc : M Bool} {b : MS} {n : Nat} (hp : PassesOwn (model X.prog X.w) X.A X.env X.xe) (hc : PT X c (tT X.K mg W mc)) (hb : PSs X body (tS X.K mg W b)) : PS X (.While c body [] pos) (tS X.K mg W (whS mc b n)) := by
  refine ps_imp (ps_while hp hc hb) fun D σ H ⟨ρ, S, env, sim, re, q⟩ => ?_
  refine ⟨fun m σ' H' => ∃ ρ' S' env', Sim X.K ρ' S' H' ∧ REnv X.K ρ' H' σ' env' ∧ PostS X.K mg W ρ' H' D (whS mc b m env' S'), ⟨n, ρ, S, env, sim, re, q⟩, ?_⟩
  rintro m σ' H' ⟨ρ', S', env', sim', re', q'⟩
  cases m with
  | zero => exact q'.elim
  | succ m =>
    unfold whS at q'
    refine ⟨ρ', S', env', sim', re', ?_⟩
    cases ec : mc env' S' with
    | no => simp only [ec] at q'; exact q'
    | exc z S3 => simp only [ec] at q'; exact fun cls o H5 ρ5 x5 s5 r5 => q' cls o σ' H5 ρ5 x5 s5 (re'.mono x5) r5
    | ok k S3 =>
      simp only [ec] at q'
      intro k' H3 ρ3 x3 sim3 ek
      subst ek
      cases k' with
      | false =>
        rw [if_neg Bool.false_ne_true]
        rw [if_neg Bool.false_ne_true] at q'
        exact q' σ' H3 ρ3 x3 sim3 (re'.mono x3)
      | true =>
        rw [if_pos rfl]
        rw [if_pos rfl] at q'
        refine ⟨fun σ2 H2 => ∃ ρ2 S2 env2, Sim X.K ρ2 S2 H2 ∧ REnv X.K ρ2 H2 σ2 env2 ∧ PostS X.K mg W ρ2 H2 D (whS mc b m env2 S2), fun σ2 H2 nn => ⟨m, Nat.lt_succ_self _, nn⟩, ρ3, S3, env', sim3, re'.mono x3, ?_⟩
        cases eb : b env' S3 with
        | no => simp only [eb] at q'; exact q'.elim
        | exc z env4 S4 => simp only [eb] at q'; exact fun c o σ5 H5 ρ5 x5 => q' c o σ5 H5 ρ5 (x3.trans x5)
        | go f env4 S4 =>
          cases f with
          | nx => simp only [eb] at q'; exact fun σ5 H5 ρ5 x5 s5 r5 => ⟨ρ5, S4, env4, s5, r5, PostS.ext (x3.trans x5) q'⟩
          | ct => simp only [eb] at q'; exact fun σ5 H5 ρ5 x5 s5 r5 => ⟨ρ5, S4, env4, s5, r5, PostS.ext (x3.trans x5) q'⟩
          | bk => simp only [eb] at q'; exact fun σ5 H5 ρ5 x5 => q' σ5 H5 ρ5 (x3.trans x5)
          | rt d => simp only [eb] at q'; exact fun v H5 ρ5 x5 => q' v H5 ρ5 (x3.trans x5)
end

/-! ### comprehensions -/
abbrev W0 : WX := fun _ _ _ _ => False
def wipeE (env : Ev) : List Nat → Ev
  | [] => env
  | v :: vs => (wipeE env vs).set v none
theorem renv_none {K : PySem.W.Frag} {ρ : List Addr} {H : Hp} {σ : L2.St} {env : Ev} (h : REnv K ρ H σ env) (i : Nat) (o : Option V) : REnv K ρ H (σ.set i o) (env.set i none) := by
  refine ⟨by rw [List.length_set, List.length_set]; exact h.1, fun j e q => ?_⟩
  by_cases hj : i = j
  · subst hj
    by_cases hi : i < env.length
    · rw [List.getElem?_set_self hi] at q; cases q
    · rw [List.getElem?_eq_none (by rw [List.length_set]; omega)] at q; cases q
  · rw [List.getElem?_set_ne hj] at q ⊢
    exact h.2 j e q
theorem renv_wipe {K : PySem.W.Frag} {ρ : List Addr} {H : Hp} {σ : L2.St} {env : Ev} (h : REnv K ρ H σ env) : ∀ vs : List Nat, REnv K ρ H (wipe σ vs) (wipeE env vs)
  | [] => h
  | v :: vs => renv_none (renv_wipe h vs) v none
theorem wipe_get (σ : L2.St) (j : Nat) : ∀ vs : List Nat, (wipe σ vs)[j]? = if j ∈ vs ∧ j < σ.length then some none else σ[j]?
  | [] => by simp [wipe]
  | v :: vs => by
    unfold wipe
    by_cases hj : v = j
    · subst hj
      by_cases hl : v < σ.length
      · rw [List.getElem?_set_self (by rw [wipe_length]; exact hl), if_pos ⟨List.mem_cons_self, hl⟩]
      · rw [List.getElem?_eq_none (by rw [List.length_set, wipe_length]; omega), if_neg (fun z => hl z.2), List.getElem?_eq_none (by omega)]
    · rw [List.getElem?_set_ne hj, wipe_get σ j vs]
      by_cases h1 : j ∈ vs
      · simp [h1]
      · have : j ∉ v :: vs := by simp [h1]; exact fun e => hj e.symm
        simp [h1, this]
theorem wipe_only {σ σ' : L2.St} {ws vs : List Nat} (h : OnlyAt ws (wipe σ vs) σ') (hw : ∀ w ∈ ws, w ∈ vs) : wipe σ' vs = wipe σ vs := by
  apply List.ext_getElem?
  intro j
  rw [wipe_get σ' j vs, wipe_get σ j vs]
  have hl : σ'.length = σ.length := h.1.trans (wipe_length σ vs)
  by_cases hj : j ∈ vs
  · by_cases h2 : j < σ.length
    · rw [if_pos ⟨hj, by rw [hl]; exact h2⟩, if_pos ⟨hj, h2⟩]
    · rw [if_neg (fun z => h2 (by rw [← hl]; exact z.2)), if_neg (fun z => h2 z.2), List.getElem?_eq_none (by omega), List.getElem?_eq_none (by omega)]
  · rw [if_neg (fun z => hj z.1), if_neg (fun z => hj z.1), h.2 j (fun z => hj (hw j z)), wipe_get σ j vs, if_neg (fun z => hj z.1)]
def bdN {α γ : Type} (r : R α) (k : α → Store → R γ) : R γ := match r with
  | .ok a S => k a S
  | _ => .no
def lcPut (n : Nat) (q : PyData) (S : Store) : R Unit := match S[n]? with
  | some (.lst acc) => if fits (acc.length + 1) then .ok () (S.set n (.lst (acc ++ [q]))) else .no
  | _ => .no
def lcGo (n : Nat) (env : Ev) (a : MG) (mt : M Bool) (me : M D) : List PyData → Store → R D
  | [], S => .ok (.loc n) S
  | p :: ps, S => bdN (a (.py p) env S) fun env1 S1 => bdN (mt env1 S1) fun k S2 =>
    if k then bdN (me env1 S2) fun y S3 => (match y with
      | .py q => bdN (lcPut n q S3) fun _ S4 => lcGo n env a mt me ps S4
      | _ => .no) else lcGo n env a mt me ps S2
def mYes : M Bool := fun _ S => .ok true S
def mLc (vs : List Nat) (mi : M (List PyData)) (a : MG) (mt : M Bool) (me : M D) : M D := fun env S => bd (mi env S) fun ps S1 => lcGo S1.length (wipeE env vs) a mt me ps (S1 ++ [.lst []])
theorem Sim.set {K : PySem.W.Frag} {ρ : List Addr} {S : Store} {H : Hp} {n : Nat} {a : Addr} {o : HO} {c : Cell} (sim : Sim K ρ S H) (ha : ρ[n]? = some a) (hc : CellOk K (fz ρ H) (some o) c) : Sim K ρ (S.set n c) (L2.upd H a o) ∧ Ext ρ H ρ (L2.upd H a o) := by
  have hm : a ∈ ρ := List.mem_of_getElem? ha
  have hf : fz ρ (L2.upd H a o) = fz ρ H := fz_upd_in hm
  refine ⟨⟨by rw [List.length_set]; exact sim.len, sim.nd, fun m b c' h1 h2 => ?_⟩, ⟨⟨[], by simp⟩, by rw [hf]; exact Sm.refl _⟩⟩
  rw [hf]
  by_cases hmn : n = m
  · subst hmn
    rw [ha] at h1
    cases h1
    have hn : n < S.length := by rw [← sim.len]; exact (List.getElem?_eq_some_iff.mp ha).1
    rw [List.getElem?_set_self hn] at h2
    cases h2
    rw [upd_same]
    exact hc
  · rw [List.getElem?_set_ne hmn] at h2
    have hb : b ≠ a := by
      intro e
      subst e
      obtain ⟨i1, e1⟩ := List.getElem?_eq_some_iff.mp ha
      obtain ⟨i2, e2⟩ := List.getElem?_eq_some_iff.mp h1
      exact hmn ((List.getElem_inj sim.nd).mp (e1.trans e2.symm))
    rw [upd_ne hb]
    exact sim.cell m b c' h1 h2
theorem ext_get {ρ ρ' : List Addr} {H H' : Hp} {n : Nat} {a : Addr} (e : Ext ρ H ρ' H') (h : ρ[n]? = some a) : ρ'[n]? = some a := by
  obtain ⟨τ, e1⟩ := e.pre
  rw [e1, List.getElem?_append_left (List.getElem?_eq_some_iff.mp h).1]
  exact h
theorem lc_read {K : PySem.W.Frag} {mg : Str → Option Value} {W : WX} {vs ws : List Nat} {mi : M (List PyData)} {a : MG} {mt : M Bool} {me : M D} (hws : ∀ w ∈ ws, w ∈ vs) {σ : L2.St} {H : Hp} {Q : VK}
    (h : tE K mg W (mLc vs mi a mt me) σ H Q) : tLc (tI K mg W mi) (tG K ws a) (tT K mg W0 mt) (tE K mg W0 me) vs σ H Q := by
  obtain ⟨ρ, S, env, sim, re, q⟩ := h
  refine tM.bind sim re q fun ρ1 S1 J ps H1 e1 sim1 re1 wk q1 => fun D hD => ?_
  have hDn := sim_new sim1 hD
  have simD : Sim K (ρ1 ++ [D]) (S1 ++ [.lst []]) (L2.upd H1 D (.lst [])) := sim1.push hD ⟨[], rfl, .nil, Nat.zero_le _⟩
  have extD : Ext ρ1 H1 (ρ1 ++ [D]) (L2.upd H1 D (.lst [])) := ⟨⟨[D], rfl⟩, by rw [fz_app_upd hDn hD]; exact Sm.refl _⟩
  have hat : (ρ1 ++ [D])[S1.length]? = some D := by rw [← sim1.len]; simp
  refine ⟨fun i m H' => m = ps.length - i ∧ i ≤ ps.length ∧ ∃ ρ' S', Ext (ρ1 ++ [D]) (L2.upd H1 D (.lst [])) ρ' H' ∧ Sim K ρ' S' H' ∧ Post K mg W (RepD K) ρ' σ H' Q (lcGo S1.length (wipeE env vs) a mt me (ps.drop i) S'),
    ⟨ps.length, by simp, Nat.zero_le _, ρ1 ++ [D], S1 ++ [.lst []], Ext.refl _ _, simD, by rw [List.drop_zero]; exact Post.ext extD q1⟩, ?_⟩
  rintro i m H' ⟨rfl, hle, ρ', S', x', sim', q'⟩
  obtain ⟨w1, w2⟩ := wk i ρ' H' (extD.trans x')
  have hat' := ext_get x' hat
  cases hp : ps[i]? with
  | none =>
    have hl : ps.length ≤ i := List.getElem?_eq_none_iff.mp hp
    refine .inl ⟨w1 hl, ?_⟩
    rw [List.drop_eq_nil_of_le hl] at q'
    exact q' (.ref D) H' ρ' (Ext.refl _ _) sim' ⟨D, hat', rfl⟩
  | some p =>
    have hlt : i < ps.length := (List.getElem?_eq_some_iff.mp hp).1
    obtain ⟨go, yl⟩ := w2 p hp
    rw [drop_some hp] at q'
    refine .inr ⟨go, fun H2 => ∃ ρ2 S2, Ext (ρ1 ++ [D]) (L2.upd H1 D (.lst [])) ρ2 H2 ∧ Sim K ρ2 S2 H2 ∧ Post K mg W (RepD K) ρ2 σ H2 Q (lcGo S1.length (wipeE env vs) a mt me (ps.drop (i + 1)) S2), fun H2 n => ⟨ps.length - (i + 1), by omega, rfl, hlt, n⟩, fun x H'' y => ?_⟩
    obtain ⟨⟨T, o, hh⟩, hd⟩ := yl x H'' y
    have hd := hd S' sim'
    obtain ⟨xe, sim2⟩ : Ext ρ' H' ρ' H'' ∧ Sim K ρ' S' H'' := by
      rcases hh with ⟨hT, rfl⟩ | rfl
      · exact ⟨ext_new sim' hT, sim'.upd hT⟩
      · exact ⟨Ext.refl _ _, sim'⟩
    have rew : REnv K ρ' H'' (wipe σ vs) (wipeE env vs) := renv_wipe (re1.mono ((extD.trans x').trans xe)) vs
    refine ⟨ρ', S', wipeE env vs, .py p, sim2, rew, hd, ?_⟩
    unfold lcGo at q'
    cases ea : a (.py p) (wipeE env vs) S' with
    | no => rw [ea] at q'; exact q'.elim
    | exc z S3 => rw [ea] at q'; exact q'.elim
    | ok env3 S3 =>
      rw [ea] at q'
      intro σ3 H3 ρ3 x3 sim3 re3 oa
      have q' : Post K mg W (RepD K) ρ' σ H' Q (bdN (mt env3 S3) fun k S2 => if k then bdN (me env3 S2) fun y S3 => (match y with
        | .py q => bdN (lcPut S1.length q S3) fun _ S4 => lcGo S1.length (wipeE env vs) a mt me (ps.drop (i + 1)) S4
        | _ => .no) else lcGo S1.length (wipeE env vs) a mt me (ps.drop (i + 1)) S2) := q'
      refine ⟨wipe_only oa hws, ρ3, S3, env3, sim3, re3, ?_⟩
      cases et : mt env3 S3 with
      | no => rw [et] at q'; exact q'.elim
      | exc z S4 => rw [et] at q'; exact q'.elim
      | ok k S4 =>
        rw [et] at q'
        intro k' H4 ρ4 x4 sim4 ek
        subst ek
        have tr4 : Ext ρ' H' ρ4 H4 := xe.trans (x3.trans x4)
        cases k' with
        | false =>
          rw [if_neg Bool.false_ne_true]
          exact ⟨ρ4, S4, x'.trans tr4, sim4, Post.ext tr4 q'⟩
        | true =>
          rw [if_pos rfl]
          have q' : Post K mg W (RepD K) ρ' σ H' Q (bdN (me env3 S4) fun y S3 => (match y with
            | .py q => bdN (lcPut S1.length q S3) fun _ S4 => lcGo S1.length (wipeE env vs) a mt me (ps.drop (i + 1)) S4
            | _ => .no)) := q'
          refine ⟨ρ4, S4, env3, sim4, re3.mono x4, ?_⟩
          cases em : me env3 S4 with
          | no => rw [em] at q'; exact q'.elim
          | exc z S5 => rw [em] at q'; exact q'.elim
          | ok y S5 =>
            rw [em] at q'
            cases y with
            | loc n => exact q'.elim
            | raw v => exact q'.elim
            | py e =>
              have q' : Post K mg W (RepD K) ρ' σ H' Q (bdN (lcPut S1.length e S5) fun _ S4 => lcGo S1.length (wipeE env vs) a mt me (ps.drop (i + 1)) S4) := q'
              intro v H5 ρ5 x5 sim5 rv
              have tr5 : Ext ρ' H' ρ5 H5 := tr4.trans x5
              have hat5 := ext_get (x'.trans tr5) hat
              unfold lcPut at q'
              cases ec : S5[S1.length]? with
              | none => simp only [ec] at q'; exact q'.elim
              | some c =>
                simp only [ec] at q'
                cases c with
                | dI l => exact q'.elim
                | dT l => exact q'.elim
                | lst acc =>
                  simp only at q'
                  cases hf : fits (acc.length + 1) with
                  | false => simp only [hf] at q'; exact q'.elim
                  | true =>
                    simp only [hf] at q'
                    obtain ⟨xs, e5, d5, z5⟩ := sim5.cell _ _ _ hat5 ec
                    have hz := fits_ok hf
                    have hln := dpa_length d5
                    obtain ⟨s6, x6⟩ := sim5.set (o := .lst (xs ++ [v])) (c := .lst (acc ++ [e])) hat5 ⟨xs ++ [v], rfl, dpa_append d5 (.cons rv .nil), by rw [List.length_append, hln]; exact hz⟩
                    exact ⟨xs, e5, by omega, ρ5, _, (x'.trans tr5).trans x6, s6, Post.ext (tr5.trans x6) q'⟩
section
variable {X : Cx} {mg : Str → Option Value} {W : WX} {pos : Pos}
theorem spt_nil : PTs X [] (tT X.K mg W0 mYes) := by
  refine ⟨fun pins s σ H Q I ⟨ρ, S, env, sim, re, q⟩ => ?_⟩
  exact pts_nil.run pins s σ H Q I (q true H ρ (Ext.refl _ _) sim rfl)
theorem se_lc {elt tg iter : Expr} {ifs : List Expr} {scope : Scope} {own : List (Str × Nat)} {mi : M (List PyData)} {a : MG} {ws : List Nat} {mt : M Bool} {me : M D} (hc : X.calm = true) (hN : X.N.Nodup) (hi : PI X tg iter (tI X.K mg W mi)) (ok : BlkOk X.N X.env.scope scope own)
    (hg : ∀ (s : Shared) (H : Hp) (C : Addr) (cl : List (Str × Addr)) (fp : List Addr), PG (X.blk s H scope (compEnvC scope cl C X.env) fp) tg (tG X.K ws a))
    (ht : ∀ (s : Shared) (H : Hp) (C : Addr) (cl : List (Str × Addr)) (fp : List Addr), PTs (X.blk s H scope (compEnvC scope cl C X.env) fp) ifs (tT X.K mg W0 mt))
    (he : ∀ (s : Shared) (H : Hp) (C : Addr) (cl : List (Str × Addr)) (fp : List Addr), PE (X.blk s H scope (compEnvC scope cl C X.env) fp) elt (tE X.K mg W0 me))
    (hws : ∀ w ∈ ws, w ∈ own.map (·.2) := by decide) (hs : ∀ x, foldedSetIterable iter X.env x = pure x := by intro _; rfl) :
    PE X (.ListComp elt [⟨tg, iter, ifs, 0⟩] scope pos) (tE X.K mg W (mLc (own.map (·.2)) mi a mt me)) :=
  pe_imp (pe_lc hc hN hi ok hg ht he hs) fun σ H Q h => lc_read hws h
end

/-! ### statements -/
def sNx : MS := fun env S => .go .nx env S
def sSeq (a b : MS) : MS := fun env S => match a env S with
  | .go .nx env1 S1 => b env1 S1
  | r => r
def sEx (m : M D) : MS := fun env S => bs (m env S) env fun _ S1 => .go .nx env S1
def sRet (m : M D) : MS := fun env S => bs (m env S) env fun d S1 => .go (.rt d) env S1
def sRetN : MS := fun env S => .go (.rt (.py .none)) env S
def sBk : MS := fun env S => .go .bk env S
def sCt : MS := fun env S => .go .ct env S
def sIf (c : M Bool) (a b : MS) : MS := fun env S => bs (c env S) env fun k S1 => if k then a env S1 else b env S1
def sAs (m : M D) (a : MG) : MS := fun env S => bs (m env S) env fun d S1 => match a d env S1 with
  | .ok env1 S2 => .go .nx env1 S2
  | _ => .no
def sNo : MS := fun _ _ => .no
section
variable {X : Cx} {mg : Str → Option Value} {W : WX} {pos : Pos}
theorem sss_nil : PSs X [] (tS X.K mg W sNx) := pss_imp pss_nil fun D σ H ⟨ρ, S, env, sim, re, q⟩ => q σ H ρ (Ext.refl _ _) sim re
theorem sss_cons {st : Stmt} {rest : List Stmt} {a b : MS} (h1 : PS X st (tS X.K mg W a)) (h2 : PSs X rest (tS X.K mg W b)) : PSs X (st :: rest) (tS X.K mg W (sSeq a b)) := by
  refine pss_imp (pss_cons h1 h2) fun D σ H ⟨ρ, S, env, sim, re, q⟩ => ⟨ρ, S, env, sim, re, ?_⟩
  unfold sSeq at q
  cases ea : a env S with
  | no => simp only [ea] at q; exact q
  | exc x env1 S1 => simp only [ea] at q; exact q
  | go f env1 S1 =>
    cases f with
    | nx => simp only [ea] at q; exact fun σ1 H1 ρ1 x1 s1 r1 => ⟨ρ1, S1, env1, s1, r1, PostS.ext x1 q⟩
    | bk => simp only [ea] at q; exact q
    | ct => simp only [ea] at q; exact q
    | rt d => simp only [ea] at q; exact q
theorem sss_one {st : Stmt} {a : MS} (h : PS X st (tS X.K mg W a)) : PSs X [st] (tS X.K mg W a) := pss_one h
theorem ss_pass : PS X (.Pass pos) (tS X.K mg W sNx) := ps_imp ps_pass fun D σ H ⟨ρ, S, env, sim, re, q⟩ => q σ H ρ (Ext.refl _ _) sim re
theorem ss_break : PS X (.Break pos) (tS X.K mg W sBk) := ps_imp ps_break fun D σ H ⟨ρ, S, env, sim, re, q⟩ => q σ H ρ (Ext.refl _ _) sim re
theorem ss_continue : PS X (.Continue pos) (tS X.K mg W sCt) := ps_imp ps_continue fun D σ H ⟨ρ, S, env, sim, re, q⟩ => q σ H ρ (Ext.refl _ _) sim re
theorem ss_expr {e : Expr} {m : M D} (he : PE X e (tE X.K mg W m)) (hs : swapsWith e none pos.line X.env = pure false := by rfl) : PS X (.Expr e pos) (tS X.K mg W (sEx m)) := by
  refine ps_imp (ps_expr he hs) fun D σ H ⟨ρ, S, env, sim, re, q⟩ => ?_
  exact tM.bindS sim re q fun ρ1 S1 v d H1 e1 sim1 re1 r1 q1 => q1 σ H1 ρ1 (Ext.refl _ _) sim1 re1
theorem ss_ret {e : Expr} {m : M D} (he : PE X e (tE X.K mg W m)) : PS X (.Return (some e) pos) (tS X.K mg W (sRet m)) := by
  refine ps_imp (ps_ret he) fun D σ H ⟨ρ, S, env, sim, re, q⟩ => ?_
  exact tM.bindS sim re q fun ρ1 S1 v d H1 e1 sim1 re1 r1 q1 => q1 v H1 ρ1 (Ext.refl _ _) sim1 r1
theorem ss_retN : PS X (.Return none pos) (tS X.K mg W sRetN) := ps_imp ps_retN fun D σ H ⟨ρ, S, env, sim, re, q⟩ => q .non H ρ (Ext.refl _ _) sim .non
theorem ss_if {c : Expr} {p r : List Stmt} {mc : M Bool} {a b : MS} (hc : PT X c (tT X.K mg W mc)) (ha : PSs X p (tS X.K mg W a)) (hb : PSs X r (tS X.K mg W b)) : PS X (.If c p r pos) (tS X.K mg W (sIf mc a b)) := by
  refine ps_imp (ps_if hc ha hb) fun D σ H ⟨ρ, S, env, sim, re, q⟩ => ?_
  refine tM.bindS sim re q fun ρ1 S1 v k H1 e1 sim1 re1 r1 q1 => ?_
  subst r1
  cases v with
  | true => rw [if_pos rfl]; rw [if_pos rfl] at q1; exact ⟨ρ1, S1, env, sim1, re1, q1⟩
  | false => rw [if_neg Bool.false_ne_true]; rw [if_neg Bool.false_ne_true] at q1; exact ⟨ρ1, S1, env, sim1, re1, q1⟩
theorem asg_read {K : PySem.W.Frag} {m : M D} {a : MG} {ws : List Nat} {D : Ends} {σ : L2.St} {H : Hp} (h : tS K mg W (sAs m a) D σ H) : tAsg (tE K mg W m) (tG K ws a) D σ H := by
  obtain ⟨ρ, S, env, sim, re, q⟩ := h
  refine tM.bindS sim re q fun ρ1 S1 v d H1 e1 sim1 re1 r1 q1 => ⟨ρ1, S1, env, d, sim1, re1, r1, ?_⟩
  cases ea : a d env S1 with
  | no => simp only [ea] at q1; exact q1
  | exc x S2 => simp only [ea] at q1; exact q1.elim
  | ok env1 S2 => simp only [ea] at q1; exact fun σ' H' ρ' x s r _ => q1 σ' H' ρ' x s r
theorem ss_asg {tg e : Expr} {m : M D} {a : MG} {ws : List Nat} (he : PE X e (tE X.K mg W m)) (hg : PG X tg (tG X.K ws a)) (hs : swapsWithSole [tg] e pos.line X.env = pure false := by rfl) (hw : swappedStores [tg] e X.env = pure none := by rfl)
    (h1 : (assignEach [tg] X.env).map (·.2) = [assign tg X.env] := by rfl) : PS X (.Assign [tg] e pos) (tS X.K mg W (sAs m a)) := ps_imp (ps_asg he hg hs hw h1) fun D σ H h => asg_read h
/-- name = value, by the rule of names -/
theorem set_read {K : PySem.W.Frag} {m : M D} {i : Nat} {D : Ends} {σ : L2.St} {H : Hp} (h : tS K mg W (sAs m (aN i)) D σ H) : tAsg (tE K mg W m) (gName i) D σ H := by
  obtain ⟨ρ, S, env, sim, re, q⟩ := h
  exact tM.bindS sim re q fun ρ1 S1 v d H1 e1 sim1 re1 r1 q1 => q1 _ H1 ρ1 (Ext.refl _ _) sim1 (re1.set i r1)
theorem ss_set {st : Stmt} {i : Nat} {m : M D} (h : PS X st (tAsg (tE X.K mg W m) (gName i))) : PS X st (tS X.K mg W (sAs m (aN i))) := ps_imp h fun D σ H q => set_read q
/-- a, b = x, y -/
def sPar (i j : Nat) (m : M (List D)) : MS := fun env S => bs (m env S) env fun ds S1 => match ds with
  | [d, e] => .go .nx ((env.set i (some d)).set j (some e)) S1
  | _ => .no
theorem ss_par {st : Stmt} {i j : Nat} {m : M (List D)} (h : PS X st (tPar i j (tA X.K mg W m))) : PS X st (tS X.K mg W (sPar i j m)) := ps_imp h fun D σ H ⟨ρ, S, env, sim, re, q⟩ => by
  refine tM.bindS sim re q fun ρ1 S1 vs ds H1 e1 sim1 re1 r1 q1 => ?_
  cases r1 with
  | nil => exact q1.elim
  | cons r rr => cases rr with
    | nil => exact q1.elim
    | cons r2 rr => cases rr with
      | nil => exact ⟨_, _, rfl, q1 _ H1 ρ1 (Ext.refl _ _) sim1 ((re1.set i r).set j r2)⟩
      | cons _ _ => exact q1.elim
def sPar3 (i j l : Nat) (m : M (List D)) : MS := fun env S => bs (m env S) env fun ds S1 => match ds with
  | [d, e, f] => .go .nx (((env.set i (some d)).set j (some e)).set l (some f)) S1
  | _ => .no
theorem ss_never {st : Stmt} : PS X st (tS X.K mg W sNo) := ps_imp ps_never fun D σ H ⟨ρ, S, env, sim, re, q⟩ => q

/-! ### defs -/
def spOf (K : PySem.W.Frag) (mg : Str → Option Value) (n : Nat) (F : List D → Store → R D) : Sp := fun vs H Q E =>
  vs.length = n ∧ ∃ ρ S ds, Sim K ρ S H ∧ RepDs K ρ H vs ds ∧ Post K mg (fun c o _ H' => E c o H') (RepD K) ρ [] H Q (F ds S)
def endB : RS → R D
  | .go .nx _ S => .ok (.py .none) S
  | .go (.rt d) _ S => .ok d S
  | .exc x _ S => .exc x S
  | _ => .no
/-- a def by its body: N names, the arguments first -/
def runF (N : Nat) (b : MS) : List D → Store → R D := fun ds S => frR S.length (endB (b (ds.map some ++ List.replicate (N - ds.length) none) S))
/-- the same, its list stays one that may change -/
def runM (N : Nat) (b : MS) : List D → Store → R D := fun ds S => endB (b (ds.map some ++ List.replicate (N - ds.length) none) S)
theorem renv_start {K : PySem.W.Frag} {ρ : List Addr} {H : Hp} : ∀ {vs : List V} {ds : List D} (N : List Str), RepDs K ρ H vs ds → REnv K ρ H (L2.start N vs) (ds.map some ++ List.replicate (N.length - ds.length) none) := by
  intro vs ds N r
  have hl : vs.length = ds.length := Paired.length r
  refine ⟨by unfold L2.start; simp [hl], fun i d q => ?_⟩
  by_cases hi : i < ds.length
  · rw [List.getElem?_append_left (by simpa using hi), List.getElem?_map] at q
    cases e : ds[i]? with
    | none => rw [e] at q; cases q
    | some d' =>
      rw [e] at q
      cases q
      have aux : ∀ {vs : List V} {ds : List D} {i : Nat} {d : D}, RepDs K ρ H vs ds → ds[i]? = some d → ∃ v, vs[i]? = some v ∧ RepD K ρ H v d := by
        intro vs
        induction vs with
        | nil => intro ds i d r h; cases r; simp at h
        | cons v vs ih =>
          intro ds i d r h
          cases r with
          | cons r rr =>
            cases i with
            | zero => simp at h; subst h; exact ⟨v, rfl, r⟩
            | succ i => obtain ⟨w, e, q⟩ := ih (i := i) rr (by simpa using h); exact ⟨w, by simpa using e, q⟩
      obtain ⟨v, e1, r1⟩ := aux r e
      refine ⟨v, ?_, r1⟩
      unfold L2.start
      rw [List.getElem?_append_left (by rw [List.length_map, hl]; exact hi), List.getElem?_map, e1]
      rfl
  · rw [List.getElem?_append_right (by rw [List.length_map]; omega), List.getElem?_replicate] at q
    split at q <;> cases q
theorem body_read {K : PySem.W.Frag} {N : List Str} {b : MS} {vs : List V} {ds : List D} {H : Hp} {Q : VK} {E : XK} {ρ : List Addr} {S : Store} (sim : Sim K ρ S H) (r : RepDs K ρ H vs ds) (q : Post K mg (fun c o _ H' => E c o H') (RepD K) ρ [] H Q (runM N.length b ds S)) :
    tS K mg (fun c o _ H' => E c o H') b { nx := fun _ H' => Q .non H', rt := Q } (L2.start N vs) H := by
  refine ⟨ρ, S, _, sim, renv_start N r, ?_⟩
  unfold runM at q
  cases e : b (ds.map some ++ List.replicate (N.length - ds.length) none) S with
  | no => rw [e] at q; exact q
  | exc x env1 S1 => rw [e] at q; exact fun c o σ' H' ρ' x s _ xr => q c o H' ρ' x s xr
  | go f env1 S1 =>
    rw [e] at q
    cases f with
    | nx => exact fun σ' H' ρ' x s _ => q .non H' ρ' x s .non
    | rt d => exact fun v H' ρ' x s r => q v H' ρ' x s r
    | bk => exact q.elim
    | ct => exact q.elim
theorem sp_cut {K : PySem.W.Frag} {n N : Nat} {b : MS} {vs : List V} {H : Hp} {Q : VK} {E : XK} (h : spOf K mg n (runF N b) vs H Q E) : spOf K mg n (runM N b) vs H Q E := by
  obtain ⟨hl, ρ, S, ds, sim, r, q⟩ := h
  exact ⟨hl, ρ, S, ds, sim, r, fr_post sim q⟩
end
section
variable {P : Program} {w : World} {K : PySem.W.Frag} {mg : Str → Option Value} {base : Heap}
theorem fn_ok {x qual : Str} {st : Stmt} {f : Addr} {fd : FuncData} {N ps : List Str} {k : Nat} {b : MS} (F : Fun K x qual st f fd) (Sc : FnScope N ps (defScope st))
    (hbody : ∀ (cdv : Value) (A : Around) (outer : List Env) (s : Shared) (H : Hp) (E : XK), Room k (A.deeper (envOfC qual (defScope st) s.heap.objs.size f cdv)) →
      PSs (cxOf (L2.CX P w) P w K mg base N qual (defScope st) f cdv A outer s H E) (defBody st) (tS K mg (fun c o _ H' => E c o H') b)) (hNl : N.length = N.length := by rfl) : FnOk P w K mg base (L2.CX P w) (k + 1) f fd ps (spOf K mg ps.length (runM N.length b)) :=
  F.okX Sc (fun vs H Q E h => h.1) fun cdv A outer s H vs Q E hr h => ⟨_, hbody cdv A outer s H E hr, let ⟨_, _, _, _, sim, r, q⟩ := h; body_read sim r q⟩
theorem fn_fr {f : Addr} {fd : FuncData} {ps : List Str} {k n N : Nat} {b : MS} {CX : CXT} (G : FnOk P w K mg base CX k f fd ps (spOf K mg n (runM N b))) : FnOk P w K mg base CX k f fd ps (spOf K mg n (runF N b)) := G.imp fun _ _ _ _ h => sp_cut h
end
/-! ### calls of defs -/
section
variable {X : Cx} {mg : Str → Option Value} {W : WX} {pos : Pos}
theorem se_call {k n : Nat} {f : Addr} {fd : FuncData} {ps : List Str} {g : List D → Store → R D} {x : Str} {p : Pos} {e : Expr} {es : List Expr} {m : M (List D)} (G : FnOk X.prog X.w X.K X.mg X.base (L2.CX X.prog X.w) k f fd ps (spOf X.K mg n g)) (hr : Room k X.A) (hg : Gl X x) (hm : X.mg x = some (.ref f)) (hk : PySem.W.keepIn X.K (.ref f) = true) (hb : Binds X.K fd ps [])
    (tk : Takes X W) (hl : ∀ env S ds S', m env S = .ok ds S' → ds.length = n) (ha : PA X (e :: es) (tA X.K mg W m)) (hdb : (x == ("__debug__" : Str)) = false := by decide) (he : starEach (e :: es) X.env = (false, eval e X.env) :: starEach es X.env := by rfl) (hpl : (backTo pos (starEach es X.env)).any (·.1) = false := by rfl) :
    PE X (.Call (.Name x p) (e :: es) [] pos) (tE X.K mg W (mCall g m)) := by
  refine pe_imp (pe_callS G hr hg hm hk hb (fun σ => passAt tk σ) ha hdb he hpl) fun σ H Q ⟨ρ, S, env, sim, re, q⟩ => ?_
  refine ⟨ρ, S, env, sim, re, ?_⟩
  unfold mCall at q
  cases e1 : m env S with
  | no => rw [e1] at q; exact q
  | exc x S1 => rw [e1] at q; exact q
  | ok ds S1 =>
    rw [e1] at q
    intro vs H1 ρ1 x1 sim1 r1
    refine ⟨by rw [show vs.length = ds.length from Paired.length r1]; exact hl env S ds S1 e1, ρ1, S1, ds, sim1, r1, ?_⟩
    have q1 : Post X.K mg W (RepD X.K) ρ1 σ H1 Q (g ds S1) := Post.ext x1 q
    cases e2 : g ds S1 with
    | no => rw [e2] at q1; exact q1
    | exc x S2 => rw [e2] at q1; exact q1
    | ok d S2 => rw [e2] at q1; exact q1
theorem len_nil : ∀ env S ds S', mNil env S = .ok ds S' → ds.length = 0 := fun env S ds S' h => by cases h; rfl
theorem len_cons {a : M D} {r : M (List D)} {n : Nat} (h : ∀ env S ds S', r env S = .ok ds S' → ds.length = n) : ∀ env S ds S', mCons a r env S = .ok ds S' → ds.length = n + 1 := fun env S ds S' q => by
  unfold mCons at q
  cases e : a env S with
  | no => rw [e] at q; cases q
  | exc x S1 => rw [e] at q; cases q
  | ok d S1 =>
    rw [e] at q
    have q : bd (r env S1) (fun xs S2 => .ok (d :: xs) S2) = .ok ds S' := q
    cases e2 : r env S1 with
    | no => rw [e2] at q; cases q
    | exc x S1 => rw [e2] at q; cases q
    | ok xs S2 => rw [e2] at q; cases q; rw [List.length_cons, h _ _ _ _ e2]
end
end PX

end P_PX5
section P_PX6
set_option maxHeartbeats 4000000
namespace PX
open PySem PySem.Spec PyProof.Rows L2

section
variable {K : PySem.W.Frag}
/-! ### len, abs, int, tuple, list, isinstance -/
def lenOf : PyData → Option Nat
  | .list l => some l.length
  | .tuple l => some l.length
  | .str s => if fits s.length then some s.length else none
  | _ => none
def dLen (S : Store) : D → Option Nat
  | .loc n => match S[n]? with
    | some (.lst l) => some l.length
    | _ => none
  | .py p => lenOf p
  | .raw _ => none
def gLen : List D → Store → R D := fun ds S => match ds with
  | [d] => (match dLen S d with
    | some n => .ok (.py (.int n)) S
    | none => .no)
  | _ => .no
theorem reps_one {ρ : List Addr} {H : Hp} {xs : List V} {d : D} (r : RepDs K ρ H xs [d]) : ∃ x, xs = [x] ∧ RepD K ρ H x d := by
  cases r with
  | cons r rr => cases rr; exact ⟨_, rfl, r⟩
theorem reps_two {ρ : List Addr} {H : Hp} {xs : List V} {d e : D} (r : RepDs K ρ H xs [d, e]) : ∃ x y, xs = [x, y] ∧ RepD K ρ H x d ∧ RepD K ρ H y e := by
  cases r with
  | cons r rr => cases rr with
    | cons r2 rr => cases rr; exact ⟨_, _, rfl, r, r2⟩
theorem lenV_ok {ρ : List Addr} {S : Store} {H : Hp} {v : V} {d : D} {n : Nat} (sim : Sim K ρ S H) (r : RepD K ρ H v d) (h : dLen S d = some n) : LenV K v H n := by
  cases d with
  | raw w => cases h
  | loc k =>
    have hr : rd S (.loc k) = match S[k]? with | some (.lst l) => some (.list l) | _ => none := rfl
    unfold dLen at h
    cases hc : S[k]? with
    | none => simp only [hc] at h; cases h
    | some c =>
      simp only [hc] at h
      cases c with
      | lst l =>
        cases h
        obtain ⟨p, xs, rfl, h1, hd⟩ := rd_lst (l := l) sim r (by rw [hr, hc])
        exact .inl ⟨xs, h1, (dpa_length hd).symm⟩
      | dI l => cases h
      | dT l => cases h
  | py p =>
    have h : lenOf p = some n := h
    cases p with
    | list l => cases h; obtain ⟨p, xs, rfl, h1, hd⟩ := dp_lst (rep_py r); exact .inl ⟨xs, h1, (dpa_length hd).symm⟩
    | tuple l => cases h; obtain ⟨p, xs, rfl, h1, hd⟩ := dp_tup (rep_py r); exact .inr ⟨xs, h1, (dpa_length hd).symm⟩
    | str s =>
      unfold lenOf at h
      cases hf : fits s.length with
      | false => simp only [hf] at h; cases h
      | true => simp only [hf] at h; cases h; rw [dp_str (rep_py r)]; exact ⟨fits_ok hf, rfl⟩
    | none => cases h
    | bool b => cases h
    | int i => cases h
    | dict l => cases h
theorem cd_len : CaD K (fun xs H Q => ∃ x n, xs = [x] ∧ LenV K x H n ∧ Q (.int n) H) gLen := by
  intro mg W ρ S σ H Q xs ds sim r q
  unfold gLen at q
  split at q
  · rename_i d
    obtain ⟨x, rfl, r1⟩ := reps_one r
    cases e : dLen S d with
    | none => rw [e] at q; exact q.elim
    | some n => rw [e] at q; exact ⟨x, n, rfl, lenV_ok sim r1 e, post_sc (p := .int n) sim rfl q⟩
  · exact q.elim
def gAbs : List D → Store → R D := fun ds S => match ds with
  | [.py (.int i)] => .ok (.py (.int (if i < 0 then -i else i))) S
  | _ => .no
theorem cd_abs : CaD K (fun xs H Q => ∃ i, xs = [.int i] ∧ Q (.int (if i < 0 then -i else i)) H) gAbs := by
  intro mg W ρ S σ H Q xs ds sim r q
  unfold gAbs at q
  split at q
  · rename_i i
    obtain ⟨x, rfl, r1⟩ := reps1 r
    rw [dp_int r1]
    exact ⟨i, rfl, post_sc (p := .int _) sim rfl q⟩
  · exact q.elim
def gMax2 : List D → Store → R D := fun ds S => match ds with
  | [.py (.int i), .py (.int j)] => .ok (.py (.int (if j > i then j else i))) S
  | _ => .no
theorem cd_max2 : CaD K (fun xs H Q => ∃ i j, xs = [.int i, .int j] ∧ Q (.int (if j > i then j else i)) H) gMax2 := by
  intro mg W ρ S σ H Q xs ds sim r q
  unfold gMax2 at q
  split at q
  · rename_i i j
    obtain ⟨x, y, rfl, r1, r2⟩ := reps2 r
    rw [dp_int r1, dp_int r2]
    exact ⟨i, j, rfl, post_sc (p := .int _) sim rfl q⟩
  · exact q.elim
def gMin2 : List D → Store → R D := fun ds S => match ds with
  | [.py (.int i), .py (.int j)] => .ok (.py (.int (if j < i then j else i))) S
  | _ => .no
theorem cd_min2 : CaD K (fun xs H Q => ∃ i j, xs = [.int i, .int j] ∧ Q (.int (if j < i then j else i)) H) gMin2 := by
  intro mg W ρ S σ H Q xs ds sim r q
  unfold gMin2 at q
  split at q
  · rename_i i j
    obtain ⟨x, y, rfl, r1, r2⟩ := reps2 r
    rw [dp_int r1, dp_int r2]
    exact ⟨i, j, rfl, post_sc (p := .int _) sim rfl q⟩
  · exact q.elim
def gIntF : List D → Store → R D := fun ds S => match ds with
  | [.py (.int i)] => .ok (.py (.int i)) S
  | [.py (.bool b)] => .ok (.py (.int (if b then 1 else 0))) S
  | _ => .no
theorem cd_int : CaD K (fun xs H Q => (∃ i, xs = [.int i] ∧ Q (.int i) H) ∨ ∃ k, xs = [.bl k] ∧ Q (.int (if k then 1 else 0)) H) gIntF := by
  intro mg W ρ S σ H Q xs ds sim r q
  unfold gIntF at q
  split at q
  · rename_i i
    obtain ⟨x, rfl, r1⟩ := reps1 r
    rw [dp_int r1]
    exact .inl ⟨i, rfl, post_sc (p := .int _) sim rfl q⟩
  · rename_i i
    obtain ⟨x, rfl, r1⟩ := reps1 r
    rw [dp_bool r1]
    exact .inr ⟨i, rfl, post_sc (p := .int _) sim rfl q⟩
  · exact q.elim
def gTupF : List D → Store → R D := fun ds S => match ds with
  | [d] => (match rd S d with
    | some (.tuple l) => .ok (.py (.tuple l)) S
    | some (.list l) => .ok (.py (.tuple l)) S
    | _ => .no)
  | _ => .no
theorem cd_tup : CaD K (fun xs H Q => ∃ p ys, xs = [.ref p] ∧ ((SqL K H p ys ∧ ∀ l, H l = none → Q (.ref l) (upd H l (.tup ys))) ∨ (SqT K H p ys ∧ Q (.ref p) H))) gTupF := by
  intro mg W ρ S σ H Q xs ds sim r q
  unfold gTupF at q
  split at q
  · rename_i d
    obtain ⟨x, rfl, r1⟩ := reps_one r
    split at q
    · rename_i l hr
      have e := rd_tup hr
      subst e
      obtain ⟨p, ys, rfl, h1, hd⟩ := rd_tupl r1 hr
      exact ⟨p, ys, rfl, .inr ⟨h1, post_v (d := .py (.tuple l)) sim r1 q⟩⟩
    · rename_i l hr
      obtain ⟨p, ys, rfl, h1, hd⟩ := rd_lst sim r1 hr
      exact ⟨p, ys, rfl, .inl ⟨h1, fun a ha => post_tup sim ha hd q⟩⟩
    · exact q.elim
  · exact q.elim
def gLstF : List D → Store → R D := fun ds S => match ds with
  | [d] => (match rd S d with
    | some (.tuple l) => if fits l.length then .ok (.loc S.length) (S ++ [.lst l]) else .no
    | some (.list l) => if fits l.length then .ok (.loc S.length) (S ++ [.lst l]) else .no
    | _ => .no)
  | _ => .no
theorem cd_lst : CaD K (fun xs H Q => ∃ p ys, xs = [.ref p] ∧ (SqL K H p ys ∨ SqT K H p ys) ∧ ∀ l, H l = none → Q (.ref l) (upd H l (.lst ys))) gLstF := by
  intro mg W ρ S σ H Q xs ds sim r q
  unfold gLstF at q
  split at q
  · rename_i d
    obtain ⟨x, rfl, r1⟩ := reps_one r
    split at q
    · rename_i l hr
      obtain ⟨p, ys, rfl, h1, hd⟩ := rd_tupl r1 hr
      split at q
      · rename_i hf
        exact ⟨p, ys, rfl, .inr h1, fun a ha => post_loc (c := .lst l) sim ha ⟨ys, rfl, hd, by rw [dpa_length hd]; exact fits_ok hf⟩ q⟩
      · exact q.elim
    · rename_i l hr
      obtain ⟨p, ys, rfl, h1, hd⟩ := rd_lst sim r1 hr
      split at q
      · rename_i hf
        exact ⟨p, ys, rfl, .inl h1, fun a ha => post_loc (c := .lst l) sim ha ⟨ys, rfl, hd, by rw [dpa_length hd]; exact fits_ok hf⟩ q⟩
      · exact q.elim
    · exact q.elim
  · exact q.elim
/-! isinstance of data -/
def tyN : PyData → String
  | .none => "NoneType"
  | .bool _ => "bool"
  | .int _ => "int"
  | .str _ => "str"
  | .list _ => "list"
  | .tuple _ => "tuple"
  | .dict _ => "dict"
def isI : PyData → String → Option Bool
  | .int _, "int" => some true
  | .bool _, "int" => some true
  | .none, "int" => some false
  | .str _, "int" => some false
  | .list _, "int" => some false
  | .tuple _, "int" => some false
  | .int _, "bool" => some false
  | .bool _, "bool" => some true
  | .none, "bool" => some false
  | .str _, "bool" => some false
  | .list _, "bool" => some false
  | .tuple _, "bool" => some false
  | .int _, "tuple" => some false
  | .bool _, "tuple" => some false
  | .none, "tuple" => some false
  | .str _, "tuple" => some false
  | .list _, "tuple" => some false
  | .tuple _, "tuple" => some true
  | .int _, "list" => some false
  | .bool _, "list" => some false
  | .none, "list" => some false
  | .str _, "list" => some false
  | .list _, "list" => some true
  | .tuple _, "list" => some false
  | .int _, "str" => some false
  | .bool _, "str" => some false
  | .none, "str" => some false
  | .str _, "str" => some true
  | .list _, "str" => some false
  | .tuple _, "str" => some false
  | _, _ => none
theorem sql_ty {H : Hp} {a : Addr} {xs : List V} (h : SqL K H a xs) : TyX K H (.ref a) (.type "list") := by
  rcases h with (h | ⟨o, h⟩) | ⟨o, its, n, h1, h2, _⟩
  · exact .base (.lst h)
  · exact .base (.frz h)
  · exact .kList h1 h2
theorem sqt_ty {H : Hp} {a : Addr} {xs : List V} (h : SqT K H a xs) : TyX K H (.ref a) (.type "tuple") := by
  rcases h with (h | ⟨o, h⟩) | ⟨o, its, n, h1, h2, _⟩
  · exact .base (.tup h)
  · exact .fTuple h
  · exact .kTuple h1 h2
theorem dp_ty {H : Hp} {v : V} {p : PyData} (h : Dp K H v p) : TyX K H v (.type (tyN p)) := by
  cases h with
  | non => exact .base .non
  | bl b => exact .base (.bl b)
  | int i => exact .base (.int i)
  | str x => exact .base (.str x)
  | lst h1 h2 => exact sql_ty h1
  | tup h1 h2 => exact sqt_ty h1
theorem isI_ok {p : PyData} {c : String} {b : Bool} (h : isI p c = some b) : PySem.W.kitOne K (.type (tyN p)) (.type c) = some b := by
  apply kit_ty
  unfold isI at h
  split at h <;> first | (cases h; dsimp only [tyN]; decide +kernel) | cases h
def gIsI (c : String) : List D → Store → R D := fun ds S => match ds with
  | [d, .raw _] => (match rd S d with
    | some p => (match isI p c with
      | some b => .ok (.py (.bool b)) S
      | none => .no)
    | none => .no)
  | _ => .no
/-- isinstance(x, T), T the name of a built-in type -/
theorem se_isI {X : Cx} {mg : Str → Option Value} {W : WX} {a t : Expr} {ma : M D} {c : String} {p pos : Pos} (hg : Gl X "isinstance") (hm : X.mg "isinstance" = none) (ha : PE X a (tE X.K mg W ma)) (ht : PE X t (tC (.ty c)))
    (he : starEach (a :: [t]) X.env = (false, eval a X.env) :: starEach [t] X.env := by rfl) (he2 : starEach (t :: []) X.env = (false, eval t X.env) :: starEach [] X.env := by rfl) (hpl : (backTo pos (starEach [t] X.env)).any (·.1) = false := by rfl) :
    PE X (.Call (.Name "isinstance" p) [a, t] [] pos) (tE X.K mg W (mCall (gIsI c) (mCons ma (mCons (fun _ S => .ok (.raw (.ty c)) S) mNil)))) := by
  refine pe_imp (pe_callB call_isi hg hm (by decide +kernel) (pa_cons ha (pa_cons ht pa_nil he2) he) (by decide) (by decide) he hpl) fun σ H Q ⟨ρ, S, env, sim, re, q⟩ => ?_
  unfold mCall mCons at q
  have q : Post X.K mg W (RepD X.K) ρ σ H Q (bd (ma env S) fun x S1 => gIsI c [x, .raw (.ty c)] S1) := by
    cases e : ma env S with
    | no => rw [e] at q; exact q
    | exc x S1 => rw [e] at q; exact q
    | ok d S1 => rw [e] at q; exact q
  refine tM.bind sim re q fun ρ1 S1 x d H1 e1 sim1 re1 r1 q1 => ?_
  unfold gIsI at q1
  simp only at q1
  cases hr : rd S1 d with
  | none => rw [hr] at q1; exact q1.elim
  | some pd =>
    rw [hr] at q1
    simp only at q1
    cases hi : isI pd c with
    | none => rw [hi] at q1; exact q1.elim
    | some b =>
      rw [hi] at q1
      exact ⟨x, .ty c, _, _, b, rfl, .ty c, dp_ty (rd_ok sim1 r1 hr), isI_ok hi, post_sc (p := .bool b) sim1 rfl q1⟩
/-! ### sorted, sum, all, any, max, min -/
def toInts : List PyData → Option (List Int)
  | [] => some []
  | .int i :: r => (toInts r).map (i :: ·)
  | _ :: _ => none
def ofInts (l : List Int) : List PyData := l.map PyData.int
theorem toInts_ok {H : Hp} : ∀ {ps : List PyData} {xs : List V} {ns : List Int}, DpAll K H xs ps → toInts ps = some ns → xs = ns.map V.int
  | _, _, _, .nil, h => by cases h; rfl
  | _, _, _, .cons (d := d) a b, h => by
    cases d with
    | int i =>
      unfold toInts at h
      cases e : toInts _ with
      | none => rw [e] at h; cases h
      | some ms => rw [e] at h; cases h; rw [dp_int a, toInts_ok b e]; rfl
    | none => cases h
    | bool b => cases h
    | str s => cases h
    | list l => cases h
    | tuple l => cases h
    | dict l => cases h
theorem dpa_ints (H : Hp) : ∀ ns : List Int, DpAll K H (ns.map V.int) (ofInts ns)
  | [] => .nil
  | i :: r => .cons (.int i) (dpa_ints H r)
def ins (x : Int) : List Int → List Int
  | [] => [x]
  | y :: r => if x ≤ y then x :: y :: r else y :: ins x r
def isort : List Int → List Int
  | [] => []
  | x :: r => ins x (isort r)
theorem ins_perm (x : Int) : ∀ l : List Int, (ins x l).Perm (x :: l)
  | [] => List.Perm.refl _
  | y :: r => by
    unfold ins
    split
    · exact List.Perm.refl _
    · exact ((ins_perm x r).cons y).trans (List.Perm.swap x y r)
theorem isort_perm : ∀ l : List Int, (isort l).Perm l
  | [] => List.Perm.refl _
  | x :: r => (ins_perm x (isort r)).trans ((isort_perm r).cons x)
theorem ins_sorted (x : Int) : ∀ l : List Int, l.Pairwise (· ≤ ·) → (ins x l).Pairwise (· ≤ ·)
  | [], _ => List.pairwise_singleton _ _
  | y :: r, h => by
    unfold ins
    split
    · rename_i hx
      refine List.pairwise_cons.mpr ⟨fun z hz => ?_, h⟩
      rcases List.mem_cons.mp hz with e | e
      · omega
      · have := (List.pairwise_cons.mp h).1 z e; omega
    · rename_i hx
      refine List.pairwise_cons.mpr ⟨fun z hz => ?_, ins_sorted x r (List.pairwise_cons.mp h).2⟩
      rcases List.mem_cons.mp ((ins_perm x r).mem_iff.mp hz) with e | e
      · omega
      · exact (List.pairwise_cons.mp h).1 z e
theorem isort_sorted : ∀ l : List Int, (isort l).Pairwise (· ≤ ·)
  | [] => List.Pairwise.nil
  | x :: r => ins_sorted x _ (isort_sorted r)
theorem sorted_uniq : ∀ {l m : List Int}, l.Perm m → l.Pairwise (· ≤ ·) → m.Pairwise (· ≤ ·) → l = m
  | [], m, h, _, _ => (List.nil_perm.mp h).symm
  | x :: l, [], h, _, _ => absurd h.symm (by simp)
  | x :: l, y :: m, h, h1, h2 => by
    have hx : y ≤ x := by
      rcases List.mem_cons.mp (h.mem_iff.mp (List.mem_cons_self (a := x) (l := l))) with e | e
      · omega
      · exact (List.pairwise_cons.mp h2).1 x e
    have hy : x ≤ y := by
      rcases List.mem_cons.mp (h.mem_iff.mpr (List.mem_cons_self (a := y) (l := m))) with e | e
      · omega
      · exact (List.pairwise_cons.mp h1).1 y e
    have e : x = y := by omega
    subst e
    rw [sorted_uniq (List.Perm.cons_inv h) (List.pairwise_cons.mp h1).2 (List.pairwise_cons.mp h2).2]
def gSortI : List D → Store → R D := fun ds S => match ds with
  | [d] => (match rd S d with
    | some (.list l) => (match toInts l with
      | some ns => if fits ns.length then .ok (.loc S.length) (S ++ [.lst (ofInts (isort ns))]) else .no
      | none => .no)
    | _ => .no)
  | _ => .no
theorem cd_sortI : CaD K (rSortedI K) gSortI := by
  intro mg W ρ S σ H Q xs ds sim r q
  unfold gSortI at q
  split at q
  · rename_i d
    obtain ⟨x, rfl, r1⟩ := reps_one r
    split at q
    · rename_i l hr
      obtain ⟨p, ys, rfl, h1, hd⟩ := rd_lst sim r1 hr
      cases e : toInts l with
      | none => rw [e] at q; exact q.elim
      | some ns =>
        rw [e] at q
        simp only at q
        have e2 := toInts_ok hd e
        subst e2
        split at q
        · rename_i hf
          refine ⟨p, ns, rfl, h1, fun ns' a hp hs ha => ?_⟩
          have e3 : ns' = isort ns := sorted_uniq (hp.trans (isort_perm ns).symm) hs (isort_sorted ns)
          subst e3
          refine post_loc (c := .lst (ofInts (isort ns))) sim ha ⟨_, rfl, dpa_ints _ _, ?_⟩ q
          rw [List.length_map, (isort_perm ns).length_eq]
          exact fits_ok hf
        · exact q.elim
    · exact q.elim
  · exact q.elim
def gSum : List D → Store → R D := fun ds S => match ds with
  | [d] => (match rd S d with
    | some (.list l) => (match toInts l with
      | some ns => .ok (.py (.int ns.sum)) S
      | none => .no)
    | _ => .no)
  | _ => .no
theorem cd_sum : CaD K (rSum K) gSum := by
  intro mg W ρ S σ H Q xs ds sim r q
  unfold gSum at q
  split at q
  · rename_i d
    obtain ⟨x, rfl, r1⟩ := reps_one r
    split at q
    · rename_i l hr
      obtain ⟨p, ys, rfl, h1, hd⟩ := rd_lst sim r1 hr
      cases e : toInts l with
      | none => rw [e] at q; exact q.elim
      | some ns =>
        rw [e] at q
        have e2 := toInts_ok hd e
        subst e2
        exact ⟨p, ns, rfl, h1, post_sc (p := .int ns.sum) sim rfl q⟩
    · exact q.elim
  · exact q.elim
def toBools : List PyData → Option (List Bool)
  | [] => some []
  | .bool i :: r => (toBools r).map (i :: ·)
  | _ :: _ => none
theorem toBools_ok {H : Hp} : ∀ {ps : List PyData} {xs : List V} {ns : List Bool}, DpAll K H xs ps → toBools ps = some ns → xs = ns.map V.bl
  | _, _, _, .nil, h => by cases h; rfl
  | _, _, _, .cons (d := d) a b, h => by
    cases d with
    | bool i =>
      unfold toBools at h
      cases e : toBools _ with
      | none => rw [e] at h; cases h
      | some ms => rw [e] at h; cases h; rw [dp_bool a, toBools_ok b e]; rfl
    | none => cases h
    | int b => cases h
    | str s => cases h
    | list l => cases h
    | tuple l => cases h
    | dict l => cases h
def gAll : List D → Store → R D := fun ds S => match ds with
  | [d] => (match rd S d with
    | some (.list l) => (match toBools l with
      | some ns => .ok (.py (.bool (ns.all id))) S
      | none => .no)
    | _ => .no)
  | _ => .no
def gAny : List D → Store → R D := fun ds S => match ds with
  | [d] => (match rd S d with
    | some (.list l) => (match toBools l with
      | some ns => .ok (.py (.bool (ns.any id))) S
      | none => .no)
    | _ => .no)
  | _ => .no
theorem cd_all : CaD K (rAll K) gAll := by
  intro mg W ρ S σ H Q xs ds sim r q
  unfold gAll at q
  split at q
  · rename_i d
    obtain ⟨x, rfl, r1⟩ := reps_one r
    split at q
    · rename_i l hr
      obtain ⟨p, ys, rfl, h1, hd⟩ := rd_lst sim r1 hr
      cases e : toBools l with
      | none => rw [e] at q; exact q.elim
      | some ns =>
        rw [e] at q
        have e2 := toBools_ok hd e
        subst e2
        exact ⟨p, ns, rfl, h1, post_sc (p := .bool _) sim rfl q⟩
    · exact q.elim
  · exact q.elim
theorem cd_any : CaD K (rAny K) gAny := by
  intro mg W ρ S σ H Q xs ds sim r q
  unfold gAny at q
  split at q
  · rename_i d
    obtain ⟨x, rfl, r1⟩ := reps_one r
    split at q
    · rename_i l hr
      obtain ⟨p, ys, rfl, h1, hd⟩ := rd_lst sim r1 hr
      cases e : toBools l with
      | none => rw [e] at q; exact q.elim
      | some ns =>
        rw [e] at q
        have e2 := toBools_ok hd e
        subst e2
        exact ⟨p, ns, rfl, h1, post_sc (p := .bool _) sim rfl q⟩
    · exact q.elim
  · exact q.elim
/-! ### items, slices -/
def gIx : D → D → Store → R D := fun x y S => match rd S x, y with
  | some (.list l), .py (.int i) => retP (atI l i) S
  | some (.tuple l), .py (.int i) => retP (atI l i) S
  | some (.str s), .py (.int i) => if fits s.length then (match atI s.cps.toList i with
    | some c => .ok (.py (.str ⟨#[c]⟩)) S
    | none => .no) else .no
  | _, _ => .no
theorem atI_rep {H : Hp} {xs : List V} {ps : List PyData} {i : Int} {p : PyData} (hd : DpAll K H xs ps) (h : atI ps i = some p) : ∃ v, atI xs i = some v ∧ Dp K H v p := by
  unfold atI at h ⊢
  rw [dpa_length hd]
  cases e : ixN ps.length i with
  | none => rw [e] at h; cases h
  | some j => rw [e] at h; exact dpa_get hd h
theorem od_ix : OpD K (rIx K) gIx := by
  intro mg W ρ S σ H Q x y dx dy sim rx ry q
  unfold gIx at q
  split at q
  · rename_i l i hx
    cases e : atI l i with
    | none => rw [e] at q; exact q.elim
    | some p =>
      rw [e] at q
      obtain ⟨a, xs, rfl, h1, hd⟩ := rd_lst sim rx hx
      obtain ⟨v, hv, dv⟩ := atI_rep hd e
      exact .inl ⟨a, xs, i, v, rfl, dp_int (rep_py ry), h1, hv, post_v (d := .py p) sim dv q⟩
  · rename_i l i hx
    cases e : atI l i with
    | none => rw [e] at q; exact q.elim
    | some p =>
      rw [e] at q
      obtain ⟨a, xs, rfl, h1, hd⟩ := rd_tupl rx hx
      obtain ⟨v, hv, dv⟩ := atI_rep hd e
      exact .inr (.inl ⟨a, xs, i, v, rfl, dp_int (rep_py ry), h1, hv, post_v (d := .py p) sim dv q⟩)
  · rename_i s i hx
    split at q
    · rename_i hf
      split at q
      · rename_i c hc
        exact .inr (.inr ⟨s, i, c, dp_str (rd_ok sim rx hx), dp_int (rep_py ry), fits_ok hf, hc, post_sc (p := .str _) sim rfl q⟩)
      · exact q.elim
    · exact q.elim
  · exact q.elim
theorem se_ix {X : Cx} {mg : Str → Option Value} {W : WX} {a b : Expr} {pos : Pos} {ma mb : M D} (ha : PE X a (tE X.K mg W ma)) (hb : PE X b (tE X.K mg W mb)) (hs : PlainIx b := by exact fun _ _ => rfl) : PE X (.Subscript a b pos) (tE X.K mg W (m2 gIx ma mb)) := by
  refine pe_imp (pe_ix ix_seq ha hb hs) fun σ H Q ⟨ρ, S, env, sim, re, q⟩ => ?_
  refine tM.bind sim re q fun ρ1 S1 x dx H1 e1 sim1 re1 r1 q1 => ?_
  refine tM.bind sim1 re1 q1 fun ρ2 S2 y dy H2 e2 sim2 re2 r2 q2 => ?_
  exact od_ix mg W ρ2 S2 σ H2 Q x y dx dy sim2 (r1.mono e2) r2 q2
/-- the part from lo to hi -/
def cutL {α : Type} (xs : List α) (lo hi : Option Int) : List α := (xs.drop (HT.sIx xs.length 0 lo)).take (HT.sIx xs.length xs.length hi - HT.sIx xs.length 0 lo)
abbrev mO := M (Option Int)
def oNone : mO := fun _ S => .ok none S
def oSome (m : M D) : mO := fun env S => bd (m env S) fun x S1 => match x with
  | .py (.int i) => .ok (some i) S1
  | _ => .no
abbrev tOO (K : PySem.W.Frag) (mg : Str → Option Value) (W : WX) (m : mO) : TO := tM K mg W (fun _ _ b c => b = c) m
theorem po_imp {X : Cx} {e : Option Expr} {t t' : TO} (h : PO X e t) (i : ∀ σ H Q, t' σ H Q → t σ H Q) : PO X e t' := ⟨fun pins s σ H Q I q => h.run pins s σ H Q I (i σ H Q q)⟩
theorem so_none {X : Cx} {mg : Str → Option Value} {W : WX} : PO X none (tOO X.K mg W oNone) := po_imp po_none fun σ H Q ⟨ρ, S, env, sim, re, q⟩ => q none H ρ (Ext.refl _ _) sim rfl
theorem so_some {X : Cx} {mg : Str → Option Value} {W : WX} {e : Expr} {m : M D} (h : PE X e (tE X.K mg W m)) : PO X (some e) (tOO X.K mg W (oSome m)) := po_imp (po_some h) fun σ H Q ⟨ρ, S, env, sim, re, q⟩ => by
  refine tM.bind sim re q fun ρ1 S1 x d H1 e1 sim1 re1 r1 q1 => ?_
  split at q1
  · rename_i i
    exact ⟨i, dp_int (rep_py r1), q1 _ H1 ρ1 (Ext.refl _ _) sim1 rfl⟩
  · exact q1.elim
def gSl (x : D) (lo hi : Option Int) (S : Store) : R D := match rd S x with
  | some (.tuple l) => .ok (.py (.tuple (cutL l lo hi))) S
  | some (.list l) => if fits l.length then .ok (.loc S.length) (S ++ [.lst (cutL l lo hi)]) else .no
  | _ => .no
def mSl (m : M D) (lo hi : mO) : M D := fun env S => bd (m env S) fun x S1 => bd (lo env S1) fun l S2 => bd (hi env S2) fun h S3 => gSl x l h S3
def rSlB (K : PySem.W.Frag) : V → Option Int → Option Int → Hp → VK → Prop := fun x lo hi H Q => rSlA K x lo hi H Q ∨ rSlL K x lo hi H Q
theorem sl_both {X : Cx} : SlR X (rSlB X.K) := SlR.or sl_tupA sl_list
theorem cutL_whole {α : Type} {l : List α} {lo hi : Option Int} (h : HT.sIx l.length 0 lo = 0 ∧ HT.sIx l.length l.length hi = l.length) : cutL l lo hi = l := by
  unfold cutL
  rw [h.1, h.2, List.drop_zero, Nat.sub_zero, List.take_length]
theorem dpa_cut {H : Hp} {xs : List V} {ps : List PyData} (hd : DpAll K H xs ps) (lo hi : Option Int) : DpAll K H (cutV xs lo hi) (cutL ps lo hi) := by
  unfold cutV cutL
  rw [dpa_length hd]
  exact dpa_take _ (dpa_drop _ hd)
theorem se_sl {X : Cx} {mg : Str → Option Value} {W : WX} {e : Expr} {lo hi : Option Expr} {p2 pos : Pos} {m : M D} {ml mh : mO} (he : PE X e (tE X.K mg W m)) (hl : PO X lo (tOO X.K mg W ml)) (hh : PO X hi (tOO X.K mg W mh)) : PE X (.Subscript e (.Slice lo hi none p2) pos) (tE X.K mg W (mSl m ml mh)) := by
  refine pe_imp (pe_slice sl_both he hl hh) fun σ H Q ⟨ρ, S, env, sim, re, q⟩ => ?_
  refine tM.bind sim re q fun ρ1 S1 x d H1 e1 sim1 re1 r1 q1 => ?_
  refine tM.bind sim1 re1 q1 fun ρ2 S2 l l' H2 e2 sim2 re2 el q2 => ?_
  subst el
  refine tM.bind sim2 re2 q2 fun ρ3 S3 h h' H3 e3 sim3 re3 eh q3 => ?_
  subst eh
  have r3 := r1.mono (e2.trans e3)
  unfold gSl at q3
  split at q3
  · rename_i t hr
    have ed := rd_tup hr
    subst ed
    obtain ⟨a, xs, rfl, h1, hd⟩ := rd_tupl r3 hr
    refine .inl ⟨a, xs, rfl, h1, fun hw => ?_, fun _ p hp => post_tup sim3 hp (dpa_cut hd l h) q3⟩
    rw [dpa_length hd] at hw
    rw [cutL_whole hw] at q3
    exact post_v (d := .py (.tuple t)) sim3 r3 q3
  · rename_i t hr
    obtain ⟨a, xs, rfl, h1, hd⟩ := rd_lst sim3 r3 hr
    split at q3
    · rename_i hf
      refine .inr ⟨a, xs, rfl, h1, fun p hp => post_loc (c := .lst (cutL t l h)) sim3 hp ⟨_, rfl, dpa_cut hd l h, Nat.le_trans (cutV_length _ _ _) ?_⟩ q3⟩
      rw [dpa_length hd]
      exact fits_ok hf
    · exact q3.elim
  · exact q3.elim
end
end PX

end P_PX6
section P_PX7
set_option maxHeartbeats 4000000

namespace HT
open PySem PySem.Spec PyProof.Rows
section
variable {prog : Program} {w : World} {A : Around} {E : Value → Shared → Prop} {s : Shared}
theorem px_places (n : Nat) : Builtin.Slice.slicePlaces ((n : Int) - 1) (-1) (-1) = n := by
  unfold Builtin.Slice.slicePlaces
  have h1 : ¬ ((-1 : Int) > 0) := by decide
  simp only [h1, if_false]
  have e1 : (-(-1) : Int) = 1 := by decide
  rw [e1]
  simp only [Int.ediv_one]
  split <;> omega
theorem px_applied {sl : Addr} {vs : Value} {n : Nat} {Q : Int × Int × Nat → Shared → Prop} (hs : s.heap.IsSliceOf sl .none .none vs) (ps : IsPart vs (some (-1)))
    (h : Q ((n : Int) - 1, -1, n) s) : wpAny (model prog w) A (Builtin.Slice.sliceApplied (.ref sl) (pure (n : Int))) Q E s := by
  obtain ⟨os, hos, hcs, hds⟩ := id hs
  unfold Builtin.Slice.sliceApplied Builtin.Slice.sliceFields
  refine wpAny_bind (wpAny_bind (wpAny_field hos hds (x := .none) rfl (wpAny_bind (wpAny_field hos hds (x := .none) rfl (wpAny_bind (wpAny_field hos hds (x := vs) rfl (wpAny_pure ?_)))))))
  refine wpAny_bind (slicePart_ ps ?_)
  show wpAny _ _ (if ((-1 : Int) == 0) = true then _ else _) _ _ s
  rw [if_neg (by decide)]
  refine wpAny_bind (slicePart_none (wpAny_bind (slicePart_none (wpAny_bind (wpAny_pure ?_)))))
  show wpAny _ _ (match Builtin.Slice.sliceAdjust none none (-1) (n : Int) with | (lo, hi) => pure (lo, (-1 : Int), Builtin.Slice.slicePlaces lo hi (-1))) _ _ s
  show wpAny _ _ (pure ((n : Int) - 1, (-1 : Int), Builtin.Slice.slicePlaces ((n : Int) - 1) (-1) (-1))) _ _ s
  rw [px_places]
  exact wpAny_pure h
theorem px_pick (xs : List Value) : ((List.range xs.toArray.size).filterMap fun (m : Nat) => xs.toArray[(((xs.toArray.size : Nat) : Int) - 1 + (m : Int) * (-1)).toNat]?).toArray = xs.reverse.toArray := by
  congr 1
  have key : ∀ n, n ≤ xs.length → (List.range n).filterMap (fun (m : Nat) => xs[xs.length - 1 - m]?) = xs.reverse.take n := by
    intro n
    induction n with
    | zero => intro _; simp
    | succ n ih =>
      intro hn
      rw [List.range_succ, List.filterMap_append, ih (by omega)]
      have hlt : xs.length - 1 - n < xs.length := by omega
      have e1 : xs[xs.length - 1 - n]? = some xs[xs.length - 1 - n] := List.getElem?_eq_getElem hlt
      have e2 : xs.reverse[n]? = some xs[xs.length - 1 - n] := by
        rw [List.getElem?_reverse (by omega), e1]
      rw [List.take_add_one, e2]
      simp [e1]
  have e : (fun (m : Nat) => xs.toArray[(((xs.toArray.size : Nat) : Int) - 1 + (m : Int) * (-1)).toNat]?) = fun (m : Nat) => xs[((xs.length : Int) - 1 + (m : Int) * (-1)).toNat]? := by
    funext m
    simp
  rw [e, List.size_toArray]
  have e3 : (fun (m : Nat) => xs[((xs.length : Int) - 1 + (m : Int) * (-1)).toNat]?) = (fun (m : Nat) => xs[xs.length - 1 - m]?) := by
    funext m
    have : ((xs.length : Int) - 1 + (m : Int) * (-1)).toNat = xs.length - 1 - m := by omega
    rw [this]
  rw [e3, key _ (Nat.le_refl _), ← List.length_reverse, List.take_length]
theorem px_getItem_rev {t sl : Addr} {xs : List Value} {vs : Value} {Q : Value → Shared → Prop} (ht : IsTup s.heap t xs.toArray) (hs : s.heap.IsSliceOf sl .none .none vs) (ps : IsPart vs (some (-1)))
    (h : Q (.ref s.heap.objs.size) { s with heap := s.heap.push { cls := .type "tuple", data := .seq xs.reverse.toArray } })
    (hsz : xs.toArray.size ≤ sizeLine) : wpAny (model prog w) A (getItem (.ref t) (.ref sl)) Q E s := by
  have htake : sizeOk (.seq xs.reverse.toArray) := by
    show xs.reverse.toArray.size ≤ sizeLine
    rw [List.size_toArray, List.length_reverse]
    rw [List.size_toArray] at hsz
    exact hsz
  obtain ⟨os, hos, hcs, hds⟩ := id hs
  have hTs : s.TypeIs (.ref sl) "slice" := ⟨os, hos, hcs⟩
  unfold getItem
  try with_reducible refine wpAny_holding ?_
  first | refine wpAny_bind (wpAny_pure ?_) | skip
  refine wpAny_bind (wpAny_sequenceKey ht.typeIs (by decide) ?_)
  refine wpAny_bind (wpAny_callSpecial?_slot (name := Str.ofString "__getitem__") ht.typeIs PyProof.Rows.slot_tuple_getitem
    (wpAny_call_entry PyProof.Rows.slot_tuple_getitem ht.typeIs entry_tuple_getitem ?_ (args_tuple_getitem _ _)))
  show wpAny _ _ (Builtin.Tuple.tupleItemsOf (.ref t) >>= _) _ _ s
  refine wpAny_bind (tupleItemsOf_ ht ?_)
  refine wpAny_bind (wpAny_typeOf hTs ?_)
  rw [if_pos (by decide)]
  refine wpAny_bind (px_applied hs ps ?_)
  have hno : ¬ (((((xs.toArray.size : Nat) : Int) - 1) == 0 && (-1 : Int) == 1 && xs.toArray.size == xs.toArray.size) = true) := by
    intro q
    rw [Bool.and_eq_true, Bool.and_eq_true] at q
    exact absurd q.1.2 (by decide)
  show wpAny _ _ (if ((((xs.toArray.size : Nat) : Int) - 1) == 0 && (-1 : Int) == 1 && xs.toArray.size == xs.toArray.size) = true then _ else _) _ _ s
  rw [if_neg hno, px_pick]
  first
    | exact wpAny_bind (m := Builtin.Tuple.tupleExact _) (wpAny_newObj_type (wpAny_pure ⟨_, rfl, wpAny_pure h⟩) htake)
    | exact wpAny_bind (m := Builtin.Tuple.tupleExact _) (wpAny_newObj_type (wpAny_bind (wpAny_pure (wpAny_pure ⟨_, rfl, wpAny_pure h⟩))) htake)
    | exact wpAny_bind (wpAny_bind (m := Builtin.Tuple.tupleExact _) (wpAny_newObj_type (wpAny_pure (wpAny_pure ⟨_, rfl, wpAny_pure h⟩)) htake))
    | exact wpAny_bind (wpAny_bind (m := Builtin.Tuple.tupleExact _) (wpAny_newObj_type (wpAny_pure ⟨_, rfl, wpAny_pure h⟩) htake))
end
end HT

namespace PX
open PySem PySem.Spec PyProof.Rows L2

/-! ### t[::-1] of a tuple, of a list -/
def tRevA (K : PySem.W.Frag) (te : TE) : TE := fun σ H Q => te σ H fun x H1 => (∃ a xs, x = .ref a ∧ SqL K H1 a xs ∧ ∀ p, H1 p = none → Q (.ref p) (upd H1 p (.lst xs.reverse))) ∨ (∃ a xs, x = .ref a ∧ SqT K H1 a xs ∧ ∀ p, H1 p = none → Q (.ref p) (upd H1 p (.tup xs.reverse)))
theorem pe_revA {X : Cx} {e : Expr} {te : TE} {k : Nat} {p1 p2 p3 pos : Pos} (he : PE X e te) : PE X (.Subscript e (.Slice none none (some (.UnaryOp .USub (.Constant (.int 1) k p1) p2)) p3) pos) (tRevA X.K te) := by
  refine ⟨fun pins s σ H Q I h => ?_⟩
  refine Subscript_ (thn (he.run pins s σ H _ I h) fun v s1 ⟨x, H1, I1, r1, q1⟩ => ?_)
  have hst : PO X (some (.UnaryOp .USub (.Constant (.int 1) k p1) p2)) (tPart (tUn (rU fun i => .int (-i)) (tC (.int 1)))) := po_some (pe_un un_neg pe_int)
  refine wpAny_Slice ?_
  rw [evalPart_none]
  refine wpAny_pure (wpAny_pure ?_)
  refine thn (hst.run pins s1 σ H1 (fun o H4 => o = some (-1) ∧ H4 = H1) I1 ⟨1, rfl, -1, rfl, rfl, rfl⟩) fun vs s4 ⟨o, H4, I4, ps, eo, e4⟩ => ?_
  subst eo e4
  have I5 : L2.Inv X pins σ H4 { s4 with heap := s4.heap.push { cls := .type "slice", data := .fields #[.none, .none, vs] } } := I4.kept (t' := s4.toks) fun b ob q => Heap.get?_push_of_some _ q
  rcases q1 with ⟨a, xs, ex, hx, q⟩ | ⟨a, xs, ex, hx, q⟩
  · subst ex
    cases r1
    obtain ⟨its, r, ht, hz⟩ := I5.list hx
    have hlen := r.length
    show wpAny (model X.prog X.w) X.A (subscriptTail e (.Slice none none (some (.UnaryOp .USub (.Constant (.int 1) k p1) p2)) p3) (.ref a) (.ref s4.heap.objs.size)) (EP X pins σ Q) X.xe { s4 with heap := s4.heap.push { cls := .type "slice", data := .fields #[.none, .none, vs] } }
    refine tail_any (ops := [.ref a, .ref s4.heap.objs.size]) ht.isList.typeIs (PySem.slot_list_getitem.lookup) ?_ (by with_unfolding_all rfl)
    refine wpAny_getItem_list_slice ht.isList (Heap.IsSliceOf.new _ .none .none vs) .none .none ps (by decide) ?_ (by rw [List.size_toArray]; omega)
    rw [PySem.W.krv_pick]
    refine ⟨.ref _, _, I5.laid (t' := s4.toks) (o := .lst xs.reverse) (fun b ob q => Heap.get?_push_of_some _ q) (Nat.le_refl _) ?_, rfl, q _ (I5.hok.fresh (Nat.le_refl _))⟩
    exact ⟨by rw [List.length_reverse]; exact hz, _, 0, r.reverse, Heap.get?_push_size _ rfl⟩
  · subst ex
    cases r1
    obtain ⟨its, r, ht, hz⟩ := I5.tuple hx
    have hlen := r.length
    show wpAny (model X.prog X.w) X.A (subscriptTail e (.Slice none none (some (.UnaryOp .USub (.Constant (.int 1) k p1) p2)) p3) (.ref a) (.ref s4.heap.objs.size)) (EP X pins σ Q) X.xe { s4 with heap := s4.heap.push { cls := .type "slice", data := .fields #[.none, .none, vs] } }
    refine tail_any (ops := [.ref a, .ref s4.heap.objs.size]) ht.typeIs (PyProof.Rows.slot_tuple_getitem.lookup) ?_ (by with_unfolding_all rfl)
    refine HT.px_getItem_rev ht (Heap.IsSliceOf.new _ .none .none vs) ps ?_ (by rw [List.size_toArray]; omega)
    refine ⟨.ref _, _, I5.laid (t' := s4.toks) (o := .tup xs.reverse) (fun b ob q => Heap.get?_push_of_some _ q) (Nat.le_refl _) ?_, rfl, q _ (I5.hok.fresh (Nat.le_refl _))⟩
    exact ⟨by rw [List.length_reverse]; exact hz, _, r.reverse, IsTup.new _ _⟩
def gRev : D → Store → R D := fun x S => match rd S x with
  | some (.tuple l) => .ok (.py (.tuple l.reverse)) S
  | some (.list l) => if fits l.length then .ok (.loc S.length) (S ++ [.lst l.reverse]) else .no
  | _ => .no
theorem se_rev {X : Cx} {mg : Str → Option Value} {W : WX} {e : Expr} {k : Nat} {p1 p2 p3 pos : Pos} {m : M D} (he : PE X e (tE X.K mg W m)) : PE X (.Subscript e (.Slice none none (some (.UnaryOp .USub (.Constant (.int 1) k p1) p2)) p3) pos) (tE X.K mg W (m1 gRev m)) := by
  refine pe_imp (pe_revA he) fun σ H Q ⟨ρ, S, env, sim, re, q⟩ => ?_
  refine tM.bind sim re q fun ρ1 S1 x d H1 e1 sim1 re1 r1 q1 => ?_
  unfold gRev at q1
  split at q1
  · rename_i t hr
    obtain ⟨a, xs, rfl, h1, hd⟩ := rd_tupl r1 hr
    exact .inr ⟨a, xs, rfl, h1, fun p hp => post_tup sim1 hp (dpa_reverse hd) q1⟩
  · rename_i t hr
    obtain ⟨a, xs, rfl, h1, hd⟩ := rd_lst sim1 r1 hr
    split at q1
    · rename_i hf
      refine .inl ⟨a, xs, rfl, h1, fun p hp => post_loc (c := .lst t.reverse) sim1 hp ⟨_, rfl, dpa_reverse hd, ?_⟩ q1⟩
      rw [List.length_reverse, dpa_length hd]
      exact fits_ok hf
    · exact q1.elim
  · exact q1.elim

/-! ### o[i] = v -/
def setL (n : Nat) (i : Int) (q : PyData) (S : Store) : R Unit := match S[n]? with
  | some (.lst l) => (match ixN l.length i with
    | some j => .ok () (S.set n (.lst (l.set j q)))
    | none => .no)
  | _ => .no
def subPut (o i d : D) (env : Ev) (S : Store) : R Ev := match o, i, d with
  | .loc n, .py (.int k), .py q => bdN (setL n k q S) fun _ S3 => .ok env S3
  | _, _, _ => .no
def asSub (mo mi : M D) : MG := fun d env S => bdN (mo env S) fun o S1 => bdN (mi env S1) fun i S2 => subPut o i d env S2
theorem tE_of {K : PySem.W.Frag} {mg : Str → Option Value} {W : WX} {m : M D} {ρ : List Addr} {S : Store} {env : Ev} {σ : L2.St} {H : Hp} {T : V → Hp → Prop} (sim : Sim K ρ S H) (re : REnv K ρ H σ env) {d : D} {S1 : Store} (e : m env S = .ok d S1)
    (h : ∀ v H1 ρ1, Ext ρ H ρ1 H1 → Sim K ρ1 S1 H1 → RepD K ρ1 H1 v d → T v H1) : tE K mg W m σ H T := by
  refine ⟨ρ, S, env, sim, re, ?_⟩
  rw [e]
  exact h
theorem onlyAt_refl (σ : L2.St) : OnlyAt [] σ σ := ⟨rfl, fun _ _ => rfl⟩
theorem sg_sub {X : Cx} {o i : Expr} {pos : Pos} {mo mi : M D} (ho : PE X o (tE X.K X.mg W0 mo)) (hi : PE X i (tE X.K X.mg W0 mi))
    (ha : ∀ v, assign (.Subscript o i pos) X.env v = (do
      let ov ← holding [v] (eval o X.env)
      let iv ← holding [v, ov] (eval i X.env)
      standAt pos
      holding [v, ov, iv] (setItem ov iv v)
      release [v, ov, iv] []) := by intro _; rfl) : PG X (.Subscript o i pos) (tG X.K [] (asSub mo mi)) := by
  refine pg_imp (pg_sub ho hi set_list ha) fun v σ H Q ⟨ρ, S, env, d, sim, re, r, q⟩ => ?_
  unfold asSub at q
  cases e1 : mo env S with
  | no => rw [e1] at q; exact q.elim
  | exc x S1 => rw [e1] at q; exact q.elim
  | ok o' S1 =>
    rw [e1] at q
    refine tE_of sim re e1 fun ov H1 ρ1 x1 sim1 r1 => ?_
    have q : PostG X.K ρ [] σ H Q (bdN (mi env S1) fun i S2 => subPut o' i d env S2) := q
    cases e2 : mi env S1 with
    | no => rw [e2] at q; exact q.elim
    | exc x S2 => rw [e2] at q; exact q.elim
    | ok i' S2 =>
      rw [e2] at q
      refine tE_of sim1 (re.mono x1) e2 fun iv H2 ρ2 x2 sim2 r2 => ?_
      have q : PostG X.K ρ [] σ H Q (subPut o' i' d env S2) := q
      unfold subPut at q
      split at q
      · rename_i n k qd qa qb
        unfold setL at q
        cases ec : S2[n]? with
        | none => simp only [ec] at q; exact q.elim
        | some c =>
          simp only [ec] at q
          cases c with
          | dI l => exact q.elim
          | dT l => exact q.elim
          | lst l =>
            simp only at q
            cases ei : ixN l.length k with
            | none => simp only [ei] at q; exact q.elim
            | some j =>
              simp only [ei] at q
              obtain ⟨a, ha', rfl⟩ := RepD.mono x2 r1
              obtain ⟨xs, ex, hd, hz⟩ := sim2.cell n a _ ha' ec
              have rv := RepD.mono (x1.trans x2) r
              obtain ⟨s3, x3⟩ := sim2.set (o := .lst (xs.set j v)) (c := .lst (l.set j qd)) ha' ⟨_, rfl, dpa_set j rv hd, by rw [List.length_set]; exact hz⟩
              refine ⟨a, xs, k, j, rfl, dp_int (rep_py r2), ex, by rw [dpa_length hd]; exact ei, ?_⟩
              exact q _ _ ρ2 ((x1.trans x2).trans x3) s3 (re.mono ((x1.trans x2).trans x3)) (onlyAt_refl _)
      · exact q.elim

/-! ### methods of built-in values -/
def MtD (K : PySem.W.Frag) (r : V → List V → Hp → VK → Prop) (c : D → Store → Bool) (g : D → List D → Store → R D) : Prop := ∀ (mg : Str → Option Value) (W : WX) (ρ : List Addr) (S S0 : Store) (σ : L2.St) (H : Hp) (Q : V → Hp → Prop) (x : V) (xs : List V) (dx : D) (ds : List D), c dx S0 = true → Sim K ρ S H → RepD K ρ H x dx → RepDs K ρ H xs ds → Post K mg W (RepD K) ρ σ H Q (g dx ds S) → r x xs H Q
def mMeth (c : D → Store → Bool) (g : D → List D → Store → R D) (o : M D) (as : M (List D)) : M D := fun env S => bd (o env S) fun x S1 => if c x S1 then bd (as env S1) fun xs S2 => g x xs S2 else .no
theorem se_meth {X : Cx} {mg : Str → Option Value} {W : WX} {o e : Expr} {es : List Expr} {mo : M D} {ma : M (List D)} {apos cpos : Pos} {T id : String} {name : Str} {r : V → List V → Hp → VK → Prop} {c : D → Store → Bool} {g : D → List D → Store → R D}
    (pa : PlainAttrs T) (slot : Slot T name id) (hty : typeOf (.builtin id) = pure (.type "method_descriptor")) (hm : MtR X id r) (hc : ∀ ρ S H x dx, Sim X.K ρ S H → RepD X.K ρ H x dx → c dx S = true → tyV X.K T x H) (hd : MtD X.K r c g) (ho : PE X o (tE X.K mg W mo)) (ha : PA X (e :: es) (tA X.K mg W ma))
    (hbase : attributeBase o name X.env (eval o X.env) = eval o X.env := by rfl)
    (hfew : ((backTo cpos (starEach (e :: es) X.env)).all (fun x => !x.1) && (backToKw cpos (keywordEach [] X.env)).all (fun x => x.1.isSome)
      && decide ((e :: es).length + ([] : List Keyword).length + (if ([] : List Keyword).isEmpty then 0 else 1) < 30)) = true := by rfl)
    (hline : (apos.endLine == cpos.line) = true := by rfl) (hs : starEach (e :: es) X.env = (false, eval e X.env) :: starEach es X.env := by rfl) (hplain : (backTo cpos (starEach es X.env)).any (·.1) = false := by rfl) :
    PE X (.Call (.Attribute o name apos) (e :: es) [] cpos) (tE X.K mg W (mMeth c g mo ma)) := by
  refine pe_imp (pe_bm pa slot hty hm ho ha hbase hfew hline hs hplain) fun σ H Q ⟨ρ, S, env, sim, re, q⟩ => ?_
  refine tM.bind sim re q fun ρ1 S1 x dx H1 e1 sim1 re1 r1 q1 => ?_
  cases hcx : c dx S1 with
  | false => rw [if_neg (by rw [hcx]; exact Bool.false_ne_true)] at q1; exact q1.elim
  | true =>
    rw [if_pos hcx] at q1
    refine ⟨hc ρ1 S1 H1 x dx sim1 r1 hcx, ?_⟩
    refine tM.bind sim1 re1 q1 fun ρ2 S2 xs ds H2 e2 sim2 re2 r2 q2 => ?_
    exact hd mg W ρ2 S2 S1 σ H2 Q x xs dx ds hcx sim2 (r1.mono e2) r2 q2
def isLoc : D → Store → Bool
  | .loc n, S => (match S[n]? with
    | some (.lst _) => true
    | _ => false)
  | _, _ => false
theorem isLoc_ty {K : PySem.W.Frag} {ρ : List Addr} {S : Store} {H : Hp} {x : V} {dx : D} (sim : Sim K ρ S H) (r : RepD K ρ H x dx) (h : isLoc dx S = true) : tyV K "list" x H := by
  cases dx with
  | py p => cases h
  | raw v => cases h
  | loc n =>
    obtain ⟨a, ha, rfl⟩ := r
    unfold isLoc at h
    cases hc : S[n]? with
    | none => simp only [hc] at h; cases h
    | some c =>
      cases c with
      | lst l => obtain ⟨xs, e, _, _⟩ := sim.cell n a _ ha hc; exact .inl ⟨rfl, xs, SqL.of e⟩
      | dI l => simp only [hc] at h; cases h
      | dT l => simp only [hc] at h; cases h
def gApp : D → List D → Store → R D := fun x ds S => match x, ds with
  | .loc n, [.py q] => bdN (lcPut n q S) fun _ S1 => .ok (.py .none) S1
  | _, _ => .no
theorem md_append {K : PySem.W.Frag} : MtD K rAppend isLoc gApp := by
  intro mg W ρ S S0 σ H Q x xs dx ds hc sim rx rs q
  unfold gApp at q
  split at q
  · rename_i n p
    obtain ⟨y, rfl, ry⟩ := reps1 rs
    obtain ⟨a, ha, rfl⟩ := rx
    unfold lcPut at q
    cases ec : S[n]? with
    | none => simp only [ec] at q; exact q.elim
    | some c =>
      simp only [ec] at q
      cases c with
      | dI l => exact q.elim
      | dT l => exact q.elim
      | lst acc =>
        simp only at q
        cases hf : fits (acc.length + 1) with
        | false => simp only [hf] at q; exact q.elim
        | true =>
          simp only [hf] at q
          obtain ⟨xs, e5, d5, z5⟩ := sim.cell _ _ _ ha ec
          have hz := fits_ok hf
          have hln := dpa_length d5
          obtain ⟨s6, x6⟩ := sim.set (o := .lst (xs ++ [y])) (c := .lst (acc ++ [p])) ha ⟨xs ++ [y], rfl, dpa_append d5 (.cons ry .nil), by rw [List.length_append, hln]; exact hz⟩
          exact ⟨a, xs, y, rfl, rfl, e5, by omega, q _ _ ρ x6 s6 .non⟩
  · exact q.elim
theorem se_append {X : Cx} {mg : Str → Option Value} {W : WX} {o e : Expr} {mo me : M D} {apos cpos : Pos} (ho : PE X o (tE X.K mg W mo)) (he : PE X e (tE X.K mg W me))
    (hbase : attributeBase o "append" X.env (eval o X.env) = eval o X.env := by rfl)
    (hfew : ((backTo cpos (starEach (e :: []) X.env)).all (fun x => !x.1) && (backToKw cpos (keywordEach [] X.env)).all (fun x => x.1.isSome)
      && decide ((e :: []).length + ([] : List Keyword).length + (if ([] : List Keyword).isEmpty then 0 else 1) < 30)) = true := by rfl)
    (hline : (apos.endLine == cpos.line) = true := by rfl) (hs : starEach (e :: []) X.env = (false, eval e X.env) :: starEach [] X.env := by rfl) (hplain : (backTo cpos (starEach [] X.env)).any (·.1) = false := by rfl) :
    PE X (.Call (.Attribute o "append" apos) [e] [] cpos) (tE X.K mg W (mMeth isLoc gApp mo (mCons me mNil))) :=
  se_meth PySem.F.plainAttrs_list PySem.F.slot_list_append PySem.F.type_list_append mt_append (fun _ _ _ _ _ s r h => isLoc_ty s r h) md_append ho (sa_cons he sa_nil hs) hbase hfew hline hs hplain

/-! ### a < b < c -/
def mChain (g g' : D → D → Store → R D) (a b c : M D) : M D := fun env S => bd (a env S) fun x S1 => bd (b env S1) fun y S2 => bd (g x y S2) fun k S3 => match k with
  | .py (.bool true) => bd (c env S3) fun z S4 => g' y z S4
  | .py (.bool false) => .ok (.py (.bool false)) S3
  | _ => .no
theorem op_post {K : PySem.W.Frag} {mg : Str → Option Value} {W : WX} {r : R2} {g : D → D → Store → R D} (hg : OpD K r g) {ρ : List Addr} {S : Store} {H : Hp} {σ : L2.St} {x y : V} {dx dy : D} {Q : V → Hp → Prop} {k : D → Store → R D} {T : V → Hp → Prop} (sim : Sim K ρ S H) (rx : RepD K ρ H x dx) (ry : RepD K ρ H y dy)
    (q : Post K mg W (RepD K) ρ σ H Q (bd (g dx dy S) k)) (hx : ∀ z S1, g dx dy S ≠ .exc z S1)
    (hT : ∀ ρ1 S1 v d H1, Ext ρ H ρ1 H1 → Sim K ρ1 S1 H1 → RepD K ρ1 H1 v d → Post K mg W (RepD K) ρ1 σ H1 Q (k d S1) → T v H1) : r x y H T := by
  refine hg mg W ρ S σ H T x y dx dy sim rx ry ?_
  cases e : g dx dy S with
  | no => rw [e] at q; exact q
  | exc z S1 => exact absurd e (hx z S1)
  | ok d S1 =>
    rw [e] at q
    exact fun v H1 ρ1 x1 s1 r1 => hT ρ1 S1 v d H1 x1 s1 r1 (Post.ext x1 q)
theorem se_chain {X : Cx} {mg : Str → Option Value} {W : WX} {a b c : Expr} {pos : Pos} {ma mb mc : M D} {op op' : CmpOp} {r r' : R2} {g g' : D → D → Store → R D} (ho : OpR X (compareOp op) r) (ho' : OpR X (compareOp op') r') (hg : OpD X.K r g) (hg' : OpD X.K r' g') (hx : ∀ x y S z S1, g x y S ≠ .exc z S1)
    (ha : PE X a (tE X.K mg W ma)) (hb : PE X b (tE X.K mg W mb)) (hc : PE X c (tE X.K mg W mc)) (h : ∀ ta tb tc, PE X a ta → PE X b tb → PE X c tc → PE X (.Compare a [op, op'] [b, c] pos) (tChain r r' ta tb tc)) :
    PE X (.Compare a [op, op'] [b, c] pos) (tE X.K mg W (mChain g g' ma mb mc)) := by
  refine pe_imp (h _ _ _ ha hb hc) fun σ H Q ⟨ρ, S, env, sim, re, q⟩ => ?_
  refine tM.bind sim re q fun ρ1 S1 x dx H1 e1 sim1 re1 r1 q1 => ?_
  refine tM.bind sim1 re1 q1 fun ρ2 S2 y dy H2 e2 sim2 re2 r2 q2 => ?_
  refine op_post hg sim2 (r1.mono e2) r2 q2 (hx _ _ _) fun ρ3 S3 v d H3 e3 sim3 r3 q3 => ?_
  split at q3
  · rw [dp_bool (rep_py r3)]
    refine ⟨true, rfl, ?_⟩
    rw [if_pos rfl]
    refine tM.bind sim3 (re2.mono e3) q3 fun ρ4 S4 z dz H4 e4 sim4 re4 r4 q4 => ?_
    exact hg' mg W ρ4 S4 σ H4 Q y z dy dz sim4 ((r2.mono e3).mono e4) r4 q4
  · rw [dp_bool (rep_py r3)]
    refine ⟨false, rfl, ?_⟩
    rw [if_neg Bool.false_ne_true]
    exact post_sc (p := .bool false) sim3 rfl q3
  · exact q3.elim
theorem gI_noexc {f : Int → Int → PyData} (x y : D) (S : Store) (z : Ex) (S1 : Store) : gI f x y S ≠ .exc z S1 := fun h => by
  unfold gI at h
  split at h <;> cases h

/-! ### t * n -/
def gMul : D → D → Store → R D := fun x y S => match rd S x, y with
  | some (.int i), .py (.int j) => if cMul i j then .ok (.py (.int (i * j))) S else .no
  | some (.tuple l), .py (.int j) => if decide (l.length ≠ 0) && decide (2 ≤ j) && decide (j ≤ 1000) && decide (l.length ≤ 1000) then .ok (.py (.tuple (List.replicate j.toNat l).flatten)) S else .no
  | _, _ => .no
def rMulA (K : PySem.W.Frag) : R2 := fun x y H Q => rI CMul (fun i j => .int (i * j)) x y H Q ∨ rRepT K x y H Q
theorem op_mulA {X : Cx} : OpR X (binaryOp .Mult) (rMulA X.K) := OpR.or op_mul op_repT
theorem dpa_flat {K : PySem.W.Frag} {H : Hp} {xs : List V} {ps : List PyData} (h : DpAll K H xs ps) : ∀ n : Nat, DpAll K H (List.replicate n xs).flatten (List.replicate n ps).flatten
  | 0 => .nil
  | n + 1 => by rw [List.replicate_succ, List.replicate_succ, List.flatten_cons, List.flatten_cons]; exact dpa_append h (dpa_flat h n)
theorem od_mul {K : PySem.W.Frag} : OpD K (rMulA K) gMul := by
  intro mg W ρ S σ H Q x y dx dy sim rx ry q
  unfold gMul at q
  split at q
  · rename_i i j hx
    split at q
    · rename_i h
      exact .inl ⟨i, j, dp_int (rd_ok sim rx hx), dp_int (rep_py ry), cMul_ok h, post_sc (p := .int _) sim rfl q⟩
    · exact q.elim
  · rename_i l j hx
    split at q
    · rename_i h
      rw [Bool.and_eq_true, Bool.and_eq_true, Bool.and_eq_true] at h
      obtain ⟨⟨⟨h1, h2⟩, h3⟩, h4⟩ := h
      obtain ⟨a, xs, rfl, hs, hd⟩ := rd_tupl rx hx
      have hl := dpa_length hd
      refine .inr ⟨a, j, xs, rfl, dp_int (rep_py ry), hs, fun e => ?_, of_decide_eq_true h2, of_decide_eq_true h3, by rw [hl]; exact of_decide_eq_true h4, fun p hp => post_tup sim hp (dpa_flat hd _) q⟩
      rw [e] at hl
      exact of_decide_eq_true h1 hl.symm
    · exact q.elim
  · exact q.elim
end PX

end P_PX7
section P_PX8
set_option maxHeartbeats 4000000
namespace PX
open PySem PySem.Spec PyProof.Rows L2

/-- a def keeps to a function of values -/
def DefOk (P : Program) (w : World) (K : PySem.W.Frag) (mg : Str → Option Value) (base : Heap) (k : Nat) (x : Str) (ps : List Str) (g : List D → Store → R D) : Prop :=
  ∃ f fd, FnOk P w K mg base (L2.CX P w) k f fd ps (spOf K mg ps.length g) ∧ Binds K fd ps [] ∧ mg x = some (.ref f) ∧ PySem.W.keepIn K (.ref f) = true
section
variable {P : Program} {w : World} {K : PySem.W.Frag} {mg : Str → Option Value} {base : Heap}
theorem def_mk {x qual : Str} {params : Arguments} {body : List Stmt} {scope : Scope} {f : Addr} {N ps : List Str} {k : Nat} {b : MS} (F : ∃ fd, FunD K x qual params body scope [] [] f fd) (Sc : FnScope N ps scope) (hm : mg x = some (.ref f))
    (hb : ∀ (kV doc pm : Value) (an : Option Addr) (cdv ct : Value) (us : List Value), us.length = ps.length → bindArgs (PySem.W.fnOf x qual params body scope .none kV doc pm an cdv ct) ⟨us, []⟩ = pure (ps.zip us))
    (hbody : ∀ (cdv : Value) (A : Around) (outer : List Env) (s : Shared) (H : Hp) (E : XK), Room k (A.deeper (envOfC qual scope s.heap.objs.size f cdv)) →
      PSs (cxOf (L2.CX P w) P w K mg base N qual scope f cdv A outer s H E) body (tS K mg (fun c o _ H' => E c o H') b)) : DefOk P w K mg base (k + 1) x ps (runM N.length b) := by
  obtain ⟨fd, F⟩ := F
  exact ⟨f, fd, F.ok Sc (fun vs H Q E h => h.1) fun cdv A outer s H vs Q E hr h => ⟨_, hbody cdv A outer s H E hr, let ⟨_, _, _, _, sim, r, q⟩ := h; body_read sim r q⟩, F.bindsN hb, hm, F.kp⟩
theorem DefOk.fr {k N : Nat} {x : Str} {ps : List Str} {b : MS} (D : DefOk P w K mg base k x ps (runM N b)) : DefOk P w K mg base k x ps (runF N b) :=
  let ⟨f, fd, G, h⟩ := D; ⟨f, fd, G.imp fun _ _ _ _ h => sp_cut h, h⟩
end
section
variable {X : Cx} {mg : Str → Option Value} {W : WX} {pos : Pos}
theorem se_def {k j : Nat} {ps : List Str} {g : List D → Store → R D} {x : Str} {p : Pos} {e : Expr} {es : List Expr} {m : M (List D)} (Df : DefOk X.prog X.w X.K X.mg X.base k x ps g) (hr : Room j X.A) (hj : k ≤ j) (hg : Gl X x)
    (tk : Takes X W) (hl : ∀ env S ds S', m env S = .ok ds S' → ds.length = ps.length) (ha : PA X (e :: es) (tA X.K X.mg W m)) (hdb : (x == ("__debug__" : Str)) = false := by decide) (he : starEach (e :: es) X.env = (false, eval e X.env) :: starEach es X.env := by rfl) (hpl : (backTo pos (starEach es X.env)).any (·.1) = false := by rfl) :
    PE X (.Call (.Name x p) (e :: es) [] pos) (tE X.K X.mg W (mCall g m)) := by
  obtain ⟨f, fd, G, hb, hm, hk⟩ := Df
  exact se_call G (hr.mono hj) hg hm hk hb tk hl ha hdb he hpl
theorem se_gint {x : Str} {i : Int} (hg : Gl X x) (hm : ∃ t, X.mg x = some (.int i t)) (hd : (x == ("__debug__" : Str)) = false := by decide) : PE X (.Name x pos) (tE X.K mg W (mK (.int i))) := by
  obtain ⟨t, hm⟩ := hm
  exact se_c (p := .int i) rfl (pe_glob hg hm ⟨t, rfl⟩ hd)
end
/-! ### the law -/
def spLaw (K : PySem.W.Frag) : Sp := fun vs H Q _ => ∃ (a : Addr) (ns : List Int), vs = [.ref a] ∧ SqL K H a (ns.map V.int) ∧ ns.length ≤ 63 ∧ ∀ H', Q (.bl true) H'
theorem law_mk {P : Program} {w : World} {K : PySem.W.Frag} {mg : Str → Option Value} {base : Heap} {x qual : Str} {params : Arguments} {body : List Stmt} {scope : Scope} {f : Addr} {fd : FuncData} {N : List Str} {p : Str} {k : Nat} {b : MS} (F : FunD K x qual params body scope [] [] f fd) (Sc : FnScope N [p] scope)
    (hbody : ∀ (cdv : Value) (A : Around) (outer : List Env) (s : Shared) (H : Hp) (E : XK), Room k (A.deeper (envOfC qual scope s.heap.objs.size f cdv)) →
      PSs (cxOf CX0 P w K mg base N qual scope f cdv A outer s H E).nox body (tS K mg W0 b))
    (hF : ∀ ns : List Int, ns.length ≤ 63 → ∃ S', runM N.length b [.py (.list (ofInts ns))] [] = .ok (.py (.bool true)) S') : FnOk P w K mg base CX0 (k + 1) f fd [p] (spLaw K) := by
  refine F.ok Sc (fun vs H Q E h => ?_) fun cdv A outer s H vs Q E hr h => ⟨_, PSs.nox (hbody cdv A outer s H E hr), ?_⟩
  · obtain ⟨a, ns, rfl, _⟩ := h; rfl
  · obtain ⟨a, ns, rfl, hS, hl, q⟩ := h
    obtain ⟨S', e⟩ := hF ns hl
    have hf : fz [] H = H := by funext b; unfold fz; simp
    have sim : Sim K [] [] H := ⟨rfl, .nil, fun n a c h _ => by simp at h⟩
    have r : RepDs K [] H [.ref a] [.py (.list (ofInts ns))] := .cons (by show Dp K (fz [] H) _ _; rw [hf]; exact .lst hS (dpa_ints _ _)) .nil
    refine ⟨[], [], _, sim, renv_start N r, ?_⟩
    unfold runM at e
    cases e2 : b (([D.py (.list (ofInts ns))] : List D).map some ++ List.replicate (N.length - [D.py (.list (ofInts ns))].length) none) [] with
    | no => rw [e2] at e; cases e
    | exc x env1 S1 => rw [e2] at e; cases e
    | go f env1 S1 =>
      rw [e2] at e
      cases f with
      | nx => cases e
      | bk => cases e
      | ct => cases e
      | rt d =>
        cases e
        intro v H' ρ' x s r
        rw [dp_bool (rep_py r)]
        exact q H'
end PX

end P_PX8
section P_PX9
set_option maxHeartbeats 4000000
namespace PX
open PySem PySem.Spec PyProof.Rows L2
section
variable {X : Cx} {mg : Str → Option Value} {W : WX} {pos : Pos}
theorem se_lcv {elt tg iter : Expr} {ifs : List Expr} {scope : Scope} (own : List (Str × Nat)) {vs : List Nat} {mi : M (List PyData)} {a : MG} {ws : List Nat} {mt : M Bool} {me : M D} (hc : X.calm = true) (hN : X.N.Nodup) (hi : PI X tg iter (tI X.K mg W mi)) (ok : BlkOk X.N X.env.scope scope own)
    (hg : ∀ (s : Shared) (H : Hp) (C : Addr) (cl : List (Str × Addr)) (fp : List Addr), PG (X.blk s H scope (compEnvC scope cl C X.env) fp) tg (tG X.K ws a))
    (ht : ∀ (s : Shared) (H : Hp) (C : Addr) (cl : List (Str × Addr)) (fp : List Addr), PTs (X.blk s H scope (compEnvC scope cl C X.env) fp) ifs (tT X.K mg W0 mt))
    (he : ∀ (s : Shared) (H : Hp) (C : Addr) (cl : List (Str × Addr)) (fp : List Addr), PE (X.blk s H scope (compEnvC scope cl C X.env) fp) elt (tE X.K mg W0 me))
    (hv : own.map (·.2) = vs := by rfl) (hws : ∀ w ∈ ws, w ∈ vs := by decide) (hs : ∀ x, foldedSetIterable iter X.env x = pure x := by intro _; rfl) :
    PE X (.ListComp elt [⟨tg, iter, ifs, 0⟩] scope pos) (tE X.K mg W (mLc vs mi a mt me)) := by
  subst hv
  exact se_lc hc hN hi ok hg ht he hws hs
theorem spt_one {c : Expr} {m : M Bool} {X : Cx} (h : PT X c (tT X.K mg W0 m)) : PTs X [c] (tT X.K mg W0 m) := pts_one h
/-- name = [..], on one line: its list stays as it is -/
theorem ss_setLc {i : Nat} {y : Str} {py : Pos} {elt tg iter : Expr} {ifs : List Expr} {scope : Scope} (own : List (Str × Nat)) {vs : List Nat} {spos : Pos} {mi : M (List PyData)} {a : MG} {ws : List Nat} {mt : M Bool} {me : M D} (hc : X.calm = true) (hN : X.N.Nodup) (hy : X.N[i]? = some y) (hyl : X.env.scope.names.lookup y = some .local)
    (hsw : swapsWith (.ListComp elt [⟨tg, iter, ifs, 0⟩] scope pos) (some (.Name y py)) spos.line X.env = pure true) (hi : PI X tg iter (tI X.K mg W mi)) (ok : BlkOk X.N X.env.scope scope own)
    (hg : ∀ (s : Shared) (H : Hp) (C : Addr) (cl : List (Str × Addr)) (fp : List Addr), PG (X.blk s H scope (compEnvC scope cl C X.env) fp) tg (tG X.K ws a))
    (ht : ∀ (s : Shared) (H : Hp) (C : Addr) (cl : List (Str × Addr)) (fp : List Addr), PTs (X.blk s H scope (compEnvC scope cl C X.env) fp) ifs (tT X.K mg W0 mt))
    (he : ∀ (s : Shared) (H : Hp) (C : Addr) (cl : List (Str × Addr)) (fp : List Addr), PE (X.blk s H scope (compEnvC scope cl C X.env) fp) elt (tE X.K mg W0 me))
    (hv : own.map (·.2) = vs := by rfl) (hws : ∀ w ∈ ws, w ∈ vs := by decide) (hs : ∀ x, foldedSetIterable iter X.env x = pure x := by intro _; rfl) :
    PS X (.Assign [.Name y py] (.ListComp elt [⟨tg, iter, ifs, 0⟩] scope pos) spos) (tS X.K mg W (sAs (mFr (mLc vs mi a mt me)) (aN i))) := by
  subst hv
  refine ps_imp (ps_setLc hc hN hy hyl hsw hi ok hg ht he hs) fun D σ H h => ?_
  have h2 := set_read h
  refine lc_read hws ?_
  obtain ⟨ρ, S, env, sim, re, q⟩ := h2
  exact ⟨ρ, S, env, sim, re, fr_post sim q⟩
theorem ss_par3 {st : Stmt} {i j l : Nat} {m : M (List D)} (h : PS X st (tPar3 i j l (tA X.K mg W m))) : PS X st (tS X.K mg W (sPar3 i j l m)) := ps_imp h fun D σ H ⟨ρ, S, env, sim, re, q⟩ => by
  refine tM.bindS sim re q fun ρ1 S1 vs ds H1 e1 sim1 re1 r1 q1 => ?_
  cases r1 with
  | nil => exact q1.elim
  | cons r rr => cases rr with
    | nil => exact q1.elim
    | cons r2 rr => cases rr with
      | nil => exact q1.elim
      | cons r3 rr => cases rr with
        | nil => exact ⟨_, _, _, rfl, q1 _ H1 ρ1 (Ext.refl _ _) sim1 (((re1.set i r).set j r2).set l r3)⟩
        | cons _ _ => exact q1.elim
end
end PX

end P_PX9
section P_PXE
set_option maxHeartbeats 4000000
/-! evaluation: each word by its arguments, what comes next as a word of its own -/
namespace PX
open PySem L2
section
variable {α β γ : Type} {env e1 : Ev} {S S1 : Store}
theorem bd_ok {a : α} {k : α → Store → R γ} : bd (.ok a S) k = k a S := rfl
theorem bd_no {k : α → Store → R γ} : bd .no k = .no := rfl
theorem bd_exc {x : Ex} {k : α → Store → R γ} : bd (.exc x S) k = .exc x S := rfl
theorem bdN_ok {a : α} {k : α → Store → R γ} : bdN (.ok a S) k = k a S := rfl
theorem bs_ok {a : α} {k : α → Store → RS} : bs (.ok a S) env k = k a S := rfl
theorem bs_exc {x : Ex} {k : α → Store → RS} : bs (.exc x S) env k = .exc x env S := rfl
def getV : Option (Option D) → Store → R D
  | some (some d), S => .ok d S
  | _, _ => .no
theorem mV_ap {i : Nat} : mV i env S = getV env[i]? S := by unfold mV getV; split <;> simp_all
theorem getV_ok {d : D} : getV (some (some d)) S = .ok d S := rfl
theorem mK_ap {d : PyData} : mK d env S = .ok (.py d) S := rfl
theorem m1_ap {g : D → Store → R D} {a : M D} : m1 g a env S = bd (a env S) g := rfl
def k2 (g : D → D → Store → R D) (b : M D) (env : Ev) : D → Store → R D := fun x S1 => bd (b env S1) fun y S2 => g x y S2
def k2' (g : D → D → Store → R D) (x : D) : D → Store → R D := fun y S2 => g x y S2
theorem m2_ap {g : D → D → Store → R D} {a b : M D} : m2 g a b env S = bd (a env S) (k2 g b env) := rfl
theorem k2_ap {g : D → D → Store → R D} {b : M D} {x : D} : k2 g b env x S = bd (b env S) (k2' g x) := rfl
theorem k2'_ap {g : D → D → Store → R D} {x y : D} : k2' g x y S = g x y S := rfl
theorem mNil_ap : mNil env S = .ok [] S := rfl
def kC1 (r : M (List D)) (env : Ev) : D → Store → R (List D) := fun x S1 => bd (r env S1) fun xs S2 => .ok (x :: xs) S2
def kC2 (x : D) : List D → Store → R (List D) := fun xs S2 => .ok (x :: xs) S2
theorem mCons_ap {a : M D} {r : M (List D)} : mCons a r env S = bd (a env S) (kC1 r env) := rfl
theorem kC1_ap {r : M (List D)} {x : D} : kC1 r env x S = bd (r env S) (kC2 x) := rfl
theorem kC2_ap {x : D} {xs : List D} : kC2 x xs S = .ok (x :: xs) S := rfl
theorem mCall_ap {g : List D → Store → R D} {as : M (List D)} : mCall g as env S = bd (as env S) g := rfl
theorem mCallI_ap {g : List D → Store → R (List PyData)} {as : M (List D)} : mCallI g as env S = bd (as env S) g := rfl
theorem mItems_ap {m : M D} : mItems m env S = bd (m env S) gItems := rfl
theorem gItems_l {l : List PyData} : gItems (.py (.list l)) S = .ok l S := rfl
theorem gItems_t {l : List PyData} : gItems (.py (.tuple l)) S = .ok l S := rfl
def kIf (a b : M α) (env : Ev) : Bool → Store → R α := fun k S1 => if k then a env S1 else b env S1
theorem mIf_ap {c : M Bool} {a b : M D} : mIf c a b env S = bd (c env S) (kIf a b env) := rfl
theorem kIf_t {a b : M α} : kIf a b env true S = a env S := rfl
theorem kIf_f {a b : M α} : kIf a b env false S = b env S := rfl
def mCB (k : Bool) : M Bool := fun _ S => .ok k S
theorem mCB_ap {k : Bool} : mCB k env S = .ok k S := rfl
theorem mAndT_ap {a b : M Bool} : mAndT a b env S = bd (a env S) (kIf b (mCB false) env) := rfl
theorem mOrT_ap {a b : M Bool} : mOrT a b env S = bd (a env S) (kIf (mCB true) b env) := rfl
def kNot : Bool → Store → R Bool := fun k S => .ok (!k) S
theorem mNotT_ap {a : M Bool} : mNotT a env S = bd (a env S) kNot := rfl
theorem kNot_ap {k : Bool} : kNot k S = .ok (!k) S := rfl
def kAnd (b : M D) (env : Ev) : D → Store → R D := fun x S1 => match x with
  | .py (.bool k) => if k then b env S1 else .ok (.py (.bool false)) S1
  | _ => .no
def kOr (b : M D) (env : Ev) : D → Store → R D := fun x S1 => match x with
  | .py (.bool k) => if k then .ok (.py (.bool true)) S1 else b env S1
  | _ => .no
theorem mAnd_ap {a b : M D} : mAnd a b env S = bd (a env S) (kAnd b env) := rfl
theorem kAnd_t {b : M D} : kAnd b env (.py (.bool true)) S = b env S := rfl
theorem kAnd_f {b : M D} : kAnd b env (.py (.bool false)) S = .ok (.py (.bool false)) S := rfl
theorem mOr_ap {a b : M D} : mOr a b env S = bd (a env S) (kOr b env) := rfl
theorem kOr_t {b : M D} : kOr b env (.py (.bool true)) S = .ok (.py (.bool true)) S := rfl
theorem kOr_f {b : M D} : kOr b env (.py (.bool false)) S = b env S := rfl
/-- where what comes next gives a truth value and leaves the store -/
theorem kAnd_b {b : M D} {k j : Bool} (h : b env S = .ok (.py (.bool j)) S) : kAnd b env (.py (.bool k)) S = .ok (.py (.bool (k && j))) S := by cases k; rfl; exact h
theorem kOr_b {b : M D} {k j : Bool} (h : b env S = .ok (.py (.bool j)) S) : kOr b env (.py (.bool k)) S = .ok (.py (.bool (k || j))) S := by cases k; exact h; rfl
theorem kIf_b {a b : M α} {k : Bool} {x y : α} (h1 : a env S = .ok x S) (h2 : b env S = .ok y S) : kIf a b env k S = .ok (if k then x else y) S := by cases k; exact h2; exact h1
def kNotV : D → Store → R D := fun x S1 => match x with
  | .py (.bool k) => .ok (.py (.bool (!k))) S1
  | _ => .no
theorem mNot_ap {a : M D} : mNot a env S = bd (a env S) kNotV := rfl
theorem kNotV_ap {k : Bool} : kNotV (.py (.bool k)) S = .ok (.py (.bool (!k))) S := rfl
def kB : D → Store → R Bool := fun x S1 => match x with
  | .py (.bool k) => .ok k S1
  | _ => .no
theorem mB_ap {a : M D} : mB a env S = bd (a env S) kB := rfl
theorem kB_ap {k : Bool} : kB (.py (.bool k)) S = .ok k S := rfl
theorem mFr_ap {m : M D} : mFr m env S = frR S.length (m env S) := rfl
theorem frR_py {n : Nat} {d : PyData} : frR n (.ok (.py d) S) = .ok (.py d) (S.take n) := rfl
theorem frR_no {n : Nat} : frR n .no = .no := rfl
theorem frR_exc {n : Nat} {x : Ex} : frR n (.exc x S) = .exc x S := rfl
theorem frR_new {n : Nat} {l : List PyData} (h : S.length = n) : frR n (.ok (.loc S.length) (S ++ [.lst l])) = .ok (.py (.list l)) S := by
  subst h
  have e : (S ++ [Cell.lst l])[S.length]? = some (.lst l) := by simp
  show (if S.length ≤ S.length then _ else _) = _
  rw [if_pos (Nat.le_refl _)]
  simp only [rd, e, List.take_left']
def kS1 (lo hi : mO) (env : Ev) : D → Store → R D := fun x S1 => bd (lo env S1) fun l S2 => bd (hi env S2) fun h S3 => gSl x l h S3
def kS2 (x : D) (hi : mO) (env : Ev) : Option Int → Store → R D := fun l S2 => bd (hi env S2) fun h S3 => gSl x l h S3
def kS3 (x : D) (l : Option Int) : Option Int → Store → R D := fun h S3 => gSl x l h S3
theorem mSl_ap {m : M D} {lo hi : mO} : mSl m lo hi env S = bd (m env S) (kS1 lo hi env) := rfl
theorem kS1_ap {lo hi : mO} {x : D} : kS1 lo hi env x S = bd (lo env S) (kS2 x hi env) := rfl
theorem kS2_ap {hi : mO} {x : D} {l : Option Int} : kS2 x hi env l S = bd (hi env S) (kS3 x l) := rfl
theorem kS3_ap {x : D} {l h : Option Int} : kS3 x l h S = gSl x l h S := rfl
theorem oNone_ap : oNone env S = .ok none S := rfl
def kO : D → Store → R (Option Int) := fun x S1 => match x with
  | .py (.int i) => .ok (some i) S1
  | _ => .no
theorem oSome_ap {m : M D} : oSome m env S = bd (m env S) kO := rfl
theorem kO_ap {i : Int} : kO (.py (.int i)) S = .ok (some i) S := rfl
def kH1 (g g' : D → D → Store → R D) (b c : M D) (env : Ev) : D → Store → R D := fun x S1 => bd (b env S1) fun y S2 => bd (g x y S2) fun k S3 => match k with
  | .py (.bool true) => bd (c env S3) fun z S4 => g' y z S4
  | .py (.bool false) => .ok (.py (.bool false)) S3
  | _ => .no
def kH2 (g g' : D → D → Store → R D) (x : D) (c : M D) (env : Ev) : D → Store → R D := fun y S2 => bd (g x y S2) fun k S3 => match k with
  | .py (.bool true) => bd (c env S3) fun z S4 => g' y z S4
  | .py (.bool false) => .ok (.py (.bool false)) S3
  | _ => .no
def kH3 (g' : D → D → Store → R D) (y : D) (c : M D) (env : Ev) : D → Store → R D := fun k S3 => match k with
  | .py (.bool true) => bd (c env S3) fun z S4 => g' y z S4
  | .py (.bool false) => .ok (.py (.bool false)) S3
  | _ => .no
theorem mChain_ap {g g' : D → D → Store → R D} {a b c : M D} : mChain g g' a b c env S = bd (a env S) (kH1 g g' b c env) := rfl
theorem kH1_ap {g g' : D → D → Store → R D} {b c : M D} {x : D} : kH1 g g' b c env x S = bd (b env S) (kH2 g g' x c env) := rfl
theorem kH2_ap {g g' : D → D → Store → R D} {c : M D} {x y : D} : kH2 g g' x c env y S = bd (g x y S) (kH3 g' y c env) := rfl
theorem kH3_t {g' : D → D → Store → R D} {c : M D} {y : D} : kH3 g' y c env (.py (.bool true)) S = bd (c env S) (k2' g' y) := rfl
theorem kH3_f {g' : D → D → Store → R D} {c : M D} {y : D} : kH3 g' y c env (.py (.bool false)) S = .ok (.py (.bool false)) S := rfl
theorem kH3_b {g' : D → D → Store → R D} {c : M D} {y z : D} {k j : Bool} (h : c env S = .ok z S) (h2 : g' y z S = .ok (.py (.bool j)) S) : kH3 g' y c env (.py (.bool k)) S = .ok (.py (.bool (k && j))) S := by
  cases k
  · rfl
  · rw [kH3_t, h]; exact h2
def kMe (c : D → Store → Bool) (g : D → List D → Store → R D) (as : M (List D)) (env : Ev) : D → Store → R D := fun x S1 => if c x S1 then bd (as env S1) fun xs S2 => g x xs S2 else .no
def kMe2 (g : D → List D → Store → R D) (x : D) : List D → Store → R D := fun xs S2 => g x xs S2
theorem mMeth_ap {c : D → Store → Bool} {g : D → List D → Store → R D} {o : M D} {as : M (List D)} : mMeth c g o as env S = bd (o env S) (kMe c g as env) := rfl
theorem kMe_ap {c : D → Store → Bool} {g : D → List D → Store → R D} {as : M (List D)} {x : D} (h : c x S = true) : kMe c g as env x S = bd (as env S) (kMe2 g x) := if_pos h
theorem kMe2_ap {g : D → List D → Store → R D} {x : D} {xs : List D} : kMe2 g x xs S = g x xs S := rfl
/-! statements -/
def seqK (r : RS) (b : MS) : RS := match r with
  | .go .nx env1 S1 => b env1 S1
  | r => r
theorem sSeq_ap {a b : MS} : sSeq a b env S = seqK (a env S) b := rfl
theorem seqK_nx {b : MS} : seqK (.go .nx env S) b = b env S := rfl
theorem seqK_rt {b : MS} {d : D} : seqK (.go (.rt d) env S) b = .go (.rt d) env S := rfl
theorem seqK_bk {b : MS} : seqK (.go .bk env S) b = .go .bk env S := rfl
theorem seqK_ct {b : MS} : seqK (.go .ct env S) b = .go .ct env S := rfl
theorem seqK_exc {b : MS} {x : Ex} : seqK (.exc x env S) b = .exc x env S := rfl
theorem seqK_no {b : MS} : seqK .no b = .no := rfl
theorem sNx_ap : sNx env S = .go .nx env S := rfl
theorem sNo_ap : sNo env S = .no := rfl
def kE (env : Ev) : α → Store → RS := fun _ S1 => .go .nx env S1
theorem sEx_ap {m : M D} : sEx m env S = bs (m env S) env (kE env) := rfl
theorem kE_ap {d : α} : kE env d S = .go .nx env S := rfl
def kR (env : Ev) : D → Store → RS := fun d S1 => .go (.rt d) env S1
theorem sRet_ap {m : M D} : sRet m env S = bs (m env S) env (kR env) := rfl
theorem kR_ap {d : D} : kR env d S = .go (.rt d) env S := rfl
theorem sRetN_ap : sRetN env S = .go (.rt (.py .none)) env S := rfl
def kSI (a b : MS) (env : Ev) : Bool → Store → RS := fun k S1 => if k then a env S1 else b env S1
theorem sIf_ap {c : M Bool} {a b : MS} : sIf c a b env S = bs (c env S) env (kSI a b env) := rfl
theorem kSI_t {a b : MS} : kSI a b env true S = a env S := rfl
theorem kSI_f {a b : MS} : kSI a b env false S = b env S := rfl
theorem kSI_c {a b : MS} {k : Bool} : kSI a b env k S = if k = true then a env S else b env S := by cases k <;> rfl
def asK : R Ev → RS
  | .ok env1 S2 => .go .nx env1 S2
  | _ => .no
def kA (a : MG) (env : Ev) : D → Store → RS := fun d S1 => match a d env S1 with
  | .ok env1 S2 => .go .nx env1 S2
  | _ => .no
theorem sAs_ap {m : M D} {a : MG} : sAs m a env S = bs (m env S) env (kA a env) := rfl
theorem kA_ap {a : MG} {d : D} : kA a env d S = asK (a d env S) := rfl
theorem asK_ok : asK (.ok env S) = .go .nx env S := rfl
theorem aN_ap {i : Nat} {d : D} : aN i d env S = .ok (env.set i (some d)) S := rfl
theorem kA_N {i : Nat} {d : D} : kA (aN i) env d S = .go .nx (env.set i (some d)) S := rfl
theorem asNil_ap : asNil [] env S = .ok env S := rfl
def kG (r : List D → Ev → Store → R Ev) (ds : List D) : Ev → Store → R Ev := fun env1 S1 => r ds env1 S1
theorem asCons_ap {a : MG} {r : List D → Ev → Store → R Ev} {d : D} {ds : List D} : asCons a r (d :: ds) env S = bd (a d env S) (kG r ds) := rfl
theorem kG_ap {r : List D → Ev → Store → R Ev} {ds : List D} : kG r ds env S = r ds env S := rfl
theorem aT_ap {n : Nat} {r : List D → Ev → Store → R Ev} {l : List PyData} (h : l.length = n) : aT n r (.py (.tuple l)) env S = r (l.map D.py) env S := if_pos h
def kU1 (mi : M D) (d : D) (env : Ev) : D → Store → R Ev := fun o S1 => bdN (mi env S1) fun i S2 => subPut o i d env S2
def kU2 (o d : D) (env : Ev) : D → Store → R Ev := fun i S2 => subPut o i d env S2
theorem asSub_ap {mo mi : M D} {d : D} : asSub mo mi d env S = bdN (mo env S) (kU1 mi d env) := rfl
theorem kU1_ap {mi : M D} {o d : D} : kU1 mi d env o S = bdN (mi env S) (kU2 o d env) := rfl
theorem kU2_ap {o i d : D} : kU2 o d env i S = subPut o i d env S := rfl
def kF (a : MG) (b : MS) (env : Ev) : List PyData → Store → RS := fun ps S1 => forS a b ps env S1
theorem sFor_ap {m : M (List PyData)} {a : MG} {b : MS} : sFor m a b env S = bs (m env S) env (kF a b env) := rfl
theorem kF_ap {a : MG} {b : MS} {ps : List PyData} : kF a b env ps S = forS a b ps env S := rfl
def kP2 (i j : Nat) (env : Ev) : List D → Store → RS := fun ds S1 => match ds with
  | [d, e] => .go .nx ((env.set i (some d)).set j (some e)) S1
  | _ => .no
theorem sPar_ap {i j : Nat} {m : M (List D)} : sPar i j m env S = bs (m env S) env (kP2 i j env) := rfl
theorem kP2_ap {i j : Nat} {d e : D} : kP2 i j env [d, e] S = .go .nx ((env.set i (some d)).set j (some e)) S := rfl
def kP3 (i j l : Nat) (env : Ev) : List D → Store → RS := fun ds S1 => match ds with
  | [d, e, f] => .go .nx (((env.set i (some d)).set j (some e)).set l (some f)) S1
  | _ => .no
theorem sPar3_ap {i j l : Nat} {m : M (List D)} : sPar3 i j l m env S = bs (m env S) env (kP3 i j l env) := rfl
theorem kP3_ap {i j l : Nat} {d e f : D} : kP3 i j l env [d, e, f] S = .go .nx (((env.set i (some d)).set j (some e)).set l (some f)) S := rfl
theorem runF_ap {N : Nat} {b : MS} {ds : List D} : runF N b ds S = frR S.length (endB (b (ds.map some ++ List.replicate (N - ds.length) none) S)) := rfl
theorem runM_ap {N : Nat} {b : MS} {ds : List D} : runM N b ds S = endB (b (ds.map some ++ List.replicate (N - ds.length) none) S) := rfl
theorem endB_nx : endB (.go .nx env S) = .ok (.py .none) S := rfl
theorem endB_rt {d : D} : endB (.go (.rt d) env S) = .ok d S := rfl
theorem endB_exc {x : Ex} : endB (.exc x env S) = .exc x S := rfl
theorem endB_no : endB .no = .no := rfl
/-! values -/
theorem gAdd_i {i j : Int} : gAdd (.py (.int i)) (.py (.int j)) S = .ok (.py (.int (i + j))) S := rfl
theorem gAdd_t {a b : List PyData} (h : fits (a.length + b.length) = true) : gAdd (.py (.tuple a)) (.py (.tuple b)) S = .ok (.py (.tuple (a ++ b))) S := if_pos h
theorem gAdd_l {a b : List PyData} (h : fits (a.length + b.length) = true) : gAdd (.py (.list a)) (.py (.list b)) S = .ok (.loc S.length) (S ++ [.lst (a ++ b)]) := if_pos h
theorem gSub_i {i j : Int} : gSub (.py (.int i)) (.py (.int j)) S = .ok (.py (.int (i - j))) S := rfl
theorem gLtI_i {i j : Int} : gLtI (.py (.int i)) (.py (.int j)) S = .ok (.py (.bool (decide (i < j)))) S := rfl
theorem gLe_i {i j : Int} : gLe (.py (.int i)) (.py (.int j)) S = .ok (.py (.bool (decide (i ≤ j)))) S := rfl
theorem gGt_i {i j : Int} : gGt (.py (.int i)) (.py (.int j)) S = .ok (.py (.bool (decide (j < i)))) S := rfl
theorem gGe_i {i j : Int} : gGe (.py (.int i)) (.py (.int j)) S = .ok (.py (.bool (decide (j ≤ i)))) S := rfl
theorem gMul_i {i j : Int} (h : cMul i j = true) : gMul (.py (.int i)) (.py (.int j)) S = .ok (.py (.int (i * j))) S := if_pos h
theorem cMul_r {i j : Int} (h : j.natAbs < 18446744073709551616) : cMul i j = true := by unfold cMul; rw [decide_eq_true h, Bool.or_true]
theorem cMul_l {i j : Int} (h : i.natAbs < 18446744073709551616) : cMul i j = true := by unfold cMul; rw [decide_eq_true h, Bool.true_or]
theorem gDiv_i {i j : Int} (h : cDiv i j = true) : gDiv (.py (.int i)) (.py (.int j)) S = .ok (.py (.int (i / j))) S := if_pos h
theorem cDiv_s {i j : Int} (h : 0 < j) (h2 : j < 1125899906842624) : cDiv i j = true := by
  unfold cDiv
  rw [decide_eq_true h, Bool.true_and]
  apply decide_eq_true
  have h3 : j.natAbs < 2 ^ 50 := by omega
  have h4 := (Nat.log2_lt (by omega : j.natAbs ≠ 0)).mpr h3
  omega
theorem gMod_i {i j : Int} (h : 0 < j) : gMod (.py (.int i)) (.py (.int j)) S = .ok (.py (.int (i % j))) S := if_pos (decide_eq_true h)
theorem gNeg_i {i : Int} : gNeg (.py (.int i)) S = .ok (.py (.int (-i))) S := rfl
theorem gIntF_i {i : Int} : gIntF [.py (.int i)] S = .ok (.py (.int i)) S := rfl
theorem gAbs_i {i : Int} : gAbs [.py (.int i)] S = .ok (.py (.int (if i < 0 then -i else i))) S := rfl
theorem gMax2_i {i j : Int} : gMax2 [.py (.int i), .py (.int j)] S = .ok (.py (.int (if j > i then j else i))) S := rfl
theorem gMin2_i {i j : Int} : gMin2 [.py (.int i), .py (.int j)] S = .ok (.py (.int (if j < i then j else i))) S := rfl
theorem gLen_l {l : List PyData} : gLen [.py (.list l)] S = .ok (.py (.int l.length)) S := rfl
theorem gLen_t {l : List PyData} : gLen [.py (.tuple l)] S = .ok (.py (.int l.length)) S := rfl
theorem gTupF_l {l : List PyData} : gTupF [.py (.list l)] S = .ok (.py (.tuple l)) S := rfl
theorem gTupF_t {l : List PyData} : gTupF [.py (.tuple l)] S = .ok (.py (.tuple l)) S := rfl
theorem gLstF_l {l : List PyData} (h : fits l.length = true) : gLstF [.py (.list l)] S = .ok (.loc S.length) (S ++ [.lst l]) := if_pos h
theorem gLstF_t {l : List PyData} (h : fits l.length = true) : gLstF [.py (.tuple l)] S = .ok (.loc S.length) (S ++ [.lst l]) := if_pos h
theorem gIx_l {l : List PyData} {i : Int} {p : PyData} (h : atI l i = some p) : gIx (.py (.list l)) (.py (.int i)) S = .ok (.py p) S := by show retP (atI l i) S = _; rw [h]; rfl
theorem gIx_t {l : List PyData} {i : Int} {p : PyData} (h : atI l i = some p) : gIx (.py (.tuple l)) (.py (.int i)) S = .ok (.py p) S := by show retP (atI l i) S = _; rw [h]; rfl
theorem gIx_loc {n : Nat} {l : List PyData} {i : Int} {p : PyData} (h1 : S[n]? = some (.lst l)) (h : atI l i = some p) : gIx (.loc n) (.py (.int i)) S = .ok (.py p) S := by
  unfold gIx rd
  simp only [h1, h]
  rfl
theorem gSl_t {l : List PyData} {lo hi : Option Int} : gSl (.py (.tuple l)) lo hi S = .ok (.py (.tuple (cutL l lo hi))) S := rfl
theorem gSl_l {l : List PyData} {lo hi : Option Int} (h : fits l.length = true) : gSl (.py (.list l)) lo hi S = .ok (.loc S.length) (S ++ [.lst (cutL l lo hi)]) := if_pos h
theorem gRev_t {l : List PyData} : gRev (.py (.tuple l)) S = .ok (.py (.tuple l.reverse)) S := rfl
theorem gEq_p {p q : PyData} (h1 : SeqAt.shaped p = true) (h2 : SeqAt.shaped q = true) : gEq (.py p) (.py q) S = .ok (.py (.bool (PyData.eqv p q))) S := by
  show (if (SeqAt.shaped p && SeqAt.shaped q) = true then _ else _) = _
  rw [h1, h2]; rfl
theorem gNe_p {p q : PyData} (h1 : SeqAt.shaped p = true) (h2 : SeqAt.shaped q = true) : gNe (.py p) (.py q) S = .ok (.py (.bool (!PyData.eqv p q))) S := by
  show (if (SeqAt.shaped p && SeqAt.shaped q) = true then _ else _) = _
  rw [h1, h2]; rfl
theorem gIs_b {a b : Bool} : gIs (.py (.bool a)) (.py (.bool b)) S = .ok (.py (.bool (decide (a = b)))) S := rfl
theorem gIsNot_b {a b : Bool} : gIsNot (.py (.bool a)) (.py (.bool b)) S = .ok (.py (.bool (!decide (a = b)))) S := rfl
theorem gIs_n {p : PyData} : gIs (.py p) (.py .none) S = .ok (.py (.bool (isNone (.py p)))) S := rfl
theorem gIsNot_n {p : PyData} : gIsNot (.py p) (.py .none) S = .ok (.py (.bool (!isNone (.py p)))) S := rfl
theorem gTupD_p {ds : List D} {ps : List PyData} (h : pys ds = some ps) (h2 : fits ps.length = true) : gTupD ds S = .ok (.py (.tuple ps)) S := by unfold gTupD; rw [h]; exact if_pos h2
theorem gLstD_p {ds : List D} {ps : List PyData} (h : pys ds = some ps) (h2 : fits ps.length = true) : gLstD ds S = .ok (.loc S.length) (S ++ [.lst ps]) := by unfold gLstD; rw [h]; exact if_pos h2
theorem pys_nil : pys [] = some [] := rfl
theorem pys_cons {p : PyData} {ds : List D} {ps : List PyData} (h : pys ds = some ps) : pys (.py p :: ds) = some (p :: ps) := by show (pys ds).map (p :: ·) = _; rw [h]; rfl
theorem gRange1_i {j : Int} (h : inR j = true) : gRange1 [.py (.int j)] S = .ok (rangeL 0 j.toNat) S := if_pos h
theorem gRange2_i {i j : Int} (h : inR i = true) (h2 : inR j = true) : gRange2 [.py (.int i), .py (.int j)] S = .ok (rangeL i (j - i).toNat) S := if_pos (by rw [h, h2]; rfl)
theorem gZip_t {a b : List PyData} : gZip [.py (.tuple a), .py (.tuple b)] S = .ok (zipT a b) S := rfl
/-! facts about data -/
theorem toInts_of : ∀ ns : List Int, toInts (ofInts ns) = some ns
  | [] => rfl
  | n :: r => by show (toInts (ofInts r)).map (n :: ·) = _; rw [toInts_of r]; rfl
theorem gSortI_p {ns : List Int} (h : fits ns.length = true) : gSortI [.py (.list (ofInts ns))] S = .ok (.loc S.length) (S ++ [.lst (ofInts (isort ns))]) := by
  unfold gSortI rd
  simp only [toInts_of]
  exact if_pos h
theorem gSum_p {ns : List Int} : gSum [.py (.list (ofInts ns))] S = .ok (.py (.int ns.sum)) S := by
  unfold gSum rd
  simp only [toInts_of]
def ofBools (l : List Bool) : List PyData := l.map PyData.bool
theorem toBools_of : ∀ ns : List Bool, toBools (ofBools ns) = some ns
  | [] => rfl
  | n :: r => by show (toBools (ofBools r)).map (n :: ·) = _; rw [toBools_of r]; rfl
theorem gAll_p {ns : List Bool} : gAll [.py (.list (ofBools ns))] S = .ok (.py (.bool (ns.all id))) S := by
  unfold gAll rd
  simp only [toBools_of]
theorem gAny_p {ns : List Bool} : gAny [.py (.list (ofBools ns))] S = .ok (.py (.bool (ns.any id))) S := by
  unfold gAny rd
  simp only [toBools_of]
theorem ofInts_len (l : List Int) : (ofInts l).length = l.length := by unfold ofInts; rw [List.length_map]
theorem atI_ofInts (l : List Int) (i : Int) : atI (ofInts l) i = (atI l i).map PyData.int := by
  unfold atI
  rw [ofInts_len]
  cases ixN l.length i with
  | none => rfl
  | some j => show (ofInts l)[j]? = (l[j]?).map PyData.int; unfold ofInts; rw [List.getElem?_map]
theorem cutL_map {α β : Type} (f : α → β) (l : List α) (lo hi : Option Int) : cutL (l.map f) lo hi = (cutL l lo hi).map f := by
  unfold cutL
  rw [List.length_map, List.map_take, List.map_drop]
theorem cutL_ofInts (l : List Int) (lo hi : Option Int) : cutL (ofInts l) lo hi = ofInts (cutL l lo hi) := cutL_map _ _ _ _
theorem ofInts_append (l m : List Int) : ofInts l ++ ofInts m = ofInts (l ++ m) := by unfold ofInts; rw [List.map_append]
theorem ofInts_rev (l : List Int) : (ofInts l).reverse = ofInts l.reverse := by unfold ofInts; rw [List.map_reverse]
theorem eqv_ii (i j : Int) : PyData.eqv (.int i) (.int j) = decide (i = j) := by
  simp only [PyData.eqv]
  by_cases h : i = j
  · subst h; simp
  · rw [decide_eq_false h]; exact beq_eq_false_iff_ne.mpr h
theorem eqvAll_ints : ∀ l m : List Int, PyData.eqvAll (ofInts l) (ofInts m) = decide (l = m)
  | [], [] => rfl
  | [], _ :: _ => rfl
  | _ :: _, [] => rfl
  | a :: l, b :: m => by
    show (PyData.eqv (.int a) (.int b) && PyData.eqvAll (ofInts l) (ofInts m)) = _
    rw [eqv_ii, eqvAll_ints l m]
    by_cases h1 : a = b <;> by_cases h2 : l = m <;> simp [h1, h2]
theorem eqv_tt (l m : List PyData) : PyData.eqv (.tuple l) (.tuple m) = PyData.eqvAll l m := by simp only [PyData.eqv]
theorem eqv_ll (l m : List PyData) : PyData.eqv (.list l) (.list m) = PyData.eqvAll l m := by simp only [PyData.eqv]
theorem eqv_rows (l m : List Int) : PyData.eqv (.tuple (ofInts l)) (.tuple (ofInts m)) = decide (l = m) := by rw [eqv_tt, eqvAll_ints]
/-- d is data of lists and tuples, at most so deep -/
def shp (n : Nat) (d : PyData) : Bool := d.canLay0 && decide (d.depth ≤ n)
theorem shaped_of {n : Nat} {d : PyData} (h : shp n d = true) (hn : n ≤ 64 := by omega) : SeqAt.shaped d = true := by
  unfold shp at h
  unfold SeqAt.shaped
  rw [Bool.and_eq_true] at h ⊢
  exact ⟨h.1, decide_eq_true (Nat.le_trans (of_decide_eq_true h.2) hn)⟩
theorem lay_ints : ∀ l : List Int, PyData.canLayAll0 (ofInts l) = true
  | [] => rfl
  | i :: r => by show (PyData.canLay0 (.int i) && PyData.canLayAll0 (ofInts r)) = true; rw [lay_ints r]; rfl
theorem depth_ints : ∀ l : List Int, PyData.depthAll (ofInts l) = 0
  | [] => rfl
  | i :: r => by show max (PyData.depth (.int i)) (PyData.depthAll (ofInts r)) = 0; rw [depth_ints r]; rfl
theorem shp_int (n : Nat) (i : Int) : shp n (.int i) = true := by simp [shp, PyData.canLay0, PyData.depth]
theorem shp_row (l : List Int) : shp 1 (.tuple (ofInts l)) = true := by
  simp only [shp, PyData.canLay0, PyData.depth, lay_ints, depth_ints]
  rfl
end
end PX

end P_PXE
section P_PXL
set_option maxHeartbeats 4000000
/-! loops and cuts -/
namespace PX
open PySem L2
theorem fits_le {n : Nat} (h : n ≤ 16777216) : fits n = true := decide_eq_true h
theorem inR_of {i : Int} (h1 : -4611686018427387904 ≤ i) (h2 : i < 4611686018427387904) : inR i = true := by
  unfold inR
  rw [decide_eq_true h1, decide_eq_true h2]; rfl
theorem forS_nx {a : MG} {b : MS} {p : PyData} {ps : List PyData} {env env1 env2 : Ev} {S S1 S2 : Store} (h1 : a (.py p) env S = .ok env1 S1) (h2 : b env1 S1 = .go .nx env2 S2) : forS a b (p :: ps) env S = forS a b ps env2 S2 := by
  simp only [forS, h1, h2]
theorem forS_rt {a : MG} {b : MS} {p : PyData} {ps : List PyData} {env env1 env2 : Ev} {S S1 S2 : Store} {d : D} (h1 : a (.py p) env S = .ok env1 S1) (h2 : b env1 S1 = .go (.rt d) env2 S2) : forS a b (p :: ps) env S = .go (.rt d) env2 S2 := by
  simp only [forS, h1, h2]
theorem sSeq_nx {a b : MS} {env env1 : Ev} {S S1 : Store} (h : a env S = .go .nx env1 S1) : sSeq a b env S = b env1 S1 := by
  rw [sSeq_ap, h, seqK_nx]
/-- a loop by what holds ahead of each turn -/
theorem forS_inv {a : MG} {b : MS} (P : List PyData → Ev → Store → Prop) (hs : ∀ p ps env S, P (p :: ps) env S → ∃ env1 S1, a (.py p) env S = .ok env1 S1 ∧ ∃ env2 S2, b env1 S1 = .go .nx env2 S2 ∧ P ps env2 S2) : ∀ ps env S, P ps env S → ∃ env' S', forS a b ps env S = .go .nx env' S' ∧ P [] env' S'
  | [], env, S, h => ⟨env, S, rfl, h⟩
  | p :: ps, env, S, h => by
    obtain ⟨env1, S1, e1, env2, S2, e2, h2⟩ := hs p ps env S h
    obtain ⟨env', S', e3, h3⟩ := forS_inv P hs ps env2 S2 h2
    refine ⟨env', S', ?_, h3⟩
    simp only [forS, e1, e2, e3]
/-- a loop over a row, which changes only what is held: the row so far -/
theorem forS_fold {a : MG} {b : MS} {α : Type} (E : α → Ev → Prop) (T : Store) (f : PyData → α → α) (hs : ∀ p env x, E x env → ∃ env1, a (.py p) env T = .ok env1 T ∧ ∃ env2, b env1 T = .go .nx env2 T ∧ E (f p x) env2) : ∀ ps env x, E x env → ∃ env', forS a b ps env T = .go .nx env' T ∧ E (ps.foldl (fun x p => f p x) x) env'
  | [], env, x, h => ⟨env, rfl, h⟩
  | p :: ps, env, x, h => by
    obtain ⟨env1, e1, env2, e2, h2⟩ := hs p env x h
    obtain ⟨env', e3, h3⟩ := forS_fold E T f hs ps env2 (f p x) h2
    refine ⟨env', ?_, h3⟩
    simp only [forS, e1, e2, e3]
/-- a while by a measure -/
theorem whS_inv {c : M Bool} {b : MS} (P : Nat → Ev → Store → Prop) (Q : Ev → Store → Prop)
    (hs : ∀ n env S, P n env S → (c env S = .ok false S ∧ Q env S) ∨ (c env S = .ok true S ∧ ∃ m env2 S2, m < n ∧ b env S = .go .nx env2 S2 ∧ P m env2 S2)) : ∀ (fu n : Nat) env S, n < fu → P n env S → ∃ env' S', whS c b fu env S = .go .nx env' S' ∧ Q env' S'
  | 0, n, env, S, hn, h => absurd hn (Nat.not_lt_zero _)
  | fu + 1, n, env, S, hn, h => by
    rcases hs n env S h with ⟨e, q⟩ | ⟨e, m, env2, S2, hm, e2, h2⟩
    · exact ⟨env, S, by simp only [whS, e]; rfl, q⟩
    · obtain ⟨env', S', e3, h3⟩ := whS_inv P Q hs fu m env2 S2 (by omega) h2
      exact ⟨env', S', by simp only [whS, e, e2, e3]; rfl, h3⟩
/-- a comprehension whose parts leave the store -/
theorem lcGo_pure {n : Nat} {env : Ev} {a : MG} {mt : M Bool} {me : M D} {E : PyData → Ev} {t : PyData → Bool} {f : PyData → PyData} : ∀ (ps acc : List PyData) (T : Store), T.length = n → acc.length + ps.length ≤ 16777216 → (∀ p ∈ ps, ∀ S, a (.py p) env S = .ok (E p) S) → (∀ p ∈ ps, ∀ S, mt (E p) S = .ok (t p) S) → (∀ p ∈ ps, t p = true → ∀ S, me (E p) S = .ok (.py (f p)) S) → lcGo n env a mt me ps (T ++ [.lst acc]) = .ok (.loc n) (T ++ [.lst (acc ++ (ps.filter t).map f)])
  | [], acc, T, hn, hl, h1, h2, h3 => by simp [lcGo]
  | p :: ps, acc, T, hn, hl, h1, h2, h3 => by
    have ih := fun acc hl => lcGo_pure (t := t) (f := f) ps acc T hn hl (fun q hq => h1 q (.tail _ hq)) (fun q hq => h2 q (.tail _ hq)) (fun q hq => h3 q (.tail _ hq))
    have e1 := h1 p (.head _)
    have e2 := h2 p (.head _)
    simp only [List.length_cons] at hl
    unfold lcGo
    rw [e1]; simp only [bdN]; rw [e2]
    cases ht : t p with
    | false =>
      simp only [Bool.false_eq_true, if_false]
      rw [ih acc (by omega), List.filter_cons_of_neg (by rw [ht]; exact Bool.false_ne_true)]
    | true =>
      simp only [if_true]
      rw [h3 p (.head _) ht]
      have e4 : lcPut n (f p) (T ++ [Cell.lst acc]) = .ok () (T ++ [.lst (acc ++ [f p])]) := by
        subst hn
        have e : (T ++ [Cell.lst acc])[T.length]? = some (.lst acc) := by simp
        unfold lcPut
        simp only [e, fits_le (by omega : acc.length + 1 ≤ 16777216), if_true]
        simp
      simp only []
      rw [e4]
      simp only []
      rw [ih (acc ++ [f p]) (by rw [List.length_append]; simp only [List.length_cons, List.length_nil]; omega), List.filter_cons_of_pos ht]
      simp
theorem mLc_pure {vs : List Nat} {mi : M (List PyData)} {a : MG} {mt : M Bool} {me : M D} {env : Ev} {S : Store} (E : PyData → Ev) (t : PyData → Bool) (f : PyData → PyData) {ps : List PyData} (hi : mi env S = .ok ps S) (hl : ps.length ≤ 16777216) (h1 : ∀ p ∈ ps, ∀ S, a (.py p) (wipeE env vs) S = .ok (E p) S) (h2 : ∀ p ∈ ps, ∀ S, mt (E p) S = .ok (t p) S) (h3 : ∀ p ∈ ps, t p = true → ∀ S, me (E p) S = .ok (.py (f p)) S) : mLc vs mi a mt me env S = .ok (.loc S.length) (S ++ [.lst ((ps.filter t).map f)]) := by
  unfold mLc
  rw [hi]
  show lcGo S.length (wipeE env vs) a mt me ps (S ++ [.lst []]) = _
  rw [lcGo_pure ps [] S rfl (by simpa using hl) h1 h2 h3]
  rfl
theorem mLc_all {vs : List Nat} {mi : M (List PyData)} {a : MG} {me : M D} {env : Ev} {S : Store} (E : PyData → Ev) (f : PyData → PyData) {ps : List PyData} (hi : mi env S = .ok ps S) (hl : ps.length ≤ 16777216) (h1 : ∀ p ∈ ps, ∀ S, a (.py p) (wipeE env vs) S = .ok (E p) S) (h3 : ∀ p ∈ ps, ∀ S, me (E p) S = .ok (.py (f p)) S) : mLc vs mi a mYes me env S = .ok (.loc S.length) (S ++ [.lst (ps.map f)]) := by
  have h := mLc_pure (mt := mYes) E (fun _ => true) f hi hl h1 (fun _ _ _ => rfl) (fun p hp _ => h3 p hp)
  rw [List.filter_eq_self.mpr (fun _ _ => rfl)] at h
  exact h
/-! cuts -/
theorem cutL_to {α : Type} (l : List α) (k : Nat) : cutL l none (some (k : Int)) = l.take k := by
  unfold cutL
  rw [HT.sIx_none, HT.sIx_nat, List.drop_zero, Nat.sub_zero]
  by_cases h : k ≤ l.length
  · rw [Nat.min_eq_left h]
  · rw [Nat.min_eq_right (by omega), List.take_of_length_le (Nat.le_refl _), List.take_of_length_le (by omega)]
theorem cutL_from {α : Type} (l : List α) (k : Nat) : cutL l (some (k : Int)) none = l.drop k := by
  unfold cutL
  rw [HT.sIx_none, HT.sIx_nat, List.take_of_length_le (by rw [List.length_drop]; omega)]
  by_cases h : k ≤ l.length
  · rw [Nat.min_eq_left h]
  · rw [Nat.min_eq_right (by omega), List.drop_length, List.drop_of_length_le (by omega)]
theorem cutL_mid {α : Type} (l : List α) (k m : Nat) (h : k ≤ m) (h2 : m ≤ l.length) : cutL l (some (k : Int)) (some (m : Int)) = (l.drop k).take (m - k) := by
  unfold cutL
  rw [HT.sIx_nat, HT.sIx_nat, Nat.min_eq_left h2, Nat.min_eq_left (by omega)]
theorem atI_nat {α : Type} (l : List α) (k : Nat) (h : k < l.length) : atI l (k : Int) = some l[k] := by
  unfold atI ixN
  rw [if_pos (by omega), if_pos (by omega), Int.toNat_natCast]
  show l[k]? = _
  exact List.getElem?_eq_getElem h
theorem atI_last {α : Type} (l : List α) (h : l ≠ []) : atI l (-1) = some (l.getLast h) := by
  have h1 : 0 < l.length := List.length_pos_iff.mpr h
  unfold atI ixN
  rw [if_neg (by omega), if_pos (by omega), List.getLast_eq_getElem]
  have e : (-1 + (l.length : Int)).toNat = l.length - 1 := by omega
  rw [e]
  show l[l.length - 1]? = _
  exact List.getElem?_eq_getElem _
end PX

end P_PXL
section P_A
set_option maxHeartbeats 4000000
namespace LW
open PySem PySem.Spec PyProof.Rows L2 PX
abbrev wf : Nat := 1000000
/-- _law_cup(_law_script); slots 0 _law_script, 1 _law_cell -/
def b__law_cup : MS :=
  (sSeq (sAs (mCall gAbs (mCons (m2 gIx (mFr (m2 gAdd (mFr (mCall gLstF (mCons (mV 0) mNil))) (mFr (mCall gLstD (mCons (mK (.int 0)) mNil))))) (mK (.int 0))) mNil)) (aN 1))
  (sRet (mCall gLstD (mCons (mIf (mB (m2 gGe (mV 1) (m2 gPow (mK (.int 10)) (mK (.int 18))))) (m2 gDiv (mV 1) (mK (.int 37))) (mK (.int 0))) (mCons (m2 gAdd (m2 gMod (mCall gIntF (mCons (m2 gAdd (m2 gMul (mV 1) (mK (.int 239))) (mK (.int 1913))) mNil)) (mK (.int 2077503509))) (mK (.int 127))) mNil)))))
def F__law_cup : List D → Store → R D := runM 2 b__law_cup
/-- _law_roll(_law_cup_here, _law_many); slots 0 _law_cup_here, 1 _law_many, 2 _law_found, 3 _law_deep -/
def b__law_roll : MS :=
  (sSeq (sIf (mB (m2 gGt (m2 gIx (mV 0) (mK (.int 0))) (mK (.int 0)))) (sSeq (sAs (m2 gMod (mCall gIntF (mCons (m2 gIx (mV 0) (mK (.int 0))) mNil)) (mV 1)) (aN 2))
  (sSeq (sAs (m2 gDiv (m2 gIx (mV 0) (mK (.int 0))) (mV 1)) (asSub (mV 0) (mK (.int 0))))
  (sRet (mV 2)))) sNx)
  (sSeq (sAs (m2 gMod (mCall gIntF (mCons (m2 gAdd (m2 gMul (m2 gIx (mV 0) (mK (.int 1))) (mK (.int 30949))) (mK (.int 7919))) mNil)) (mK (.int 2147483497))) (asSub (mV 0) (mK (.int 1))))
  (sSeq (sAs (m2 gMod (mCall gIntF (mCons (m2 gMul (m2 gIx (mV 0) (mK (.int 1))) (m2 gAdd (m2 gIx (mV 0) (mK (.int 1))) (mK (.int 191)))) mNil)) (mK (.int 2147483587))) (aN 3))
  (sRet (m2 gMod (mCall gIntF (mCons (m2 gDiv (mV 3) (mK (.int 761))) mNil)) (mV 1))))))
def F__law_roll : List D → Store → R D := runF 4 b__law_roll
/-- _law_some(_law_cup_here, _law_things); slots 0 _law_cup_here, 1 _law_things -/
def b__law_some : MS :=
  (sRet (m2 gIx (mV 1) (mCall F__law_roll (mCons (mV 0) (mCons (mCall gLen (mCons (mV 1) mNil)) mNil)))))
def F__law_some : List D → Store → R D := runF 2 b__law_some
/-- _law_folds(_law_cup_here, _law_most); slots 0 _law_cup_here, 1 _law_most, 2 _law_many, 3 _law_found, 4 _law_step, 5 _law_way, 6 _law_turn -/
def b__law_folds : MS :=
  (sSeq (sAs (mCall F__law_roll (mCons (mV 0) (mCons (m2 gAdd (mV 1) (mK (.int 1))) mNil))) (aN 2))
  (sSeq (sPar 3 4 (mCons (mCall gTupD (mCons (m2 gSub (mCall F__law_roll (mCons (mV 0) (mCons (mK (.int 15)) mNil))) (mK (.int 7))) mNil)) (mCons (m2 gAdd (mK (.int 1)) (mCall F__law_roll (mCons (mV 0) (mCons (mK (.int 4)) mNil)))) mNil)))
  (sSeq (whS (mB (m2 gLtI (mCall gLen (mCons (mV 3) mNil)) (mV 2)))
    (sSeq (sAs (mCall F__law_roll (mCons (mV 0) (mCons (mK (.int 8)) mNil))) (aN 5))
  (sSeq (sIf (mB (m2 gGt (mV 5) (mK (.int 3)))) (sAs (mCall F__law_some (mCons (mV 0) (mCons (mFr (mCall gLstD (mCons (mK (.int 1)) (mCons (mK (.int 2)) (mCons (mK (.int 3)) (mCons (mK (.int 4)) (mCons (mK (.int 6)) (mCons (mK (.int 7)) (mCons (mK (.int 10)) mNil))))))))) mNil))) (aN 4)) sNx)
  (sSeq (sAs (mCall F__law_some (mCons (mV 0) (mCons (mFr (mCall gLstD (mCons (mV 4) (mCons (m1 gNeg (mV 4)) (mCons (mV 4) (mCons (mIf (mB (m2 gEq (mV 5) (mK (.int 0)))) (mK (.int 0)) (m1 gNeg (mV 4))) mNil)))))) mNil))) (aN 6))
  (sAs (m2 gAdd (mV 3) (mCall gTupD (mCons (mFr (m2 gAdd (m2 gIx (mV 3) (m1 gNeg (mK (.int 1)))) (mV 6))) mNil))) (aN 3))))) wf)
  (sRet (mFr (mSl (mV 3) oNone (oSome (mV 2))))))))
def F__law_folds : List D → Store → R D := runF 7 b__law_folds
/-- _law_some_folds(_law_cup_here, _law_most); slots 0 _law_cup_here, 1 _law_most, 2 _law_found -/
def b__law_some_folds : MS :=
  (sSeq (sAs (mCall F__law_folds (mCons (mV 0) (mCons (mV 1) mNil))) (aN 2))
  (sRet (mIf (mB (m2 gNe (mV 2) (mCall gTupD mNil))) (mV 2) (mCall gTupD (mCons (m2 gSub (mCall F__law_roll (mCons (mV 0) (mCons (mK (.int 15)) mNil))) (mK (.int 7))) mNil)))))
def F__law_some_folds : List D → Store → R D := runF 3 b__law_some_folds
/-- is_tuple_up_to(value, most); slots 0 value, 1 most -/
def b_is_tuple_up_to : MS :=
  (sRet (mAnd (mCall (gIsI "tuple") (mCons (mV 0) (mCons (fun _ S => .ok (.raw (.ty "tuple")) S) mNil))) (m2 gLe (mCall gLen (mCons (mV 0) mNil)) (mV 1))))
def F_is_tuple_up_to : List D → Store → R D := runF 2 b_is_tuple_up_to
/-- is_whole(value); slots 0 value -/
def b_is_whole : MS :=
  (sRet (mAnd (mCall (gIsI "int") (mCons (mV 0) (mCons (fun _ S => .ok (.raw (.ty "int")) S) mNil))) (mNot (mCall (gIsI "bool") (mCons (mV 0) (mCons (fun _ S => .ok (.raw (.ty "bool")) S) mNil))))))
def F_is_whole : List D → Store → R D := runF 1 b_is_whole
/-- is_from_to(value, least, greatest); slots 0 value, 1 least, 2 greatest -/
def b_is_from_to : MS :=
  (sRet (mAnd (mCall F_is_whole (mCons (mV 0) mNil)) (mChain gLe gLe (mV 1) (mV 0) (mV 2))))
def F_is_from_to : List D → Store → R D := runF 3 b_is_from_to
/-- is_crease(value); slots 0 value -/
def b_is_crease : MS :=
  (sRet (mCall F_is_from_to (mCons (mV 0) (mCons (m1 gNeg (mK (.int 1000000))) (mCons (mK (.int 1000000)) mNil)))))
def F_is_crease : List D → Store → R D := runF 1 b_is_crease
/-- fits_folds(value); slots 0 value, 1 item -/
def b_fits_folds : MS :=
  (sRet (mAnd (mCall F_is_tuple_up_to (mCons (mV 0) (mCons (mK (.int 12)) mNil))) (mCall gAll (mCons (mFr (mLc [1] (mItems (mV 0)) (aN 1) mYes (mCall F_is_crease (mCons (mV 1) mNil)))) mNil))))
def F_fits_folds : List D → Store → R D := runF 2 b_fits_folds
/-- check_folds(value); slots 0 value -/
def b_check_folds : MS :=
  (sIf (mNotT (mB (mCall F_fits_folds (mCons (mV 0) mNil)))) sNo sNx)
def F_check_folds : List D → Store → R D := runF 1 b_check_folds
/-- do_move(row, move); slots 0 row, 1 move, 2 kind, 3 first, 4 last, 5 stretch, 6 both, 7 changed, 8 crease -/
def b_do_move : MS :=
  (sSeq (sAs (mV 1) (aT 3 (asCons (aN 2) (asCons (aN 3) (asCons (aN 4) asNil)))))
  (sSeq (sAs (mFr (mSl (mV 0) (oSome (mV 3)) (oSome (m2 gAdd (mV 4) (mK (.int 1)))))) (aN 5))
  (sSeq (sIf (mB (m2 gEq (mV 2) (mK (.str "turn")))) (sSeq (sAs (mFr (m2 gAdd (m2 gIx (mV 0) (mV 3)) (m2 gIx (mV 0) (mV 4)))) (aN 6))
  (sAs (mFr (mLc [8] (mItems (mFr (m1 gRev (mV 5)))) (aN 8) mYes (m2 gSub (mV 6) (mV 8)))) (aN 7))) (sAs (mFr (mLc [8] (mItems (mV 5)) (aN 8) mYes (m2 gSub (m2 gMul (mK (.int 2)) (m2 gIx (mV 0) (mV 3))) (mV 8)))) (aN 7)))
  (sRet (m2 gAdd (m2 gAdd (mFr (mSl (mV 0) oNone (oSome (mV 3)))) (mCall gTupF (mCons (mV 7) mNil))) (mFr (mSl (mV 0) (oSome (m2 gAdd (mV 4) (mK (.int 1)))) oNone)))))))
def F_do_move : List D → Store → R D := runF 9 b_do_move
/-- is_move(row, value); slots 0 row, 1 value, 2 kind, 3 first, 4 last -/
def b_is_move : MS :=
  (sSeq (sIf (mOrT (mNotT (mB (mCall (gIsI "tuple") (mCons (mV 1) (mCons (fun _ S => .ok (.raw (.ty "tuple")) S) mNil))))) (mB (m2 gNe (mCall gLen (mCons (mV 1) mNil)) (mK (.int 3))))) (sRet (mK (.bool false))) sNx)
  (sSeq (sAs (mV 1) (aT 3 (asCons (aN 2) (asCons (aN 3) (asCons (aN 4) asNil)))))
  (sSeq (sIf (mOrT (mNotT (mB (mCall F_is_from_to (mCons (mV 4) (mCons (mK (.int 0)) (mCons (m2 gSub (mCall gLen (mCons (mV 0) mNil)) (mK (.int 1))) mNil)))))) (mNotT (mB (mCall F_is_from_to (mCons (mV 3) (mCons (mK (.int 0)) (mCons (m2 gSub (mV 4) (mK (.int 1))) mNil))))))) (sRet (mK (.bool false))) sNx)
  (sRet (mOr (m2 gEq (mV 2) (mK (.str "turn"))) (mAnd (m2 gEq (mV 2) (mK (.str "mirror"))) (m2 gEq (m2 gIx (mV 0) (mV 3)) (m2 gIx (mV 0) (mV 4)))))))))
def F_is_move : List D → Store → R D := runF 5 b_is_move
/-- is_road(folds, beside, value); slots 0 folds, 1 beside, 2 value, 3 row, 4 move -/
def b_is_road : MS :=
  (sSeq (sEx (mCall F_check_folds (mCons (mV 0) mNil)))
  (sSeq (sEx (mCall F_check_folds (mCons (mV 1) mNil)))
  (sSeq (sIf (mNotT (mB (mCall F_is_tuple_up_to (mCons (mV 2) (mCons (mK (.int 200)) mNil))))) (sRet (mK (.bool false))) sNx)
  (sSeq (sAs (mV 0) (aN 3))
  (sSeq (sFor (mItems (mV 2)) (aN 4)
    (sSeq (sIf (mNotT (mB (mCall F_is_move (mCons (mV 3) (mCons (mV 4) mNil))))) (sRet (mK (.bool false))) sNx)
  (sAs (mCall F_do_move (mCons (mV 3) (mCons (mV 4) mNil))) (aN 3))))
  (sRet (m2 gEq (mV 3) (mV 1))))))))
def F_is_road : List D → Store → R D := runF 5 b_is_road
/-- _law_moves(_law_folds_here); slots 0 _law_folds_here, 1 _law_found, 2 _law_first, 3 _law_last -/
def b__law_moves : MS :=
  (sSeq (sAs (mFr (mCall gLstD mNil)) (aN 1))
  (sSeq (sFor (mCallI gRange1 (mCons (mCall gLen (mCons (mV 0) mNil)) mNil)) (aN 2)
    (sFor (mCallI gRange2 (mCons (m2 gAdd (mV 2) (mK (.int 1))) (mCons (mCall gLen (mCons (mV 0) mNil)) mNil))) (aN 3)
    (sAs (mFr (m2 gAdd (mFr (m2 gAdd (mV 1) (mFr (mCall gLstD (mCons (mCall gTupD (mCons (mK (.str "turn")) (mCons (mV 2) (mCons (mV 3) mNil)))) mNil))))) (mIf (mB (m2 gEq (m2 gIx (mV 0) (mV 2)) (m2 gIx (mV 0) (mV 3)))) (mFr (mCall gLstD (mCons (mCall gTupD (mCons (mK (.str "mirror")) (mCons (mV 2) (mCons (mV 3) mNil)))) mNil))) (mFr (mCall gLstD mNil))))) (aN 1))))
  (sRet (mV 1))))
def F__law_moves : List D → Store → R D := runF 4 b__law_moves
/-- moved_row(folds, move); slots 0 folds, 1 move -/
def b_moved_row : MS :=
  (sSeq (sEx (mCall F_check_folds (mCons (mV 0) mNil)))
  (sSeq (sIf (mNotT (mB (mCall F_is_move (mCons (mV 0) (mCons (mV 1) mNil))))) sNo sNx)
  (sRet (mCall F_do_move (mCons (mV 0) (mCons (mV 1) mNil))))))
def F_moved_row : List D → Store → R D := runF 2 b_moved_row
/-- _law_moved(_law_folds_here, _law_move); slots 0 _law_folds_here, 1 _law_move, 2 _law_word, 3 _law_first, 4 _law_last, 5 _law_found, 6 _law_at -/
def b__law_moved : MS :=
  (sSeq (sAs (mV 1) (aT 3 (asCons (aN 2) (asCons (aN 3) (asCons (aN 4) asNil)))))
  (sSeq (sAs (mCall gLstF (mCons (mV 0) mNil)) (aN 5))
  (sSeq (sFor (mCallI gRange2 (mCons (mV 3) (mCons (m2 gAdd (mV 4) (mK (.int 1))) mNil))) (aN 6)
    (sIf (mB (m2 gEq (mV 2) (mK (.str "turn")))) (sAs (m2 gSub (mFr (m2 gAdd (m2 gIx (mV 0) (mV 3)) (m2 gIx (mV 0) (mV 4)))) (m2 gIx (mV 0) (m2 gSub (mFr (m2 gAdd (mV 3) (mV 4))) (mV 6)))) (asSub (mV 5) (mV 6))) (sAs (m2 gSub (m2 gMul (mK (.int 2)) (m2 gIx (mV 0) (mV 3))) (m2 gIx (mV 0) (mV 6))) (asSub (mV 5) (mV 6)))))
  (sRet (mCall gTupF (mCons (mV 5) mNil))))))
def F__law_moved : List D → Store → R D := runF 7 b__law_moved
/-- _law_steps(_law_folds_here); slots 0 _law_folds_here, 1 _law_at -/
def b__law_steps : MS :=
  (sRet (mFr (mCall gSortI (mCons (mFr (mLc [1] (mCallI gRange1 (mCons (m2 gSub (mCall gLen (mCons (mV 0) mNil)) (mK (.int 1))) mNil)) (aN 1) mYes (mCall gAbs (mCons (m2 gSub (m2 gIx (mV 0) (m2 gAdd (mV 1) (mK (.int 1)))) (m2 gIx (mV 0) (mV 1))) mNil)))) mNil))))
def F__law_steps : List D → Store → R D := runF 2 b__law_steps
/-- _law_form(_law_folds_here); slots 0 _law_folds_here -/
def b__law_form : MS :=
  (sRet (mIf (mB (m2 gNe (mV 0) (mCall gTupD mNil))) (mCall gTupD (mCons (m2 gIx (mV 0) (mK (.int 0))) (mCons (m2 gIx (mV 0) (m1 gNeg (mK (.int 1)))) (mCons (mCall gTupF (mCons (mCall F__law_steps (mCons (mV 0) mNil)) mNil)) mNil)))) (mCall gTupD mNil)))
def F__law_form : List D → Store → R D := runF 1 b__law_form
/-- steps_between(folds); slots 0 folds, 1 crease, 2 further -/
def b_steps_between : MS :=
  (sRet (mCall gTupF (mCons (mFr (mCall gSortI (mCons (mFr (mLc [1, 2] (mCallI gZip (mCons (mV 0) (mCons (mFr (mSl (mV 0) (oSome (mK (.int 1))) oNone)) mNil))) (aT 2 (asCons (aN 1) (asCons (aN 2) asNil))) mYes (mCall gAbs (mCons (m2 gSub (mV 2) (mV 1)) mNil)))) mNil))) mNil)))
def F_steps_between : List D → Store → R D := runF 3 b_steps_between
/-- form_between(folds); slots 0 folds -/
def b_form_between : MS :=
  (sRet (mCall gTupD (mCons (m2 gIx (mV 0) (mK (.int 0))) (mCons (m2 gIx (mV 0) (m1 gNeg (mK (.int 1)))) (mCons (mCall F_steps_between (mCons (mV 0) mNil)) mNil)))))
def F_form_between : List D → Store → R D := runF 1 b_form_between
/-- do_the_same(folds, beside); slots 0 folds, 1 beside -/
def b_do_the_same : MS :=
  (sSeq (sIf (mOrT (mB (m2 gEq (mCall gLen (mCons (mV 0) mNil)) (mK (.int 0)))) (mB (m2 gEq (mCall gLen (mCons (mV 1) mNil)) (mK (.int 0))))) (sRet (m2 gEq (mCall gLen (mCons (mV 0) mNil)) (mCall gLen (mCons (mV 1) mNil)))) sNx)
  (sRet (m2 gEq (mCall F_form_between (mCons (mV 0) mNil)) (mCall F_form_between (mCons (mV 1) mNil)))))
def F_do_the_same : List D → Store → R D := runF 2 b_do_the_same
/-- rows_alike(folds, beside); slots 0 folds, 1 beside -/
def b_rows_alike : MS :=
  (sSeq (sEx (mCall F_check_folds (mCons (mV 0) mNil)))
  (sSeq (sEx (mCall F_check_folds (mCons (mV 1) mNil)))
  (sRet (mCall F_do_the_same (mCons (mV 0) (mCons (mV 1) mNil))))))
def F_rows_alike : List D → Store → R D := runF 2 b_rows_alike
/-- _law_right(_law_cup_here, _law_folds_here); slots 0 _law_cup_here, 1 _law_folds_here, 2 _law_moves_here, 3 _law_move, 4 _law_there, 5 _law_road, 6 _law_here, 7 _law_turn, 8 _law_other -/
def b__law_right : MS :=
  (sSeq (sAs (mCall F__law_moves (mCons (mV 1) mNil)) (aN 2))
  (sSeq (sFor (mItems (mV 2)) (aN 3)
    (sSeq (sAs (mCall F_moved_row (mCons (mV 1) (mCons (mV 3) mNil))) (aN 4))
  (sSeq (sIf (mOrT (mB (m2 gNe (mV 4) (mCall F__law_moved (mCons (mV 1) (mCons (mV 3) mNil))))) (mOrT (mB (m2 gNe (mCall F__law_form (mCons (mV 4) mNil)) (mCall F__law_form (mCons (mV 1) mNil)))) (mB (m2 gIsNot (mCall F_rows_alike (mCons (mV 1) (mCons (mV 4) mNil))) (mK (.bool true)))))) (sRet (mK (.bool false))) sNx)
  (sIf (mOrT (mB (m2 gIsNot (mCall F_is_road (mCons (mV 1) (mCons (mV 4) (mCons (mCall gTupD (mCons (mV 3) mNil)) mNil)))) (mK (.bool true)))) (mB (m2 gNe (mCall F_moved_row (mCons (mV 4) (mCons (mV 3) mNil))) (mV 1)))) (sRet (mK (.bool false))) sNx))))
  (sSeq (sPar 5 6 (mCons (mCall gTupD mNil) (mCons (mV 1) mNil)))
  (sSeq (sFor (mCallI gRange1 (mCons (mIf (mB (m2 gNe (mV 2) (mFr (mCall gLstD mNil)))) (mK (.int 6)) (mK (.int 0))) mNil)) (aN 7)
    (sSeq (sAs (mCall F__law_some (mCons (mV 0) (mCons (mCall F__law_moves (mCons (mV 6) mNil)) mNil))) (aN 3))
  (sPar 5 6 (mCons (m2 gAdd (mV 5) (mCall gTupD (mCons (mV 3) mNil))) (mCons (mCall F__law_moved (mCons (mV 6) (mCons (mV 3) mNil))) mNil)))))
  (sSeq (sIf (mOrT (mB (m2 gIsNot (mCall F_is_road (mCons (mV 1) (mCons (mV 6) (mCons (mV 5) mNil)))) (mK (.bool true)))) (mB (m2 gNe (m2 gIs (mCall F_is_road (mCons (mV 1) (mCons (mV 1) (mCons (mV 5) mNil)))) (mK (.bool true))) (m2 gEq (mV 6) (mV 1))))) (sRet (mK (.bool false))) sNx)
  (sSeq (sAs (mCall F__law_folds (mCons (mV 0) (mCons (mK (.int 4)) mNil))) (aN 8))
  (sRet (m2 gEq (mCall F_is_road (mCons (mV 1) (mCons (mV 8) (mCons (mCall gTupD mNil) mNil)))) (m2 gEq (mV 1) (mV 8))))))))))
def F__law_right : List D → Store → R D := runF 9 b__law_right
/-- law(_law_script); slots 0 _law_script, 1 _law_cup_here, 2 _law_turn, 3 _law_folds_here, 4 _law_bad, 5 _law_value, 6 _law_move -/
def b_law : MS :=
  (sSeq (sAs (mCall F__law_cup (mCons (mV 0) mNil)) (aN 1))
  (sSeq (sFor (mCallI gRange1 (mCons (mK (.int 3)) mNil)) (aN 2)
    (sSeq (sIf (mNotT (mB (mCall F__law_right (mCons (mV 1) (mCons (mCall F__law_folds (mCons (mV 1) (mCons (mK (.int 5)) mNil))) mNil))))) (sRet (mK (.bool false))) sNx)
  (sSeq (sAs (mCall F__law_some_folds (mCons (mV 1) (mCons (mK (.int 3)) mNil))) (aN 3))
  (sIf (mNotT (mB (mCall F__law_right (mCons (mV 1) (mCons (mFr (m2 gAdd (mV 3) (mFr (m1 gRev (mV 3))))) mNil))))) (sRet (mK (.bool false))) sNx))))
  (sSeq (sIf (mOrT (mB (m2 gNe (mCall F_moved_row (mCons (mCall gTupD (mCons (mK (.int 0)) (mCons (mK (.int 1)) (mCons (mK (.int 3)) mNil)))) (mCons (mCall gTupD (mCons (mK (.str "turn")) (mCons (mK (.int 0)) (mCons (mK (.int 2)) mNil)))) mNil))) (mCall gTupD (mCons (mK (.int 0)) (mCons (mK (.int 2)) (mCons (mK (.int 3)) mNil)))))) (mB (m2 gNe (mCall F_moved_row (mCons (mCall gTupD (mCons (mK (.int 0)) (mCons (mK (.int 1)) (mCons (mK (.int 3)) (mCons (mK (.int 0)) mNil))))) (mCons (mCall gTupD (mCons (mK (.str "mirror")) (mCons (mK (.int 0)) (mCons (mK (.int 3)) mNil)))) mNil))) (mCall gTupD (mCons (mK (.int 0)) (mCons (m1 gNeg (mK (.int 1))) (mCons (m1 gNeg (mK (.int 3))) (mCons (mK (.int 0)) mNil)))))))) (sRet (mK (.bool false))) sNx)
  (sSeq (sAs (mFr (mCall gLstD (mCons (mK .none) (mCons (mFr (mCall gLstD (mCons (mK (.str "turn")) (mCons (mK (.int 0)) (mCons (mK (.int 1)) mNil))))) (mCons (mCall gTupD (mCons (mK (.str "turn")) (mCons (mK (.int 0)) mNil))) (mCons (mCall gTupD (mCons (mK (.str "turn")) (mCons (mK (.int 1)) (mCons (mK (.int 1)) mNil)))) (mCons (mCall gTupD (mCons (mK (.str "turn")) (mCons (mK (.int 1)) (mCons (mK (.int 0)) mNil)))) (mCons (mCall gTupD (mCons (mK (.str "turn")) (mCons (mK (.int 0)) (mCons (mK (.int 3)) mNil)))) (mCons (mCall gTupD (mCons (mK (.str "turn")) (mCons (m1 gNeg (mK (.int 1))) (mCons (mK (.int 1)) mNil)))) mNil))))))))) (aN 4))
  (sSeq (sAs (mFr (m2 gAdd (mV 4) (mFr (mCall gLstD (mCons (mCall gTupD (mCons (mK (.str "mirror")) (mCons (mK (.int 0)) (mCons (mK (.int 1)) mNil)))) (mCons (mCall gTupD (mCons (mK (.str "turn")) (mCons (mK (.bool false)) (mCons (mK (.int 1)) mNil)))) (mCons (mCall gTupD (mCons (mK (.str "Turn")) (mCons (mK (.int 0)) (mCons (mK (.int 1)) mNil)))) mNil))))))) (aN 4))
  (sSeq (sIf (mB (m2 gNe (mFr (mLc [6] (mItems (mV 4)) (aN 6) (mB (m2 gIsNot (mCall F_is_road (mCons (mCall gTupD (mCons (mK (.int 0)) (mCons (mK (.int 1)) (mCons (mK (.int 3)) mNil)))) (mCons (mCall gTupD (mCons (mK (.int 0)) (mCons (mK (.int 1)) (mCons (mK (.int 3)) mNil)))) (mCons (mCall gTupD (mCons (mV 6) (mCons (mV 6) mNil))) mNil)))) (mK (.bool false)))) (mV 6))) (mFr (mCall gLstD mNil)))) (sRet (mK (.bool false))) sNx)
  (sSeq (sAs (m2 gMul (mCall gTupD (mCons (mCall gTupD (mCons (mK (.str "turn")) (mCons (mK (.int 0)) (mCons (mK (.int 2)) mNil)))) mNil)) (mK (.int 200))) (aN 5))
  (sSeq (sIf (mOrT (mB (m2 gIsNot (mCall F_is_road (mCons (mCall gTupD (mCons (mK (.int 0)) (mCons (mK (.int 1)) (mCons (mK (.int 3)) mNil)))) (mCons (mCall gTupD (mCons (mK (.int 0)) (mCons (mK (.int 1)) (mCons (mK (.int 3)) mNil)))) (mCons (mV 5) mNil)))) (mK (.bool true)))) (mB (m2 gIsNot (mCall F_is_road (mCons (mCall gTupD (mCons (mK (.int 0)) (mCons (mK (.int 1)) (mCons (mK (.int 3)) mNil)))) (mCons (mCall gTupD (mCons (mK (.int 0)) (mCons (mK (.int 1)) (mCons (mK (.int 3)) mNil)))) (mCons (mFr (m2 gAdd (mV 5) (mFr (mSl (mV 5) oNone (oSome (mK (.int 2))))))) mNil)))) (mK (.bool false))))) (sRet (mK (.bool false))) sNx)
  (sSeq (sIf (mOrT (mB (m2 gIsNot (mCall F_is_road (mCons (mCall gTupD (mCons (mK (.int 0)) (mCons (mK (.int 1)) (mCons (mK (.int 3)) mNil)))) (mCons (mCall gTupD (mCons (mK (.int 0)) (mCons (mK (.int 1)) (mCons (mK (.int 3)) mNil)))) (mCons (mFr (mCall gLstF (mCons (mV 5) mNil))) mNil)))) (mK (.bool false)))) (mB (m2 gIsNot (mCall F_is_road (mCons (mCall gTupD (mCons (mK (.int 0)) (mCons (mK (.int 1)) (mCons (mK (.int 3)) mNil)))) (mCons (mCall gTupD (mCons (mK (.int 0)) (mCons (mK (.int 2)) (mCons (mK (.int 3)) mNil)))) (mCons (mFr (mSl (mV 5) oNone (oSome (mK (.int 3))))) mNil)))) (mK (.bool true))))) (sRet (mK (.bool false))) sNx)
  (sSeq (sIf (mB (m2 gIsNot (mCall F_is_road (mCons (mCall gTupD (mCons (mK (.int 0)) (mCons (mK (.int 2)) (mCons (mK (.int 1)) (mCons (mK (.int 3)) (mCons (mK (.int 2)) mNil)))))) (mCons (mCall gTupD (mCons (mK (.int 0)) (mCons (mK (.int 2)) (mCons (mK (.int 3)) (mCons (mK (.int 1)) (mCons (mK (.int 2)) mNil)))))) (mCons (mCall gTupD (mCons (mCall gTupD (mCons (mK (.str "mirror")) (mCons (mK (.int 1)) (mCons (mK (.int 4)) mNil)))) mNil)) mNil)))) (mK (.bool true)))) (sRet (mK (.bool false))) sNx)
  (sSeq (sIf (mB (m2 gIsNot (mCall F_is_road (mCons (mCall gTupD (mCons (mK (.int 0)) (mCons (mK (.int 2)) (mCons (mK (.int 1)) (mCons (mK (.int 3)) mNil))))) (mCons (mCall gTupD (mCons (mK (.int 0)) (mCons (mK (.int 2)) (mCons (mK (.int 1)) (mCons (mK (.int 3)) mNil))))) (mCons (mCall gTupD (mCons (mCall gTupD (mCons (mK (.str "mirror")) (mCons (mK (.int 0)) (mCons (mK (.int 3)) mNil)))) mNil)) mNil)))) (mK (.bool false)))) (sRet (mK (.bool false))) sNx)
  (sRet (mAnd (mCall F__law_right (mCons (mV 1) (mCons (mCall gTupD (mCons (mK (.int 0)) (mCons (mK (.int 1)) (mCons (mK (.int 3)) (mCons (mK (.int 0)) (mCons (mK (.int 0)) mNil)))))) mNil))) (mAnd (mCall F__law_right (mCons (mV 1) (mCons (mCall gTupD mNil) mNil))) (mAnd (mCall F__law_right (mCons (mV 1) (mCons (mCall gTupD (mCons (mK (.int 3)) (mCons (mK (.int 3)) (mCons (mK (.int 3)) mNil)))) mNil))) (mCall F__law_right (mCons (mV 1) (mCons (mCall gTupD (mCons (mK (.int 9)) mNil)) mNil))))))))))))))))))
end LW

end P_A
section P_P1
set_option maxHeartbeats 4000000
namespace LW
open PySem PySem.Spec PyProof.Rows L2 PX
abbrev RW (row : List Int) : D := .py (.tuple (ofInts row))
def kw (t : Bool) : PyData := if t then .str "turn" else .str "mirror"
def mvD (t : Bool) (f l : Nat) : PyData := .tuple [kw t, .int f, .int l]
def Mv := Bool × Nat × Nat
theorem F_whole (p : PyData) (S : Store) (h : ∀ l, p ≠ .dict l) : F_is_whole [.py p] S = .ok (.py (.bool (match p with | .int _ => true | _ => false))) S := by
  cases p with
  | dict l => exact absurd rfl (h l)
  | _ => simp [F_is_whole, runF, b_is_whole, sRet, bs, mAnd, bd, mCall, gIsI, mCons, mV, mNil, rd, isI, mNot, frR, endB]
theorem F_wholeI (i : Int) (S : Store) : F_is_whole [.py (.int i)] S = .ok (.py (.bool true)) S := F_whole (.int i) S (fun _ h => nomatch h)
theorem F_ft (i a b : Int) (S : Store) : F_is_from_to [.py (.int i), .py (.int a), .py (.int b)] S = .ok (.py (.bool (decide (a ≤ i) && decide (i ≤ b)))) S := by
  simp [F_is_from_to, runF, b_is_from_to, sRet, bs, mAnd, bd, mCall, mCons, mV, mNil, mChain, gLe, gI, frR, endB, F_whole]
  by_cases h : a ≤ i <;> simp [h]
theorem F_crease (i : Int) (S : Store) : F_is_crease [.py (.int i)] S = .ok (.py (.bool (decide (-1000000 ≤ i) && decide (i ≤ 1000000)))) S := by
  unfold F_is_crease
  rw [runF_ap]
  unfold b_is_crease
  simp -implicitDefEqProofs only [bd_ok, bd_no, bd_exc, bdN_ok, bs_ok, bs_exc, mV_ap, getV_ok, mK_ap, m1_ap, m2_ap, k2_ap, k2'_ap, mNil_ap, mCons_ap, kC1_ap, kC2_ap, mCall_ap, mCallI_ap, mItems_ap, gItems_l, gItems_t, mIf_ap, kIf_t, kIf_f, mCB_ap, mAndT_ap, mOrT_ap, mNotT_ap, kNot_ap, mAnd_ap, kAnd_t, kAnd_f, mOr_ap, kOr_t, kOr_f, mNot_ap, kNotV_ap, mB_ap, kB_ap, mFr_ap, frR_py, frR_no, frR_exc, mSl_ap, kS1_ap, kS2_ap, kS3_ap, oNone_ap, oSome_ap, kO_ap, mChain_ap, kH1_ap, kH2_ap, kH3_t, kH3_f, mMeth_ap, kMe2_ap, sSeq_ap, seqK_nx, seqK_rt, seqK_bk, seqK_ct, seqK_exc, seqK_no, sNx_ap, sNo_ap, sEx_ap, kE_ap, sRet_ap, kR_ap, sRetN_ap, sIf_ap, kSI_t, kSI_f, sAs_ap, kA_ap, asK_ok, aN_ap, kA_N, asNil_ap, asCons_ap, kG_ap, asSub_ap, kU1_ap, kU2_ap, sFor_ap, kF_ap, sPar_ap, kP2_ap, sPar3_ap, kP3_ap, endB_nx, endB_rt, endB_exc, endB_no, gAdd_i, gSub_i, gLtI_i, gLe_i, gGt_i, gGe_i, gNeg_i, gIntF_i, gAbs_i, gMax2_i, gMin2_i, gLen_l, gLen_t, gTupF_l, gTupF_t, gSl_t, gRev_t, gIs_b, gIsNot_b, gIs_n, gIsNot_n, pys_nil, gZip_t, List.getElem?_cons_zero, List.getElem?_cons_succ, List.set_cons_zero, List.set_cons_succ, List.map_cons, List.map_nil, List.length_cons, List.length_nil, List.cons_append, List.nil_append, Nat.reduceAdd, Nat.reduceSub, List.replicate_succ, List.replicate_zero, ofInts_len, wipeE, List.take_length, frR_new, decide_true, decide_false, Bool.not_true, Bool.not_false, F_ft, List.take_length]
theorem isI_t (l : List PyData) : isI (.tuple l) "tuple" = some true := rfl
theorem gIsI_tt (l : List PyData) (v : V) (S : Store) : gIsI "tuple" [.py (.tuple l), .raw v] S = .ok (.py (.bool true)) S := rfl
theorem F_upto (l : List PyData) (m : Int) (S : Store) : F_is_tuple_up_to [.py (.tuple l), .py (.int m)] S = .ok (.py (.bool (decide ((l.length : Int) ≤ m)))) S := by
  unfold F_is_tuple_up_to
  rw [runF_ap]
  unfold b_is_tuple_up_to
  simp -implicitDefEqProofs only [bd_ok, bd_no, bd_exc, bdN_ok, bs_ok, bs_exc, mV_ap, getV_ok, mK_ap, m1_ap, m2_ap, k2_ap, k2'_ap, mNil_ap, mCons_ap, kC1_ap, kC2_ap, mCall_ap, mCallI_ap, mItems_ap, gItems_l, gItems_t, mIf_ap, kIf_t, kIf_f, mCB_ap, mAndT_ap, mOrT_ap, mNotT_ap, kNot_ap, mAnd_ap, kAnd_t, kAnd_f, mOr_ap, kOr_t, kOr_f, mNot_ap, kNotV_ap, mB_ap, kB_ap, mFr_ap, frR_py, frR_no, frR_exc, mSl_ap, kS1_ap, kS2_ap, kS3_ap, oNone_ap, oSome_ap, kO_ap, mChain_ap, kH1_ap, kH2_ap, kH3_t, kH3_f, mMeth_ap, kMe2_ap, sSeq_ap, seqK_nx, seqK_rt, seqK_bk, seqK_ct, seqK_exc, seqK_no, sNx_ap, sNo_ap, sEx_ap, kE_ap, sRet_ap, kR_ap, sRetN_ap, sIf_ap, kSI_t, kSI_f, sAs_ap, kA_ap, asK_ok, aN_ap, kA_N, asNil_ap, asCons_ap, kG_ap, asSub_ap, kU1_ap, kU2_ap, sFor_ap, kF_ap, sPar_ap, kP2_ap, sPar3_ap, kP3_ap, endB_nx, endB_rt, endB_exc, endB_no, gAdd_i, gSub_i, gLtI_i, gLe_i, gGt_i, gGe_i, gNeg_i, gIntF_i, gAbs_i, gMax2_i, gMin2_i, gLen_l, gLen_t, gTupF_l, gTupF_t, gSl_t, gRev_t, gIs_b, gIsNot_b, gIs_n, gIsNot_n, pys_nil, gZip_t, List.getElem?_cons_zero, List.getElem?_cons_succ, List.set_cons_zero, List.set_cons_succ, List.map_cons, List.map_nil, List.length_cons, List.length_nil, List.cons_append, List.nil_append, Nat.reduceAdd, Nat.reduceSub, List.replicate_succ, List.replicate_zero, ofInts_len, wipeE, List.take_length, frR_new, decide_true, decide_false, Bool.not_true, Bool.not_false, gIsI_tt, List.take_length]
def InB (B : Int) (row : List Int) : Prop := ∀ c ∈ row, -B ≤ c ∧ c ≤ B
theorem take_same {α : Type} (S : List α) : S.take S.length = S := List.take_length
theorem F_fits (row : List Int) (S : Store) (hl : row.length ≤ 12) (hb : InB 1000000 row) : F_fits_folds [RW row] S = .ok (.py (.bool true)) S := by
  unfold F_fits_folds RW
  rw [runF_ap]
  unfold b_fits_folds
  have h12 : decide ((row.length : Int) ≤ 12) = true := decide_eq_true (by omega)
  have hc : ∀ S : Store, mLc [1] (mItems (mV 0)) (aN 1) mYes (mCall F_is_crease (mCons (mV 1) mNil)) [some (RW row), none] S = .ok (.loc S.length) (S ++ [.lst (ofBools (row.map fun _ => true))]) := by
    intro S
    rw [mLc_all (ps := ofInts row) (fun p => [some (RW row), some (.py p)]) (fun _ => .bool true)]
    · unfold ofBools ofInts; rw [List.map_map, List.map_map]; rfl
    · simp -implicitDefEqProofs only [bd_ok, bd_no, bd_exc, bdN_ok, bs_ok, bs_exc, mV_ap, getV_ok, mK_ap, m1_ap, m2_ap, k2_ap, k2'_ap, mNil_ap, mCons_ap, kC1_ap, kC2_ap, mCall_ap, mCallI_ap, mItems_ap, gItems_l, gItems_t, mIf_ap, kIf_t, kIf_f, mCB_ap, mAndT_ap, mOrT_ap, mNotT_ap, kNot_ap, mAnd_ap, kAnd_t, kAnd_f, mOr_ap, kOr_t, kOr_f, mNot_ap, kNotV_ap, mB_ap, kB_ap, mFr_ap, frR_py, frR_no, frR_exc, mSl_ap, kS1_ap, kS2_ap, kS3_ap, oNone_ap, oSome_ap, kO_ap, mChain_ap, kH1_ap, kH2_ap, kH3_t, kH3_f, mMeth_ap, kMe2_ap, sSeq_ap, seqK_nx, seqK_rt, seqK_bk, seqK_ct, seqK_exc, seqK_no, sNx_ap, sNo_ap, sEx_ap, kE_ap, sRet_ap, kR_ap, sRetN_ap, sIf_ap, kSI_t, kSI_f, sAs_ap, kA_ap, asK_ok, aN_ap, kA_N, asNil_ap, asCons_ap, kG_ap, asSub_ap, kU1_ap, kU2_ap, sFor_ap, kF_ap, sPar_ap, kP2_ap, sPar3_ap, kP3_ap, endB_nx, endB_rt, endB_exc, endB_no, gAdd_i, gSub_i, gLtI_i, gLe_i, gGt_i, gGe_i, gNeg_i, gIntF_i, gAbs_i, gMax2_i, gMin2_i, gLen_l, gLen_t, gTupF_l, gTupF_t, gSl_t, gRev_t, gIs_b, gIsNot_b, gIs_n, gIsNot_n, pys_nil, gZip_t, List.getElem?_cons_zero, List.getElem?_cons_succ, List.set_cons_zero, List.set_cons_succ, List.map_cons, List.map_nil, List.length_cons, List.length_nil, List.cons_append, List.nil_append, Nat.reduceAdd, Nat.reduceSub, List.replicate_succ, List.replicate_zero, ofInts_len, wipeE, List.take_length, frR_new, decide_true, decide_false, Bool.not_true, Bool.not_false]
    · rw [ofInts_len]; omega
    · intro p hp S; rfl
    · intro p hp S
      obtain ⟨c, hc, rfl⟩ := List.mem_map.mp hp
      have ⟨h1, h2⟩ := hb c hc
      simp -implicitDefEqProofs only [bd_ok, bd_no, bd_exc, bdN_ok, bs_ok, bs_exc, mV_ap, getV_ok, mK_ap, m1_ap, m2_ap, k2_ap, k2'_ap, mNil_ap, mCons_ap, kC1_ap, kC2_ap, mCall_ap, mCallI_ap, mItems_ap, gItems_l, gItems_t, mIf_ap, kIf_t, kIf_f, mCB_ap, mAndT_ap, mOrT_ap, mNotT_ap, kNot_ap, mAnd_ap, kAnd_t, kAnd_f, mOr_ap, kOr_t, kOr_f, mNot_ap, kNotV_ap, mB_ap, kB_ap, mFr_ap, frR_py, frR_no, frR_exc, mSl_ap, kS1_ap, kS2_ap, kS3_ap, oNone_ap, oSome_ap, kO_ap, mChain_ap, kH1_ap, kH2_ap, kH3_t, kH3_f, mMeth_ap, kMe2_ap, sSeq_ap, seqK_nx, seqK_rt, seqK_bk, seqK_ct, seqK_exc, seqK_no, sNx_ap, sNo_ap, sEx_ap, kE_ap, sRet_ap, kR_ap, sRetN_ap, sIf_ap, kSI_t, kSI_f, sAs_ap, kA_ap, asK_ok, aN_ap, kA_N, asNil_ap, asCons_ap, kG_ap, asSub_ap, kU1_ap, kU2_ap, sFor_ap, kF_ap, sPar_ap, kP2_ap, sPar3_ap, kP3_ap, endB_nx, endB_rt, endB_exc, endB_no, gAdd_i, gSub_i, gLtI_i, gLe_i, gGt_i, gGe_i, gNeg_i, gIntF_i, gAbs_i, gMax2_i, gMin2_i, gLen_l, gLen_t, gTupF_l, gTupF_t, gSl_t, gRev_t, gIs_b, gIsNot_b, gIs_n, gIsNot_n, pys_nil, gZip_t, List.getElem?_cons_zero, List.getElem?_cons_succ, List.set_cons_zero, List.set_cons_succ, List.map_cons, List.map_nil, List.length_cons, List.length_nil, List.cons_append, List.nil_append, Nat.reduceAdd, Nat.reduceSub, List.replicate_succ, List.replicate_zero, ofInts_len, wipeE, List.take_length, frR_new, decide_true, decide_false, Bool.not_true, Bool.not_false, F_crease, decide_eq_true h1, decide_eq_true h2, Bool.and_self]
  simp -implicitDefEqProofs only [bd_ok, bd_no, bd_exc, bdN_ok, bs_ok, bs_exc, mV_ap, getV_ok, mK_ap, m1_ap, m2_ap, k2_ap, k2'_ap, mNil_ap, mCons_ap, kC1_ap, kC2_ap, mCall_ap, mCallI_ap, mItems_ap, gItems_l, gItems_t, mIf_ap, kIf_t, kIf_f, mCB_ap, mAndT_ap, mOrT_ap, mNotT_ap, kNot_ap, mAnd_ap, kAnd_t, kAnd_f, mOr_ap, kOr_t, kOr_f, mNot_ap, kNotV_ap, mB_ap, kB_ap, mFr_ap, frR_py, frR_no, frR_exc, mSl_ap, kS1_ap, kS2_ap, kS3_ap, oNone_ap, oSome_ap, kO_ap, mChain_ap, kH1_ap, kH2_ap, kH3_t, kH3_f, mMeth_ap, kMe2_ap, sSeq_ap, seqK_nx, seqK_rt, seqK_bk, seqK_ct, seqK_exc, seqK_no, sNx_ap, sNo_ap, sEx_ap, kE_ap, sRet_ap, kR_ap, sRetN_ap, sIf_ap, kSI_t, kSI_f, sAs_ap, kA_ap, asK_ok, aN_ap, kA_N, asNil_ap, asCons_ap, kG_ap, asSub_ap, kU1_ap, kU2_ap, sFor_ap, kF_ap, sPar_ap, kP2_ap, sPar3_ap, kP3_ap, endB_nx, endB_rt, endB_exc, endB_no, gAdd_i, gSub_i, gLtI_i, gLe_i, gGt_i, gGe_i, gNeg_i, gIntF_i, gAbs_i, gMax2_i, gMin2_i, gLen_l, gLen_t, gTupF_l, gTupF_t, gSl_t, gRev_t, gIs_b, gIsNot_b, gIs_n, gIsNot_n, pys_nil, gZip_t, List.getElem?_cons_zero, List.getElem?_cons_succ, List.set_cons_zero, List.set_cons_succ, List.map_cons, List.map_nil, List.length_cons, List.length_nil, List.cons_append, List.nil_append, Nat.reduceAdd, Nat.reduceSub, List.replicate_succ, List.replicate_zero, ofInts_len, wipeE, List.take_length, frR_new, decide_true, decide_false, Bool.not_true, Bool.not_false, F_upto, h12, hc, frR_new, gAll_p, List.take_length]
  have : (List.map (fun _ => true) row).all id = true := by simp
  rw [this]
theorem F_check (row : List Int) (S : Store) (hl : row.length ≤ 12) (hb : InB 1000000 row) : F_check_folds [RW row] S = .ok (.py .none) S := by
  unfold F_check_folds
  rw [runF_ap]
  unfold b_check_folds
  simp -implicitDefEqProofs only [bd_ok, bd_no, bd_exc, bdN_ok, bs_ok, bs_exc, mV_ap, getV_ok, mK_ap, m1_ap, m2_ap, k2_ap, k2'_ap, mNil_ap, mCons_ap, kC1_ap, kC2_ap, mCall_ap, mCallI_ap, mItems_ap, gItems_l, gItems_t, mIf_ap, kIf_t, kIf_f, mCB_ap, mAndT_ap, mOrT_ap, mNotT_ap, kNot_ap, mAnd_ap, kAnd_t, kAnd_f, mOr_ap, kOr_t, kOr_f, mNot_ap, kNotV_ap, mB_ap, kB_ap, mFr_ap, frR_py, frR_no, frR_exc, mSl_ap, kS1_ap, kS2_ap, kS3_ap, oNone_ap, oSome_ap, kO_ap, mChain_ap, kH1_ap, kH2_ap, kH3_t, kH3_f, mMeth_ap, kMe2_ap, sSeq_ap, seqK_nx, seqK_rt, seqK_bk, seqK_ct, seqK_exc, seqK_no, sNx_ap, sNo_ap, sEx_ap, kE_ap, sRet_ap, kR_ap, sRetN_ap, sIf_ap, kSI_t, kSI_f, sAs_ap, kA_ap, asK_ok, aN_ap, kA_N, asNil_ap, asCons_ap, kG_ap, asSub_ap, kU1_ap, kU2_ap, sFor_ap, kF_ap, sPar_ap, kP2_ap, sPar3_ap, kP3_ap, endB_nx, endB_rt, endB_exc, endB_no, gAdd_i, gSub_i, gLtI_i, gLe_i, gGt_i, gGe_i, gNeg_i, gIntF_i, gAbs_i, gMax2_i, gMin2_i, gLen_l, gLen_t, gTupF_l, gTupF_t, gSl_t, gRev_t, gIs_b, gIsNot_b, gIs_n, gIsNot_n, pys_nil, gZip_t, List.getElem?_cons_zero, List.getElem?_cons_succ, List.set_cons_zero, List.set_cons_succ, List.map_cons, List.map_nil, List.length_cons, List.length_nil, List.cons_append, List.nil_append, Nat.reduceAdd, Nat.reduceSub, List.replicate_succ, List.replicate_zero, ofInts_len, wipeE, List.take_length, frR_new, decide_true, decide_false, Bool.not_true, Bool.not_false, F_fits row _ hl hb, Bool.not_true, List.take_length]

theorem shp_str (n : Nat) (s : Str) (h : PyData.strOk s = true) : shp n (.str s) = true := by simp [shp, PyData.canLay0, PyData.depth, h]
theorem ok_turn : PyData.strOk "turn" = true := by decide +kernel
theorem ok_mirror : PyData.strOk "mirror" = true := by decide +kernel
theorem shp_bool (n : Nat) (b : Bool) : shp n (.bool b) = true := by simp [shp, PyData.canLay0, PyData.depth]
theorem kw_shp (n : Nat) (t : Bool) : shp n (kw t) = true := by
  cases t
  · exact shp_str _ _ ok_mirror
  · exact shp_str _ _ ok_turn
theorem eqv_ss (a b : Str) : PyData.eqv (.str a) (.str b) = decide (a = b) := by
  simp only [PyData.eqv]
  by_cases h : a = b
  · subst h; simp
  · rw [decide_eq_false h]; exact beq_eq_false_iff_ne.mpr h
theorem kw_turn (t : Bool) (S : Store) : gEq (.py (kw t)) (.py (.str "turn")) S = .ok (.py (.bool t)) S := by
  rw [gEq_p (shaped_of (kw_shp 0 t)) (shaped_of (shp_str 0 _ ok_turn))]
  cases t
  · show R.ok (D.py (.bool (PyData.eqv (.str _) (.str _)))) S = _
    rw [eqv_ss, decide_eq_false (by decide)]
  · show R.ok (D.py (.bool (PyData.eqv (.str _) (.str _)))) S = _
    rw [eqv_ss, decide_eq_true rfl]
theorem kw_mirror (t : Bool) (S : Store) : gEq (.py (kw t)) (.py (.str "mirror")) S = .ok (.py (.bool (!t))) S := by
  rw [gEq_p (shaped_of (kw_shp 0 t)) (shaped_of (shp_str 0 _ ok_mirror))]
  cases t
  · show R.ok (D.py (.bool (PyData.eqv (.str _) (.str _)))) S = _
    rw [eqv_ss, decide_eq_true rfl]; rfl
  · show R.ok (D.py (.bool (PyData.eqv (.str _) (.str _)))) S = _
    rw [eqv_ss, decide_eq_false (by decide)]; rfl
theorem gEq_i (i j : Int) (S : Store) : gEq (.py (.int i)) (.py (.int j)) S = .ok (.py (.bool (decide (i = j)))) S := by
  rw [gEq_p (shaped_of (shp_int 0 i)) (shaped_of (shp_int 0 j)), eqv_ii]
theorem gNe_i (i j : Int) (S : Store) : gNe (.py (.int i)) (.py (.int j)) S = .ok (.py (.bool (!decide (i = j)))) S := by
  rw [gNe_p (shaped_of (shp_int 0 i)) (shaped_of (shp_int 0 j)), eqv_ii]
theorem gEq_r (a b : List Int) (S : Store) : gEq (RW a) (RW b) S = .ok (.py (.bool (decide (a = b)))) S := by
  rw [gEq_p (shaped_of (shp_row a)) (shaped_of (shp_row b)), eqv_rows]
theorem gNe_r (a b : List Int) (S : Store) : gNe (RW a) (RW b) S = .ok (.py (.bool (!decide (a = b)))) S := by
  rw [gNe_p (shaped_of (shp_row a)) (shaped_of (shp_row b)), eqv_rows]
theorem gIx_r (row : List Int) (k : Nat) (h : k < row.length) (S : Store) : gIx (.py (.tuple (ofInts row))) (.py (.int (k : Int))) S = .ok (.py (.int row[k])) S := gIx_t (by rw [atI_ofInts, atI_nat _ _ h]; rfl)
/-- a move of a row -/
def mv (t : Bool) (f l : Nat) (row : List Int) (x y : Int) : List Int :=
  row.take f ++ ((if t then (((row.drop f).take (l + 1 - f)).reverse).map (fun c => x + y - c) else ((row.drop f).take (l + 1 - f)).map (fun c => 2 * x - c)) ++ row.drop (l + 1))
theorem F_do (t : Bool) (f l : Nat) (row : List Int) (S : Store) (hf : f < l) (hl : l < row.length) (hn : row.length ≤ 100000) : F_do_move [RW row, .py (mvD t f l)] S = .ok (RW (mv t f l row row[f] row[l])) S := by
  unfold F_do_move mvD
  rw [runF_ap]
  unfold b_do_move
  have hfl : f < row.length := by omega
  have e3 := fun (env : Ev) (S : Store) => aT_ap (n := 3) (r := asCons (aN 2) (asCons (aN 3) (asCons (aN 4) asNil))) (l := [kw t, .int f, .int l]) (env := env) (S := S) rfl
  have el : ((l : Int) + 1) = ((l + 1 : Nat) : Int) := by omega
  have ec : cutL (ofInts row) (some (f : Int)) (some ((l + 1 : Nat) : Int)) = ofInts ((row.drop f).take (l + 1 - f)) := by rw [cutL_ofInts, cutL_mid _ _ _ (by omega) (by omega)]
  have ef : cutL (ofInts row) none (some (f : Int)) = ofInts (row.take f) := by rw [cutL_ofInts, cutL_to]
  have eg : cutL (ofInts row) (some ((l + 1 : Nat) : Int)) none = ofInts (row.drop (l + 1)) := by rw [cutL_ofInts, cutL_from]
  simp -implicitDefEqProofs only [bd_ok, bd_no, bd_exc, bdN_ok, bs_ok, bs_exc, mV_ap, getV_ok, mK_ap, m1_ap, m2_ap, k2_ap, k2'_ap, mNil_ap, mCons_ap, kC1_ap, kC2_ap, mCall_ap, mCallI_ap, mItems_ap, gItems_l, gItems_t, mIf_ap, kIf_t, kIf_f, mCB_ap, mAndT_ap, mOrT_ap, mNotT_ap, kNot_ap, mAnd_ap, kAnd_t, kAnd_f, mOr_ap, kOr_t, kOr_f, mNot_ap, kNotV_ap, mB_ap, kB_ap, mFr_ap, frR_py, frR_no, frR_exc, mSl_ap, kS1_ap, kS2_ap, kS3_ap, oNone_ap, oSome_ap, kO_ap, mChain_ap, kH1_ap, kH2_ap, kH3_t, kH3_f, mMeth_ap, kMe2_ap, sSeq_ap, seqK_nx, seqK_rt, seqK_bk, seqK_ct, seqK_exc, seqK_no, sNx_ap, sNo_ap, sEx_ap, kE_ap, sRet_ap, kR_ap, sRetN_ap, sIf_ap, kSI_t, kSI_f, sAs_ap, kA_ap, asK_ok, aN_ap, kA_N, asNil_ap, asCons_ap, kG_ap, asSub_ap, kU1_ap, kU2_ap, sFor_ap, kF_ap, sPar_ap, kP2_ap, sPar3_ap, kP3_ap, endB_nx, endB_rt, endB_exc, endB_no, gAdd_i, gSub_i, gLtI_i, gLe_i, gGt_i, gGe_i, gNeg_i, gIntF_i, gAbs_i, gMax2_i, gMin2_i, gLen_l, gLen_t, gTupF_l, gTupF_t, gSl_t, gRev_t, gIs_b, gIsNot_b, gIs_n, gIsNot_n, pys_nil, gZip_t, List.getElem?_cons_zero, List.getElem?_cons_succ, List.set_cons_zero, List.set_cons_succ, List.map_cons, List.map_nil, List.length_cons, List.length_nil, List.cons_append, List.nil_append, Nat.reduceAdd, Nat.reduceSub, List.replicate_succ, List.replicate_zero, ofInts_len, wipeE, List.take_length, frR_new, decide_true, decide_false, Bool.not_true, Bool.not_false, e3, el, ec, List.take_length, kw_turn]
  have key : ∀ (g : Int → Int) (b : M D) (env : Ev) (ps : List Int) (mi : M (List PyData)) (S : Store), mi env S = .ok (ofInts ps) S → ps.length ≤ 100000 → (∀ c S, b ((wipeE env [8]).set 8 (some (.py (.int c)))) S = .ok (.py (.int (g c))) S) → mLc [8] mi (aN 8) mYes b env S = .ok (.loc S.length) (S ++ [.lst (ofInts (ps.map g))]) := by
    intro g b env ps mi S h1 h2 h3
    rw [mLc_all (ps := ofInts ps) (fun p => (wipeE env [8]).set 8 (some (.py p))) (fun p => match p with | .int c => .int (g c) | p => p) h1 (by rw [ofInts_len]; omega)]
    · unfold ofInts; rw [List.map_map, List.map_map]; rfl
    · intro p hp S; rfl
    · intro p hp S
      obtain ⟨c, hc, rfl⟩ := List.mem_map.mp hp
      exact h3 c S
  have hs : ((row.drop f).take (l + 1 - f)).length ≤ 100000 := by rw [List.length_take, List.length_drop]; omega
  have done : ∀ (r : List Int), r.length = l + 1 - f → gAdd (.py (.tuple (ofInts (row.take f)))) (.py (.tuple (ofInts r))) S = .ok (.py (.tuple (ofInts (row.take f ++ r)))) S ∧ gAdd (.py (.tuple (ofInts (row.take f ++ r)))) (.py (.tuple (ofInts (row.drop (l + 1))))) S = .ok (RW (row.take f ++ (r ++ row.drop (l + 1)))) S := by
    intro r hr
    refine ⟨?_, ?_⟩
    · rw [gAdd_t (fits_le (by rw [ofInts_len, ofInts_len, List.length_take]; omega)), ofInts_append]
    · rw [gAdd_t (fits_le (by rw [ofInts_len, ofInts_len, List.length_append, List.length_take, List.length_drop]; omega)), ofInts_append, List.append_assoc]
  cases t with
  | true =>
    simp -implicitDefEqProofs only [bd_ok, bd_no, bd_exc, bdN_ok, bs_ok, bs_exc, mV_ap, getV_ok, mK_ap, m1_ap, m2_ap, k2_ap, k2'_ap, mNil_ap, mCons_ap, kC1_ap, kC2_ap, mCall_ap, mCallI_ap, mItems_ap, gItems_l, gItems_t, mIf_ap, kIf_t, kIf_f, mCB_ap, mAndT_ap, mOrT_ap, mNotT_ap, kNot_ap, mAnd_ap, kAnd_t, kAnd_f, mOr_ap, kOr_t, kOr_f, mNot_ap, kNotV_ap, mB_ap, kB_ap, mFr_ap, frR_py, frR_no, frR_exc, mSl_ap, kS1_ap, kS2_ap, kS3_ap, oNone_ap, oSome_ap, kO_ap, mChain_ap, kH1_ap, kH2_ap, kH3_t, kH3_f, mMeth_ap, kMe2_ap, sSeq_ap, seqK_nx, seqK_rt, seqK_bk, seqK_ct, seqK_exc, seqK_no, sNx_ap, sNo_ap, sEx_ap, kE_ap, sRet_ap, kR_ap, sRetN_ap, sIf_ap, kSI_t, kSI_f, sAs_ap, kA_ap, asK_ok, aN_ap, kA_N, asNil_ap, asCons_ap, kG_ap, asSub_ap, kU1_ap, kU2_ap, sFor_ap, kF_ap, sPar_ap, kP2_ap, sPar3_ap, kP3_ap, endB_nx, endB_rt, endB_exc, endB_no, gAdd_i, gSub_i, gLtI_i, gLe_i, gGt_i, gGe_i, gNeg_i, gIntF_i, gAbs_i, gMax2_i, gMin2_i, gLen_l, gLen_t, gTupF_l, gTupF_t, gSl_t, gRev_t, gIs_b, gIsNot_b, gIs_n, gIsNot_n, pys_nil, gZip_t, List.getElem?_cons_zero, List.getElem?_cons_succ, List.set_cons_zero, List.set_cons_succ, List.map_cons, List.map_nil, List.length_cons, List.length_nil, List.cons_append, List.nil_append, Nat.reduceAdd, Nat.reduceSub, List.replicate_succ, List.replicate_zero, ofInts_len, wipeE, List.take_length, frR_new, decide_true, decide_false, Bool.not_true, Bool.not_false, gIx_r row f hfl, gIx_r row l hl]
    rw [key (fun c => row[f] + row[l] - c) _ _ ((row.drop f).take (l + 1 - f)).reverse _ _ (by simp -implicitDefEqProofs only [bd_ok, bd_no, bd_exc, bdN_ok, bs_ok, bs_exc, mV_ap, getV_ok, mK_ap, m1_ap, m2_ap, k2_ap, k2'_ap, mNil_ap, mCons_ap, kC1_ap, kC2_ap, mCall_ap, mCallI_ap, mItems_ap, gItems_l, gItems_t, mIf_ap, kIf_t, kIf_f, mCB_ap, mAndT_ap, mOrT_ap, mNotT_ap, kNot_ap, mAnd_ap, kAnd_t, kAnd_f, mOr_ap, kOr_t, kOr_f, mNot_ap, kNotV_ap, mB_ap, kB_ap, mFr_ap, frR_py, frR_no, frR_exc, mSl_ap, kS1_ap, kS2_ap, kS3_ap, oNone_ap, oSome_ap, kO_ap, mChain_ap, kH1_ap, kH2_ap, kH3_t, kH3_f, mMeth_ap, kMe2_ap, sSeq_ap, seqK_nx, seqK_rt, seqK_bk, seqK_ct, seqK_exc, seqK_no, sNx_ap, sNo_ap, sEx_ap, kE_ap, sRet_ap, kR_ap, sRetN_ap, sIf_ap, kSI_t, kSI_f, sAs_ap, kA_ap, asK_ok, aN_ap, kA_N, asNil_ap, asCons_ap, kG_ap, asSub_ap, kU1_ap, kU2_ap, sFor_ap, kF_ap, sPar_ap, kP2_ap, sPar3_ap, kP3_ap, endB_nx, endB_rt, endB_exc, endB_no, gAdd_i, gSub_i, gLtI_i, gLe_i, gGt_i, gGe_i, gNeg_i, gIntF_i, gAbs_i, gMax2_i, gMin2_i, gLen_l, gLen_t, gTupF_l, gTupF_t, gSl_t, gRev_t, gIs_b, gIsNot_b, gIs_n, gIsNot_n, pys_nil, gZip_t, List.getElem?_cons_zero, List.getElem?_cons_succ, List.set_cons_zero, List.set_cons_succ, List.map_cons, List.map_nil, List.length_cons, List.length_nil, List.cons_append, List.nil_append, Nat.reduceAdd, Nat.reduceSub, List.replicate_succ, List.replicate_zero, ofInts_len, wipeE, List.take_length, frR_new, decide_true, decide_false, Bool.not_true, Bool.not_false, ofInts_rev, take_same]) (by simpa using hs) (fun c S => by simp -implicitDefEqProofs only [bd_ok, bd_no, bd_exc, bdN_ok, bs_ok, bs_exc, mV_ap, getV_ok, mK_ap, m1_ap, m2_ap, k2_ap, k2'_ap, mNil_ap, mCons_ap, kC1_ap, kC2_ap, mCall_ap, mCallI_ap, mItems_ap, gItems_l, gItems_t, mIf_ap, kIf_t, kIf_f, mCB_ap, mAndT_ap, mOrT_ap, mNotT_ap, kNot_ap, mAnd_ap, kAnd_t, kAnd_f, mOr_ap, kOr_t, kOr_f, mNot_ap, kNotV_ap, mB_ap, kB_ap, mFr_ap, frR_py, frR_no, frR_exc, mSl_ap, kS1_ap, kS2_ap, kS3_ap, oNone_ap, oSome_ap, kO_ap, mChain_ap, kH1_ap, kH2_ap, kH3_t, kH3_f, mMeth_ap, kMe2_ap, sSeq_ap, seqK_nx, seqK_rt, seqK_bk, seqK_ct, seqK_exc, seqK_no, sNx_ap, sNo_ap, sEx_ap, kE_ap, sRet_ap, kR_ap, sRetN_ap, sIf_ap, kSI_t, kSI_f, sAs_ap, kA_ap, asK_ok, aN_ap, kA_N, asNil_ap, asCons_ap, kG_ap, asSub_ap, kU1_ap, kU2_ap, sFor_ap, kF_ap, sPar_ap, kP2_ap, sPar3_ap, kP3_ap, endB_nx, endB_rt, endB_exc, endB_no, gAdd_i, gSub_i, gLtI_i, gLe_i, gGt_i, gGe_i, gNeg_i, gIntF_i, gAbs_i, gMax2_i, gMin2_i, gLen_l, gLen_t, gTupF_l, gTupF_t, gSl_t, gRev_t, gIs_b, gIsNot_b, gIs_n, gIsNot_n, pys_nil, gZip_t, List.getElem?_cons_zero, List.getElem?_cons_succ, List.set_cons_zero, List.set_cons_succ, List.map_cons, List.map_nil, List.length_cons, List.length_nil, List.cons_append, List.nil_append, Nat.reduceAdd, Nat.reduceSub, List.replicate_succ, List.replicate_zero, ofInts_len, wipeE, List.take_length, frR_new, decide_true, decide_false, Bool.not_true, Bool.not_false])]
    have d := done (((row.drop f).take (l + 1 - f)).reverse.map (fun c => row[f] + row[l] - c)) (by rw [List.length_map, List.length_reverse, List.length_take, List.length_drop]; omega)
    simp -implicitDefEqProofs only [bd_ok, bd_no, bd_exc, bdN_ok, bs_ok, bs_exc, mV_ap, getV_ok, mK_ap, m1_ap, m2_ap, k2_ap, k2'_ap, mNil_ap, mCons_ap, kC1_ap, kC2_ap, mCall_ap, mCallI_ap, mItems_ap, gItems_l, gItems_t, mIf_ap, kIf_t, kIf_f, mCB_ap, mAndT_ap, mOrT_ap, mNotT_ap, kNot_ap, mAnd_ap, kAnd_t, kAnd_f, mOr_ap, kOr_t, kOr_f, mNot_ap, kNotV_ap, mB_ap, kB_ap, mFr_ap, frR_py, frR_no, frR_exc, mSl_ap, kS1_ap, kS2_ap, kS3_ap, oNone_ap, oSome_ap, kO_ap, mChain_ap, kH1_ap, kH2_ap, kH3_t, kH3_f, mMeth_ap, kMe2_ap, sSeq_ap, seqK_nx, seqK_rt, seqK_bk, seqK_ct, seqK_exc, seqK_no, sNx_ap, sNo_ap, sEx_ap, kE_ap, sRet_ap, kR_ap, sRetN_ap, sIf_ap, kSI_t, kSI_f, sAs_ap, kA_ap, asK_ok, aN_ap, kA_N, asNil_ap, asCons_ap, kG_ap, asSub_ap, kU1_ap, kU2_ap, sFor_ap, kF_ap, sPar_ap, kP2_ap, sPar3_ap, kP3_ap, endB_nx, endB_rt, endB_exc, endB_no, gAdd_i, gSub_i, gLtI_i, gLe_i, gGt_i, gGe_i, gNeg_i, gIntF_i, gAbs_i, gMax2_i, gMin2_i, gLen_l, gLen_t, gTupF_l, gTupF_t, gSl_t, gRev_t, gIs_b, gIsNot_b, gIs_n, gIsNot_n, pys_nil, gZip_t, List.getElem?_cons_zero, List.getElem?_cons_succ, List.set_cons_zero, List.set_cons_succ, List.map_cons, List.map_nil, List.length_cons, List.length_nil, List.cons_append, List.nil_append, Nat.reduceAdd, Nat.reduceSub, List.replicate_succ, List.replicate_zero, ofInts_len, wipeE, List.take_length, frR_new, decide_true, decide_false, Bool.not_true, Bool.not_false, el, ef, eg, List.take_length, d.1, d.2]
    rfl
  | false =>
    rw [kSI_f]
    have h2 : ∀ i S, gMul (.py (.int 2)) (.py (.int i)) S = .ok (.py (.int (2 * i))) S := fun i S => gMul_i (cMul_l (by decide))
    simp -implicitDefEqProofs only [bd_ok, bd_no, bd_exc, bdN_ok, bs_ok, bs_exc, mV_ap, getV_ok, mK_ap, m1_ap, m2_ap, k2_ap, k2'_ap, mNil_ap, mCons_ap, kC1_ap, kC2_ap, mCall_ap, mCallI_ap, mItems_ap, gItems_l, gItems_t, mIf_ap, kIf_t, kIf_f, mCB_ap, mAndT_ap, mOrT_ap, mNotT_ap, kNot_ap, mAnd_ap, kAnd_t, kAnd_f, mOr_ap, kOr_t, kOr_f, mNot_ap, kNotV_ap, mB_ap, kB_ap, mFr_ap, frR_py, frR_no, frR_exc, mSl_ap, kS1_ap, kS2_ap, kS3_ap, oNone_ap, oSome_ap, kO_ap, mChain_ap, kH1_ap, kH2_ap, kH3_t, kH3_f, mMeth_ap, kMe2_ap, sSeq_ap, seqK_nx, seqK_rt, seqK_bk, seqK_ct, seqK_exc, seqK_no, sNx_ap, sNo_ap, sEx_ap, kE_ap, sRet_ap, kR_ap, sRetN_ap, sIf_ap, kSI_t, kSI_f, sAs_ap, kA_ap, asK_ok, aN_ap, kA_N, asNil_ap, asCons_ap, kG_ap, asSub_ap, kU1_ap, kU2_ap, sFor_ap, kF_ap, sPar_ap, kP2_ap, sPar3_ap, kP3_ap, endB_nx, endB_rt, endB_exc, endB_no, gAdd_i, gSub_i, gLtI_i, gLe_i, gGt_i, gGe_i, gNeg_i, gIntF_i, gAbs_i, gMax2_i, gMin2_i, gLen_l, gLen_t, gTupF_l, gTupF_t, gSl_t, gRev_t, gIs_b, gIsNot_b, gIs_n, gIsNot_n, pys_nil, gZip_t, List.getElem?_cons_zero, List.getElem?_cons_succ, List.set_cons_zero, List.set_cons_succ, List.map_cons, List.map_nil, List.length_cons, List.length_nil, List.cons_append, List.nil_append, Nat.reduceAdd, Nat.reduceSub, List.replicate_succ, List.replicate_zero, ofInts_len, wipeE, List.take_length, frR_new, decide_true, decide_false, Bool.not_true, Bool.not_false]
    rw [key (fun c => 2 * row[f] - c) _ _ ((row.drop f).take (l + 1 - f)) _ _ (by simp -implicitDefEqProofs only [bd_ok, bd_no, bd_exc, bdN_ok, bs_ok, bs_exc, mV_ap, getV_ok, mK_ap, m1_ap, m2_ap, k2_ap, k2'_ap, mNil_ap, mCons_ap, kC1_ap, kC2_ap, mCall_ap, mCallI_ap, mItems_ap, gItems_l, gItems_t, mIf_ap, kIf_t, kIf_f, mCB_ap, mAndT_ap, mOrT_ap, mNotT_ap, kNot_ap, mAnd_ap, kAnd_t, kAnd_f, mOr_ap, kOr_t, kOr_f, mNot_ap, kNotV_ap, mB_ap, kB_ap, mFr_ap, frR_py, frR_no, frR_exc, mSl_ap, kS1_ap, kS2_ap, kS3_ap, oNone_ap, oSome_ap, kO_ap, mChain_ap, kH1_ap, kH2_ap, kH3_t, kH3_f, mMeth_ap, kMe2_ap, sSeq_ap, seqK_nx, seqK_rt, seqK_bk, seqK_ct, seqK_exc, seqK_no, sNx_ap, sNo_ap, sEx_ap, kE_ap, sRet_ap, kR_ap, sRetN_ap, sIf_ap, kSI_t, kSI_f, sAs_ap, kA_ap, asK_ok, aN_ap, kA_N, asNil_ap, asCons_ap, kG_ap, asSub_ap, kU1_ap, kU2_ap, sFor_ap, kF_ap, sPar_ap, kP2_ap, sPar3_ap, kP3_ap, endB_nx, endB_rt, endB_exc, endB_no, gAdd_i, gSub_i, gLtI_i, gLe_i, gGt_i, gGe_i, gNeg_i, gIntF_i, gAbs_i, gMax2_i, gMin2_i, gLen_l, gLen_t, gTupF_l, gTupF_t, gSl_t, gRev_t, gIs_b, gIsNot_b, gIs_n, gIsNot_n, pys_nil, gZip_t, List.getElem?_cons_zero, List.getElem?_cons_succ, List.set_cons_zero, List.set_cons_succ, List.map_cons, List.map_nil, List.length_cons, List.length_nil, List.cons_append, List.nil_append, Nat.reduceAdd, Nat.reduceSub, List.replicate_succ, List.replicate_zero, ofInts_len, wipeE, List.take_length, frR_new, decide_true, decide_false, Bool.not_true, Bool.not_false]) hs (fun c S => by simp -implicitDefEqProofs only [bd_ok, bd_no, bd_exc, bdN_ok, bs_ok, bs_exc, mV_ap, getV_ok, mK_ap, m1_ap, m2_ap, k2_ap, k2'_ap, mNil_ap, mCons_ap, kC1_ap, kC2_ap, mCall_ap, mCallI_ap, mItems_ap, gItems_l, gItems_t, mIf_ap, kIf_t, kIf_f, mCB_ap, mAndT_ap, mOrT_ap, mNotT_ap, kNot_ap, mAnd_ap, kAnd_t, kAnd_f, mOr_ap, kOr_t, kOr_f, mNot_ap, kNotV_ap, mB_ap, kB_ap, mFr_ap, frR_py, frR_no, frR_exc, mSl_ap, kS1_ap, kS2_ap, kS3_ap, oNone_ap, oSome_ap, kO_ap, mChain_ap, kH1_ap, kH2_ap, kH3_t, kH3_f, mMeth_ap, kMe2_ap, sSeq_ap, seqK_nx, seqK_rt, seqK_bk, seqK_ct, seqK_exc, seqK_no, sNx_ap, sNo_ap, sEx_ap, kE_ap, sRet_ap, kR_ap, sRetN_ap, sIf_ap, kSI_t, kSI_f, sAs_ap, kA_ap, asK_ok, aN_ap, kA_N, asNil_ap, asCons_ap, kG_ap, asSub_ap, kU1_ap, kU2_ap, sFor_ap, kF_ap, sPar_ap, kP2_ap, sPar3_ap, kP3_ap, endB_nx, endB_rt, endB_exc, endB_no, gAdd_i, gSub_i, gLtI_i, gLe_i, gGt_i, gGe_i, gNeg_i, gIntF_i, gAbs_i, gMax2_i, gMin2_i, gLen_l, gLen_t, gTupF_l, gTupF_t, gSl_t, gRev_t, gIs_b, gIsNot_b, gIs_n, gIsNot_n, pys_nil, gZip_t, List.getElem?_cons_zero, List.getElem?_cons_succ, List.set_cons_zero, List.set_cons_succ, List.map_cons, List.map_nil, List.length_cons, List.length_nil, List.cons_append, List.nil_append, Nat.reduceAdd, Nat.reduceSub, List.replicate_succ, List.replicate_zero, ofInts_len, wipeE, List.take_length, frR_new, decide_true, decide_false, Bool.not_true, Bool.not_false, gIx_r row f hfl, h2])]
    have d := done (((row.drop f).take (l + 1 - f)).map (fun c => 2 * row[f] - c)) (by rw [List.length_map, List.length_take, List.length_drop]; omega)
    simp -implicitDefEqProofs only [bd_ok, bd_no, bd_exc, bdN_ok, bs_ok, bs_exc, mV_ap, getV_ok, mK_ap, m1_ap, m2_ap, k2_ap, k2'_ap, mNil_ap, mCons_ap, kC1_ap, kC2_ap, mCall_ap, mCallI_ap, mItems_ap, gItems_l, gItems_t, mIf_ap, kIf_t, kIf_f, mCB_ap, mAndT_ap, mOrT_ap, mNotT_ap, kNot_ap, mAnd_ap, kAnd_t, kAnd_f, mOr_ap, kOr_t, kOr_f, mNot_ap, kNotV_ap, mB_ap, kB_ap, mFr_ap, frR_py, frR_no, frR_exc, mSl_ap, kS1_ap, kS2_ap, kS3_ap, oNone_ap, oSome_ap, kO_ap, mChain_ap, kH1_ap, kH2_ap, kH3_t, kH3_f, mMeth_ap, kMe2_ap, sSeq_ap, seqK_nx, seqK_rt, seqK_bk, seqK_ct, seqK_exc, seqK_no, sNx_ap, sNo_ap, sEx_ap, kE_ap, sRet_ap, kR_ap, sRetN_ap, sIf_ap, kSI_t, kSI_f, sAs_ap, kA_ap, asK_ok, aN_ap, kA_N, asNil_ap, asCons_ap, kG_ap, asSub_ap, kU1_ap, kU2_ap, sFor_ap, kF_ap, sPar_ap, kP2_ap, sPar3_ap, kP3_ap, endB_nx, endB_rt, endB_exc, endB_no, gAdd_i, gSub_i, gLtI_i, gLe_i, gGt_i, gGe_i, gNeg_i, gIntF_i, gAbs_i, gMax2_i, gMin2_i, gLen_l, gLen_t, gTupF_l, gTupF_t, gSl_t, gRev_t, gIs_b, gIsNot_b, gIs_n, gIsNot_n, pys_nil, gZip_t, List.getElem?_cons_zero, List.getElem?_cons_succ, List.set_cons_zero, List.set_cons_succ, List.map_cons, List.map_nil, List.length_cons, List.length_nil, List.cons_append, List.nil_append, Nat.reduceAdd, Nat.reduceSub, List.replicate_succ, List.replicate_zero, ofInts_len, wipeE, List.take_length, frR_new, decide_true, decide_false, Bool.not_true, Bool.not_false, el, ef, eg, List.take_length, d.1, d.2]
    rfl
end LW

end P_P1
section P_P2
set_option maxHeartbeats 4000000
namespace LW
open PySem PySem.Spec PyProof.Rows L2 PX
def iabs (i : Int) : Int := if i < 0 then -i else i
def stp : List Int → List Int
  | a :: b :: r => iabs (b - a) :: stp (b :: r)
  | _ => []
theorem iabs_neg (i : Int) : iabs (-i) = iabs i := by unfold iabs; split <;> split <;> omega
theorem stp_app : ∀ (l : List Int) (x : Int) (r : List Int), stp (l ++ x :: r) = stp (l ++ [x]) ++ stp (x :: r)
  | [], x, r => by simp [stp]
  | [a], x, r => by simp [stp]
  | a :: b :: l, x, r => by
    have ih := stp_app (b :: l) x r
    simp only [List.cons_append] at ih ⊢
    simp only [stp]
    rw [ih]; rfl
theorem stp_map (c : Int) : ∀ l : List Int, stp (l.map (c - ·)) = stp l
  | [] => rfl
  | [a] => rfl
  | a :: b :: r => by
    have ih := stp_map c (b :: r)
    simp only [List.map_cons] at ih ⊢
    simp only [stp]
    rw [ih]
    have : c - b - (c - a) = -(b - a) := by omega
    rw [this, iabs_neg]
theorem stp_rev : ∀ l : List Int, stp l.reverse = (stp l).reverse
  | [] => rfl
  | [a] => rfl
  | a :: b :: r => by
    have ih := stp_rev (b :: r)
    simp only [List.reverse_cons, stp] at ih ⊢
    rw [List.append_assoc]
    show stp (r.reverse ++ b :: [a]) = _
    rw [stp_app, ih]
    simp only [stp]
    have : a - b = -(b - a) := by omega
    rw [this, iabs_neg]
theorem stp_three (P M Q : List Int) (h : M ≠ []) : stp (P ++ (M ++ Q)) = stp (P ++ [M.head h]) ++ (stp M ++ stp (M.getLast h :: Q)) := by
  cases M with
  | nil => exact absurd rfl h
  | cons x m =>
    show stp (P ++ x :: (m ++ Q)) = _
    rw [stp_app]
    congr 1
    rw [← List.cons_append]
    have e : (x :: m) = (x :: m).dropLast ++ [(x :: m).getLast h] := (List.dropLast_concat_getLast _).symm
    conv => lhs; rw [e, List.append_assoc]
    show stp ((x :: m).dropLast ++ (x :: m).getLast h :: Q) = _
    rw [stp_app, ← e]
theorem stp_swap (P M M' Q : List Int) (h : M ≠ []) (h' : M' ≠ []) (e1 : M'.head h' = M.head h) (e2 : M'.getLast h' = M.getLast h) (p : (stp M').Perm (stp M)) : (stp (P ++ (M' ++ Q))).Perm (stp (P ++ (M ++ Q))) := by
  rw [stp_three P M Q h, stp_three P M' Q h', e1, e2]
  exact (p.append_right _).append_left _
variable {t : Bool} {f l : Nat} {row : List Int}
theorem mv_len (x y : Int) (hf : f < l) (hl : l < row.length) : (mv t f l row x y).length = row.length := by
  unfold mv
  cases t <;> simp <;> omega
theorem mv_get (x y : Int) (hf : f < l) (hl : l < row.length) (k : Nat) (hk : k < row.length) : (mv t f l row x y)[k]? = some (if k < f then row[k] else if k ≤ l then (if t then x + y - row[f + l - k]! else 2 * x - row[k]) else row[k]) := by
  unfold mv
  have hb : (if t = true then List.map (fun c => x + y - c) (List.take (l + 1 - f) (List.drop f row)).reverse else List.map (fun c => 2 * x - c) (List.take (l + 1 - f) (List.drop f row))).length = l + 1 - f := by
    cases t <;> simp <;> omega
  have ht : (row.take f).length = f := by simp; omega
  by_cases h1 : k < f
  · rw [if_pos h1, List.getElem?_append_left (by omega), List.getElem?_take, if_pos h1]
    exact List.getElem?_eq_getElem hk
  · rw [if_neg h1, List.getElem?_append_right (by omega), ht]
    by_cases h2 : k ≤ l
    · rw [if_pos h2, List.getElem?_append_left (by omega)]
      cases t with
      | true =>
        simp only [if_true, List.getElem?_map]
        rw [List.getElem?_reverse (by simp; omega)]
        have e : (List.take (l + 1 - f) (List.drop f row)).length = l + 1 - f := by simp; omega
        rw [e, List.getElem?_take, if_pos (by omega), List.getElem?_drop]
        have e2 : f + (l + 1 - f - 1 - (k - f)) = f + l - k := by omega
        rw [e2, List.getElem?_eq_getElem (by omega : f + l - k < row.length)]
        simp only [Option.map_some]
        rw [getElem!_pos row (f + l - k) (by omega)]
      | false =>
        simp only [Bool.false_eq_true, if_false, List.getElem?_map]
        rw [List.getElem?_take, if_pos (by omega), List.getElem?_drop]
        have e2 : f + (k - f) = k := by omega
        rw [e2, List.getElem?_eq_getElem hk]; rfl
    · rw [if_neg h2, List.getElem?_append_right (by omega), hb, List.getElem?_drop]
      have e2 : l + 1 + (k - f - (l + 1 - f)) = k := by omega
      rw [e2]
      exact List.getElem?_eq_getElem hk
theorem getE_of {α : Type} {r : List α} {k : Nat} {v : α} (h : r[k]? = some v) (hk : k < r.length) : r[k] = v := by
  rw [List.getElem?_eq_getElem hk] at h
  exact Option.some.inj h
theorem mv_first (hf : f < l) (hl : l < row.length) (ht : t = true ∨ row[f] = row[l]) (h2 : f < (mv t f l row row[f] row[l]).length) : (mv t f l row row[f] row[l])[f] = row[f] := by
  refine (getE_of (mv_get row[f] row[l] hf hl f (by omega)) h2).trans ?_
  rw [if_neg (by omega), if_pos (by omega)]
  cases t with
  | true =>
    have e : f + l - f = l := by omega
    rw [if_pos rfl, e, getElem!_pos row l (by omega)]
    omega
  | false => rw [if_neg Bool.false_ne_true]; omega
theorem mv_last (hf : f < l) (hl : l < row.length) (ht : t = true ∨ row[f] = row[l]) (h2 : l < (mv t f l row row[f] row[l]).length) : (mv t f l row row[f] row[l])[l] = row[l] := by
  refine (getE_of (mv_get row[f] row[l] hf hl l (by omega)) h2).trans ?_
  rw [if_neg (by omega), if_pos (by omega)]
  cases t with
  | true =>
    have e : f + l - l = f := by omega
    rw [if_pos rfl, e, getElem!_pos row f (by omega)]
    omega
  | false =>
    rw [if_neg Bool.false_ne_true]
    rcases ht with ht | ht
    · cases ht
    · omega
theorem mv_end {k : Nat} (hf : f < l) (hl : l < row.length) (ht : t = true ∨ row[f] = row[l]) (hk : k < row.length) (hh : k ≤ f ∨ l ≤ k) (h2 : k < (mv t f l row row[f] row[l]).length) : (mv t f l row row[f] row[l])[k] = row[k] := by
  by_cases e1 : k = f
  · subst e1; exact mv_first hf hl ht h2
  · by_cases e2 : k = l
    · subst e2; exact mv_last hf hl ht h2
    · refine (getE_of (mv_get row[f] row[l] hf hl k hk) h2).trans ?_
      rcases hh with h | h
      · rw [if_pos (by omega)]
      · rw [if_neg (by omega), if_neg (by omega)]
theorem mv_back (hf : f < l) (hl : l < row.length) (ht : t = true ∨ row[f] = row[l]) : mv t f l (mv t f l row row[f] row[l]) row[f] row[l] = row := by
  have hn : (mv t f l row row[f] row[l]).length = row.length := mv_len _ _ hf hl
  apply List.ext_getElem?
  intro k
  by_cases hk : k < row.length
  · rw [mv_get (row := mv t f l row row[f] row[l]) row[f] row[l] hf (by omega) k (by omega), List.getElem?_eq_getElem hk]
    congr 1
    by_cases h1 : k < f
    · rw [if_pos h1]; exact mv_end hf hl ht hk (by omega) _
    · rw [if_neg h1]
      by_cases h2 : k ≤ l
      · rw [if_pos h2]
        cases t with
        | true =>
          rw [if_pos rfl, getElem!_pos _ (f + l - k) (by omega)]
          have e := getE_of (mv_get (t := true) row[f] row[l] hf hl (f + l - k) (by omega)) (by omega)
          rw [e, if_neg (by omega), if_pos (by omega), if_pos rfl]
          have e3 : f + l - (f + l - k) = k := by omega
          rw [e3, getElem!_pos row k hk]
          omega
        | false =>
          rw [if_neg Bool.false_ne_true]
          have e := getE_of (mv_get (t := false) row[f] row[l] hf hl k hk) (by omega)
          rw [e, if_neg (by omega), if_pos (by omega), if_neg Bool.false_ne_true]
          omega
      · rw [if_neg h2]; exact mv_end hf hl ht hk (by omega) _
  · rw [List.getElem?_eq_none (by rw [mv_len (row := mv t f l row row[f] row[l]) _ _ hf (by omega)]; omega), List.getElem?_eq_none (by omega)]
theorem mv_form (hf : f < l) (hl : l < row.length) (ht : t = true ∨ row[f] = row[l]) : (stp (mv t f l row row[f] row[l])).Perm (stp row) := by
  have hM : (row.drop f).take (l + 1 - f) ≠ [] := by
    intro h
    have := congrArg List.length h
    simp at this
    omega
  have er : row = row.take f ++ ((row.drop f).take (l + 1 - f) ++ row.drop (l + 1)) := by
    have : row.drop (l + 1) = (row.drop f).drop (l + 1 - f) := by rw [List.drop_drop]; congr 1; omega
    rw [this, List.take_append_drop, List.take_append_drop]
  have hh : ((row.drop f).take (l + 1 - f)).head hM = row[f] := by
    rw [List.head_eq_getElem]; simp
  have hl2 : ((row.drop f).take (l + 1 - f)).getLast hM = row[l] := by
    rw [List.getLast_eq_getElem]
    simp only [List.getElem_take, List.getElem_drop, List.length_take, List.length_drop]
    congr 1
    omega
  conv => rhs; rw [er]
  unfold mv
  cases t with
  | true =>
    rw [if_pos rfl]
    refine stp_swap _ _ _ _ hM (by simpa using hM) ?_ ?_ ?_
    · rw [List.head_map, List.head_reverse, hl2, hh]; omega
    · rw [List.getLast_map, List.getLast_reverse, hl2, hh]; omega
    · rw [stp_map, stp_rev]
      exact List.reverse_perm _
  | false =>
    rw [if_neg Bool.false_ne_true]
    have e : row[f] = row[l] := by rcases ht with h | h; cases h; exact h
    refine stp_swap _ _ _ _ hM (by simpa using hM) ?_ ?_ ?_
    · rw [List.head_map, hh]; omega
    · rw [List.getLast_map, hl2]; omega
    · rw [stp_map]
theorem mv_bound {B : Int} (hB : InB B row) (hf : f < l) (hl : l < row.length) : InB (3 * B) (mv t f l row row[f] row[l]) := by
  intro c hc
  obtain ⟨k, hk, e⟩ := List.getElem_of_mem hc
  have hk' : k < row.length := by rw [mv_len _ _ hf hl] at hk; exact hk
  have e2 := getE_of (mv_get (t := t) row[f] row[l] hf hl k hk') hk
  have b1 := hB row[f] (List.getElem_mem (by omega))
  have b2 := hB row[l] (List.getElem_mem (by omega))
  have b3 := hB row[k] (List.getElem_mem (by omega))
  rw [e] at e2
  rw [e2]
  split
  · omega
  · split
    · split
      · rw [getElem!_pos row (f + l - k) (by omega)]
        have b4 := hB row[f + l - k] (List.getElem_mem (by omega))
        omega
      · omega
    · omega
theorem InB.le {B C : Int} {r : List Int} (h : InB B r) (hc : B ≤ C) : InB C r := fun c m => ⟨by have := (h c m).1; omega, by have := (h c m).2; omega⟩
theorem isort_of_perm {a b : List Int} (h : a.Perm b) : isort a = isort b := sorted_uniq ((isort_perm a).trans (h.trans (isort_perm b).symm)) (isort_sorted a) (isort_sorted b)
theorem stp_len : ∀ r : List Int, (stp r).length = r.length - 1
  | [] => rfl
  | [a] => rfl
  | a :: b :: r => by
    show (stp (b :: r)).length + 1 = _
    rw [stp_len (b :: r)]; simp
end LW

end P_P2
section P_P3
set_option maxHeartbeats 4000000
namespace LW
open PySem PySem.Spec PyProof.Rows L2 PX
structure Val (row : List Int) (t : Bool) (f l : Nat) : Prop where
  hf : f < l
  hl : l < row.length
  ht : t = true ∨ row[f]'(by omega) = row[l]
abbrev Mov := Bool × Nat × Nat
def mvE (m : Mov) : PyData := mvD m.1 m.2.1 m.2.2
variable {t : Bool} {f l : Nat} {row : List Int}
theorem ft_true {i a b : Int} (S : Store) (h1 : a ≤ i) (h2 : i ≤ b) : F_is_from_to [.py (.int i), .py (.int a), .py (.int b)] S = .ok (.py (.bool true)) S := by
  rw [F_ft, decide_eq_true h1, decide_eq_true h2]; rfl
theorem F_ismove (S : Store) (v : Val row t f l) : F_is_move [RW row, .py (mvD t f l)] S = .ok (.py (.bool true)) S := by
  obtain ⟨hf, hl, ht⟩ := v
  unfold F_is_move mvD
  rw [runF_ap]
  unfold b_is_move
  have e3 := fun (env : Ev) (S : Store) => aT_ap (n := 3) (r := asCons (aN 2) (asCons (aN 3) (asCons (aN 4) asNil))) (l := [kw t, .int f, .int l]) (env := env) (S := S) rfl
  have e4 : decide (((3 : Nat) : Int) = 3) = true := rfl
  simp -implicitDefEqProofs only [bd_ok, bd_no, bd_exc, bdN_ok, bs_ok, bs_exc, mV_ap, getV_ok, mK_ap, m1_ap, m2_ap, k2_ap, k2'_ap, mNil_ap, mCons_ap, kC1_ap, kC2_ap, mCall_ap, mCallI_ap, mItems_ap, gItems_l, gItems_t, mIf_ap, kIf_t, kIf_f, mCB_ap, mAndT_ap, mOrT_ap, mNotT_ap, kNot_ap, mAnd_ap, kAnd_t, kAnd_f, mOr_ap, kOr_t, kOr_f, mNot_ap, kNotV_ap, mB_ap, kB_ap, mFr_ap, frR_py, frR_no, frR_exc, mSl_ap, kS1_ap, kS2_ap, kS3_ap, oNone_ap, oSome_ap, kO_ap, mChain_ap, kH1_ap, kH2_ap, kH3_t, kH3_f, mMeth_ap, kMe2_ap, sSeq_ap, seqK_nx, seqK_rt, seqK_bk, seqK_ct, seqK_exc, seqK_no, sNx_ap, sNo_ap, sEx_ap, kE_ap, sRet_ap, kR_ap, sRetN_ap, sIf_ap, kSI_t, kSI_f, sAs_ap, kA_ap, asK_ok, aN_ap, kA_N, asNil_ap, asCons_ap, kG_ap, asSub_ap, kU1_ap, kU2_ap, sFor_ap, kF_ap, sPar_ap, kP2_ap, sPar3_ap, kP3_ap, endB_nx, endB_rt, endB_exc, endB_no, gAdd_i, gSub_i, gLtI_i, gLe_i, gGt_i, gGe_i, gNeg_i, gIntF_i, gAbs_i, gMax2_i, gMin2_i, gLen_l, gLen_t, gTupF_l, gTupF_t, gSl_t, gRev_t, gIs_b, gIsNot_b, gIs_n, gIsNot_n, pys_nil, gZip_t, List.getElem?_cons_zero, List.getElem?_cons_succ, List.set_cons_zero, List.set_cons_succ, List.map_cons, List.map_nil, List.length_cons, List.length_nil, List.cons_append, List.nil_append, Nat.reduceAdd, Nat.reduceSub, List.replicate_succ, List.replicate_zero, ofInts_len, wipeE, List.take_length, frR_new, decide_true, decide_false, Bool.not_true, Bool.not_false, e3, gIsI_tt, gNe_i, e4, Bool.not_true, ft_true _ (by omega : (0 : Int) ≤ (l : Int)) (by omega : (l : Int) ≤ (row.length : Int) - 1), ft_true _ (by omega : (0 : Int) ≤ (f : Int)) (by omega : (f : Int) ≤ (l : Int) - 1), kw_turn, kw_mirror, gIx_r row f (by omega), gIx_r row l hl, gEq_i]
  cases t with
  | true => simp -implicitDefEqProofs only [bd_ok, bd_no, bd_exc, bdN_ok, bs_ok, bs_exc, mV_ap, getV_ok, mK_ap, m1_ap, m2_ap, k2_ap, k2'_ap, mNil_ap, mCons_ap, kC1_ap, kC2_ap, mCall_ap, mCallI_ap, mItems_ap, gItems_l, gItems_t, mIf_ap, kIf_t, kIf_f, mCB_ap, mAndT_ap, mOrT_ap, mNotT_ap, kNot_ap, mAnd_ap, kAnd_t, kAnd_f, mOr_ap, kOr_t, kOr_f, mNot_ap, kNotV_ap, mB_ap, kB_ap, mFr_ap, frR_py, frR_no, frR_exc, mSl_ap, kS1_ap, kS2_ap, kS3_ap, oNone_ap, oSome_ap, kO_ap, mChain_ap, kH1_ap, kH2_ap, kH3_t, kH3_f, mMeth_ap, kMe2_ap, sSeq_ap, seqK_nx, seqK_rt, seqK_bk, seqK_ct, seqK_exc, seqK_no, sNx_ap, sNo_ap, sEx_ap, kE_ap, sRet_ap, kR_ap, sRetN_ap, sIf_ap, kSI_t, kSI_f, sAs_ap, kA_ap, asK_ok, aN_ap, kA_N, asNil_ap, asCons_ap, kG_ap, asSub_ap, kU1_ap, kU2_ap, sFor_ap, kF_ap, sPar_ap, kP2_ap, sPar3_ap, kP3_ap, endB_nx, endB_rt, endB_exc, endB_no, gAdd_i, gSub_i, gLtI_i, gLe_i, gGt_i, gGe_i, gNeg_i, gIntF_i, gAbs_i, gMax2_i, gMin2_i, gLen_l, gLen_t, gTupF_l, gTupF_t, gSl_t, gRev_t, gIs_b, gIsNot_b, gIs_n, gIsNot_n, pys_nil, gZip_t, List.getElem?_cons_zero, List.getElem?_cons_succ, List.set_cons_zero, List.set_cons_succ, List.map_cons, List.map_nil, List.length_cons, List.length_nil, List.cons_append, List.nil_append, Nat.reduceAdd, Nat.reduceSub, List.replicate_succ, List.replicate_zero, ofInts_len, wipeE, List.take_length, frR_new, decide_true, decide_false, Bool.not_true, Bool.not_false]
  | false =>
    have e : row[f] = row[l] := by rcases ht with h | h; cases h; exact h
    simp -implicitDefEqProofs only [bd_ok, bd_no, bd_exc, bdN_ok, bs_ok, bs_exc, mV_ap, getV_ok, mK_ap, m1_ap, m2_ap, k2_ap, k2'_ap, mNil_ap, mCons_ap, kC1_ap, kC2_ap, mCall_ap, mCallI_ap, mItems_ap, gItems_l, gItems_t, mIf_ap, kIf_t, kIf_f, mCB_ap, mAndT_ap, mOrT_ap, mNotT_ap, kNot_ap, mAnd_ap, kAnd_t, kAnd_f, mOr_ap, kOr_t, kOr_f, mNot_ap, kNotV_ap, mB_ap, kB_ap, mFr_ap, frR_py, frR_no, frR_exc, mSl_ap, kS1_ap, kS2_ap, kS3_ap, oNone_ap, oSome_ap, kO_ap, mChain_ap, kH1_ap, kH2_ap, kH3_t, kH3_f, mMeth_ap, kMe2_ap, sSeq_ap, seqK_nx, seqK_rt, seqK_bk, seqK_ct, seqK_exc, seqK_no, sNx_ap, sNo_ap, sEx_ap, kE_ap, sRet_ap, kR_ap, sRetN_ap, sIf_ap, kSI_t, kSI_f, sAs_ap, kA_ap, asK_ok, aN_ap, kA_N, asNil_ap, asCons_ap, kG_ap, asSub_ap, kU1_ap, kU2_ap, sFor_ap, kF_ap, sPar_ap, kP2_ap, sPar3_ap, kP3_ap, endB_nx, endB_rt, endB_exc, endB_no, gAdd_i, gSub_i, gLtI_i, gLe_i, gGt_i, gGe_i, gNeg_i, gIntF_i, gAbs_i, gMax2_i, gMin2_i, gLen_l, gLen_t, gTupF_l, gTupF_t, gSl_t, gRev_t, gIs_b, gIsNot_b, gIs_n, gIsNot_n, pys_nil, gZip_t, List.getElem?_cons_zero, List.getElem?_cons_succ, List.set_cons_zero, List.set_cons_succ, List.map_cons, List.map_nil, List.length_cons, List.length_nil, List.cons_append, List.nil_append, Nat.reduceAdd, Nat.reduceSub, List.replicate_succ, List.replicate_zero, ofInts_len, wipeE, List.take_length, frR_new, decide_true, decide_false, Bool.not_true, Bool.not_false, e, Bool.not_false, decide_true, kw_mirror, gIx_r row f (by omega : f < row.length), gIx_r row l hl, gEq_i]
theorem F_moved (S : Store) (v : Val row t f l) (h12 : row.length ≤ 12) (hb : InB 1000000 row) : F_moved_row [RW row, .py (mvD t f l)] S = .ok (RW (mv t f l row (row[f]'(by have := v.hf; have := v.hl; omega)) (row[l]'(v.hl)))) S := by
  unfold F_moved_row
  rw [runF_ap]
  unfold b_moved_row
  simp -implicitDefEqProofs only [bd_ok, bd_no, bd_exc, bdN_ok, bs_ok, bs_exc, mV_ap, getV_ok, mK_ap, m1_ap, m2_ap, k2_ap, k2'_ap, mNil_ap, mCons_ap, kC1_ap, kC2_ap, mCall_ap, mCallI_ap, mItems_ap, gItems_l, gItems_t, mIf_ap, kIf_t, kIf_f, mCB_ap, mAndT_ap, mOrT_ap, mNotT_ap, kNot_ap, mAnd_ap, kAnd_t, kAnd_f, mOr_ap, kOr_t, kOr_f, mNot_ap, kNotV_ap, mB_ap, kB_ap, mFr_ap, frR_py, frR_no, frR_exc, mSl_ap, kS1_ap, kS2_ap, kS3_ap, oNone_ap, oSome_ap, kO_ap, mChain_ap, kH1_ap, kH2_ap, kH3_t, kH3_f, mMeth_ap, kMe2_ap, sSeq_ap, seqK_nx, seqK_rt, seqK_bk, seqK_ct, seqK_exc, seqK_no, sNx_ap, sNo_ap, sEx_ap, kE_ap, sRet_ap, kR_ap, sRetN_ap, sIf_ap, kSI_t, kSI_f, sAs_ap, kA_ap, asK_ok, aN_ap, kA_N, asNil_ap, asCons_ap, kG_ap, asSub_ap, kU1_ap, kU2_ap, sFor_ap, kF_ap, sPar_ap, kP2_ap, sPar3_ap, kP3_ap, endB_nx, endB_rt, endB_exc, endB_no, gAdd_i, gSub_i, gLtI_i, gLe_i, gGt_i, gGe_i, gNeg_i, gIntF_i, gAbs_i, gMax2_i, gMin2_i, gLen_l, gLen_t, gTupF_l, gTupF_t, gSl_t, gRev_t, gIs_b, gIsNot_b, gIs_n, gIsNot_n, pys_nil, gZip_t, List.getElem?_cons_zero, List.getElem?_cons_succ, List.set_cons_zero, List.set_cons_succ, List.map_cons, List.map_nil, List.length_cons, List.length_nil, List.cons_append, List.nil_append, Nat.reduceAdd, Nat.reduceSub, List.replicate_succ, List.replicate_zero, ofInts_len, wipeE, List.take_length, frR_new, decide_true, decide_false, Bool.not_true, Bool.not_false, F_check row _ h12 hb, F_ismove _ v, Bool.not_true, F_do t f l row _ v.hf v.hl (by omega)]
/-- moves, one after another -/
inductive Road : List Int → List Mov → List Int → Prop
  | nil (r : List Int) : Road r [] r
  | cons {row : List Int} {t : Bool} {f l : Nat} {ms : List Mov} {r : List Int} (v : Val row t f l) (h : Road (mv t f l row (row[f]'(by have := v.hf; have := v.hl; omega)) (row[l]'(v.hl))) ms r) : Road row ((t, f, l) :: ms) r
theorem Road.snoc {row r : List Int} {ms : List Mov} (h : Road row ms r) {t : Bool} {f l : Nat} (v : Val r t f l) : Road row (ms ++ [(t, f, l)]) (mv t f l r (r[f]'(by have := v.hf; have := v.hl; omega)) (r[l]'(v.hl))) := by
  induction h with
  | nil row => exact .cons v (.nil _)
  | cons w h ih => exact .cons w (ih v)
theorem forS_road (beside val : D) (S : Store) : ∀ (ms : List Mov) (row r : List Int) (x : Option D) (fo : D), Road row ms r → row.length ≤ 12 → ∃ env', forS (aN 4) (sSeq (sIf (mNotT (mB (mCall F_is_move (mCons (mV 3) (mCons (mV 4) mNil))))) (sRet (mK (.bool false))) sNx)
  (sAs (mCall F_do_move (mCons (mV 3) (mCons (mV 4) mNil))) (aN 3))) (ms.map mvE) [some fo, some beside, some val, some (RW row), x] S = .go .nx [some fo, some beside, some val, some (RW r), env'] S
  | [], row, r, x, fo, h, hn => by cases h; exact ⟨x, rfl⟩
  | (t, f, l) :: ms, row, r, x, fo, h, hn => by
    cases h with
    | cons v h =>
      obtain ⟨env', e⟩ := forS_road beside val S ms _ r (some (.py (mvD t f l))) fo h (by rw [mv_len _ _ v.hf v.hl]; exact hn)
      refine ⟨env', ?_⟩
      have e1 : List.map mvE ((t, f, l) :: ms) = mvD t f l :: ms.map mvE := rfl
      rw [e1]
      unfold forS
      simp -implicitDefEqProofs only [bd_ok, bd_no, bd_exc, bdN_ok, bs_ok, bs_exc, mV_ap, getV_ok, mK_ap, m1_ap, m2_ap, k2_ap, k2'_ap, mNil_ap, mCons_ap, kC1_ap, kC2_ap, mCall_ap, mCallI_ap, mItems_ap, gItems_l, gItems_t, mIf_ap, kIf_t, kIf_f, mCB_ap, mAndT_ap, mOrT_ap, mNotT_ap, kNot_ap, mAnd_ap, kAnd_t, kAnd_f, mOr_ap, kOr_t, kOr_f, mNot_ap, kNotV_ap, mB_ap, kB_ap, mFr_ap, frR_py, frR_no, frR_exc, mSl_ap, kS1_ap, kS2_ap, kS3_ap, oNone_ap, oSome_ap, kO_ap, mChain_ap, kH1_ap, kH2_ap, kH3_t, kH3_f, mMeth_ap, kMe2_ap, sSeq_ap, seqK_nx, seqK_rt, seqK_bk, seqK_ct, seqK_exc, seqK_no, sNx_ap, sNo_ap, sEx_ap, kE_ap, sRet_ap, kR_ap, sRetN_ap, sIf_ap, kSI_t, kSI_f, sAs_ap, kA_ap, asK_ok, aN_ap, kA_N, asNil_ap, asCons_ap, kG_ap, asSub_ap, kU1_ap, kU2_ap, sFor_ap, kF_ap, sPar_ap, kP2_ap, sPar3_ap, kP3_ap, endB_nx, endB_rt, endB_exc, endB_no, gAdd_i, gSub_i, gLtI_i, gLe_i, gGt_i, gGe_i, gNeg_i, gIntF_i, gAbs_i, gMax2_i, gMin2_i, gLen_l, gLen_t, gTupF_l, gTupF_t, gSl_t, gRev_t, gIs_b, gIsNot_b, gIs_n, gIsNot_n, pys_nil, gZip_t, List.getElem?_cons_zero, List.getElem?_cons_succ, List.set_cons_zero, List.set_cons_succ, List.map_cons, List.map_nil, List.length_cons, List.length_nil, List.cons_append, List.nil_append, Nat.reduceAdd, Nat.reduceSub, List.replicate_succ, List.replicate_zero, ofInts_len, wipeE, List.take_length, frR_new, decide_true, decide_false, Bool.not_true, Bool.not_false, F_ismove _ v, Bool.not_true, F_do t f l row _ v.hf v.hl (by omega)]
      exact e
theorem F_road {row r beside : List Int} {ms : List Mov} (S : Store) (h : Road row ms r) (hn : row.length ≤ 12) (hb : InB 1000000 row) (hn2 : beside.length ≤ 12) (hb2 : InB 1000000 beside) (hm : ms.length ≤ 200) : F_is_road [RW row, RW beside, .py (.tuple (ms.map mvE))] S = .ok (.py (.bool (decide (r = beside)))) S := by
  unfold F_is_road
  rw [runF_ap]
  unfold b_is_road
  obtain ⟨env', e⟩ := forS_road (RW beside) (.py (.tuple (ms.map mvE))) S ms row r none (RW row) h hn
  have e200 : decide (((ms.map mvE).length : Int) ≤ 200) = true := decide_eq_true (by rw [List.length_map]; omega)
  simp -implicitDefEqProofs only [bd_ok, bd_no, bd_exc, bdN_ok, bs_ok, bs_exc, mV_ap, getV_ok, mK_ap, m1_ap, m2_ap, k2_ap, k2'_ap, mNil_ap, mCons_ap, kC1_ap, kC2_ap, mCall_ap, mCallI_ap, mItems_ap, gItems_l, gItems_t, mIf_ap, kIf_t, kIf_f, mCB_ap, mAndT_ap, mOrT_ap, mNotT_ap, kNot_ap, mAnd_ap, kAnd_t, kAnd_f, mOr_ap, kOr_t, kOr_f, mNot_ap, kNotV_ap, mB_ap, kB_ap, mFr_ap, frR_py, frR_no, frR_exc, mSl_ap, kS1_ap, kS2_ap, kS3_ap, oNone_ap, oSome_ap, kO_ap, mChain_ap, kH1_ap, kH2_ap, kH3_t, kH3_f, mMeth_ap, kMe2_ap, sSeq_ap, seqK_nx, seqK_rt, seqK_bk, seqK_ct, seqK_exc, seqK_no, sNx_ap, sNo_ap, sEx_ap, kE_ap, sRet_ap, kR_ap, sRetN_ap, sIf_ap, kSI_t, kSI_f, sAs_ap, kA_ap, asK_ok, aN_ap, kA_N, asNil_ap, asCons_ap, kG_ap, asSub_ap, kU1_ap, kU2_ap, sFor_ap, kF_ap, sPar_ap, kP2_ap, sPar3_ap, kP3_ap, endB_nx, endB_rt, endB_exc, endB_no, gAdd_i, gSub_i, gLtI_i, gLe_i, gGt_i, gGe_i, gNeg_i, gIntF_i, gAbs_i, gMax2_i, gMin2_i, gLen_l, gLen_t, gTupF_l, gTupF_t, gSl_t, gRev_t, gIs_b, gIsNot_b, gIs_n, gIsNot_n, pys_nil, gZip_t, List.getElem?_cons_zero, List.getElem?_cons_succ, List.set_cons_zero, List.set_cons_succ, List.map_cons, List.map_nil, List.length_cons, List.length_nil, List.cons_append, List.nil_append, Nat.reduceAdd, Nat.reduceSub, List.replicate_succ, List.replicate_zero, ofInts_len, wipeE, List.take_length, frR_new, decide_true, decide_false, Bool.not_true, Bool.not_false, F_check row _ hn hb, F_check beside _ hn2 hb2, F_upto, e200, Bool.not_true, e, gEq_r]
theorem gIx_loc0 {row : List Int} : True := trivial
/-! _law_moved -/
theorem gTupF_loc {n : Nat} {l : List PyData} {S : Store} (h : S[n]? = some (.lst l)) : gTupF [.loc n] S = .ok (.py (.tuple l)) S := by
  unfold gTupF rd
  simp only [h]

theorem rangeL_succ (lo : Int) (n : Nat) : rangeL lo (n + 1) = .int lo :: rangeL (lo + 1) n := rfl
theorem gSub_loc : True := trivial
theorem setL_end (T : Store) (l : List PyData) (k : Nat) (q : PyData) (h : k < l.length) : setL T.length (k : Int) q (T ++ [.lst l]) = .ok () (T ++ [.lst (l.set k q)]) := by
  have e : (T ++ [Cell.lst l])[T.length]? = some (.lst l) := by simp
  unfold setL ixN
  simp only [e]
  rw [if_pos (by omega), if_pos (by omega), Int.toNat_natCast]
  simp
theorem ofInts_set (l : List Int) (k : Nat) (v : Int) : (ofInts l).set k (.int v) = ofInts (l.set k v) := by unfold ofInts; rw [List.map_set]
theorem subPut_end (T : Store) (l : List Int) (k : Nat) (v : Int) (env : Ev) (h : k < l.length) : subPut (.loc T.length) (.py (.int (k : Int))) (.py (.int v)) env (T ++ [.lst (ofInts l)]) = .ok env (T ++ [.lst (ofInts (l.set k v))]) := by
  unfold subPut
  simp only []
  rw [setL_end T (ofInts l) k _ (by rw [ofInts_len]; exact h), ofInts_set]
  rfl
/-- one turn of the loop over places -/
def mixed (m r : List Int) (k : Nat) : List Int := m.take k ++ r.drop k
theorem mixed_len {m r : List Int} (h : m.length = r.length) (k : Nat) (hk : k ≤ r.length) : (mixed m r k).length = r.length := by unfold mixed; rw [List.length_append, List.length_take, List.length_drop]; omega
theorem mixed_set {m r : List Int} (h : m.length = r.length) {k : Nat} (hk : k < r.length) {v : Int} (hv : m[k]? = some v) : (mixed m r k).set k v = mixed m r (k + 1) := by
  unfold mixed
  have e1 : (m.take k).length = k := by rw [List.length_take]; omega
  rw [List.set_append_right _ _ (by omega), e1, Nat.sub_self, List.drop_eq_getElem_cons hk, List.set_cons_zero]
  have e2 : m.take (k + 1) = m.take k ++ [v] := by rw [List.take_add_one, hv]; rfl
  rw [e2, List.append_assoc]; rfl
theorem F_lawmoved (S : Store) (v : Val row t f l) (hn : row.length ≤ 100000) : F__law_moved [RW row, .py (mvD t f l)] S = .ok (RW (mv t f l row (row[f]'(by have := v.hf; have := v.hl; omega)) (row[l]'(v.hl)))) S := by
  obtain ⟨hf, hl, ht⟩ := v
  unfold F__law_moved mvD
  rw [runF_ap]
  unfold b__law_moved
  have hfl : f < row.length := by omega
  have e3 := fun (env : Ev) (S : Store) => aT_ap (n := 3) (r := asCons (aN 2) (asCons (aN 3) (asCons (aN 4) asNil))) (l := [kw t, .int f, .int l]) (env := env) (S := S) rfl
  have eL : ∀ S, gLstF [RW row] S = .ok (.loc S.length) (S ++ [.lst (ofInts row)]) := fun S => gLstF_t (fits_le (by rw [ofInts_len]; omega))
  have eR : ∀ S, gRange2 [.py (.int (f : Int)), .py (.int ((l : Int) + 1))] S = .ok (rangeL (f : Int) (l + 1 - f)) S := by
    intro S
    rw [gRange2_i (inR_of (by omega) (by omega)) (inR_of (by omega) (by omega))]
    congr 2
    omega
  have hml := mv_len (t := t) row[f] row[l] hf hl
  generalize hM : mv t f l row row[f] row[l] = M at *
  have hg : ∀ k (hk : k < row.length), f ≤ k → k ≤ l → M[k]? = some (if t then row[f] + row[l] - row[f + l - k]! else 2 * row[f] - row[k]) := by
    intro k hk h1 h2
    rw [← hM, mv_get _ _ hf hl k hk, if_neg (by omega), if_pos h2]
  have key : ∀ (n k : Nat) (x : Option D), f ≤ k → k + n = l + 1 → ∃ x', forS (aN 6) (sIf (mB (m2 gEq (mV 2) (mK (.str "turn")))) (sAs (m2 PX.gSub (mFr (m2 gAdd (m2 gIx (mV 0) (mV 3)) (m2 gIx (mV 0) (mV 4)))) (m2 gIx (mV 0) (m2 PX.gSub (mFr (m2 gAdd (mV 3) (mV 4))) (mV 6)))) (asSub (mV 5) (mV 6))) (sAs (m2 PX.gSub (m2 gMul (mK (.int 2)) (m2 gIx (mV 0) (mV 3))) (m2 gIx (mV 0) (mV 6))) (asSub (mV 5) (mV 6)))) (rangeL (k : Int) n) [some (RW row), some (.py (.tuple [kw t, .int f, .int l])), some (.py (kw t)), some (.py (.int f)), some (.py (.int l)), some (.loc S.length), x] (S ++ [.lst (ofInts (mixed M row k))]) = .go .nx [some (RW row), some (.py (.tuple [kw t, .int f, .int l])), some (.py (kw t)), some (.py (.int f)), some (.py (.int l)), some (.loc S.length), x'] (S ++ [.lst (ofInts (mixed M row (l + 1)))]) := by
    intro n
    induction n with
    | zero =>
      intro k x h1 h2
      have : k = l + 1 := by omega
      subst this
      exact ⟨x, rfl⟩
    | succ n ih =>
      intro k x h1 h2
      obtain ⟨x', e⟩ := ih (k + 1) (some (.py (.int k))) (by omega) (by omega)
      refine ⟨x', ?_⟩
      rw [rangeL_succ]
      unfold forS
      have hk : k < row.length := by omega
      have hm := mixed_len hml k (by omega)
      have e7 : (f : Int) + (l : Int) - (k : Int) = ((f + l - k : Nat) : Int) := by omega
      have hx := hg k hk h1 (by omega)
      have e8 : ((k : Int) + 1) = ((k + 1 : Nat) : Int) := by omega
      have e9 : gMul (.py (.int 2)) (.py (.int row[f])) (S ++ [.lst (ofInts (mixed M row k))]) = .ok (.py (.int (2 * row[f]))) (S ++ [.lst (ofInts (mixed M row k))]) := gMul_i (cMul_l (by decide))
      cases t with
      | true =>
        rw [getElem!_pos row (f + l - k) (by omega), if_pos rfl] at hx
        simp -implicitDefEqProofs only [bd_ok, bd_no, bd_exc, bdN_ok, bs_ok, bs_exc, mV_ap, getV_ok, mK_ap, m1_ap, m2_ap, k2_ap, k2'_ap, mNil_ap, mCons_ap, kC1_ap, kC2_ap, mCall_ap, mCallI_ap, mItems_ap, gItems_l, gItems_t, mIf_ap, kIf_t, kIf_f, mCB_ap, mAndT_ap, mOrT_ap, mNotT_ap, kNot_ap, mAnd_ap, kAnd_t, kAnd_f, mOr_ap, kOr_t, kOr_f, mNot_ap, kNotV_ap, mB_ap, kB_ap, mFr_ap, frR_py, frR_no, frR_exc, mSl_ap, kS1_ap, kS2_ap, kS3_ap, oNone_ap, oSome_ap, kO_ap, mChain_ap, kH1_ap, kH2_ap, kH3_t, kH3_f, mMeth_ap, kMe2_ap, sSeq_ap, seqK_nx, seqK_rt, seqK_bk, seqK_ct, seqK_exc, seqK_no, sNx_ap, sNo_ap, sEx_ap, kE_ap, sRet_ap, kR_ap, sRetN_ap, sIf_ap, kSI_t, kSI_f, sAs_ap, kA_ap, asK_ok, aN_ap, kA_N, asNil_ap, asCons_ap, kG_ap, asSub_ap, kU1_ap, kU2_ap, sFor_ap, kF_ap, sPar_ap, kP2_ap, sPar3_ap, kP3_ap, endB_nx, endB_rt, endB_exc, endB_no, gAdd_i, gSub_i, gLtI_i, gLe_i, gGt_i, gGe_i, gNeg_i, gIntF_i, gAbs_i, gMax2_i, gMin2_i, gLen_l, gLen_t, gTupF_l, gTupF_t, gSl_t, gRev_t, gIs_b, gIsNot_b, gIs_n, gIsNot_n, pys_nil, gZip_t, List.getElem?_cons_zero, List.getElem?_cons_succ, List.set_cons_zero, List.set_cons_succ, List.map_cons, List.map_nil, List.length_cons, List.length_nil, List.cons_append, List.nil_append, Nat.reduceAdd, Nat.reduceSub, List.replicate_succ, List.replicate_zero, ofInts_len, wipeE, List.take_length, frR_new, decide_true, decide_false, Bool.not_true, Bool.not_false, kw_turn, gIx_r row f hfl, gIx_r row l hl, e7, gIx_r row (f + l - k) (by omega : f + l - k < row.length), subPut_end S (mixed M row k) k _ _ (by omega : k < (mixed M row k).length), mixed_set hml hk hx, e8]
        exact e
      | false =>
        rw [if_neg Bool.false_ne_true] at hx
        simp -implicitDefEqProofs only [bd_ok, bd_no, bd_exc, bdN_ok, bs_ok, bs_exc, mV_ap, getV_ok, mK_ap, m1_ap, m2_ap, k2_ap, k2'_ap, mNil_ap, mCons_ap, kC1_ap, kC2_ap, mCall_ap, mCallI_ap, mItems_ap, gItems_l, gItems_t, mIf_ap, kIf_t, kIf_f, mCB_ap, mAndT_ap, mOrT_ap, mNotT_ap, kNot_ap, mAnd_ap, kAnd_t, kAnd_f, mOr_ap, kOr_t, kOr_f, mNot_ap, kNotV_ap, mB_ap, kB_ap, mFr_ap, frR_py, frR_no, frR_exc, mSl_ap, kS1_ap, kS2_ap, kS3_ap, oNone_ap, oSome_ap, kO_ap, mChain_ap, kH1_ap, kH2_ap, kH3_t, kH3_f, mMeth_ap, kMe2_ap, sSeq_ap, seqK_nx, seqK_rt, seqK_bk, seqK_ct, seqK_exc, seqK_no, sNx_ap, sNo_ap, sEx_ap, kE_ap, sRet_ap, kR_ap, sRetN_ap, sIf_ap, kSI_t, kSI_f, sAs_ap, kA_ap, asK_ok, aN_ap, kA_N, asNil_ap, asCons_ap, kG_ap, asSub_ap, kU1_ap, kU2_ap, sFor_ap, kF_ap, sPar_ap, kP2_ap, sPar3_ap, kP3_ap, endB_nx, endB_rt, endB_exc, endB_no, gAdd_i, gSub_i, gLtI_i, gLe_i, gGt_i, gGe_i, gNeg_i, gIntF_i, gAbs_i, gMax2_i, gMin2_i, gLen_l, gLen_t, gTupF_l, gTupF_t, gSl_t, gRev_t, gIs_b, gIsNot_b, gIs_n, gIsNot_n, pys_nil, gZip_t, List.getElem?_cons_zero, List.getElem?_cons_succ, List.set_cons_zero, List.set_cons_succ, List.map_cons, List.map_nil, List.length_cons, List.length_nil, List.cons_append, List.nil_append, Nat.reduceAdd, Nat.reduceSub, List.replicate_succ, List.replicate_zero, ofInts_len, wipeE, List.take_length, frR_new, decide_true, decide_false, Bool.not_true, Bool.not_false, kw_turn, gIx_r row f hfl, e9, gIx_r row k hk, subPut_end S (mixed M row k) k _ _ (by omega : k < (mixed M row k).length), mixed_set hml hk hx, e8]
        exact e
  obtain ⟨x', ek⟩ := key (l + 1 - f) f none (by omega) (by omega)
  have em : mixed M row f = row := by
    have : M.take f = row.take f := by
      rw [← hM]; unfold mv
      rw [List.take_append_of_le_length (by rw [List.length_take]; omega), List.take_take, Nat.min_self]
    unfold mixed
    rw [this, List.take_append_drop]
  have em2 : mixed M row (l + 1) = M := by
    have e0 : M.drop (l + 1) = row.drop (l + 1) := by
      apply List.ext_getElem?
      intro j
      rw [List.getElem?_drop, List.getElem?_drop]
      by_cases hj : l + 1 + j < row.length
      · rw [← hM, mv_get _ _ hf hl _ hj, if_neg (by omega), if_neg (by omega), List.getElem?_eq_getElem hj]
      · rw [List.getElem?_eq_none (by omega), List.getElem?_eq_none (by omega)]
    unfold mixed
    rw [← e0, List.take_append_drop]
  rw [em, em2] at ek
  have eT : gTupF [.loc S.length] (S ++ [.lst (ofInts M)]) = .ok (RW M) (S ++ [.lst (ofInts M)]) := gTupF_loc (by simp)
  simp -implicitDefEqProofs only [bd_ok, bd_no, bd_exc, bdN_ok, bs_ok, bs_exc, mV_ap, getV_ok, mK_ap, m1_ap, m2_ap, k2_ap, k2'_ap, mNil_ap, mCons_ap, kC1_ap, kC2_ap, mCall_ap, mCallI_ap, mItems_ap, gItems_l, gItems_t, mIf_ap, kIf_t, kIf_f, mCB_ap, mAndT_ap, mOrT_ap, mNotT_ap, kNot_ap, mAnd_ap, kAnd_t, kAnd_f, mOr_ap, kOr_t, kOr_f, mNot_ap, kNotV_ap, mB_ap, kB_ap, mFr_ap, frR_py, frR_no, frR_exc, mSl_ap, kS1_ap, kS2_ap, kS3_ap, oNone_ap, oSome_ap, kO_ap, mChain_ap, kH1_ap, kH2_ap, kH3_t, kH3_f, mMeth_ap, kMe2_ap, sSeq_ap, seqK_nx, seqK_rt, seqK_bk, seqK_ct, seqK_exc, seqK_no, sNx_ap, sNo_ap, sEx_ap, kE_ap, sRet_ap, kR_ap, sRetN_ap, sIf_ap, kSI_t, kSI_f, sAs_ap, kA_ap, asK_ok, aN_ap, kA_N, asNil_ap, asCons_ap, kG_ap, asSub_ap, kU1_ap, kU2_ap, sFor_ap, kF_ap, sPar_ap, kP2_ap, sPar3_ap, kP3_ap, endB_nx, endB_rt, endB_exc, endB_no, gAdd_i, gSub_i, gLtI_i, gLe_i, gGt_i, gGe_i, gNeg_i, gIntF_i, gAbs_i, gMax2_i, gMin2_i, gLen_l, gLen_t, gTupF_l, gTupF_t, gSl_t, gRev_t, gIs_b, gIsNot_b, gIs_n, gIsNot_n, pys_nil, gZip_t, List.getElem?_cons_zero, List.getElem?_cons_succ, List.set_cons_zero, List.set_cons_succ, List.map_cons, List.map_nil, List.length_cons, List.length_nil, List.cons_append, List.nil_append, Nat.reduceAdd, Nat.reduceSub, List.replicate_succ, List.replicate_zero, ofInts_len, wipeE, List.take_length, frR_new, decide_true, decide_false, Bool.not_true, Bool.not_false, e3, eL, eR, ek, eT, List.take_left']
end LW

end P_P3
section P_P4
set_option maxHeartbeats 4000000
namespace LW
open PySem PySem.Spec PyProof.Rows L2 PX
variable {t : Bool} {f l : Nat} {row : List Int}
theorem iabs_eq (i : Int) : (if i < 0 then -i else i) = iabs i := rfl
theorem gAbs_ia (i : Int) (S : Store) : gAbs [.py (.int i)] S = .ok (.py (.int (iabs i))) S := rfl
theorem stp_get : ∀ (r : List Int) (k : Nat) (h : k + 1 < r.length), (stp r)[k]? = some (iabs (r[k + 1] - r[k]))
  | [], k, h => by simp at h
  | [a], k, h => by simp at h
  | a :: b :: r, 0, h => rfl
  | a :: b :: r, k + 1, h => by
    show (stp (b :: r))[k]? = _
    exact stp_get (b :: r) k (by simpa using h)
theorem range_stp (r : List Int) (f : PyData → PyData) (hf : ∀ (k : Nat) (h : k + 1 < r.length), f (.int (k : Int)) = .int (iabs (r[k + 1] - r[k]))) : (rangeL 0 (r.length - 1)).map f = ofInts (stp r) := by
  apply List.ext_getElem?
  intro k
  rw [List.getElem?_map, rangeL_get]
  by_cases h : k + 1 < r.length
  · rw [if_pos (by omega)]
    show some (f (.int (0 + (k : Int)))) = ((stp r).map PyData.int)[k]?
    rw [Int.zero_add, hf k h, List.getElem?_map, stp_get r k h]; rfl
  · rw [if_neg (by omega)]
    rw [List.getElem?_eq_none (by rw [ofInts_len, stp_len]; omega)]; rfl
theorem isort_len (a : List Int) : (isort a).length = a.length := (isort_perm a).length_eq
theorem gSortI_loc {n : Nat} {ns : List Int} {S : Store} (e : S[n]? = some (.lst (ofInts ns))) (h : ns.length ≤ 16777216) : gSortI [.loc n] S = .ok (.loc S.length) (S ++ [.lst (ofInts (isort ns))]) := by
  unfold gSortI rd
  simp only [e, toInts_of, fits_le h, if_true]
theorem mem_range {p : PyData} {n : Nat} {lo : Int} (h : p ∈ rangeL lo n) : ∃ k : Nat, k < n ∧ p = .int (lo + k) := by
  obtain ⟨k, e⟩ := List.getElem?_of_mem h
  rw [rangeL_get] at e
  by_cases hk : k < n
  · rw [if_pos hk] at e
    exact ⟨k, hk, (Option.some.inj e).symm⟩
  · rw [if_neg hk] at e; cases e
theorem F_steps (S : Store) (hn : row.length ≤ 100000) : F__law_steps [RW row] S = .ok (.py (.list (ofInts (isort (stp row))))) S := by
  unfold F__law_steps
  rw [runF_ap]
  unfold b__law_steps
  have eR : ∀ S, gRange1 [.py (.int ((row.length : Int) - 1))] S = .ok (rangeL 0 (row.length - 1)) S := by
    intro S
    rw [gRange1_i (inR_of (by omega) (by omega))]
    congr 2
    omega
  have eC : ∀ S, mLc [1] (mCallI gRange1 (mCons (m2 PX.gSub (mCall gLen (mCons (mV 0) mNil)) (mK (.int 1))) mNil)) (aN 1) mYes (mCall gAbs (mCons (m2 PX.gSub (m2 gIx (mV 0) (m2 gAdd (mV 1) (mK (.int 1)))) (m2 gIx (mV 0) (mV 1))) mNil)) [some (RW row), none] S = .ok (.loc S.length) (S ++ [.lst (ofInts (stp row))]) := by
    intro S
    rw [mLc_all (ps := rangeL 0 (row.length - 1)) (fun p => [some (RW row), some (.py p)]) (fun p => match p with | .int k => .int (iabs (row[k.toNat + 1]! - row[k.toNat]!)) | p => p)]
    · rw [range_stp]
      intro k hk
      simp only [Int.toNat_natCast]
      rw [getElem!_pos row (k + 1) hk, getElem!_pos row k (by omega)]
    · simp -implicitDefEqProofs only [bd_ok, bd_no, bd_exc, bdN_ok, bs_ok, bs_exc, mV_ap, getV_ok, mK_ap, m1_ap, m2_ap, k2_ap, k2'_ap, mNil_ap, mCons_ap, kC1_ap, kC2_ap, mCall_ap, mCallI_ap, mItems_ap, gItems_l, gItems_t, mIf_ap, kIf_t, kIf_f, mCB_ap, mAndT_ap, mOrT_ap, mNotT_ap, kNot_ap, mAnd_ap, kAnd_t, kAnd_f, mOr_ap, kOr_t, kOr_f, mNot_ap, kNotV_ap, mB_ap, kB_ap, mFr_ap, frR_py, frR_no, frR_exc, mSl_ap, kS1_ap, kS2_ap, kS3_ap, oNone_ap, oSome_ap, kO_ap, mChain_ap, kH1_ap, kH2_ap, kH3_t, kH3_f, mMeth_ap, kMe2_ap, sSeq_ap, seqK_nx, seqK_rt, seqK_bk, seqK_ct, seqK_exc, seqK_no, sNx_ap, sNo_ap, sEx_ap, kE_ap, sRet_ap, kR_ap, sRetN_ap, sIf_ap, kSI_t, kSI_f, sAs_ap, kA_ap, asK_ok, aN_ap, kA_N, asNil_ap, asCons_ap, kG_ap, asSub_ap, kU1_ap, kU2_ap, sFor_ap, kF_ap, sPar_ap, kP2_ap, sPar3_ap, kP3_ap, endB_nx, endB_rt, endB_exc, endB_no, gAdd_i, gSub_i, gLtI_i, gLe_i, gGt_i, gGe_i, gNeg_i, gIntF_i, gAbs_i, gMax2_i, gMin2_i, gLen_l, gLen_t, gTupF_l, gTupF_t, gSl_t, gRev_t, gIs_b, gIsNot_b, gIs_n, gIsNot_n, pys_nil, gZip_t, List.getElem?_cons_zero, List.getElem?_cons_succ, List.set_cons_zero, List.set_cons_succ, List.map_cons, List.map_nil, List.length_cons, List.length_nil, List.cons_append, List.nil_append, Nat.reduceAdd, Nat.reduceSub, List.replicate_succ, List.replicate_zero, ofInts_len, wipeE, List.take_length, frR_new, decide_true, decide_false, Bool.not_true, Bool.not_false, eR]
    · rw [rangeL_len]; omega
    · intro p hp S; rfl
    · intro p hp S
      obtain ⟨k, hk, rfl⟩ := mem_range hp
      rw [Int.zero_add]
      have e1 : (k : Int) + 1 = ((k + 1 : Nat) : Int) := by omega
      simp -implicitDefEqProofs only [bd_ok, bd_no, bd_exc, bdN_ok, bs_ok, bs_exc, mV_ap, getV_ok, mK_ap, m1_ap, m2_ap, k2_ap, k2'_ap, mNil_ap, mCons_ap, kC1_ap, kC2_ap, mCall_ap, mCallI_ap, mItems_ap, gItems_l, gItems_t, mIf_ap, kIf_t, kIf_f, mCB_ap, mAndT_ap, mOrT_ap, mNotT_ap, kNot_ap, mAnd_ap, kAnd_t, kAnd_f, mOr_ap, kOr_t, kOr_f, mNot_ap, kNotV_ap, mB_ap, kB_ap, mFr_ap, frR_py, frR_no, frR_exc, mSl_ap, kS1_ap, kS2_ap, kS3_ap, oNone_ap, oSome_ap, kO_ap, mChain_ap, kH1_ap, kH2_ap, kH3_t, kH3_f, mMeth_ap, kMe2_ap, sSeq_ap, seqK_nx, seqK_rt, seqK_bk, seqK_ct, seqK_exc, seqK_no, sNx_ap, sNo_ap, sEx_ap, kE_ap, sRet_ap, kR_ap, sRetN_ap, sIf_ap, kSI_t, kSI_f, sAs_ap, kA_ap, asK_ok, aN_ap, kA_N, asNil_ap, asCons_ap, kG_ap, asSub_ap, kU1_ap, kU2_ap, sFor_ap, kF_ap, sPar_ap, kP2_ap, sPar3_ap, kP3_ap, endB_nx, endB_rt, endB_exc, endB_no, gAdd_i, gSub_i, gLtI_i, gLe_i, gGt_i, gGe_i, gNeg_i, gIntF_i, gAbs_i, gMax2_i, gMin2_i, gLen_l, gLen_t, gTupF_l, gTupF_t, gSl_t, gRev_t, gIs_b, gIsNot_b, gIs_n, gIsNot_n, pys_nil, gZip_t, List.getElem?_cons_zero, List.getElem?_cons_succ, List.set_cons_zero, List.set_cons_succ, List.map_cons, List.map_nil, List.length_cons, List.length_nil, List.cons_append, List.nil_append, Nat.reduceAdd, Nat.reduceSub, List.replicate_succ, List.replicate_zero, ofInts_len, wipeE, List.take_length, frR_new, decide_true, decide_false, Bool.not_true, Bool.not_false, e1, gIx_r row (k + 1) (by omega : k + 1 < row.length), gIx_r row k (by omega : k < row.length), gAbs_ia]
      rw [Int.toNat_natCast, getElem!_pos row (k + 1) (by omega), getElem!_pos row k (by omega)]
      rfl
  have hs : fits (stp row).length = true := fits_le (by rw [stp_len]; omega)
  simp -implicitDefEqProofs only [bd_ok, bd_no, bd_exc, bdN_ok, bs_ok, bs_exc, mV_ap, getV_ok, mK_ap, m1_ap, m2_ap, k2_ap, k2'_ap, mNil_ap, mCons_ap, kC1_ap, kC2_ap, mCall_ap, mCallI_ap, mItems_ap, gItems_l, gItems_t, mIf_ap, kIf_t, kIf_f, mCB_ap, mAndT_ap, mOrT_ap, mNotT_ap, kNot_ap, mAnd_ap, kAnd_t, kAnd_f, mOr_ap, kOr_t, kOr_f, mNot_ap, kNotV_ap, mB_ap, kB_ap, mFr_ap, frR_py, frR_no, frR_exc, mSl_ap, kS1_ap, kS2_ap, kS3_ap, oNone_ap, oSome_ap, kO_ap, mChain_ap, kH1_ap, kH2_ap, kH3_t, kH3_f, mMeth_ap, kMe2_ap, sSeq_ap, seqK_nx, seqK_rt, seqK_bk, seqK_ct, seqK_exc, seqK_no, sNx_ap, sNo_ap, sEx_ap, kE_ap, sRet_ap, kR_ap, sRetN_ap, sIf_ap, kSI_t, kSI_f, sAs_ap, kA_ap, asK_ok, aN_ap, kA_N, asNil_ap, asCons_ap, kG_ap, asSub_ap, kU1_ap, kU2_ap, sFor_ap, kF_ap, sPar_ap, kP2_ap, sPar3_ap, kP3_ap, endB_nx, endB_rt, endB_exc, endB_no, gAdd_i, gSub_i, gLtI_i, gLe_i, gGt_i, gGe_i, gNeg_i, gIntF_i, gAbs_i, gMax2_i, gMin2_i, gLen_l, gLen_t, gTupF_l, gTupF_t, gSl_t, gRev_t, gIs_b, gIsNot_b, gIs_n, gIsNot_n, pys_nil, gZip_t, List.getElem?_cons_zero, List.getElem?_cons_succ, List.set_cons_zero, List.set_cons_succ, List.map_cons, List.map_nil, List.length_cons, List.length_nil, List.cons_append, List.nil_append, Nat.reduceAdd, Nat.reduceSub, List.replicate_succ, List.replicate_zero, ofInts_len, wipeE, List.take_length, frR_new, decide_true, decide_false, Bool.not_true, Bool.not_false, eC, gSortI_p hs]
theorem zip_stp : ∀ (r : List Int) (g : PyData → PyData), (∀ a b : Int, g (.tuple [.int a, .int b]) = .int (iabs (b - a))) → (zipT (ofInts r) (ofInts (r.drop 1))).map g = ofInts (stp r)
  | [], g, h => rfl
  | [a], g, h => rfl
  | a :: b :: r, g, h => by
    have ih := zip_stp (b :: r) g h
    show g (.tuple [.int a, .int b]) :: (zipT (ofInts (b :: r)) (ofInts r)).map g = ofInts (iabs (b - a) :: stp (b :: r))
    rw [h]
    show _ = PyData.int _ :: ofInts (stp (b :: r))
    rw [← ih]; rfl
theorem mem_zip {r : List Int} {p : PyData} : ∀ {a b : List Int}, p ∈ zipT (ofInts a) (ofInts b) → ∃ x y : Int, p = .tuple [.int x, .int y]
  | [], b, h => by cases h
  | x :: a, [], h => by cases h
  | x :: a, y :: b, h => by
    rcases List.mem_cons.mp h with e | e
    · exact ⟨x, y, e⟩
    · exact mem_zip (r := r) e
theorem zipT_len : ∀ (a b : List PyData), (zipT a b).length ≤ a.length
  | [], b => Nat.zero_le _
  | x :: a, [] => Nat.zero_le _
  | x :: a, y :: b => Nat.succ_le_succ (zipT_len a b)
theorem F_between (S : Store) (hn : row.length ≤ 100000) : F_steps_between [RW row] S = .ok (.py (.tuple (ofInts (isort (stp row))))) S := by
  unfold F_steps_between
  rw [runF_ap]
  unfold b_steps_between
  have e0 : cutL (ofInts row) (some 1) none = ofInts (row.drop 1) := by rw [cutL_ofInts]; exact congrArg _ (cutL_from row 1)
  have eC : ∀ S, mLc [1, 2] (mCallI gZip (mCons (mV 0) (mCons (mFr (mSl (mV 0) (oSome (mK (.int 1))) oNone)) mNil))) (aT 2 (asCons (aN 1) (asCons (aN 2) asNil))) mYes (mCall gAbs (mCons (m2 PX.gSub (mV 2) (mV 1)) mNil)) [some (RW row), none, none] S = .ok (.loc S.length) (S ++ [.lst (ofInts (stp row))]) := by
    intro S
    rw [mLc_all (ps := zipT (ofInts row) (ofInts (row.drop 1))) (fun p => match p with | .tuple [a, b] => [some (RW row), some (.py a), some (.py b)] | _ => []) (fun p => match p with | .tuple [.int a, .int b] => .int (iabs (b - a)) | p => p)]
    · rw [zip_stp row _ (fun a b => rfl)]
    · simp -implicitDefEqProofs only [bd_ok, bd_no, bd_exc, bdN_ok, bs_ok, bs_exc, mV_ap, getV_ok, mK_ap, m1_ap, m2_ap, k2_ap, k2'_ap, mNil_ap, mCons_ap, kC1_ap, kC2_ap, mCall_ap, mCallI_ap, mItems_ap, gItems_l, gItems_t, mIf_ap, kIf_t, kIf_f, mCB_ap, mAndT_ap, mOrT_ap, mNotT_ap, kNot_ap, mAnd_ap, kAnd_t, kAnd_f, mOr_ap, kOr_t, kOr_f, mNot_ap, kNotV_ap, mB_ap, kB_ap, mFr_ap, frR_py, frR_no, frR_exc, mSl_ap, kS1_ap, kS2_ap, kS3_ap, oNone_ap, oSome_ap, kO_ap, mChain_ap, kH1_ap, kH2_ap, kH3_t, kH3_f, mMeth_ap, kMe2_ap, sSeq_ap, seqK_nx, seqK_rt, seqK_bk, seqK_ct, seqK_exc, seqK_no, sNx_ap, sNo_ap, sEx_ap, kE_ap, sRet_ap, kR_ap, sRetN_ap, sIf_ap, kSI_t, kSI_f, sAs_ap, kA_ap, asK_ok, aN_ap, kA_N, asNil_ap, asCons_ap, kG_ap, asSub_ap, kU1_ap, kU2_ap, sFor_ap, kF_ap, sPar_ap, kP2_ap, sPar3_ap, kP3_ap, endB_nx, endB_rt, endB_exc, endB_no, gAdd_i, gSub_i, gLtI_i, gLe_i, gGt_i, gGe_i, gNeg_i, gIntF_i, gAbs_i, gMax2_i, gMin2_i, gLen_l, gLen_t, gTupF_l, gTupF_t, gSl_t, gRev_t, gIs_b, gIsNot_b, gIs_n, gIsNot_n, pys_nil, gZip_t, List.getElem?_cons_zero, List.getElem?_cons_succ, List.set_cons_zero, List.set_cons_succ, List.map_cons, List.map_nil, List.length_cons, List.length_nil, List.cons_append, List.nil_append, Nat.reduceAdd, Nat.reduceSub, List.replicate_succ, List.replicate_zero, ofInts_len, wipeE, List.take_length, frR_new, decide_true, decide_false, Bool.not_true, Bool.not_false, e0]
    · exact Nat.le_trans (zipT_len _ _) (by rw [ofInts_len]; omega)
    · intro p hp S
      obtain ⟨x, y, rfl⟩ := mem_zip (r := row) hp
      rfl
    · intro p hp S
      obtain ⟨x, y, rfl⟩ := mem_zip (r := row) hp
      simp -implicitDefEqProofs only [bd_ok, bd_no, bd_exc, bdN_ok, bs_ok, bs_exc, mV_ap, getV_ok, mK_ap, m1_ap, m2_ap, k2_ap, k2'_ap, mNil_ap, mCons_ap, kC1_ap, kC2_ap, mCall_ap, mCallI_ap, mItems_ap, gItems_l, gItems_t, mIf_ap, kIf_t, kIf_f, mCB_ap, mAndT_ap, mOrT_ap, mNotT_ap, kNot_ap, mAnd_ap, kAnd_t, kAnd_f, mOr_ap, kOr_t, kOr_f, mNot_ap, kNotV_ap, mB_ap, kB_ap, mFr_ap, frR_py, frR_no, frR_exc, mSl_ap, kS1_ap, kS2_ap, kS3_ap, oNone_ap, oSome_ap, kO_ap, mChain_ap, kH1_ap, kH2_ap, kH3_t, kH3_f, mMeth_ap, kMe2_ap, sSeq_ap, seqK_nx, seqK_rt, seqK_bk, seqK_ct, seqK_exc, seqK_no, sNx_ap, sNo_ap, sEx_ap, kE_ap, sRet_ap, kR_ap, sRetN_ap, sIf_ap, kSI_t, kSI_f, sAs_ap, kA_ap, asK_ok, aN_ap, kA_N, asNil_ap, asCons_ap, kG_ap, asSub_ap, kU1_ap, kU2_ap, sFor_ap, kF_ap, sPar_ap, kP2_ap, sPar3_ap, kP3_ap, endB_nx, endB_rt, endB_exc, endB_no, gAdd_i, gSub_i, gLtI_i, gLe_i, gGt_i, gGe_i, gNeg_i, gIntF_i, gAbs_i, gMax2_i, gMin2_i, gLen_l, gLen_t, gTupF_l, gTupF_t, gSl_t, gRev_t, gIs_b, gIsNot_b, gIs_n, gIsNot_n, pys_nil, gZip_t, List.getElem?_cons_zero, List.getElem?_cons_succ, List.set_cons_zero, List.set_cons_succ, List.map_cons, List.map_nil, List.length_cons, List.length_nil, List.cons_append, List.nil_append, Nat.reduceAdd, Nat.reduceSub, List.replicate_succ, List.replicate_zero, ofInts_len, wipeE, List.take_length, frR_new, decide_true, decide_false, Bool.not_true, Bool.not_false, gAbs_ia]
      rfl
  have hs : fits (stp row).length = true := fits_le (by rw [stp_len]; omega)
  simp -implicitDefEqProofs only [bd_ok, bd_no, bd_exc, bdN_ok, bs_ok, bs_exc, mV_ap, getV_ok, mK_ap, m1_ap, m2_ap, k2_ap, k2'_ap, mNil_ap, mCons_ap, kC1_ap, kC2_ap, mCall_ap, mCallI_ap, mItems_ap, gItems_l, gItems_t, mIf_ap, kIf_t, kIf_f, mCB_ap, mAndT_ap, mOrT_ap, mNotT_ap, kNot_ap, mAnd_ap, kAnd_t, kAnd_f, mOr_ap, kOr_t, kOr_f, mNot_ap, kNotV_ap, mB_ap, kB_ap, mFr_ap, frR_py, frR_no, frR_exc, mSl_ap, kS1_ap, kS2_ap, kS3_ap, oNone_ap, oSome_ap, kO_ap, mChain_ap, kH1_ap, kH2_ap, kH3_t, kH3_f, mMeth_ap, kMe2_ap, sSeq_ap, seqK_nx, seqK_rt, seqK_bk, seqK_ct, seqK_exc, seqK_no, sNx_ap, sNo_ap, sEx_ap, kE_ap, sRet_ap, kR_ap, sRetN_ap, sIf_ap, kSI_t, kSI_f, sAs_ap, kA_ap, asK_ok, aN_ap, kA_N, asNil_ap, asCons_ap, kG_ap, asSub_ap, kU1_ap, kU2_ap, sFor_ap, kF_ap, sPar_ap, kP2_ap, sPar3_ap, kP3_ap, endB_nx, endB_rt, endB_exc, endB_no, gAdd_i, gSub_i, gLtI_i, gLe_i, gGt_i, gGe_i, gNeg_i, gIntF_i, gAbs_i, gMax2_i, gMin2_i, gLen_l, gLen_t, gTupF_l, gTupF_t, gSl_t, gRev_t, gIs_b, gIsNot_b, gIs_n, gIsNot_n, pys_nil, gZip_t, List.getElem?_cons_zero, List.getElem?_cons_succ, List.set_cons_zero, List.set_cons_succ, List.map_cons, List.map_nil, List.length_cons, List.length_nil, List.cons_append, List.nil_append, Nat.reduceAdd, Nat.reduceSub, List.replicate_succ, List.replicate_zero, ofInts_len, wipeE, List.take_length, frR_new, decide_true, decide_false, Bool.not_true, Bool.not_false, eC, gSortI_p hs]
def formD (a z : Int) (s : List Int) : PyData := .tuple [.int a, .int z, .tuple (ofInts s)]
theorem gIx_last (h : row ≠ []) (S : Store) : gIx (.py (.tuple (ofInts row))) (.py (.int (-1))) S = .ok (.py (.int (row.getLast h))) S := gIx_t (by rw [atI_ofInts, atI_last row h]; rfl)
theorem gIx_first (h : row ≠ []) (S : Store) : gIx (.py (.tuple (ofInts row))) (.py (.int 0)) S = .ok (.py (.int (row.head h))) S := gIx_t (by
  have h0 : 0 < row.length := List.length_pos_iff.mpr h
  rw [atI_ofInts]
  have := atI_nat row 0 h0
  rw [show ((0 : Nat) : Int) = 0 from rfl] at this
  rw [this, List.head_eq_getElem]; rfl)
theorem fits3 : fits 3 = true := rfl
theorem pys3 (a b c : PyData) : pys [.py a, .py b, .py c] = some [a, b, c] := rfl
theorem gTupD3 (a b c : PyData) (S : Store) : gTupD [.py a, .py b, .py c] S = .ok (.py (.tuple [a, b, c])) S := rfl
theorem gTupD0 (S : Store) : gTupD [] S = .ok (.py (.tuple [])) S := rfl
theorem gTupD1 (a : PyData) (S : Store) : gTupD [.py a] S = .ok (.py (.tuple [a])) S := rfl
theorem F_formb (h : row ≠ []) (S : Store) (hn : row.length ≤ 100000) : F_form_between [RW row] S = .ok (.py (formD (row.head h) (row.getLast h) (isort (stp row)))) S := by
  unfold F_form_between
  rw [runF_ap]
  unfold b_form_between
  simp -implicitDefEqProofs only [bd_ok, bd_no, bd_exc, bdN_ok, bs_ok, bs_exc, mV_ap, getV_ok, mK_ap, m1_ap, m2_ap, k2_ap, k2'_ap, mNil_ap, mCons_ap, kC1_ap, kC2_ap, mCall_ap, mCallI_ap, mItems_ap, gItems_l, gItems_t, mIf_ap, kIf_t, kIf_f, mCB_ap, mAndT_ap, mOrT_ap, mNotT_ap, kNot_ap, mAnd_ap, kAnd_t, kAnd_f, mOr_ap, kOr_t, kOr_f, mNot_ap, kNotV_ap, mB_ap, kB_ap, mFr_ap, frR_py, frR_no, frR_exc, mSl_ap, kS1_ap, kS2_ap, kS3_ap, oNone_ap, oSome_ap, kO_ap, mChain_ap, kH1_ap, kH2_ap, kH3_t, kH3_f, mMeth_ap, kMe2_ap, sSeq_ap, seqK_nx, seqK_rt, seqK_bk, seqK_ct, seqK_exc, seqK_no, sNx_ap, sNo_ap, sEx_ap, kE_ap, sRet_ap, kR_ap, sRetN_ap, sIf_ap, kSI_t, kSI_f, sAs_ap, kA_ap, asK_ok, aN_ap, kA_N, asNil_ap, asCons_ap, kG_ap, asSub_ap, kU1_ap, kU2_ap, sFor_ap, kF_ap, sPar_ap, kP2_ap, sPar3_ap, kP3_ap, endB_nx, endB_rt, endB_exc, endB_no, gAdd_i, gSub_i, gLtI_i, gLe_i, gGt_i, gGe_i, gNeg_i, gIntF_i, gAbs_i, gMax2_i, gMin2_i, gLen_l, gLen_t, gTupF_l, gTupF_t, gSl_t, gRev_t, gIs_b, gIsNot_b, gIs_n, gIsNot_n, pys_nil, gZip_t, List.getElem?_cons_zero, List.getElem?_cons_succ, List.set_cons_zero, List.set_cons_succ, List.map_cons, List.map_nil, List.length_cons, List.length_nil, List.cons_append, List.nil_append, Nat.reduceAdd, Nat.reduceSub, List.replicate_succ, List.replicate_zero, ofInts_len, wipeE, List.take_length, frR_new, decide_true, decide_false, Bool.not_true, Bool.not_false, gIx_first h, gIx_last h, F_between _ hn, gTupD3]
  rfl
theorem gNe_r0 (a : List Int) (S : Store) : gNe (RW a) (.py (.tuple [])) S = .ok (.py (.bool (!decide (a = [])))) S := gNe_r a [] S
theorem F_lform (h : row ≠ []) (S : Store) (hn : row.length ≤ 100000) : F__law_form [RW row] S = .ok (.py (formD (row.head h) (row.getLast h) (isort (stp row)))) S := by
  unfold F__law_form
  rw [runF_ap]
  unfold b__law_form
  simp -implicitDefEqProofs only [bd_ok, bd_no, bd_exc, bdN_ok, bs_ok, bs_exc, mV_ap, getV_ok, mK_ap, m1_ap, m2_ap, k2_ap, k2'_ap, mNil_ap, mCons_ap, kC1_ap, kC2_ap, mCall_ap, mCallI_ap, mItems_ap, gItems_l, gItems_t, mIf_ap, kIf_t, kIf_f, mCB_ap, mAndT_ap, mOrT_ap, mNotT_ap, kNot_ap, mAnd_ap, kAnd_t, kAnd_f, mOr_ap, kOr_t, kOr_f, mNot_ap, kNotV_ap, mB_ap, kB_ap, mFr_ap, frR_py, frR_no, frR_exc, mSl_ap, kS1_ap, kS2_ap, kS3_ap, oNone_ap, oSome_ap, kO_ap, mChain_ap, kH1_ap, kH2_ap, kH3_t, kH3_f, mMeth_ap, kMe2_ap, sSeq_ap, seqK_nx, seqK_rt, seqK_bk, seqK_ct, seqK_exc, seqK_no, sNx_ap, sNo_ap, sEx_ap, kE_ap, sRet_ap, kR_ap, sRetN_ap, sIf_ap, kSI_t, kSI_f, sAs_ap, kA_ap, asK_ok, aN_ap, kA_N, asNil_ap, asCons_ap, kG_ap, asSub_ap, kU1_ap, kU2_ap, sFor_ap, kF_ap, sPar_ap, kP2_ap, sPar3_ap, kP3_ap, endB_nx, endB_rt, endB_exc, endB_no, gAdd_i, gSub_i, gLtI_i, gLe_i, gGt_i, gGe_i, gNeg_i, gIntF_i, gAbs_i, gMax2_i, gMin2_i, gLen_l, gLen_t, gTupF_l, gTupF_t, gSl_t, gRev_t, gIs_b, gIsNot_b, gIs_n, gIsNot_n, pys_nil, gZip_t, List.getElem?_cons_zero, List.getElem?_cons_succ, List.set_cons_zero, List.set_cons_succ, List.map_cons, List.map_nil, List.length_cons, List.length_nil, List.cons_append, List.nil_append, Nat.reduceAdd, Nat.reduceSub, List.replicate_succ, List.replicate_zero, ofInts_len, wipeE, List.take_length, frR_new, decide_true, decide_false, Bool.not_true, Bool.not_false, gTupD0, gNe_r0, decide_eq_false h, Bool.not_false, gIx_first h, gIx_last h, F_steps _ hn, gTupD3]
  rfl
theorem F_lform0 (S : Store) : F__law_form [RW []] S = .ok (.py (.tuple [])) S := by
  unfold F__law_form
  rw [runF_ap]
  unfold b__law_form
  simp -implicitDefEqProofs only [bd_ok, bd_no, bd_exc, bdN_ok, bs_ok, bs_exc, mV_ap, getV_ok, mK_ap, m1_ap, m2_ap, k2_ap, k2'_ap, mNil_ap, mCons_ap, kC1_ap, kC2_ap, mCall_ap, mCallI_ap, mItems_ap, gItems_l, gItems_t, mIf_ap, kIf_t, kIf_f, mCB_ap, mAndT_ap, mOrT_ap, mNotT_ap, kNot_ap, mAnd_ap, kAnd_t, kAnd_f, mOr_ap, kOr_t, kOr_f, mNot_ap, kNotV_ap, mB_ap, kB_ap, mFr_ap, frR_py, frR_no, frR_exc, mSl_ap, kS1_ap, kS2_ap, kS3_ap, oNone_ap, oSome_ap, kO_ap, mChain_ap, kH1_ap, kH2_ap, kH3_t, kH3_f, mMeth_ap, kMe2_ap, sSeq_ap, seqK_nx, seqK_rt, seqK_bk, seqK_ct, seqK_exc, seqK_no, sNx_ap, sNo_ap, sEx_ap, kE_ap, sRet_ap, kR_ap, sRetN_ap, sIf_ap, kSI_t, kSI_f, sAs_ap, kA_ap, asK_ok, aN_ap, kA_N, asNil_ap, asCons_ap, kG_ap, asSub_ap, kU1_ap, kU2_ap, sFor_ap, kF_ap, sPar_ap, kP2_ap, sPar3_ap, kP3_ap, endB_nx, endB_rt, endB_exc, endB_no, gAdd_i, gSub_i, gLtI_i, gLe_i, gGt_i, gGe_i, gNeg_i, gIntF_i, gAbs_i, gMax2_i, gMin2_i, gLen_l, gLen_t, gTupF_l, gTupF_t, gSl_t, gRev_t, gIs_b, gIsNot_b, gIs_n, gIsNot_n, pys_nil, gZip_t, List.getElem?_cons_zero, List.getElem?_cons_succ, List.set_cons_zero, List.set_cons_succ, List.map_cons, List.map_nil, List.length_cons, List.length_nil, List.cons_append, List.nil_append, Nat.reduceAdd, Nat.reduceSub, List.replicate_succ, List.replicate_zero, ofInts_len, wipeE, List.take_length, frR_new, decide_true, decide_false, Bool.not_true, Bool.not_false, gTupD0, gNe_r0, decide_true, Bool.not_true]
theorem formD_shp (a z : Int) (s : List Int) : shp 2 (formD a z s) = true := by
  simp only [shp, formD, PyData.canLay0, PyData.canLayAll0, PyData.depth, PyData.depthAll, lay_ints, depth_ints]
  rfl
theorem formD_eqv (a z : Int) (s : List Int) : PyData.eqv (formD a z s) (formD a z s) = true := by
  unfold formD
  rw [eqv_tt]
  show (PyData.eqv (.int a) (.int a) && (PyData.eqv (.int z) (.int z) && (PyData.eqv (.tuple (ofInts s)) (.tuple (ofInts s)) && true))) = true
  rw [eqv_ii, eqv_ii, eqv_rows, decide_eq_true rfl, decide_eq_true rfl, decide_eq_true rfl]; rfl
theorem gEq_form (a z : Int) (s : List Int) (S : Store) : gEq (.py (formD a z s)) (.py (formD a z s)) S = .ok (.py (.bool true)) S := by
  rw [gEq_p (shaped_of (formD_shp a z s)) (shaped_of (formD_shp a z s)), formD_eqv]
theorem gNe_form (a z : Int) (s : List Int) (S : Store) : gNe (.py (formD a z s)) (.py (formD a z s)) S = .ok (.py (.bool false)) S := by
  rw [gNe_p (shaped_of (formD_shp a z s)) (shaped_of (formD_shp a z s)), formD_eqv]; rfl
/-- rows of one form -/
structure Like (a b : List Int) : Prop where
  la : a ≠ []
  lb : b ≠ []
  h : a.head la = b.head lb
  z : a.getLast la = b.getLast lb
  s : isort (stp a) = isort (stp b)
theorem len_ne {a : List Int} (h : a ≠ []) : decide ((a.length : Int) = 0) = false := decide_eq_false (by have := List.length_pos_iff.mpr h; omega)
theorem F_same {a b : List Int} (h : Like a b) (S : Store) (hn : a.length ≤ 100000) (hn2 : b.length ≤ 100000) : F_do_the_same [RW a, RW b] S = .ok (.py (.bool true)) S := by
  unfold F_do_the_same
  rw [runF_ap]
  unfold b_do_the_same
  simp -implicitDefEqProofs only [bd_ok, bd_no, bd_exc, bdN_ok, bs_ok, bs_exc, mV_ap, getV_ok, mK_ap, m1_ap, m2_ap, k2_ap, k2'_ap, mNil_ap, mCons_ap, kC1_ap, kC2_ap, mCall_ap, mCallI_ap, mItems_ap, gItems_l, gItems_t, mIf_ap, kIf_t, kIf_f, mCB_ap, mAndT_ap, mOrT_ap, mNotT_ap, kNot_ap, mAnd_ap, kAnd_t, kAnd_f, mOr_ap, kOr_t, kOr_f, mNot_ap, kNotV_ap, mB_ap, kB_ap, mFr_ap, frR_py, frR_no, frR_exc, mSl_ap, kS1_ap, kS2_ap, kS3_ap, oNone_ap, oSome_ap, kO_ap, mChain_ap, kH1_ap, kH2_ap, kH3_t, kH3_f, mMeth_ap, kMe2_ap, sSeq_ap, seqK_nx, seqK_rt, seqK_bk, seqK_ct, seqK_exc, seqK_no, sNx_ap, sNo_ap, sEx_ap, kE_ap, sRet_ap, kR_ap, sRetN_ap, sIf_ap, kSI_t, kSI_f, sAs_ap, kA_ap, asK_ok, aN_ap, kA_N, asNil_ap, asCons_ap, kG_ap, asSub_ap, kU1_ap, kU2_ap, sFor_ap, kF_ap, sPar_ap, kP2_ap, sPar3_ap, kP3_ap, endB_nx, endB_rt, endB_exc, endB_no, gAdd_i, gSub_i, gLtI_i, gLe_i, gGt_i, gGe_i, gNeg_i, gIntF_i, gAbs_i, gMax2_i, gMin2_i, gLen_l, gLen_t, gTupF_l, gTupF_t, gSl_t, gRev_t, gIs_b, gIsNot_b, gIs_n, gIsNot_n, pys_nil, gZip_t, List.getElem?_cons_zero, List.getElem?_cons_succ, List.set_cons_zero, List.set_cons_succ, List.map_cons, List.map_nil, List.length_cons, List.length_nil, List.cons_append, List.nil_append, Nat.reduceAdd, Nat.reduceSub, List.replicate_succ, List.replicate_zero, ofInts_len, wipeE, List.take_length, frR_new, decide_true, decide_false, Bool.not_true, Bool.not_false, gEq_i, len_ne h.la, len_ne h.lb, F_formb h.la _ hn, F_formb h.lb _ hn2, h.h, h.z, h.s, gEq_form]
theorem F_alike {a b : List Int} (h : Like a b) (S : Store) (hn : a.length ≤ 12) (hn2 : b.length ≤ 12) (h1 : InB 1000000 a) (h2 : InB 1000000 b) : F_rows_alike [RW a, RW b] S = .ok (.py (.bool true)) S := by
  unfold F_rows_alike
  rw [runF_ap]
  unfold b_rows_alike
  simp -implicitDefEqProofs only [bd_ok, bd_no, bd_exc, bdN_ok, bs_ok, bs_exc, mV_ap, getV_ok, mK_ap, m1_ap, m2_ap, k2_ap, k2'_ap, mNil_ap, mCons_ap, kC1_ap, kC2_ap, mCall_ap, mCallI_ap, mItems_ap, gItems_l, gItems_t, mIf_ap, kIf_t, kIf_f, mCB_ap, mAndT_ap, mOrT_ap, mNotT_ap, kNot_ap, mAnd_ap, kAnd_t, kAnd_f, mOr_ap, kOr_t, kOr_f, mNot_ap, kNotV_ap, mB_ap, kB_ap, mFr_ap, frR_py, frR_no, frR_exc, mSl_ap, kS1_ap, kS2_ap, kS3_ap, oNone_ap, oSome_ap, kO_ap, mChain_ap, kH1_ap, kH2_ap, kH3_t, kH3_f, mMeth_ap, kMe2_ap, sSeq_ap, seqK_nx, seqK_rt, seqK_bk, seqK_ct, seqK_exc, seqK_no, sNx_ap, sNo_ap, sEx_ap, kE_ap, sRet_ap, kR_ap, sRetN_ap, sIf_ap, kSI_t, kSI_f, sAs_ap, kA_ap, asK_ok, aN_ap, kA_N, asNil_ap, asCons_ap, kG_ap, asSub_ap, kU1_ap, kU2_ap, sFor_ap, kF_ap, sPar_ap, kP2_ap, sPar3_ap, kP3_ap, endB_nx, endB_rt, endB_exc, endB_no, gAdd_i, gSub_i, gLtI_i, gLe_i, gGt_i, gGe_i, gNeg_i, gIntF_i, gAbs_i, gMax2_i, gMin2_i, gLen_l, gLen_t, gTupF_l, gTupF_t, gSl_t, gRev_t, gIs_b, gIsNot_b, gIs_n, gIsNot_n, pys_nil, gZip_t, List.getElem?_cons_zero, List.getElem?_cons_succ, List.set_cons_zero, List.set_cons_succ, List.map_cons, List.map_nil, List.length_cons, List.length_nil, List.cons_append, List.nil_append, Nat.reduceAdd, Nat.reduceSub, List.replicate_succ, List.replicate_zero, ofInts_len, wipeE, List.take_length, frR_new, decide_true, decide_false, Bool.not_true, Bool.not_false, F_check a _ hn h1, F_check b _ hn2 h2, F_same h _ (by omega : a.length ≤ 100000) (by omega : b.length ≤ 100000)]
theorem mv_like (v : Val row t f l) : Like row (mv t f l row (row[f]'(by have := v.hf; have := v.hl; omega)) (row[l]'(v.hl))) := by
  obtain ⟨hf, hl, ht⟩ := v
  have hn := mv_len (t := t) row[f] row[l] hf hl
  have h1 : row ≠ [] := by intro e; subst e; simp at hl
  have h2 : mv t f l row row[f] row[l] ≠ [] := by intro e; rw [e] at hn; simp at hn; omega
  refine ⟨h1, h2, ?_, ?_, isort_of_perm (mv_form hf hl ht).symm⟩
  · rw [List.head_eq_getElem, List.head_eq_getElem]
    exact (mv_end hf hl ht (by omega) (by omega) (by omega)).symm
  · rw [List.getLast_eq_getElem, List.getLast_eq_getElem]
    have e := mv_end (k := row.length - 1) hf hl ht (by omega) (by omega) (by omega)
    rw [← e]
    congr 1
    omega
end LW

end P_P4
section P_P5
set_option maxHeartbeats 4000000
namespace LW
open PySem PySem.Spec PyProof.Rows L2 PX
variable {t : Bool} {f l : Nat} {row : List Int}
abbrev ValM (row : List Int) (m : Mov) : Prop := Val row m.1 m.2.1 m.2.2
theorem gLstD0 (S : Store) : gLstD [] S = .ok (.loc S.length) (S ++ [.lst []]) := rfl
theorem gLstD1 (a : PyData) (S : Store) : gLstD [.py a] S = .ok (.loc S.length) (S ++ [.lst [a]]) := rfl
def MB : MS := sAs (mFr (m2 gAdd (mFr (m2 gAdd (mV 1) (mFr (mCall gLstD (mCons (mCall gTupD (mCons (mK (.str "turn")) (mCons (mV 2) (mCons (mV 3) mNil)))) mNil))))) (mIf (mB (m2 gEq (m2 gIx (mV 0) (mV 2)) (m2 gIx (mV 0) (mV 3)))) (mFr (mCall gLstD (mCons (mCall gTupD (mCons (mK (.str "mirror")) (mCons (mV 2) (mCons (mV 3) mNil)))) mNil))) (mFr (mCall gLstD mNil))))) (aN 1)
theorem mvs_in (S : Store) (i : Nat) : ∀ (n j : Nat) (ms : List Mov) (x : Option D), i < j → j + n = row.length → (∀ m ∈ ms, ValM row m) → ms.length + 2 * n ≤ 1000000 → ∃ ms' x', forS (aN 3) MB (rangeL (j : Int) n) [some (RW row), some (.py (.list (ms.map mvE))), some (.py (.int i)), x] S = .go .nx [some (RW row), some (.py (.list (ms'.map mvE))), some (.py (.int i)), x'] S ∧ (∀ m ∈ ms', ValM row m) ∧ ms'.length ≤ ms.length + 2 * n ∧ (0 < n ∨ ms ≠ [] → ms' ≠ [])
  | 0, j, ms, x, hi, hj, hv, hl => ⟨ms, x, rfl, hv, by omega, fun h => h.resolve_left (by omega)⟩
  | n + 1, j, ms, x, hi, hj, hv, hl => by
    have hjr : j < row.length := by omega
    have hir : i < row.length := by omega
    have fin : ∀ ms2 : List Mov, (∀ m ∈ ms2, ValM row m) → ms2.length ≤ ms.length + 2 → ms2 ≠ [] → MB [some (RW row), some (.py (.list (ms.map mvE))), some (.py (.int i)), some (.py (.int j))] S = .go .nx [some (RW row), some (.py (.list (ms2.map mvE))), some (.py (.int i)), some (.py (.int j))] S → ∃ ms' x', forS (aN 3) MB (rangeL (j : Int) (n + 1)) [some (RW row), some (.py (.list (ms.map mvE))), some (.py (.int i)), x] S = .go .nx [some (RW row), some (.py (.list (ms'.map mvE))), some (.py (.int i)), x'] S ∧ (∀ m ∈ ms', ValM row m) ∧ ms'.length ≤ ms.length + 2 * (n + 1) ∧ (0 < n + 1 ∨ ms ≠ [] → ms' ≠ []) := by
      intro ms2 h1 h2 h3 e
      obtain ⟨ms', x', e2, v2, l2, n2⟩ := mvs_in S i n (j + 1) ms2 (some (.py (.int j))) (by omega) (by omega) h1 (by omega)
      refine ⟨ms', x', ?_, v2, by omega, fun _ => n2 (.inr h3)⟩
      have e8 : ((j : Int) + 1) = ((j + 1 : Nat) : Int) := by omega
      rw [rangeL_succ, forS_nx (env1 := [some (RW row), some (.py (.list (ms.map mvE))), some (.py (.int i)), some (.py (.int j))]) aN_ap e, e8]
      exact e2
    have e1 : ∀ S, gAdd (.py (.list (ms.map mvE))) (.py (.list [.tuple [.str "turn", .int (i : Int), .int (j : Int)]])) S = .ok (.loc S.length) (S ++ [.lst ((ms ++ [(true, i, j)]).map mvE)]) := fun S => (gAdd_l (fits_le (by rw [List.length_map]; simp only [List.length_cons, List.length_nil]; omega))).trans (by rw [List.map_append]; rfl)
    have vt : ValM row (true, i, j) := ⟨hi, hjr, .inl rfl⟩
    by_cases h : row[i] = row[j]
    · have e2 : ∀ S, gAdd (.py (.list ((ms ++ [(true, i, j)]).map mvE))) (.py (.list [.tuple [.str "mirror", .int (i : Int), .int (j : Int)]])) S = .ok (.loc S.length) (S ++ [.lst ((ms ++ [(true, i, j)] ++ [(false, i, j)]).map mvE)]) := fun S => (gAdd_l (fits_le (by rw [List.length_map, List.length_append]; simp only [List.length_cons, List.length_nil]; omega))).trans (by rw [List.map_append (l₁ := ms ++ [(true, i, j)])]; rfl)
      refine fin (ms ++ [(true, i, j)] ++ [(false, i, j)]) ?_ (by simp) (by simp) ?_
      · intro m hm
        rcases List.mem_append.mp hm with hm | hm
        · rcases List.mem_append.mp hm with hm | hm
          · exact hv m hm
          · rw [List.mem_singleton.mp hm]; exact vt
        · rw [List.mem_singleton.mp hm]; exact ⟨hi, hjr, .inr h⟩
      · unfold MB
        simp -implicitDefEqProofs only [bd_ok, bd_no, bd_exc, bdN_ok, bs_ok, bs_exc, mV_ap, getV_ok, mK_ap, m1_ap, m2_ap, k2_ap, k2'_ap, mNil_ap, mCons_ap, kC1_ap, kC2_ap, mCall_ap, mCallI_ap, mItems_ap, gItems_l, gItems_t, mIf_ap, kIf_t, kIf_f, mCB_ap, mAndT_ap, mOrT_ap, mNotT_ap, kNot_ap, mAnd_ap, kAnd_t, kAnd_f, mOr_ap, kOr_t, kOr_f, mNot_ap, kNotV_ap, mB_ap, kB_ap, mFr_ap, frR_py, frR_no, frR_exc, mSl_ap, kS1_ap, kS2_ap, kS3_ap, oNone_ap, oSome_ap, kO_ap, mChain_ap, kH1_ap, kH2_ap, kH3_t, kH3_f, mMeth_ap, kMe2_ap, sSeq_ap, seqK_nx, seqK_rt, seqK_bk, seqK_ct, seqK_exc, seqK_no, sNx_ap, sNo_ap, sEx_ap, kE_ap, sRet_ap, kR_ap, sRetN_ap, sIf_ap, kSI_t, kSI_f, sAs_ap, kA_ap, asK_ok, aN_ap, kA_N, asNil_ap, asCons_ap, kG_ap, asSub_ap, kU1_ap, kU2_ap, sFor_ap, kF_ap, sPar_ap, kP2_ap, sPar3_ap, kP3_ap, endB_nx, endB_rt, endB_exc, endB_no, gAdd_i, gSub_i, gLtI_i, gLe_i, gGt_i, gGe_i, gNeg_i, gIntF_i, gAbs_i, gMax2_i, gMin2_i, gLen_l, gLen_t, gTupF_l, gTupF_t, gSl_t, gRev_t, gIs_b, gIsNot_b, gIs_n, gIsNot_n, pys_nil, gZip_t, List.getElem?_cons_zero, List.getElem?_cons_succ, List.set_cons_zero, List.set_cons_succ, List.map_cons, List.map_nil, List.length_cons, List.length_nil, List.cons_append, List.nil_append, Nat.reduceAdd, Nat.reduceSub, List.replicate_succ, List.replicate_zero, ofInts_len, wipeE, List.take_length, frR_new, decide_true, decide_false, Bool.not_true, Bool.not_false, gTupD3, gLstD1, e1, e2, gIx_r row i hir, gIx_r row j hjr, gEq_i, decide_eq_true h]
    · have e2 : ∀ S, gAdd (.py (.list ((ms ++ [(true, i, j)]).map mvE))) (.py (.list [])) S = .ok (.loc S.length) (S ++ [.lst ((ms ++ [(true, i, j)]).map mvE)]) := fun S => (gAdd_l (fits_le (by rw [List.length_map, List.length_append]; simp only [List.length_cons, List.length_nil]; omega))).trans (by rw [List.append_nil])
      refine fin (ms ++ [(true, i, j)]) ?_ (by simp) (by simp) ?_
      · intro m hm
        rcases List.mem_append.mp hm with hm | hm
        · exact hv m hm
        · rw [List.mem_singleton.mp hm]; exact vt
      · unfold MB
        simp -implicitDefEqProofs only [bd_ok, bd_no, bd_exc, bdN_ok, bs_ok, bs_exc, mV_ap, getV_ok, mK_ap, m1_ap, m2_ap, k2_ap, k2'_ap, mNil_ap, mCons_ap, kC1_ap, kC2_ap, mCall_ap, mCallI_ap, mItems_ap, gItems_l, gItems_t, mIf_ap, kIf_t, kIf_f, mCB_ap, mAndT_ap, mOrT_ap, mNotT_ap, kNot_ap, mAnd_ap, kAnd_t, kAnd_f, mOr_ap, kOr_t, kOr_f, mNot_ap, kNotV_ap, mB_ap, kB_ap, mFr_ap, frR_py, frR_no, frR_exc, mSl_ap, kS1_ap, kS2_ap, kS3_ap, oNone_ap, oSome_ap, kO_ap, mChain_ap, kH1_ap, kH2_ap, kH3_t, kH3_f, mMeth_ap, kMe2_ap, sSeq_ap, seqK_nx, seqK_rt, seqK_bk, seqK_ct, seqK_exc, seqK_no, sNx_ap, sNo_ap, sEx_ap, kE_ap, sRet_ap, kR_ap, sRetN_ap, sIf_ap, kSI_t, kSI_f, sAs_ap, kA_ap, asK_ok, aN_ap, kA_N, asNil_ap, asCons_ap, kG_ap, asSub_ap, kU1_ap, kU2_ap, sFor_ap, kF_ap, sPar_ap, kP2_ap, sPar3_ap, kP3_ap, endB_nx, endB_rt, endB_exc, endB_no, gAdd_i, gSub_i, gLtI_i, gLe_i, gGt_i, gGe_i, gNeg_i, gIntF_i, gAbs_i, gMax2_i, gMin2_i, gLen_l, gLen_t, gTupF_l, gTupF_t, gSl_t, gRev_t, gIs_b, gIsNot_b, gIs_n, gIsNot_n, pys_nil, gZip_t, List.getElem?_cons_zero, List.getElem?_cons_succ, List.set_cons_zero, List.set_cons_succ, List.map_cons, List.map_nil, List.length_cons, List.length_nil, List.cons_append, List.nil_append, Nat.reduceAdd, Nat.reduceSub, List.replicate_succ, List.replicate_zero, ofInts_len, wipeE, List.take_length, frR_new, decide_true, decide_false, Bool.not_true, Bool.not_false, gTupD3, gLstD1, gLstD0, e1, e2, gIx_r row i hir, gIx_r row j hjr, gEq_i, decide_eq_false h]
theorem mvs_out (S : Store) (hn : row.length ≤ 1000) : ∀ (n i : Nat) (ms : List Mov) (x y : Option D), i + n = row.length → (∀ m ∈ ms, ValM row m) → ms.length + 2 * n * row.length ≤ 1000000 * 2 → ms.length + 2 * n * 12 ≤ 1000 → row.length ≤ 12 → ∃ ms' x' y', forS (aN 2) (sFor (mCallI gRange2 (mCons (m2 gAdd (mV 2) (mK (.int 1))) (mCons (mCall gLen (mCons (mV 0) mNil)) mNil))) (aN 3) MB) (rangeL (i : Int) n) [some (RW row), some (.py (.list (ms.map mvE))), x, y] S = .go .nx [some (RW row), some (.py (.list (ms'.map mvE))), x', y'] S ∧ (∀ m ∈ ms', ValM row m) ∧ (1 < n ∨ ms ≠ [] → ms' ≠ []) ∧ ms'.length ≤ ms.length + 24 * n
  | 0, i, ms, x, y, hi, hv, h1, h2, h3 => ⟨ms, x, y, rfl, hv, fun h => h.resolve_left (by omega), by omega⟩
  | n + 1, i, ms, x, y, hi, hv, h1, h2, h3 => by
    obtain ⟨ms1, y1, e1, v1, l1, n1⟩ := mvs_in (row := row) S i (row.length - (i + 1)) (i + 1) ms y (by omega) (by omega) hv (by omega)
    obtain ⟨ms2, x2, y2, e2, v2, n2, l2⟩ := mvs_out S hn n (i + 1) ms1 (some (.py (.int i))) y1 (by omega) v1 (by
      have : 2 * n * row.length ≤ 2 * n * 12 := Nat.mul_le_mul_left _ h3
      omega) (by omega) h3
    refine ⟨ms2, x2, y2, ?_, v2, ?_, by omega⟩
    · have e8 : ((i : Int) + 1) = ((i + 1 : Nat) : Int) := by omega
      have eR : ∀ S, gRange2 [.py (.int ((i + 1 : Nat) : Int)), .py (.int (row.length : Int))] S = .ok (rangeL ((i + 1 : Nat) : Int) (row.length - (i + 1))) S := by
        intro S
        rw [gRange2_i (inR_of (by omega) (by omega)) (inR_of (by omega) (by omega))]
        congr 2
        omega
      have eb : sFor (mCallI gRange2 (mCons (m2 gAdd (mV 2) (mK (.int 1))) (mCons (mCall gLen (mCons (mV 0) mNil)) mNil))) (aN 3) MB [some (RW row), some (.py (.list (ms.map mvE))), some (.py (.int i)), y] S = .go .nx [some (RW row), some (.py (.list (ms1.map mvE))), some (.py (.int i)), y1] S := by
        simp -implicitDefEqProofs only [bd_ok, bd_no, bd_exc, bdN_ok, bs_ok, bs_exc, mV_ap, getV_ok, mK_ap, m1_ap, m2_ap, k2_ap, k2'_ap, mNil_ap, mCons_ap, kC1_ap, kC2_ap, mCall_ap, mCallI_ap, mItems_ap, gItems_l, gItems_t, mIf_ap, kIf_t, kIf_f, mCB_ap, mAndT_ap, mOrT_ap, mNotT_ap, kNot_ap, mAnd_ap, kAnd_t, kAnd_f, mOr_ap, kOr_t, kOr_f, mNot_ap, kNotV_ap, mB_ap, kB_ap, mFr_ap, frR_py, frR_no, frR_exc, mSl_ap, kS1_ap, kS2_ap, kS3_ap, oNone_ap, oSome_ap, kO_ap, mChain_ap, kH1_ap, kH2_ap, kH3_t, kH3_f, mMeth_ap, kMe2_ap, sSeq_ap, seqK_nx, seqK_rt, seqK_bk, seqK_ct, seqK_exc, seqK_no, sNx_ap, sNo_ap, sEx_ap, kE_ap, sRet_ap, kR_ap, sRetN_ap, sIf_ap, kSI_t, kSI_f, sAs_ap, kA_ap, asK_ok, aN_ap, kA_N, asNil_ap, asCons_ap, kG_ap, asSub_ap, kU1_ap, kU2_ap, sFor_ap, kF_ap, sPar_ap, kP2_ap, sPar3_ap, kP3_ap, endB_nx, endB_rt, endB_exc, endB_no, gAdd_i, gSub_i, gLtI_i, gLe_i, gGt_i, gGe_i, gNeg_i, gIntF_i, gAbs_i, gMax2_i, gMin2_i, gLen_l, gLen_t, gTupF_l, gTupF_t, gSl_t, gRev_t, gIs_b, gIsNot_b, gIs_n, gIsNot_n, pys_nil, gZip_t, List.getElem?_cons_zero, List.getElem?_cons_succ, List.set_cons_zero, List.set_cons_succ, List.map_cons, List.map_nil, List.length_cons, List.length_nil, List.cons_append, List.nil_append, Nat.reduceAdd, Nat.reduceSub, List.replicate_succ, List.replicate_zero, ofInts_len, wipeE, List.take_length, frR_new, decide_true, decide_false, Bool.not_true, Bool.not_false, e8, eR, e1]
      rw [rangeL_succ, forS_nx (env1 := [some (RW row), some (.py (.list (ms.map mvE))), some (.py (.int i)), y]) aN_ap eb, e8]
      exact e2
    · intro h
      by_cases h0 : n = 0
      · exact n2 (.inr (n1 (.inr (h.resolve_left (by omega)))))
      · exact n2 (.inr (n1 (.inl (by omega))))
theorem F_moves (S : Store) (hn : row.length ≤ 12) : ∃ ms : List Mov, F__law_moves [RW row] S = .ok (.py (.list (ms.map mvE))) S ∧ (∀ m ∈ ms, ValM row m) ∧ (2 ≤ row.length → ms ≠ []) ∧ ms.length ≤ 300 := by
  obtain ⟨ms, x, y, e, v, n, hl⟩ := mvs_out (row := row) S (by omega) row.length 0 [] none none (by omega) (fun _ h => nomatch h) (by
    have : 2 * row.length * row.length ≤ 24 * 12 := Nat.mul_le_mul (by omega) (by omega)
    simp; omega) (by simp; omega) hn
  refine ⟨ms, ?_, v, fun h => n (.inl (by omega)), by simp at hl; omega⟩
  unfold F__law_moves
  rw [runF_ap]
  unfold b__law_moves
  have eR : ∀ S, gRange1 [.py (.int (row.length : Int))] S = .ok (rangeL ((0 : Nat) : Int) row.length) S := by
    intro S
    rw [gRange1_i (inR_of (by omega) (by omega))]
    rfl
  have e' : List.map mvE [] = [] := rfl
  rw [e'] at e
  show frR _ (endB (sSeq _ (sSeq (sFor _ _ (sFor _ _ MB)) _) _ _)) = _
  simp -implicitDefEqProofs only [bd_ok, bd_no, bd_exc, bdN_ok, bs_ok, bs_exc, mV_ap, getV_ok, mK_ap, m1_ap, m2_ap, k2_ap, k2'_ap, mNil_ap, mCons_ap, kC1_ap, kC2_ap, mCall_ap, mCallI_ap, mItems_ap, gItems_l, gItems_t, mIf_ap, kIf_t, kIf_f, mCB_ap, mAndT_ap, mOrT_ap, mNotT_ap, kNot_ap, mAnd_ap, kAnd_t, kAnd_f, mOr_ap, kOr_t, kOr_f, mNot_ap, kNotV_ap, mB_ap, kB_ap, mFr_ap, frR_py, frR_no, frR_exc, mSl_ap, kS1_ap, kS2_ap, kS3_ap, oNone_ap, oSome_ap, kO_ap, mChain_ap, kH1_ap, kH2_ap, kH3_t, kH3_f, mMeth_ap, kMe2_ap, sSeq_ap, seqK_nx, seqK_rt, seqK_bk, seqK_ct, seqK_exc, seqK_no, sNx_ap, sNo_ap, sEx_ap, kE_ap, sRet_ap, kR_ap, sRetN_ap, sIf_ap, kSI_t, kSI_f, sAs_ap, kA_ap, asK_ok, aN_ap, kA_N, asNil_ap, asCons_ap, kG_ap, asSub_ap, kU1_ap, kU2_ap, sFor_ap, kF_ap, sPar_ap, kP2_ap, sPar3_ap, kP3_ap, endB_nx, endB_rt, endB_exc, endB_no, gAdd_i, gSub_i, gLtI_i, gLe_i, gGt_i, gGe_i, gNeg_i, gIntF_i, gAbs_i, gMax2_i, gMin2_i, gLen_l, gLen_t, gTupF_l, gTupF_t, gSl_t, gRev_t, gIs_b, gIsNot_b, gIs_n, gIsNot_n, pys_nil, gZip_t, List.getElem?_cons_zero, List.getElem?_cons_succ, List.set_cons_zero, List.set_cons_succ, List.map_cons, List.map_nil, List.length_cons, List.length_nil, List.cons_append, List.nil_append, Nat.reduceAdd, Nat.reduceSub, List.replicate_succ, List.replicate_zero, ofInts_len, wipeE, List.take_length, frR_new, decide_true, decide_false, Bool.not_true, Bool.not_false, gLstD0, eR, e]
end LW

end P_P5
section P_P6
set_option maxHeartbeats 4000000
namespace LW
open PySem PySem.Spec PyProof.Rows L2 PX
variable {t : Bool} {f l : Nat} {row : List Int}
abbrev cup (a b : Int) : Cell := .lst [.int a, .int b]
def CS (a b : Int) (T : Store) : Store := cup a b :: T
theorem gIx_cup0 (a b : Int) (T : Store) : gIx (.loc 0) (.py (.int 0)) (CS a b T) = .ok (.py (.int a)) (CS a b T) := rfl
theorem gIx_cup1 (a b : Int) (T : Store) : gIx (.loc 0) (.py (.int 1)) (CS a b T) = .ok (.py (.int b)) (CS a b T) := rfl
theorem put_cup0 (a b c : Int) (T : Store) (env : Ev) : subPut (.loc 0) (.py (.int 0)) (.py (.int c)) env (CS a b T) = .ok env (CS c b T) := rfl
theorem put_cup1 (a b c : Int) (T : Store) (env : Ev) : subPut (.loc 0) (.py (.int 1)) (.py (.int c)) env (CS a b T) = .ok env (CS a c T) := rfl
theorem len_CS (a b : Int) (T : Store) : (CS a b T).length = T.length + 1 := rfl
theorem take_CS (a b a' b' : Int) (T : Store) : (CS a b T).take (CS a' b' T).length = CS a b T := by
  show cup a b :: T.take T.length = _
  rw [List.take_length]; rfl
theorem roll (a b m : Int) (T : Store) (ha : 0 ≤ a) (hb : 0 ≤ b) (hm : 0 < m) (hm2 : m < 1125899906842624) : ∃ r a' b', 0 ≤ r ∧ r < m ∧ 0 ≤ a' ∧ 0 ≤ b' ∧ F__law_roll [.loc 0, .py (.int m)] (CS a b T) = .ok (.py (.int r)) (CS a' b' T) := by
  have hd : ∀ c, cDiv c m = true := fun c => cDiv_s hm hm2
  by_cases h : 0 < a
  · refine ⟨a % m, a / m, b, Int.emod_nonneg _ (by omega), Int.emod_lt_of_pos _ hm, Int.ediv_nonneg ha (by omega), hb, ?_⟩
    unfold F__law_roll
    rw [runF_ap]
    unfold b__law_roll
    simp -implicitDefEqProofs only [bd_ok, bd_no, bd_exc, bdN_ok, bs_ok, bs_exc, mV_ap, getV_ok, mK_ap, m1_ap, m2_ap, k2_ap, k2'_ap, mNil_ap, mCons_ap, kC1_ap, kC2_ap, mCall_ap, mCallI_ap, mItems_ap, gItems_l, gItems_t, mIf_ap, kIf_t, kIf_f, mCB_ap, mAndT_ap, mOrT_ap, mNotT_ap, kNot_ap, mAnd_ap, kAnd_t, kAnd_f, mOr_ap, kOr_t, kOr_f, mNot_ap, kNotV_ap, mB_ap, kB_ap, mFr_ap, frR_py, frR_no, frR_exc, mSl_ap, kS1_ap, kS2_ap, kS3_ap, oNone_ap, oSome_ap, kO_ap, mChain_ap, kH1_ap, kH2_ap, kH3_t, kH3_f, mMeth_ap, kMe2_ap, sSeq_ap, seqK_nx, seqK_rt, seqK_bk, seqK_ct, seqK_exc, seqK_no, sNx_ap, sNo_ap, sEx_ap, kE_ap, sRet_ap, kR_ap, sRetN_ap, sIf_ap, kSI_t, kSI_f, sAs_ap, kA_ap, asK_ok, aN_ap, kA_N, asNil_ap, asCons_ap, kG_ap, asSub_ap, kU1_ap, kU2_ap, sFor_ap, kF_ap, sPar_ap, kP2_ap, sPar3_ap, kP3_ap, endB_nx, endB_rt, endB_exc, endB_no, gAdd_i, gSub_i, gLtI_i, gLe_i, gGt_i, gGe_i, gNeg_i, gIntF_i, gAbs_i, gMax2_i, gMin2_i, gLen_l, gLen_t, gTupF_l, gTupF_t, gSl_t, gRev_t, gIs_b, gIsNot_b, gIs_n, gIsNot_n, pys_nil, gZip_t, List.getElem?_cons_zero, List.getElem?_cons_succ, List.set_cons_zero, List.set_cons_succ, List.map_cons, List.map_nil, List.length_cons, List.length_nil, List.cons_append, List.nil_append, Nat.reduceAdd, Nat.reduceSub, List.replicate_succ, List.replicate_zero, ofInts_len, wipeE, List.take_length, frR_new, decide_true, decide_false, Bool.not_true, Bool.not_false, gIx_cup0, decide_eq_true h, gMod_i hm, gDiv_i (hd a), put_cup0, take_CS]
  · refine ⟨(b * 30949 + 7919) % 2147483497 * ((b * 30949 + 7919) % 2147483497 + 191) % 2147483587 / 761 % m, a, (b * 30949 + 7919) % 2147483497, Int.emod_nonneg _ (by omega), Int.emod_lt_of_pos _ hm, ha, Int.emod_nonneg _ (by omega), ?_⟩
    have hx0 : 0 ≤ (b * 30949 + 7919) % 2147483497 := Int.emod_nonneg _ (by omega)
    have hx1 : (b * 30949 + 7919) % 2147483497 < 2147483497 := Int.emod_lt_of_pos _ (by omega)
    unfold F__law_roll
    rw [runF_ap]
    unfold b__law_roll
    have e1 : ∀ S, gMul (.py (.int b)) (.py (.int 30949)) S = .ok (.py (.int (b * 30949))) S := fun S => gMul_i (cMul_r (by decide))
    have e2 : ∀ S, gMod (.py (.int (b * 30949 + 7919))) (.py (.int 2147483497)) S = .ok (.py (.int ((b * 30949 + 7919) % 2147483497))) S := fun S => gMod_i (by decide)
    have e3 : ∀ c S, gMod (.py (.int c)) (.py (.int 2147483587)) S = .ok (.py (.int (c % 2147483587))) S := fun c S => gMod_i (by decide)
    have e4 : ∀ c S, gDiv (.py (.int c)) (.py (.int 761)) S = .ok (.py (.int (c / 761))) S := fun c S => gDiv_i (cDiv_s (by decide) (by decide))
    generalize (b * 30949 + 7919) % 2147483497 = x at *
    have e5 : ∀ S, gMul (.py (.int x)) (.py (.int (x + 191))) S = .ok (.py (.int (x * (x + 191)))) S := fun S => gMul_i (cMul_r (by omega))
    simp -implicitDefEqProofs only [bd_ok, bd_no, bd_exc, bdN_ok, bs_ok, bs_exc, mV_ap, getV_ok, mK_ap, m1_ap, m2_ap, k2_ap, k2'_ap, mNil_ap, mCons_ap, kC1_ap, kC2_ap, mCall_ap, mCallI_ap, mItems_ap, gItems_l, gItems_t, mIf_ap, kIf_t, kIf_f, mCB_ap, mAndT_ap, mOrT_ap, mNotT_ap, kNot_ap, mAnd_ap, kAnd_t, kAnd_f, mOr_ap, kOr_t, kOr_f, mNot_ap, kNotV_ap, mB_ap, kB_ap, mFr_ap, frR_py, frR_no, frR_exc, mSl_ap, kS1_ap, kS2_ap, kS3_ap, oNone_ap, oSome_ap, kO_ap, mChain_ap, kH1_ap, kH2_ap, kH3_t, kH3_f, mMeth_ap, kMe2_ap, sSeq_ap, seqK_nx, seqK_rt, seqK_bk, seqK_ct, seqK_exc, seqK_no, sNx_ap, sNo_ap, sEx_ap, kE_ap, sRet_ap, kR_ap, sRetN_ap, sIf_ap, kSI_t, kSI_f, sAs_ap, kA_ap, asK_ok, aN_ap, kA_N, asNil_ap, asCons_ap, kG_ap, asSub_ap, kU1_ap, kU2_ap, sFor_ap, kF_ap, sPar_ap, kP2_ap, sPar3_ap, kP3_ap, endB_nx, endB_rt, endB_exc, endB_no, gAdd_i, gSub_i, gLtI_i, gLe_i, gGt_i, gGe_i, gNeg_i, gIntF_i, gAbs_i, gMax2_i, gMin2_i, gLen_l, gLen_t, gTupF_l, gTupF_t, gSl_t, gRev_t, gIs_b, gIsNot_b, gIs_n, gIsNot_n, pys_nil, gZip_t, List.getElem?_cons_zero, List.getElem?_cons_succ, List.set_cons_zero, List.set_cons_succ, List.map_cons, List.map_nil, List.length_cons, List.length_nil, List.cons_append, List.nil_append, Nat.reduceAdd, Nat.reduceSub, List.replicate_succ, List.replicate_zero, ofInts_len, wipeE, List.take_length, frR_new, decide_true, decide_false, Bool.not_true, Bool.not_false, gIx_cup0, gIx_cup1, decide_eq_false h, e1, e2, put_cup1, e5, e3, e4, gMod_i hm, take_CS]
theorem some_ (a b : Int) (T : Store) (l : List PyData) (ha : 0 ≤ a) (hb : 0 ≤ b) (hl : l ≠ []) (hl2 : l.length ≤ 16777216) : ∃ p a' b', p ∈ l ∧ 0 ≤ a' ∧ 0 ≤ b' ∧ F__law_some [.loc 0, .py (.list l)] (CS a b T) = .ok (.py p) (CS a' b' T) := by
  have h0 : 0 < l.length := List.length_pos_iff.mpr hl
  obtain ⟨r, a', b', h1, h2, h3, h4, e⟩ := roll a b l.length T ha hb (by omega) (by omega)
  have hr : r.toNat < l.length := by omega
  refine ⟨l[r.toNat], a', b', List.getElem_mem hr, h3, h4, ?_⟩
  have ei : ∀ S, gIx (.py (.list l)) (.py (.int r)) S = .ok (.py l[r.toNat]) S := fun S => gIx_l (by
    have := atI_nat l r.toNat hr
    rw [Int.toNat_of_nonneg h1] at this
    exact this)
  unfold F__law_some
  rw [runF_ap]
  unfold b__law_some
  simp -implicitDefEqProofs only [bd_ok, bd_no, bd_exc, bdN_ok, bs_ok, bs_exc, mV_ap, getV_ok, mK_ap, m1_ap, m2_ap, k2_ap, k2'_ap, mNil_ap, mCons_ap, kC1_ap, kC2_ap, mCall_ap, mCallI_ap, mItems_ap, gItems_l, gItems_t, mIf_ap, kIf_t, kIf_f, mCB_ap, mAndT_ap, mOrT_ap, mNotT_ap, kNot_ap, mAnd_ap, kAnd_t, kAnd_f, mOr_ap, kOr_t, kOr_f, mNot_ap, kNotV_ap, mB_ap, kB_ap, mFr_ap, frR_py, frR_no, frR_exc, mSl_ap, kS1_ap, kS2_ap, kS3_ap, oNone_ap, oSome_ap, kO_ap, mChain_ap, kH1_ap, kH2_ap, kH3_t, kH3_f, mMeth_ap, kMe2_ap, sSeq_ap, seqK_nx, seqK_rt, seqK_bk, seqK_ct, seqK_exc, seqK_no, sNx_ap, sNo_ap, sEx_ap, kE_ap, sRet_ap, kR_ap, sRetN_ap, sIf_ap, kSI_t, kSI_f, sAs_ap, kA_ap, asK_ok, aN_ap, kA_N, asNil_ap, asCons_ap, kG_ap, asSub_ap, kU1_ap, kU2_ap, sFor_ap, kF_ap, sPar_ap, kP2_ap, sPar3_ap, kP3_ap, endB_nx, endB_rt, endB_exc, endB_no, gAdd_i, gSub_i, gLtI_i, gLe_i, gGt_i, gGe_i, gNeg_i, gIntF_i, gAbs_i, gMax2_i, gMin2_i, gLen_l, gLen_t, gTupF_l, gTupF_t, gSl_t, gRev_t, gIs_b, gIsNot_b, gIs_n, gIsNot_n, pys_nil, gZip_t, List.getElem?_cons_zero, List.getElem?_cons_succ, List.set_cons_zero, List.set_cons_succ, List.map_cons, List.map_nil, List.length_cons, List.length_nil, List.cons_append, List.nil_append, Nat.reduceAdd, Nat.reduceSub, List.replicate_succ, List.replicate_zero, ofInts_len, wipeE, List.take_length, frR_new, decide_true, decide_false, Bool.not_true, Bool.not_false, e, ei, take_CS]
theorem gNe_rr (a : List Int) (S : Store) : gNe (RW a) (RW a) S = .ok (.py (.bool false)) S := by rw [gNe_r, decide_eq_true rfl]; rfl
theorem gEq_rr (a : List Int) (S : Store) : gEq (RW a) (RW a) S = .ok (.py (.bool true)) S := by rw [gEq_r, decide_eq_true rfl]
theorem isnot_tt (S : Store) : gIsNot (.py (.bool true)) (.py (.bool true)) S = .ok (.py (.bool false)) S := rfl
theorem isnot_ff (S : Store) : gIsNot (.py (.bool false)) (.py (.bool false)) S = .ok (.py (.bool false)) S := rfl
theorem is_bt (k : Bool) (S : Store) : gIs (.py (.bool k)) (.py (.bool true)) S = .ok (.py (.bool k)) S := by cases k <;> rfl
theorem gNe_bb (k : Bool) (S : Store) : gNe (.py (.bool k)) (.py (.bool k)) S = .ok (.py (.bool false)) S := by cases k <;> rfl
theorem gEq_bb (k : Bool) (S : Store) : gEq (.py (.bool k)) (.py (.bool k)) S = .ok (.py (.bool true)) S := by cases k <;> rfl
theorem ne_of_len {r : List Int} {k : Nat} (h : k < r.length) : r ≠ [] := by intro e; subst e; simp at h
def RB : MS := sSeq (sAs (mCall F_moved_row (mCons (mV 1) (mCons (mV 3) mNil))) (aN 4))
  (sSeq (sIf (mOrT (mB (m2 gNe (mV 4) (mCall F__law_moved (mCons (mV 1) (mCons (mV 3) mNil))))) (mOrT (mB (m2 gNe (mCall F__law_form (mCons (mV 4) mNil)) (mCall F__law_form (mCons (mV 1) mNil)))) (mB (m2 gIsNot (mCall F_rows_alike (mCons (mV 1) (mCons (mV 4) mNil))) (mK (.bool true)))))) (sRet (mK (.bool false))) sNx)
  (sIf (mOrT (mB (m2 gIsNot (mCall F_is_road (mCons (mV 1) (mCons (mV 4) (mCons (mCall gTupD (mCons (mV 3) mNil)) mNil)))) (mK (.bool true)))) (mB (m2 gNe (mCall F_moved_row (mCons (mV 4) (mCons (mV 3) mNil))) (mV 1)))) (sRet (mK (.bool false))) sNx))
theorem back_val (v : Val row t f l) : Val (mv t f l row (row[f]'(by have := v.hf; have := v.hl; omega)) (row[l]'(v.hl))) t f l := by
  obtain ⟨hf, hl, ht⟩ := v
  have hn := mv_len (t := t) row[f] row[l] hf hl
  refine ⟨hf, by omega, ?_⟩
  rcases ht with h | h
  · exact .inl h
  · exact .inr (by rw [mv_first hf hl (.inr h) (by omega), mv_last hf hl (.inr h) (by omega)]; exact h)
theorem one_move (S : Store) (c m x5 x6 x7 x8 x4 : Option D) (v : Val row t f l) (hn : row.length ≤ 12) (hb : InB 1000 row) : ∃ x4', RB [c, some (RW row), m, some (.py (mvD t f l)), x4, x5, x6, x7, x8] S = .go .nx [c, some (RW row), m, some (.py (mvD t f l)), x4', x5, x6, x7, x8] S := by
  have hf := v.hf
  have hl := v.hl
  have hml := mv_len (t := t) (row[f]'(by omega)) row[l] hf hl
  have hlike := mv_like v
  have hbb := (mv_bound (t := t) hb hf hl).le (by omega : (3 : Int) * 1000 ≤ 1000000)
  have hb1 := hb.le (by omega : (1000 : Int) ≤ 1000000)
  have e1 := fun S => F_moved S v hn hb1
  have e2 := fun S => F_lawmoved S v (by omega)
  have e3 := fun S => F_lform hlike.la S (by omega)
  have e4 := fun S => F_lform hlike.lb S (by omega)
  have e5 := fun S => F_alike hlike S hn (by omega) hb1 hbb
  have e6 := fun S => F_road S (Road.cons v (Road.nil _)) hn hb1 (by omega : (mv t f l row row[f] row[l]).length ≤ 12) hbb (by simp)
  have e7 := fun S => F_moved S (back_val v) (by omega) hbb
  have e8 := mv_back hf hl v.ht
  have e9 := mv_first hf hl v.ht (by omega)
  have e10 := mv_last hf hl v.ht (by omega)
  have em : List.map mvE [(t, f, l)] = [mvD t f l] := rfl
  rw [em, decide_eq_true rfl] at e6
  simp only [e9, e10, e8] at e7
  rw [← hlike.h, ← hlike.z, ← hlike.s] at e4
  refine ⟨some (RW (mv t f l row (row[f]'(by omega)) row[l])), ?_⟩
  unfold RB
  simp -implicitDefEqProofs only [bd_ok, bd_no, bd_exc, bdN_ok, bs_ok, bs_exc, mV_ap, getV_ok, mK_ap, m1_ap, m2_ap, k2_ap, k2'_ap, mNil_ap, mCons_ap, kC1_ap, kC2_ap, mCall_ap, mCallI_ap, mItems_ap, gItems_l, gItems_t, mIf_ap, kIf_t, kIf_f, mCB_ap, mAndT_ap, mOrT_ap, mNotT_ap, kNot_ap, mAnd_ap, kAnd_t, kAnd_f, mOr_ap, kOr_t, kOr_f, mNot_ap, kNotV_ap, mB_ap, kB_ap, mFr_ap, frR_py, frR_no, frR_exc, mSl_ap, kS1_ap, kS2_ap, kS3_ap, oNone_ap, oSome_ap, kO_ap, mChain_ap, kH1_ap, kH2_ap, kH3_t, kH3_f, mMeth_ap, kMe2_ap, sSeq_ap, seqK_nx, seqK_rt, seqK_bk, seqK_ct, seqK_exc, seqK_no, sNx_ap, sNo_ap, sEx_ap, kE_ap, sRet_ap, kR_ap, sRetN_ap, sIf_ap, kSI_t, kSI_f, sAs_ap, kA_ap, asK_ok, aN_ap, kA_N, asNil_ap, asCons_ap, kG_ap, asSub_ap, kU1_ap, kU2_ap, sFor_ap, kF_ap, sPar_ap, kP2_ap, sPar3_ap, kP3_ap, endB_nx, endB_rt, endB_exc, endB_no, gAdd_i, gSub_i, gLtI_i, gLe_i, gGt_i, gGe_i, gNeg_i, gIntF_i, gAbs_i, gMax2_i, gMin2_i, gLen_l, gLen_t, gTupF_l, gTupF_t, gSl_t, gRev_t, gIs_b, gIsNot_b, gIs_n, gIsNot_n, pys_nil, gZip_t, List.getElem?_cons_zero, List.getElem?_cons_succ, List.set_cons_zero, List.set_cons_succ, List.map_cons, List.map_nil, List.length_cons, List.length_nil, List.cons_append, List.nil_append, Nat.reduceAdd, Nat.reduceSub, List.replicate_succ, List.replicate_zero, ofInts_len, wipeE, List.take_length, frR_new, decide_true, decide_false, Bool.not_true, Bool.not_false, e1, e2, gNe_rr, e3, e4, gNe_form, e5, isnot_tt, gTupD1, e6, e7]
theorem all_moves (S : Store) (c m x5 x6 x7 x8 : Option D) (hn : row.length ≤ 12) (hb : InB 1000 row) : ∀ (ms : List Mov) (x3 x4 : Option D), (∀ m ∈ ms, ValM row m) → ∃ x3' x4', forS (aN 3) RB (ms.map mvE) [c, some (RW row), m, x3, x4, x5, x6, x7, x8] S = .go .nx [c, some (RW row), m, x3', x4', x5, x6, x7, x8] S
  | [], x3, x4, hv => ⟨x3, x4, rfl⟩
  | mm :: ms, x3, x4, hv => by
    obtain ⟨y4, e⟩ := one_move S c m x5 x6 x7 x8 x4 (hv mm (.head _)) hn hb
    obtain ⟨x3', x4', e2⟩ := all_moves S c m x5 x6 x7 x8 hn hb ms (some (.py (mvE mm))) y4 (fun q hq => hv q (.tail _ hq))
    refine ⟨x3', x4', ?_⟩
    rw [List.map_cons, forS_nx (env1 := [c, some (RW row), m, some (.py (mvE mm)), x4, x5, x6, x7, x8]) aN_ap e]
    exact e2

theorem canLay_kw (t : Bool) : PyData.canLay0 (kw t) = true := by cases t; exact ok_mirror; exact ok_turn
theorem depth_kw (t : Bool) : PyData.depth (kw t) = 0 := by cases t <;> rfl
theorem canLay_mv (m : Mov) : PyData.canLay0 (mvE m) = true := by
  simp only [mvE, mvD, PyData.canLay0, PyData.canLayAll0, canLay_kw, Bool.and_self]
theorem depth_mv (m : Mov) : PyData.depth (mvE m) = 1 := by
  simp only [mvE, mvD, PyData.depth, PyData.depthAll, depth_kw]; rfl
theorem lay_mvs : ∀ ms : List Mov, PyData.canLayAll0 (ms.map mvE) = true
  | [] => rfl
  | m :: r => by show (PyData.canLay0 (mvE m) && PyData.canLayAll0 (r.map mvE)) = true; rw [lay_mvs r, canLay_mv]; rfl
theorem depth_mvs : ∀ ms : List Mov, PyData.depthAll (ms.map mvE) ≤ 1
  | [] => by decide
  | m :: r => by show max (PyData.depth (mvE m)) (PyData.depthAll (r.map mvE)) ≤ 1; rw [depth_mv]; have := depth_mvs r; omega
theorem mvs_shp (ms : List Mov) : shp 2 (.list (ms.map mvE)) = true := by
  have := depth_mvs ms
  unfold shp
  rw [Bool.and_eq_true]
  refine ⟨lay_mvs ms, decide_eq_true ?_⟩
  show PyData.depthAll (ms.map mvE) + 1 ≤ 2
  omega
theorem gNe_mvs (ms : List Mov) (S : Store) : gNe (.py (.list (ms.map mvE))) (.py (.list [])) S = .ok (.py (.bool (!decide (ms = [])))) S := by
  refine (gNe_p (shaped_of (mvs_shp ms)) (shaped_of (mvs_shp []))).trans ?_
  rw [eqv_ll]
  cases ms <;> rfl
/-- six moves, one after another -/
theorem go_on (T : Store) (row : List Int) (m x8 : Option D) (hn : row.length ≤ 12) (h2 : 2 ≤ row.length) : ∀ (n k : Nat) (B : Int) (ms : List Mov) (r : List Int) (a b : Int) (x3 x4 x7 : Option D), Road row ms r → ms.length = k → k + n ≤ 6 → r.length = row.length → 0 ≤ a → 0 ≤ b → 0 ≤ B → InB B r → B * 3 ^ n ≤ 1000000 → ∃ ms' r' a' b' x3' x7', Road row ms' r' ∧ ms'.length = k + n ∧ r'.length = row.length ∧ 0 ≤ a' ∧ 0 ≤ b' ∧ InB 1000000 r' ∧
    forS (aN 7) (sSeq (sAs (mCall F__law_some (mCons (mV 0) (mCons (mCall F__law_moves (mCons (mV 6) mNil)) mNil))) (aN 3))
  (sPar 5 6 (mCons (m2 gAdd (mV 5) (mCall gTupD (mCons (mV 3) mNil))) (mCons (mCall F__law_moved (mCons (mV 6) (mCons (mV 3) mNil))) mNil)))) (rangeL (k : Int) n) [some (.loc 0), some (RW row), m, x3, x4, some (.py (.tuple (ms.map mvE))), some (RW r), x7, x8] (CS a b T) = .go .nx [some (.loc 0), some (RW row), m, x3', x4, some (.py (.tuple (ms'.map mvE))), some (RW r'), x7', x8] (CS a' b' T)
  | 0, k, B, ms, r, a, b, x3, x4, x7, hr, hk, h6, hrl, ha, hb, hB, hi, hpow => ⟨ms, r, a, b, x3, x7, hr, by omega, hrl, ha, hb, hi.le (by simpa using hpow), rfl⟩
  | n + 1, k, B, ms, r, a, b, x3, x4, x7, hr, hk, h6, hrl, ha, hb, hB, hi, hpow => by
    obtain ⟨mv1, e1, v1, n1, l1⟩ := F_moves (row := r) (CS a b T) (by omega)
    obtain ⟨p, a1, b1, hp, ha1, hb1, e2⟩ := some_ a b T (mv1.map mvE) ha hb (by simpa using n1 (by omega)) (by rw [List.length_map]; omega)
    obtain ⟨q, hq, rfl⟩ := List.mem_map.mp hp
    have vq := v1 q hq
    have e3 := F_lawmoved (CS a1 b1 T) vq (by omega : r.length ≤ 100000)
    have hm3 := mv_len (t := q.1) (r[q.2.1]'(by have := vq.hf; have := vq.hl; omega)) (r[q.2.2]'vq.hl) vq.hf vq.hl
    obtain ⟨ms', r', a', b', x3', x7', hr', hk', hrl', ha', hb', hi', e4⟩ := go_on T row m x8 hn h2 n (k + 1) (3 * B) (ms ++ [(q.1, q.2.1, q.2.2)]) _ a1 b1 (some (.py (mvE q))) x4 (some (.py (.int k))) (hr.snoc vq) (by simp [hk]) (by omega) (by omega) ha1 hb1 (by omega) (mv_bound hi vq.hf vq.hl) (by rw [Int.pow_succ] at hpow; rw [Int.mul_comm 3 B, Int.mul_assoc, Int.mul_comm 3]; exact hpow)
    refine ⟨ms', r', a', b', x3', x7', hr', by omega, hrl', ha', hb', hi', ?_⟩
    have e5 : ∀ S, gAdd (.py (.tuple (ms.map mvE))) (.py (.tuple [mvE q])) S = .ok (.py (.tuple ((ms ++ [(q.1, q.2.1, q.2.2)]).map mvE))) S := fun S => (gAdd_t (fits_le (by rw [List.length_map]; simp only [List.length_cons, List.length_nil]; omega))).trans (by rw [List.map_append]; rfl)
    have eb : (sSeq (sAs (mCall F__law_some (mCons (mV 0) (mCons (mCall F__law_moves (mCons (mV 6) mNil)) mNil))) (aN 3))
  (sPar 5 6 (mCons (m2 gAdd (mV 5) (mCall gTupD (mCons (mV 3) mNil))) (mCons (mCall F__law_moved (mCons (mV 6) (mCons (mV 3) mNil))) mNil)))) [some (.loc 0), some (RW row), m, x3, x4, some (.py (.tuple (ms.map mvE))), some (RW r), some (.py (.int k)), x8] (CS a b T) = .go .nx [some (.loc 0), some (RW row), m, some (.py (mvE q)), x4, some (.py (.tuple ((ms ++ [(q.1, q.2.1, q.2.2)]).map mvE))), some (RW (mv q.1 q.2.1 q.2.2 r (r[q.2.1]'(by have := vq.hf; have := vq.hl; omega)) (r[q.2.2]'vq.hl))), some (.py (.int k)), x8] (CS a1 b1 T) := by
      have e3' : F__law_moved [RW r, .py (mvE q)] (CS a1 b1 T) = _ := e3
      simp -implicitDefEqProofs only [bd_ok, bd_no, bd_exc, bdN_ok, bs_ok, bs_exc, mV_ap, getV_ok, mK_ap, m1_ap, m2_ap, k2_ap, k2'_ap, mNil_ap, mCons_ap, kC1_ap, kC2_ap, mCall_ap, mCallI_ap, mItems_ap, gItems_l, gItems_t, mIf_ap, kIf_t, kIf_f, mCB_ap, mAndT_ap, mOrT_ap, mNotT_ap, kNot_ap, mAnd_ap, kAnd_t, kAnd_f, mOr_ap, kOr_t, kOr_f, mNot_ap, kNotV_ap, mB_ap, kB_ap, mFr_ap, frR_py, frR_no, frR_exc, mSl_ap, kS1_ap, kS2_ap, kS3_ap, oNone_ap, oSome_ap, kO_ap, mChain_ap, kH1_ap, kH2_ap, kH3_t, kH3_f, mMeth_ap, kMe2_ap, sSeq_ap, seqK_nx, seqK_rt, seqK_bk, seqK_ct, seqK_exc, seqK_no, sNx_ap, sNo_ap, sEx_ap, kE_ap, sRet_ap, kR_ap, sRetN_ap, sIf_ap, kSI_t, kSI_f, sAs_ap, kA_ap, asK_ok, aN_ap, kA_N, asNil_ap, asCons_ap, kG_ap, asSub_ap, kU1_ap, kU2_ap, sFor_ap, kF_ap, sPar_ap, kP2_ap, sPar3_ap, kP3_ap, endB_nx, endB_rt, endB_exc, endB_no, gAdd_i, gSub_i, gLtI_i, gLe_i, gGt_i, gGe_i, gNeg_i, gIntF_i, gAbs_i, gMax2_i, gMin2_i, gLen_l, gLen_t, gTupF_l, gTupF_t, gSl_t, gRev_t, gIs_b, gIsNot_b, gIs_n, gIsNot_n, pys_nil, gZip_t, List.getElem?_cons_zero, List.getElem?_cons_succ, List.set_cons_zero, List.set_cons_succ, List.map_cons, List.map_nil, List.length_cons, List.length_nil, List.cons_append, List.nil_append, Nat.reduceAdd, Nat.reduceSub, List.replicate_succ, List.replicate_zero, ofInts_len, wipeE, List.take_length, frR_new, decide_true, decide_false, Bool.not_true, Bool.not_false, e1, e2, gTupD1, e5, e3']
    have e8 : ((k : Int) + 1) = ((k + 1 : Nat) : Int) := by omega
    rw [rangeL_succ, forS_nx (env1 := [some (.loc 0), some (RW row), m, x3, x4, some (.py (.tuple (ms.map mvE))), some (RW r), some (.py (.int k)), x8]) aN_ap eb, e8]
    exact e4
end LW

end P_P6
section P_P7
set_option maxHeartbeats 4000000
namespace LW
open PySem PySem.Spec PyProof.Rows L2 PX
variable {t : Bool} {f l : Nat} {row : List Int}
theorem gLstD4 (a b c d : PyData) (S : Store) : gLstD [.py a, .py b, .py c, .py d] S = .ok (.loc S.length) (S ++ [.lst [a, b, c, d]]) := rfl
theorem gLstD7 (a b c d e f g : PyData) (S : Store) : gLstD [.py a, .py b, .py c, .py d, .py e, .py f, .py g] S = .ok (.loc S.length) (S ++ [.lst [a, b, c, d, e, f, g]]) := rfl
theorem take_in (S : Store) : S.take S.length = S := List.take_length
/-- the step of a turn -/
theorem st_step (T : Store) (a b : Int) (e0 e1 e2 e3 x6 : Option D) (st way : Int) (ha : 0 ≤ a) (hb : 0 ≤ b) (hs : -10 ≤ st ∧ st ≤ 10) (he : e0 = some (.loc 0)) : ∃ st' a' b', 0 ≤ a' ∧ 0 ≤ b' ∧ (-10 ≤ st' ∧ st' ≤ 10) ∧ sIf (mB (m2 gGt (mV 5) (mK (.int 3)))) (sAs (mCall F__law_some (mCons (mV 0) (mCons (mFr (mCall gLstD (mCons (mK (.int 1)) (mCons (mK (.int 2)) (mCons (mK (.int 3)) (mCons (mK (.int 4)) (mCons (mK (.int 6)) (mCons (mK (.int 7)) (mCons (mK (.int 10)) mNil))))))))) mNil))) (aN 4)) sNx [e0, e1, e2, e3, some (.py (.int st)), some (.py (.int way)), x6] (CS a b T) = .go .nx [e0, e1, e2, e3, some (.py (.int st')), some (.py (.int way)), x6] (CS a' b' T) := by
  subst he
  by_cases h : 3 < way
  · obtain ⟨p, a', b', hp, ha', hb', e⟩ := some_ a b T [.int 1, .int 2, .int 3, .int 4, .int 6, .int 7, .int 10] ha hb (by simp) (by simp)
    have : ∃ z : Int, p = .int z ∧ -10 ≤ z ∧ z ≤ 10 := by
      simp only [List.mem_cons, List.not_mem_nil, or_false] at hp
      rcases hp with h | h | h | h | h | h | h <;> exact ⟨_, h, by omega, by omega⟩
    obtain ⟨z, rfl, hz⟩ := this
    refine ⟨z, a', b', ha', hb', hz, ?_⟩
    simp -implicitDefEqProofs only [bd_ok, bd_no, bd_exc, bdN_ok, bs_ok, bs_exc, mV_ap, getV_ok, mK_ap, m1_ap, m2_ap, k2_ap, k2'_ap, mNil_ap, mCons_ap, kC1_ap, kC2_ap, mCall_ap, mCallI_ap, mItems_ap, gItems_l, gItems_t, mIf_ap, kIf_t, kIf_f, mCB_ap, mAndT_ap, mOrT_ap, mNotT_ap, kNot_ap, mAnd_ap, kAnd_t, kAnd_f, mOr_ap, kOr_t, kOr_f, mNot_ap, kNotV_ap, mB_ap, kB_ap, mFr_ap, frR_py, frR_no, frR_exc, mSl_ap, kS1_ap, kS2_ap, kS3_ap, oNone_ap, oSome_ap, kO_ap, mChain_ap, kH1_ap, kH2_ap, kH3_t, kH3_f, mMeth_ap, kMe2_ap, sSeq_ap, seqK_nx, seqK_rt, seqK_bk, seqK_ct, seqK_exc, seqK_no, sNx_ap, sNo_ap, sEx_ap, kE_ap, sRet_ap, kR_ap, sRetN_ap, sIf_ap, kSI_t, kSI_f, sAs_ap, kA_ap, asK_ok, aN_ap, kA_N, asNil_ap, asCons_ap, kG_ap, asSub_ap, kU1_ap, kU2_ap, sFor_ap, kF_ap, sPar_ap, kP2_ap, sPar3_ap, kP3_ap, endB_nx, endB_rt, endB_exc, endB_no, gAdd_i, gSub_i, gLtI_i, gLe_i, gGt_i, gGe_i, gNeg_i, gIntF_i, gAbs_i, gMax2_i, gMin2_i, gLen_l, gLen_t, gTupF_l, gTupF_t, gSl_t, gRev_t, gIs_b, gIsNot_b, gIs_n, gIsNot_n, pys_nil, gZip_t, List.getElem?_cons_zero, List.getElem?_cons_succ, List.set_cons_zero, List.set_cons_succ, List.map_cons, List.map_nil, List.length_cons, List.length_nil, List.cons_append, List.nil_append, Nat.reduceAdd, Nat.reduceSub, List.replicate_succ, List.replicate_zero, ofInts_len, wipeE, List.take_length, frR_new, decide_true, decide_false, Bool.not_true, Bool.not_false, decide_eq_true h, gLstD7, e]
  · refine ⟨st, a, b, ha, hb, hs, ?_⟩
    simp -implicitDefEqProofs only [bd_ok, bd_no, bd_exc, bdN_ok, bs_ok, bs_exc, mV_ap, getV_ok, mK_ap, m1_ap, m2_ap, k2_ap, k2'_ap, mNil_ap, mCons_ap, kC1_ap, kC2_ap, mCall_ap, mCallI_ap, mItems_ap, gItems_l, gItems_t, mIf_ap, kIf_t, kIf_f, mCB_ap, mAndT_ap, mOrT_ap, mNotT_ap, kNot_ap, mAnd_ap, kAnd_t, kAnd_f, mOr_ap, kOr_t, kOr_f, mNot_ap, kNotV_ap, mB_ap, kB_ap, mFr_ap, frR_py, frR_no, frR_exc, mSl_ap, kS1_ap, kS2_ap, kS3_ap, oNone_ap, oSome_ap, kO_ap, mChain_ap, kH1_ap, kH2_ap, kH3_t, kH3_f, mMeth_ap, kMe2_ap, sSeq_ap, seqK_nx, seqK_rt, seqK_bk, seqK_ct, seqK_exc, seqK_no, sNx_ap, sNo_ap, sEx_ap, kE_ap, sRet_ap, kR_ap, sRetN_ap, sIf_ap, kSI_t, kSI_f, sAs_ap, kA_ap, asK_ok, aN_ap, kA_N, asNil_ap, asCons_ap, kG_ap, asSub_ap, kU1_ap, kU2_ap, sFor_ap, kF_ap, sPar_ap, kP2_ap, sPar3_ap, kP3_ap, endB_nx, endB_rt, endB_exc, endB_no, gAdd_i, gSub_i, gLtI_i, gLe_i, gGt_i, gGe_i, gNeg_i, gIntF_i, gAbs_i, gMax2_i, gMin2_i, gLen_l, gLen_t, gTupF_l, gTupF_t, gSl_t, gRev_t, gIs_b, gIsNot_b, gIs_n, gIsNot_n, pys_nil, gZip_t, List.getElem?_cons_zero, List.getElem?_cons_succ, List.set_cons_zero, List.set_cons_succ, List.map_cons, List.map_nil, List.length_cons, List.length_nil, List.cons_append, List.nil_append, Nat.reduceAdd, Nat.reduceSub, List.replicate_succ, List.replicate_zero, ofInts_len, wipeE, List.take_length, frR_new, decide_true, decide_false, Bool.not_true, Bool.not_false, decide_eq_false h]
theorem st_turn (T : Store) (a b : Int) (e0 e1 e2 e3 x6 : Option D) (st way : Int) (ha : 0 ≤ a) (hb : 0 ≤ b) (hs : -10 ≤ st ∧ st ≤ 10) (he : e0 = some (.loc 0)) : ∃ tu a' b', 0 ≤ a' ∧ 0 ≤ b' ∧ (-10 ≤ tu ∧ tu ≤ 10) ∧ sAs (mCall F__law_some (mCons (mV 0) (mCons (mFr (mCall gLstD (mCons (mV 4) (mCons (m1 gNeg (mV 4)) (mCons (mV 4) (mCons (mIf (mB (m2 gEq (mV 5) (mK (.int 0)))) (mK (.int 0)) (m1 gNeg (mV 4))) mNil)))))) mNil))) (aN 6) [e0, e1, e2, e3, some (.py (.int st)), some (.py (.int way)), x6] (CS a b T) = .go .nx [e0, e1, e2, e3, some (.py (.int st)), some (.py (.int way)), some (.py (.int tu))] (CS a' b' T) := by
  subst he
  by_cases h : way = 0
  · obtain ⟨p, a', b', hp, ha', hb', e⟩ := some_ a b T [.int st, .int (-st), .int st, .int 0] ha hb (by simp) (by simp)
    have : ∃ z : Int, p = .int z ∧ -10 ≤ z ∧ z ≤ 10 := by
      simp only [List.mem_cons, List.not_mem_nil, or_false] at hp
      rcases hp with h | h | h | h <;> exact ⟨_, h, by omega, by omega⟩
    obtain ⟨z, rfl, hz⟩ := this
    refine ⟨z, a', b', ha', hb', hz, ?_⟩
    simp -implicitDefEqProofs only [bd_ok, bd_no, bd_exc, bdN_ok, bs_ok, bs_exc, mV_ap, getV_ok, mK_ap, m1_ap, m2_ap, k2_ap, k2'_ap, mNil_ap, mCons_ap, kC1_ap, kC2_ap, mCall_ap, mCallI_ap, mItems_ap, gItems_l, gItems_t, mIf_ap, kIf_t, kIf_f, mCB_ap, mAndT_ap, mOrT_ap, mNotT_ap, kNot_ap, mAnd_ap, kAnd_t, kAnd_f, mOr_ap, kOr_t, kOr_f, mNot_ap, kNotV_ap, mB_ap, kB_ap, mFr_ap, frR_py, frR_no, frR_exc, mSl_ap, kS1_ap, kS2_ap, kS3_ap, oNone_ap, oSome_ap, kO_ap, mChain_ap, kH1_ap, kH2_ap, kH3_t, kH3_f, mMeth_ap, kMe2_ap, sSeq_ap, seqK_nx, seqK_rt, seqK_bk, seqK_ct, seqK_exc, seqK_no, sNx_ap, sNo_ap, sEx_ap, kE_ap, sRet_ap, kR_ap, sRetN_ap, sIf_ap, kSI_t, kSI_f, sAs_ap, kA_ap, asK_ok, aN_ap, kA_N, asNil_ap, asCons_ap, kG_ap, asSub_ap, kU1_ap, kU2_ap, sFor_ap, kF_ap, sPar_ap, kP2_ap, sPar3_ap, kP3_ap, endB_nx, endB_rt, endB_exc, endB_no, gAdd_i, gSub_i, gLtI_i, gLe_i, gGt_i, gGe_i, gNeg_i, gIntF_i, gAbs_i, gMax2_i, gMin2_i, gLen_l, gLen_t, gTupF_l, gTupF_t, gSl_t, gRev_t, gIs_b, gIsNot_b, gIs_n, gIsNot_n, pys_nil, gZip_t, List.getElem?_cons_zero, List.getElem?_cons_succ, List.set_cons_zero, List.set_cons_succ, List.map_cons, List.map_nil, List.length_cons, List.length_nil, List.cons_append, List.nil_append, Nat.reduceAdd, Nat.reduceSub, List.replicate_succ, List.replicate_zero, ofInts_len, wipeE, List.take_length, frR_new, decide_true, decide_false, Bool.not_true, Bool.not_false, gEq_i, decide_eq_true h, gLstD4, e]
  · obtain ⟨p, a', b', hp, ha', hb', e⟩ := some_ a b T [.int st, .int (-st), .int st, .int (-st)] ha hb (by simp) (by simp)
    have : ∃ z : Int, p = .int z ∧ -10 ≤ z ∧ z ≤ 10 := by
      simp only [List.mem_cons, List.not_mem_nil, or_false] at hp
      rcases hp with h | h | h | h <;> exact ⟨_, h, by omega, by omega⟩
    obtain ⟨z, rfl, hz⟩ := this
    refine ⟨z, a', b', ha', hb', hz, ?_⟩
    simp -implicitDefEqProofs only [bd_ok, bd_no, bd_exc, bdN_ok, bs_ok, bs_exc, mV_ap, getV_ok, mK_ap, m1_ap, m2_ap, k2_ap, k2'_ap, mNil_ap, mCons_ap, kC1_ap, kC2_ap, mCall_ap, mCallI_ap, mItems_ap, gItems_l, gItems_t, mIf_ap, kIf_t, kIf_f, mCB_ap, mAndT_ap, mOrT_ap, mNotT_ap, kNot_ap, mAnd_ap, kAnd_t, kAnd_f, mOr_ap, kOr_t, kOr_f, mNot_ap, kNotV_ap, mB_ap, kB_ap, mFr_ap, frR_py, frR_no, frR_exc, mSl_ap, kS1_ap, kS2_ap, kS3_ap, oNone_ap, oSome_ap, kO_ap, mChain_ap, kH1_ap, kH2_ap, kH3_t, kH3_f, mMeth_ap, kMe2_ap, sSeq_ap, seqK_nx, seqK_rt, seqK_bk, seqK_ct, seqK_exc, seqK_no, sNx_ap, sNo_ap, sEx_ap, kE_ap, sRet_ap, kR_ap, sRetN_ap, sIf_ap, kSI_t, kSI_f, sAs_ap, kA_ap, asK_ok, aN_ap, kA_N, asNil_ap, asCons_ap, kG_ap, asSub_ap, kU1_ap, kU2_ap, sFor_ap, kF_ap, sPar_ap, kP2_ap, sPar3_ap, kP3_ap, endB_nx, endB_rt, endB_exc, endB_no, gAdd_i, gSub_i, gLtI_i, gLe_i, gGt_i, gGe_i, gNeg_i, gIntF_i, gAbs_i, gMax2_i, gMin2_i, gLen_l, gLen_t, gTupF_l, gTupF_t, gSl_t, gRev_t, gIs_b, gIsNot_b, gIs_n, gIsNot_n, pys_nil, gZip_t, List.getElem?_cons_zero, List.getElem?_cons_succ, List.set_cons_zero, List.set_cons_succ, List.map_cons, List.map_nil, List.length_cons, List.length_nil, List.cons_append, List.nil_append, Nat.reduceAdd, Nat.reduceSub, List.replicate_succ, List.replicate_zero, ofInts_len, wipeE, List.take_length, frR_new, decide_true, decide_false, Bool.not_true, Bool.not_false, gEq_i, decide_eq_false h, gLstD4, e]
theorem InB.snoc {B C : Int} {r : List Int} {c : Int} (h : InB B r) (hB : B ≤ C) (hc : -C ≤ c ∧ c ≤ C) : InB C (r ++ [c]) := by
  intro d hd
  rcases List.mem_append.mp hd with hd | hd
  · exact h.le hB d hd
  · rw [List.mem_singleton.mp hd]; exact hc
theorem folds_ (T : Store) (a b : Int) (most : Nat) (hm : most ≤ 8) (ha : 0 ≤ a) (hb : 0 ≤ b) : ∃ r a' b', r.length ≤ most ∧ InB 1000 r ∧ 0 ≤ a' ∧ 0 ≤ b' ∧ F__law_folds [.loc 0, .py (.int (most : Int))] (CS a b T) = .ok (RW r) (CS a' b' T) := by
  obtain ⟨many, a1, b1, mm1, mm2, ha1, hb1, r1⟩ := roll a b ((most : Int) + 1) T ha hb (by omega) (by omega)
  obtain ⟨mn, rfl⟩ := Int.eq_ofNat_of_zero_le mm1
  obtain ⟨c, a2, b2, c1, c2, ha2, hb2, r2⟩ := roll a1 b1 15 T ha1 hb1 (by omega) (by omega)
  obtain ⟨s, a3, b3, s1, s2, ha3, hb3, r3⟩ := roll a2 b2 4 T ha2 hb2 (by omega) (by omega)
  have hw := whS_inv (c := mB (m2 gLtI (mCall gLen (mCons (mV 3) mNil)) (mV 2))) (b := (sSeq (sAs (mCall F__law_roll (mCons (mV 0) (mCons (mK (.int 8)) mNil))) (aN 5))
  (sSeq (sIf (mB (m2 gGt (mV 5) (mK (.int 3)))) (sAs (mCall F__law_some (mCons (mV 0) (mCons (mFr (mCall gLstD (mCons (mK (.int 1)) (mCons (mK (.int 2)) (mCons (mK (.int 3)) (mCons (mK (.int 4)) (mCons (mK (.int 6)) (mCons (mK (.int 7)) (mCons (mK (.int 10)) mNil))))))))) mNil))) (aN 4)) sNx)
  (sSeq (sAs (mCall F__law_some (mCons (mV 0) (mCons (mFr (mCall gLstD (mCons (mV 4) (mCons (m1 gNeg (mV 4)) (mCons (mV 4) (mCons (mIf (mB (m2 gEq (mV 5) (mK (.int 0)))) (mK (.int 0)) (m1 gNeg (mV 4))) mNil)))))) mNil))) (aN 6))
  (sAs (m2 gAdd (mV 3) (mCall gTupD (mCons (mFr (m2 gAdd (m2 gIx (mV 3) (m1 gNeg (mK (.int 1)))) (mV 6))) mNil))) (aN 3))))))
    (fun n env S => ∃ (r : List Int) (st a b : Int) (x5 x6 : Option D), r ≠ [] ∧ r.length + n = max 1 mn ∧ InB (10 * (r.length : Int)) r ∧ (-10 ≤ st ∧ st ≤ 10) ∧ 0 ≤ a ∧ 0 ≤ b ∧ env = [some (.loc 0), some (.py (.int (most : Int))), some (.py (.int (mn : Int))), some (RW r), some (.py (.int st)), x5, x6] ∧ S = CS a b T)
    (fun env S => ∃ (r : List Int) (st a b : Int) (x5 x6 : Option D), InB (10 * (r.length : Int)) r ∧ r.length ≤ 10 ∧ 0 ≤ a ∧ 0 ≤ b ∧ env = [some (.loc 0), some (.py (.int (most : Int))), some (.py (.int (mn : Int))), some (RW r), some (.py (.int st)), x5, x6] ∧ S = CS a b T)
    (by
      rintro n env S ⟨r, st, a, b, x5, x6, hr0, hrn, hri, hst, ha, hb, rfl, rfl⟩
      by_cases h : (r.length : Int) < (mn : Int)
      · right
        refine ⟨by simp -implicitDefEqProofs only [bd_ok, bd_no, bd_exc, bdN_ok, bs_ok, bs_exc, mV_ap, getV_ok, mK_ap, m1_ap, m2_ap, k2_ap, k2'_ap, mNil_ap, mCons_ap, kC1_ap, kC2_ap, mCall_ap, mCallI_ap, mItems_ap, gItems_l, gItems_t, mIf_ap, kIf_t, kIf_f, mCB_ap, mAndT_ap, mOrT_ap, mNotT_ap, kNot_ap, mAnd_ap, kAnd_t, kAnd_f, mOr_ap, kOr_t, kOr_f, mNot_ap, kNotV_ap, mB_ap, kB_ap, mFr_ap, frR_py, frR_no, frR_exc, mSl_ap, kS1_ap, kS2_ap, kS3_ap, oNone_ap, oSome_ap, kO_ap, mChain_ap, kH1_ap, kH2_ap, kH3_t, kH3_f, mMeth_ap, kMe2_ap, sSeq_ap, seqK_nx, seqK_rt, seqK_bk, seqK_ct, seqK_exc, seqK_no, sNx_ap, sNo_ap, sEx_ap, kE_ap, sRet_ap, kR_ap, sRetN_ap, sIf_ap, kSI_t, kSI_f, sAs_ap, kA_ap, asK_ok, aN_ap, kA_N, asNil_ap, asCons_ap, kG_ap, asSub_ap, kU1_ap, kU2_ap, sFor_ap, kF_ap, sPar_ap, kP2_ap, sPar3_ap, kP3_ap, endB_nx, endB_rt, endB_exc, endB_no, gAdd_i, gSub_i, gLtI_i, gLe_i, gGt_i, gGe_i, gNeg_i, gIntF_i, gAbs_i, gMax2_i, gMin2_i, gLen_l, gLen_t, gTupF_l, gTupF_t, gSl_t, gRev_t, gIs_b, gIsNot_b, gIs_n, gIsNot_n, pys_nil, gZip_t, List.getElem?_cons_zero, List.getElem?_cons_succ, List.set_cons_zero, List.set_cons_succ, List.map_cons, List.map_nil, List.length_cons, List.length_nil, List.cons_append, List.nil_append, Nat.reduceAdd, Nat.reduceSub, List.replicate_succ, List.replicate_zero, ofInts_len, wipeE, List.take_length, frR_new, decide_true, decide_false, Bool.not_true, Bool.not_false, decide_eq_true h], ?_⟩
        obtain ⟨way, a1, b1, w1, w2, ha1, hb1, q1⟩ := roll a b 8 T ha hb (by omega) (by omega)
        obtain ⟨st', a2, b2, ha2, hb2, hst', q2⟩ := st_step T a1 b1 (some (.loc 0)) (some (.py (.int (most : Int)))) (some (.py (.int (mn : Int)))) (some (RW r)) x6 st way ha1 hb1 hst rfl
        obtain ⟨tu, a3, b3, ha3, hb3, htu, q3⟩ := st_turn T a2 b2 (some (.loc 0)) (some (.py (.int (most : Int)))) (some (.py (.int (mn : Int)))) (some (RW r)) x6 st' way ha2 hb2 hst' rfl
        have hlast := hri _ (List.getLast_mem hr0)
        have e5 : ∀ S, gAdd (.py (.tuple (ofInts r))) (.py (.tuple [.int (r.getLast hr0 + tu)])) S = .ok (RW (r ++ [r.getLast hr0 + tu])) S := fun S => (gAdd_t (fits_le (by rw [ofInts_len]; simp only [List.length_cons, List.length_nil]; omega))).trans (by unfold RW; rw [← ofInts_append]; rfl)
        refine ⟨n - 1, _, _, by omega, ?_, r ++ [r.getLast hr0 + tu], st', a3, b3, some (.py (.int way)), some (.py (.int tu)), by simp, ?_, ?_, hst', ha3, hb3, rfl, rfl⟩
        · have q0 : sAs (mCall F__law_roll (mCons (mV 0) (mCons (mK (.int 8)) mNil))) (aN 5) [some (.loc 0), some (.py (.int (most : Int))), some (.py (.int (mn : Int))), some (RW r), some (.py (.int st)), x5, x6] (CS a b T) = .go .nx [some (.loc 0), some (.py (.int (most : Int))), some (.py (.int (mn : Int))), some (RW r), some (.py (.int st)), some (.py (.int way)), x6] (CS a1 b1 T) := by simp -implicitDefEqProofs only [bd_ok, bd_no, bd_exc, bdN_ok, bs_ok, bs_exc, mV_ap, getV_ok, mK_ap, m1_ap, m2_ap, k2_ap, k2'_ap, mNil_ap, mCons_ap, kC1_ap, kC2_ap, mCall_ap, mCallI_ap, mItems_ap, gItems_l, gItems_t, mIf_ap, kIf_t, kIf_f, mCB_ap, mAndT_ap, mOrT_ap, mNotT_ap, kNot_ap, mAnd_ap, kAnd_t, kAnd_f, mOr_ap, kOr_t, kOr_f, mNot_ap, kNotV_ap, mB_ap, kB_ap, mFr_ap, frR_py, frR_no, frR_exc, mSl_ap, kS1_ap, kS2_ap, kS3_ap, oNone_ap, oSome_ap, kO_ap, mChain_ap, kH1_ap, kH2_ap, kH3_t, kH3_f, mMeth_ap, kMe2_ap, sSeq_ap, seqK_nx, seqK_rt, seqK_bk, seqK_ct, seqK_exc, seqK_no, sNx_ap, sNo_ap, sEx_ap, kE_ap, sRet_ap, kR_ap, sRetN_ap, sIf_ap, kSI_t, kSI_f, sAs_ap, kA_ap, asK_ok, aN_ap, kA_N, asNil_ap, asCons_ap, kG_ap, asSub_ap, kU1_ap, kU2_ap, sFor_ap, kF_ap, sPar_ap, kP2_ap, sPar3_ap, kP3_ap, endB_nx, endB_rt, endB_exc, endB_no, gAdd_i, gSub_i, gLtI_i, gLe_i, gGt_i, gGe_i, gNeg_i, gIntF_i, gAbs_i, gMax2_i, gMin2_i, gLen_l, gLen_t, gTupF_l, gTupF_t, gSl_t, gRev_t, gIs_b, gIsNot_b, gIs_n, gIsNot_n, pys_nil, gZip_t, List.getElem?_cons_zero, List.getElem?_cons_succ, List.set_cons_zero, List.set_cons_succ, List.map_cons, List.map_nil, List.length_cons, List.length_nil, List.cons_append, List.nil_append, Nat.reduceAdd, Nat.reduceSub, List.replicate_succ, List.replicate_zero, ofInts_len, wipeE, List.take_length, frR_new, decide_true, decide_false, Bool.not_true, Bool.not_false, q1]
          rw [sSeq_nx q0, sSeq_nx q2, sSeq_nx q3]
          simp -implicitDefEqProofs only [bd_ok, bd_no, bd_exc, bdN_ok, bs_ok, bs_exc, mV_ap, getV_ok, mK_ap, m1_ap, m2_ap, k2_ap, k2'_ap, mNil_ap, mCons_ap, kC1_ap, kC2_ap, mCall_ap, mCallI_ap, mItems_ap, gItems_l, gItems_t, mIf_ap, kIf_t, kIf_f, mCB_ap, mAndT_ap, mOrT_ap, mNotT_ap, kNot_ap, mAnd_ap, kAnd_t, kAnd_f, mOr_ap, kOr_t, kOr_f, mNot_ap, kNotV_ap, mB_ap, kB_ap, mFr_ap, frR_py, frR_no, frR_exc, mSl_ap, kS1_ap, kS2_ap, kS3_ap, oNone_ap, oSome_ap, kO_ap, mChain_ap, kH1_ap, kH2_ap, kH3_t, kH3_f, mMeth_ap, kMe2_ap, sSeq_ap, seqK_nx, seqK_rt, seqK_bk, seqK_ct, seqK_exc, seqK_no, sNx_ap, sNo_ap, sEx_ap, kE_ap, sRet_ap, kR_ap, sRetN_ap, sIf_ap, kSI_t, kSI_f, sAs_ap, kA_ap, asK_ok, aN_ap, kA_N, asNil_ap, asCons_ap, kG_ap, asSub_ap, kU1_ap, kU2_ap, sFor_ap, kF_ap, sPar_ap, kP2_ap, sPar3_ap, kP3_ap, endB_nx, endB_rt, endB_exc, endB_no, gAdd_i, gSub_i, gLtI_i, gLe_i, gGt_i, gGe_i, gNeg_i, gIntF_i, gAbs_i, gMax2_i, gMin2_i, gLen_l, gLen_t, gTupF_l, gTupF_t, gSl_t, gRev_t, gIs_b, gIsNot_b, gIs_n, gIsNot_n, pys_nil, gZip_t, List.getElem?_cons_zero, List.getElem?_cons_succ, List.set_cons_zero, List.set_cons_succ, List.map_cons, List.map_nil, List.length_cons, List.length_nil, List.cons_append, List.nil_append, Nat.reduceAdd, Nat.reduceSub, List.replicate_succ, List.replicate_zero, ofInts_len, wipeE, List.take_length, frR_new, decide_true, decide_false, Bool.not_true, Bool.not_false, gIx_last hr0, gTupD1, e5]
        · rw [List.length_append]; simp only [List.length_cons, List.length_nil]; omega
        · refine hri.snoc (by rw [List.length_append]; simp only [List.length_cons, List.length_nil]; omega) ?_
          rw [List.length_append]; simp only [List.length_cons, List.length_nil]; omega
      · left
        exact ⟨by simp -implicitDefEqProofs only [bd_ok, bd_no, bd_exc, bdN_ok, bs_ok, bs_exc, mV_ap, getV_ok, mK_ap, m1_ap, m2_ap, k2_ap, k2'_ap, mNil_ap, mCons_ap, kC1_ap, kC2_ap, mCall_ap, mCallI_ap, mItems_ap, gItems_l, gItems_t, mIf_ap, kIf_t, kIf_f, mCB_ap, mAndT_ap, mOrT_ap, mNotT_ap, kNot_ap, mAnd_ap, kAnd_t, kAnd_f, mOr_ap, kOr_t, kOr_f, mNot_ap, kNotV_ap, mB_ap, kB_ap, mFr_ap, frR_py, frR_no, frR_exc, mSl_ap, kS1_ap, kS2_ap, kS3_ap, oNone_ap, oSome_ap, kO_ap, mChain_ap, kH1_ap, kH2_ap, kH3_t, kH3_f, mMeth_ap, kMe2_ap, sSeq_ap, seqK_nx, seqK_rt, seqK_bk, seqK_ct, seqK_exc, seqK_no, sNx_ap, sNo_ap, sEx_ap, kE_ap, sRet_ap, kR_ap, sRetN_ap, sIf_ap, kSI_t, kSI_f, sAs_ap, kA_ap, asK_ok, aN_ap, kA_N, asNil_ap, asCons_ap, kG_ap, asSub_ap, kU1_ap, kU2_ap, sFor_ap, kF_ap, sPar_ap, kP2_ap, sPar3_ap, kP3_ap, endB_nx, endB_rt, endB_exc, endB_no, gAdd_i, gSub_i, gLtI_i, gLe_i, gGt_i, gGe_i, gNeg_i, gIntF_i, gAbs_i, gMax2_i, gMin2_i, gLen_l, gLen_t, gTupF_l, gTupF_t, gSl_t, gRev_t, gIs_b, gIsNot_b, gIs_n, gIsNot_n, pys_nil, gZip_t, List.getElem?_cons_zero, List.getElem?_cons_succ, List.set_cons_zero, List.set_cons_succ, List.map_cons, List.map_nil, List.length_cons, List.length_nil, List.cons_append, List.nil_append, Nat.reduceAdd, Nat.reduceSub, List.replicate_succ, List.replicate_zero, ofInts_len, wipeE, List.take_length, frR_new, decide_true, decide_false, Bool.not_true, Bool.not_false, decide_eq_false h], r, st, a, b, x5, x6, hri, by omega, ha, hb, rfl, rfl⟩)
    1000000 (max 1 mn - 1) _ _ (by omega) ⟨[c - 7], 1 + s, a3, b3, none, none, by simp, by simp only [List.length_cons, List.length_nil]; omega, (by
      intro d hd
      rw [List.mem_singleton.mp hd]
      simp only [List.length_cons, List.length_nil]; omega), by omega, ha3, hb3, rfl, rfl⟩
  obtain ⟨env', S', ew, r, st, a4, b4, x5, x6, hri, hrl, ha4, hb4, rfl, rfl⟩ := hw
  refine ⟨r.take mn, a4, b4, by rw [List.length_take]; omega, fun d hd => (hri.le (by omega : 10 * (r.length : Int) ≤ 1000)) d (List.mem_of_mem_take hd), ha4, hb4, ?_⟩
  unfold F__law_folds
  rw [runF_ap]
  unfold b__law_folds
  have ec : cutL (ofInts r) none (some (mn : Int)) = ofInts (r.take mn) := by rw [cutL_ofInts, cutL_to]
  have e15 : RW [c - 7] = .py (.tuple [PyData.int (c - 7)]) := rfl
  rw [e15] at ew
  have h1 : sAs (mCall F__law_roll (mCons (mV 0) (mCons (m2 gAdd (mV 1) (mK (.int 1))) mNil))) (aN 2) [some (.loc 0), some (.py (.int (most : Int))), none, none, none, none, none] (CS a b T) = .go .nx [some (.loc 0), some (.py (.int (most : Int))), some (.py (.int (mn : Int))), none, none, none, none] (CS a1 b1 T) := by simp -implicitDefEqProofs only [bd_ok, bd_no, bd_exc, bdN_ok, bs_ok, bs_exc, mV_ap, getV_ok, mK_ap, m1_ap, m2_ap, k2_ap, k2'_ap, mNil_ap, mCons_ap, kC1_ap, kC2_ap, mCall_ap, mCallI_ap, mItems_ap, gItems_l, gItems_t, mIf_ap, kIf_t, kIf_f, mCB_ap, mAndT_ap, mOrT_ap, mNotT_ap, kNot_ap, mAnd_ap, kAnd_t, kAnd_f, mOr_ap, kOr_t, kOr_f, mNot_ap, kNotV_ap, mB_ap, kB_ap, mFr_ap, frR_py, frR_no, frR_exc, mSl_ap, kS1_ap, kS2_ap, kS3_ap, oNone_ap, oSome_ap, kO_ap, mChain_ap, kH1_ap, kH2_ap, kH3_t, kH3_f, mMeth_ap, kMe2_ap, sSeq_ap, seqK_nx, seqK_rt, seqK_bk, seqK_ct, seqK_exc, seqK_no, sNx_ap, sNo_ap, sEx_ap, kE_ap, sRet_ap, kR_ap, sRetN_ap, sIf_ap, kSI_t, kSI_f, sAs_ap, kA_ap, asK_ok, aN_ap, kA_N, asNil_ap, asCons_ap, kG_ap, asSub_ap, kU1_ap, kU2_ap, sFor_ap, kF_ap, sPar_ap, kP2_ap, sPar3_ap, kP3_ap, endB_nx, endB_rt, endB_exc, endB_no, gAdd_i, gSub_i, gLtI_i, gLe_i, gGt_i, gGe_i, gNeg_i, gIntF_i, gAbs_i, gMax2_i, gMin2_i, gLen_l, gLen_t, gTupF_l, gTupF_t, gSl_t, gRev_t, gIs_b, gIsNot_b, gIs_n, gIsNot_n, pys_nil, gZip_t, List.getElem?_cons_zero, List.getElem?_cons_succ, List.set_cons_zero, List.set_cons_succ, List.map_cons, List.map_nil, List.length_cons, List.length_nil, List.cons_append, List.nil_append, Nat.reduceAdd, Nat.reduceSub, List.replicate_succ, List.replicate_zero, ofInts_len, wipeE, List.take_length, frR_new, decide_true, decide_false, Bool.not_true, Bool.not_false, r1]
  have h2 : sPar 3 4 (mCons (mCall gTupD (mCons (m2 PX.gSub (mCall F__law_roll (mCons (mV 0) (mCons (mK (.int 15)) mNil))) (mK (.int 7))) mNil)) (mCons (m2 gAdd (mK (.int 1)) (mCall F__law_roll (mCons (mV 0) (mCons (mK (.int 4)) mNil)))) mNil)) [some (.loc 0), some (.py (.int (most : Int))), some (.py (.int (mn : Int))), none, none, none, none] (CS a1 b1 T) = .go .nx [some (.loc 0), some (.py (.int (most : Int))), some (.py (.int (mn : Int))), some (.py (.tuple [.int (c - 7)])), some (.py (.int (1 + s))), none, none] (CS a3 b3 T) := by simp -implicitDefEqProofs only [bd_ok, bd_no, bd_exc, bdN_ok, bs_ok, bs_exc, mV_ap, getV_ok, mK_ap, m1_ap, m2_ap, k2_ap, k2'_ap, mNil_ap, mCons_ap, kC1_ap, kC2_ap, mCall_ap, mCallI_ap, mItems_ap, gItems_l, gItems_t, mIf_ap, kIf_t, kIf_f, mCB_ap, mAndT_ap, mOrT_ap, mNotT_ap, kNot_ap, mAnd_ap, kAnd_t, kAnd_f, mOr_ap, kOr_t, kOr_f, mNot_ap, kNotV_ap, mB_ap, kB_ap, mFr_ap, frR_py, frR_no, frR_exc, mSl_ap, kS1_ap, kS2_ap, kS3_ap, oNone_ap, oSome_ap, kO_ap, mChain_ap, kH1_ap, kH2_ap, kH3_t, kH3_f, mMeth_ap, kMe2_ap, sSeq_ap, seqK_nx, seqK_rt, seqK_bk, seqK_ct, seqK_exc, seqK_no, sNx_ap, sNo_ap, sEx_ap, kE_ap, sRet_ap, kR_ap, sRetN_ap, sIf_ap, kSI_t, kSI_f, sAs_ap, kA_ap, asK_ok, aN_ap, kA_N, asNil_ap, asCons_ap, kG_ap, asSub_ap, kU1_ap, kU2_ap, sFor_ap, kF_ap, sPar_ap, kP2_ap, sPar3_ap, kP3_ap, endB_nx, endB_rt, endB_exc, endB_no, gAdd_i, gSub_i, gLtI_i, gLe_i, gGt_i, gGe_i, gNeg_i, gIntF_i, gAbs_i, gMax2_i, gMin2_i, gLen_l, gLen_t, gTupF_l, gTupF_t, gSl_t, gRev_t, gIs_b, gIsNot_b, gIs_n, gIsNot_n, pys_nil, gZip_t, List.getElem?_cons_zero, List.getElem?_cons_succ, List.set_cons_zero, List.set_cons_succ, List.map_cons, List.map_nil, List.length_cons, List.length_nil, List.cons_append, List.nil_append, Nat.reduceAdd, Nat.reduceSub, List.replicate_succ, List.replicate_zero, ofInts_len, wipeE, List.take_length, frR_new, decide_true, decide_false, Bool.not_true, Bool.not_false, r2, r3, gTupD1]
  show frR _ (endB (sSeq _ _ [some (.loc 0), some (.py (.int (most : Int))), none, none, none, none, none] _)) = _
  rw [sSeq_nx h1, sSeq_nx h2, sSeq_nx ew]
  simp -implicitDefEqProofs only [bd_ok, bd_no, bd_exc, bdN_ok, bs_ok, bs_exc, mV_ap, getV_ok, mK_ap, m1_ap, m2_ap, k2_ap, k2'_ap, mNil_ap, mCons_ap, kC1_ap, kC2_ap, mCall_ap, mCallI_ap, mItems_ap, gItems_l, gItems_t, mIf_ap, kIf_t, kIf_f, mCB_ap, mAndT_ap, mOrT_ap, mNotT_ap, kNot_ap, mAnd_ap, kAnd_t, kAnd_f, mOr_ap, kOr_t, kOr_f, mNot_ap, kNotV_ap, mB_ap, kB_ap, mFr_ap, frR_py, frR_no, frR_exc, mSl_ap, kS1_ap, kS2_ap, kS3_ap, oNone_ap, oSome_ap, kO_ap, mChain_ap, kH1_ap, kH2_ap, kH3_t, kH3_f, mMeth_ap, kMe2_ap, sSeq_ap, seqK_nx, seqK_rt, seqK_bk, seqK_ct, seqK_exc, seqK_no, sNx_ap, sNo_ap, sEx_ap, kE_ap, sRet_ap, kR_ap, sRetN_ap, sIf_ap, kSI_t, kSI_f, sAs_ap, kA_ap, asK_ok, aN_ap, kA_N, asNil_ap, asCons_ap, kG_ap, asSub_ap, kU1_ap, kU2_ap, sFor_ap, kF_ap, sPar_ap, kP2_ap, sPar3_ap, kP3_ap, endB_nx, endB_rt, endB_exc, endB_no, gAdd_i, gSub_i, gLtI_i, gLe_i, gGt_i, gGe_i, gNeg_i, gIntF_i, gAbs_i, gMax2_i, gMin2_i, gLen_l, gLen_t, gTupF_l, gTupF_t, gSl_t, gRev_t, gIs_b, gIsNot_b, gIs_n, gIsNot_n, pys_nil, gZip_t, List.getElem?_cons_zero, List.getElem?_cons_succ, List.set_cons_zero, List.set_cons_succ, List.map_cons, List.map_nil, List.length_cons, List.length_nil, List.cons_append, List.nil_append, Nat.reduceAdd, Nat.reduceSub, List.replicate_succ, List.replicate_zero, ofInts_len, wipeE, List.take_length, frR_new, decide_true, decide_false, Bool.not_true, Bool.not_false, ec, take_CS]

theorem some_folds_ (T : Store) (a b : Int) (most : Nat) (hm : most ≤ 8) (h1 : 1 ≤ most) (ha : 0 ≤ a) (hb : 0 ≤ b) : ∃ r a' b', r.length ≤ most ∧ InB 1000 r ∧ 0 ≤ a' ∧ 0 ≤ b' ∧ F__law_some_folds [.loc 0, .py (.int (most : Int))] (CS a b T) = .ok (RW r) (CS a' b' T) := by
  obtain ⟨r, a1, b1, rl, ri, ha1, hb1, e⟩ := folds_ T a b most hm ha hb
  by_cases h : r = []
  · subst h
    obtain ⟨c, a2, b2, c1, c2, ha2, hb2, r2⟩ := roll a1 b1 15 T ha1 hb1 (by omega) (by omega)
    refine ⟨[c - 7], a2, b2, by simpa using h1, ?_, ha2, hb2, ?_⟩
    · intro d hd; rw [List.mem_singleton.mp hd]; omega
    · unfold F__law_some_folds
      rw [runF_ap]
      unfold b__law_some_folds
      simp -implicitDefEqProofs only [bd_ok, bd_no, bd_exc, bdN_ok, bs_ok, bs_exc, mV_ap, getV_ok, mK_ap, m1_ap, m2_ap, k2_ap, k2'_ap, mNil_ap, mCons_ap, kC1_ap, kC2_ap, mCall_ap, mCallI_ap, mItems_ap, gItems_l, gItems_t, mIf_ap, kIf_t, kIf_f, mCB_ap, mAndT_ap, mOrT_ap, mNotT_ap, kNot_ap, mAnd_ap, kAnd_t, kAnd_f, mOr_ap, kOr_t, kOr_f, mNot_ap, kNotV_ap, mB_ap, kB_ap, mFr_ap, frR_py, frR_no, frR_exc, mSl_ap, kS1_ap, kS2_ap, kS3_ap, oNone_ap, oSome_ap, kO_ap, mChain_ap, kH1_ap, kH2_ap, kH3_t, kH3_f, mMeth_ap, kMe2_ap, sSeq_ap, seqK_nx, seqK_rt, seqK_bk, seqK_ct, seqK_exc, seqK_no, sNx_ap, sNo_ap, sEx_ap, kE_ap, sRet_ap, kR_ap, sRetN_ap, sIf_ap, kSI_t, kSI_f, sAs_ap, kA_ap, asK_ok, aN_ap, kA_N, asNil_ap, asCons_ap, kG_ap, asSub_ap, kU1_ap, kU2_ap, sFor_ap, kF_ap, sPar_ap, kP2_ap, sPar3_ap, kP3_ap, endB_nx, endB_rt, endB_exc, endB_no, gAdd_i, gSub_i, gLtI_i, gLe_i, gGt_i, gGe_i, gNeg_i, gIntF_i, gAbs_i, gMax2_i, gMin2_i, gLen_l, gLen_t, gTupF_l, gTupF_t, gSl_t, gRev_t, gIs_b, gIsNot_b, gIs_n, gIsNot_n, pys_nil, gZip_t, List.getElem?_cons_zero, List.getElem?_cons_succ, List.set_cons_zero, List.set_cons_succ, List.map_cons, List.map_nil, List.length_cons, List.length_nil, List.cons_append, List.nil_append, Nat.reduceAdd, Nat.reduceSub, List.replicate_succ, List.replicate_zero, ofInts_len, wipeE, List.take_length, frR_new, decide_true, decide_false, Bool.not_true, Bool.not_false, e, gTupD0, gNe_r0, r2, gTupD1, take_CS]
      rfl
  · refine ⟨r, a1, b1, rl, ri, ha1, hb1, ?_⟩
    unfold F__law_some_folds
    rw [runF_ap]
    unfold b__law_some_folds
    simp -implicitDefEqProofs only [bd_ok, bd_no, bd_exc, bdN_ok, bs_ok, bs_exc, mV_ap, getV_ok, mK_ap, m1_ap, m2_ap, k2_ap, k2'_ap, mNil_ap, mCons_ap, kC1_ap, kC2_ap, mCall_ap, mCallI_ap, mItems_ap, gItems_l, gItems_t, mIf_ap, kIf_t, kIf_f, mCB_ap, mAndT_ap, mOrT_ap, mNotT_ap, kNot_ap, mAnd_ap, kAnd_t, kAnd_f, mOr_ap, kOr_t, kOr_f, mNot_ap, kNotV_ap, mB_ap, kB_ap, mFr_ap, frR_py, frR_no, frR_exc, mSl_ap, kS1_ap, kS2_ap, kS3_ap, oNone_ap, oSome_ap, kO_ap, mChain_ap, kH1_ap, kH2_ap, kH3_t, kH3_f, mMeth_ap, kMe2_ap, sSeq_ap, seqK_nx, seqK_rt, seqK_bk, seqK_ct, seqK_exc, seqK_no, sNx_ap, sNo_ap, sEx_ap, kE_ap, sRet_ap, kR_ap, sRetN_ap, sIf_ap, kSI_t, kSI_f, sAs_ap, kA_ap, asK_ok, aN_ap, kA_N, asNil_ap, asCons_ap, kG_ap, asSub_ap, kU1_ap, kU2_ap, sFor_ap, kF_ap, sPar_ap, kP2_ap, sPar3_ap, kP3_ap, endB_nx, endB_rt, endB_exc, endB_no, gAdd_i, gSub_i, gLtI_i, gLe_i, gGt_i, gGe_i, gNeg_i, gIntF_i, gAbs_i, gMax2_i, gMin2_i, gLen_l, gLen_t, gTupF_l, gTupF_t, gSl_t, gRev_t, gIs_b, gIsNot_b, gIs_n, gIsNot_n, pys_nil, gZip_t, List.getElem?_cons_zero, List.getElem?_cons_succ, List.set_cons_zero, List.set_cons_succ, List.map_cons, List.map_nil, List.length_cons, List.length_nil, List.cons_append, List.nil_append, Nat.reduceAdd, Nat.reduceSub, List.replicate_succ, List.replicate_zero, ofInts_len, wipeE, List.take_length, frR_new, decide_true, decide_false, Bool.not_true, Bool.not_false, e, gTupD0, gNe_r0, decide_eq_false h, take_CS]
theorem right_ (T : Store) (a b : Int) (hn : row.length ≤ 12) (hi : InB 1000 row) (ha : 0 ≤ a) (hb : 0 ≤ b) : ∃ a' b', 0 ≤ a' ∧ 0 ≤ b' ∧ F__law_right [.loc 0, RW row] (CS a b T) = .ok (.py (.bool true)) (CS a' b' T) := by
  have hi2 := hi.le (by omega : (1000 : Int) ≤ 1000000)
  obtain ⟨ms, e1, v1, n1, l1⟩ := F_moves (row := row) (CS a b T) hn
  obtain ⟨x3, x4, e2⟩ := all_moves (CS a b T) (some (.loc 0)) (some (.py (.list (ms.map mvE)))) none none none none hn hi ms none none v1
  have go : ∃ ms' r' a' b' x3' x7', Road row ms' r' ∧ ms'.length ≤ 6 ∧ r'.length = row.length ∧ 0 ≤ a' ∧ 0 ≤ b' ∧ InB 1000000 r' ∧
    sFor (mCallI gRange1 (mCons (mIf (mB (m2 gNe (mV 2) (mFr (mCall gLstD mNil)))) (mK (.int 6)) (mK (.int 0))) mNil)) (aN 7) (sSeq (sAs (mCall F__law_some (mCons (mV 0) (mCons (mCall F__law_moves (mCons (mV 6) mNil)) mNil))) (aN 3))
  (sPar 5 6 (mCons (m2 gAdd (mV 5) (mCall gTupD (mCons (mV 3) mNil))) (mCons (mCall F__law_moved (mCons (mV 6) (mCons (mV 3) mNil))) mNil)))) [some (.loc 0), some (RW row), some (.py (.list (ms.map mvE))), x3, x4, some (.py (.tuple [])), some (RW row), none, none] (CS a b T) = .go .nx [some (.loc 0), some (RW row), some (.py (.list (ms.map mvE))), x3', x4, some (.py (.tuple (ms'.map mvE))), some (RW r'), x7', none] (CS a' b' T) := by
    by_cases h : ms = []
    · refine ⟨[], row, a, b, x3, none, .nil _, by simp, rfl, ha, hb, hi2, ?_⟩
      have e0 : ∀ S, gRange1 [.py (.int 0)] S = .ok [] S := fun S => rfl
      rw [sFor_ap]
      simp -implicitDefEqProofs only [bd_ok, bd_no, bd_exc, bdN_ok, bs_ok, bs_exc, mV_ap, getV_ok, mK_ap, m1_ap, m2_ap, k2_ap, k2'_ap, mNil_ap, mCons_ap, kC1_ap, kC2_ap, mCall_ap, mCallI_ap, mItems_ap, gItems_l, gItems_t, mIf_ap, kIf_t, kIf_f, mCB_ap, mAndT_ap, mOrT_ap, mNotT_ap, kNot_ap, mAnd_ap, kAnd_t, kAnd_f, mOr_ap, kOr_t, kOr_f, mNot_ap, kNotV_ap, mB_ap, kB_ap, mFr_ap, frR_py, frR_no, frR_exc, mSl_ap, kS1_ap, kS2_ap, kS3_ap, oNone_ap, oSome_ap, kO_ap, mChain_ap, kH1_ap, kH2_ap, kH3_t, kH3_f, mMeth_ap, kMe2_ap, sSeq_ap, seqK_nx, seqK_rt, seqK_bk, seqK_ct, seqK_exc, seqK_no, sNx_ap, sNo_ap, sEx_ap, kE_ap, sRet_ap, kR_ap, sRetN_ap, sIf_ap, kSI_t, kSI_f, sAs_ap, kA_ap, asK_ok, aN_ap, kA_N, asNil_ap, asCons_ap, kG_ap, asSub_ap, kU1_ap, kU2_ap, sFor_ap, kF_ap, sPar_ap, kP2_ap, sPar3_ap, kP3_ap, endB_nx, endB_rt, endB_exc, endB_no, gAdd_i, gSub_i, gLtI_i, gLe_i, gGt_i, gGe_i, gNeg_i, gIntF_i, gAbs_i, gMax2_i, gMin2_i, gLen_l, gLen_t, gTupF_l, gTupF_t, gSl_t, gRev_t, gIs_b, gIsNot_b, gIs_n, gIsNot_n, pys_nil, gZip_t, List.getElem?_cons_zero, List.getElem?_cons_succ, List.set_cons_zero, List.set_cons_succ, List.map_cons, List.map_nil, List.length_cons, List.length_nil, List.cons_append, List.nil_append, Nat.reduceAdd, Nat.reduceSub, List.replicate_succ, List.replicate_zero, ofInts_len, wipeE, List.take_length, frR_new, decide_true, decide_false, Bool.not_true, Bool.not_false, gLstD0, gNe_mvs, decide_eq_true h, e0, forS]
    · have h2 : 2 ≤ row.length := by
        cases ms with
        | nil => exact absurd rfl h
        | cons m ms =>
          have v := v1 m (.head _)
          have := v.hf
          have := v.hl
          omega
      obtain ⟨ms', r', a', b', x3', x7', hr, hl, hrl, ha', hb', hi', e3⟩ := go_on T row (some (.py (.list (ms.map mvE)))) none hn h2 6 0 1000 [] row a b x3 x4 none (.nil _) rfl (by omega) rfl ha hb (by omega) hi (by decide)
      refine ⟨ms', r', a', b', x3', x7', hr, by omega, hrl, ha', hb', hi', ?_⟩
      have e0 : ∀ S, gRange1 [.py (.int 6)] S = .ok (rangeL ((0 : Nat) : Int) 6) S := fun S => rfl
      have e9 : List.map mvE [] = [] := rfl
      rw [e9] at e3
      rw [sFor_ap]
      simp -implicitDefEqProofs only [bd_ok, bd_no, bd_exc, bdN_ok, bs_ok, bs_exc, mV_ap, getV_ok, mK_ap, m1_ap, m2_ap, k2_ap, k2'_ap, mNil_ap, mCons_ap, kC1_ap, kC2_ap, mCall_ap, mCallI_ap, mItems_ap, gItems_l, gItems_t, mIf_ap, kIf_t, kIf_f, mCB_ap, mAndT_ap, mOrT_ap, mNotT_ap, kNot_ap, mAnd_ap, kAnd_t, kAnd_f, mOr_ap, kOr_t, kOr_f, mNot_ap, kNotV_ap, mB_ap, kB_ap, mFr_ap, frR_py, frR_no, frR_exc, mSl_ap, kS1_ap, kS2_ap, kS3_ap, oNone_ap, oSome_ap, kO_ap, mChain_ap, kH1_ap, kH2_ap, kH3_t, kH3_f, mMeth_ap, kMe2_ap, sSeq_ap, seqK_nx, seqK_rt, seqK_bk, seqK_ct, seqK_exc, seqK_no, sNx_ap, sNo_ap, sEx_ap, kE_ap, sRet_ap, kR_ap, sRetN_ap, sIf_ap, kSI_t, kSI_f, sAs_ap, kA_ap, asK_ok, aN_ap, kA_N, asNil_ap, asCons_ap, kG_ap, asSub_ap, kU1_ap, kU2_ap, sFor_ap, kF_ap, sPar_ap, kP2_ap, sPar3_ap, kP3_ap, endB_nx, endB_rt, endB_exc, endB_no, gAdd_i, gSub_i, gLtI_i, gLe_i, gGt_i, gGe_i, gNeg_i, gIntF_i, gAbs_i, gMax2_i, gMin2_i, gLen_l, gLen_t, gTupF_l, gTupF_t, gSl_t, gRev_t, gIs_b, gIsNot_b, gIs_n, gIsNot_n, pys_nil, gZip_t, List.getElem?_cons_zero, List.getElem?_cons_succ, List.set_cons_zero, List.set_cons_succ, List.map_cons, List.map_nil, List.length_cons, List.length_nil, List.cons_append, List.nil_append, Nat.reduceAdd, Nat.reduceSub, List.replicate_succ, List.replicate_zero, ofInts_len, wipeE, List.take_length, frR_new, decide_true, decide_false, Bool.not_true, Bool.not_false, gLstD0, gNe_mvs, decide_eq_false h, e0]
      exact e3
  obtain ⟨ms', r', a1, b1, x3', x7', hr, hl, hrl, ha1, hb1, hi', e3⟩ := go
  obtain ⟨o, a2, b2, ol, oi, ha2, hb2, e4⟩ := folds_ T a1 b1 4 (by omega) ha1 hb1
  have oi2 := oi.le (by omega : (1000 : Int) ≤ 1000000)
  refine ⟨a2, b2, ha2, hb2, ?_⟩
  have e5 := fun S => F_road S hr hn hi2 (by omega : r'.length ≤ 12) hi' (by omega)
  rw [decide_eq_true rfl] at e5
  have e6 := fun S => F_road S hr hn hi2 hn hi2 (by omega)
  have e7 := fun S => F_road S (Road.nil row) hn hi2 (by omega : o.length ≤ 12) oi2 (by simp)
  have e9 : List.map mvE [] = [] := rfl
  rw [e9] at e7
  have e4' : F__law_folds [.loc 0, .py (.int 4)] (CS a1 b1 T) = .ok (RW o) (CS a2 b2 T) := e4
  unfold F__law_right
  rw [runF_ap]
  have h1 : sAs (mCall F__law_moves (mCons (mV 1) mNil)) (aN 2) [some (.loc 0), some (RW row), none, none, none, none, none, none, none] (CS a b T) = .go .nx [some (.loc 0), some (RW row), some (.py (.list (ms.map mvE))), none, none, none, none, none, none] (CS a b T) := by simp -implicitDefEqProofs only [bd_ok, bd_no, bd_exc, bdN_ok, bs_ok, bs_exc, mV_ap, getV_ok, mK_ap, m1_ap, m2_ap, k2_ap, k2'_ap, mNil_ap, mCons_ap, kC1_ap, kC2_ap, mCall_ap, mCallI_ap, mItems_ap, gItems_l, gItems_t, mIf_ap, kIf_t, kIf_f, mCB_ap, mAndT_ap, mOrT_ap, mNotT_ap, kNot_ap, mAnd_ap, kAnd_t, kAnd_f, mOr_ap, kOr_t, kOr_f, mNot_ap, kNotV_ap, mB_ap, kB_ap, mFr_ap, frR_py, frR_no, frR_exc, mSl_ap, kS1_ap, kS2_ap, kS3_ap, oNone_ap, oSome_ap, kO_ap, mChain_ap, kH1_ap, kH2_ap, kH3_t, kH3_f, mMeth_ap, kMe2_ap, sSeq_ap, seqK_nx, seqK_rt, seqK_bk, seqK_ct, seqK_exc, seqK_no, sNx_ap, sNo_ap, sEx_ap, kE_ap, sRet_ap, kR_ap, sRetN_ap, sIf_ap, kSI_t, kSI_f, sAs_ap, kA_ap, asK_ok, aN_ap, kA_N, asNil_ap, asCons_ap, kG_ap, asSub_ap, kU1_ap, kU2_ap, sFor_ap, kF_ap, sPar_ap, kP2_ap, sPar3_ap, kP3_ap, endB_nx, endB_rt, endB_exc, endB_no, gAdd_i, gSub_i, gLtI_i, gLe_i, gGt_i, gGe_i, gNeg_i, gIntF_i, gAbs_i, gMax2_i, gMin2_i, gLen_l, gLen_t, gTupF_l, gTupF_t, gSl_t, gRev_t, gIs_b, gIsNot_b, gIs_n, gIsNot_n, pys_nil, gZip_t, List.getElem?_cons_zero, List.getElem?_cons_succ, List.set_cons_zero, List.set_cons_succ, List.map_cons, List.map_nil, List.length_cons, List.length_nil, List.cons_append, List.nil_append, Nat.reduceAdd, Nat.reduceSub, List.replicate_succ, List.replicate_zero, ofInts_len, wipeE, List.take_length, frR_new, decide_true, decide_false, Bool.not_true, Bool.not_false, e1]
  have h2 : sFor (mItems (mV 2)) (aN 3) RB [some (.loc 0), some (RW row), some (.py (.list (ms.map mvE))), none, none, none, none, none, none] (CS a b T) = .go .nx [some (.loc 0), some (RW row), some (.py (.list (ms.map mvE))), x3, x4, none, none, none, none] (CS a b T) := by simp -implicitDefEqProofs only [bd_ok, bd_no, bd_exc, bdN_ok, bs_ok, bs_exc, mV_ap, getV_ok, mK_ap, m1_ap, m2_ap, k2_ap, k2'_ap, mNil_ap, mCons_ap, kC1_ap, kC2_ap, mCall_ap, mCallI_ap, mItems_ap, gItems_l, gItems_t, mIf_ap, kIf_t, kIf_f, mCB_ap, mAndT_ap, mOrT_ap, mNotT_ap, kNot_ap, mAnd_ap, kAnd_t, kAnd_f, mOr_ap, kOr_t, kOr_f, mNot_ap, kNotV_ap, mB_ap, kB_ap, mFr_ap, frR_py, frR_no, frR_exc, mSl_ap, kS1_ap, kS2_ap, kS3_ap, oNone_ap, oSome_ap, kO_ap, mChain_ap, kH1_ap, kH2_ap, kH3_t, kH3_f, mMeth_ap, kMe2_ap, sSeq_ap, seqK_nx, seqK_rt, seqK_bk, seqK_ct, seqK_exc, seqK_no, sNx_ap, sNo_ap, sEx_ap, kE_ap, sRet_ap, kR_ap, sRetN_ap, sIf_ap, kSI_t, kSI_f, sAs_ap, kA_ap, asK_ok, aN_ap, kA_N, asNil_ap, asCons_ap, kG_ap, asSub_ap, kU1_ap, kU2_ap, sFor_ap, kF_ap, sPar_ap, kP2_ap, sPar3_ap, kP3_ap, endB_nx, endB_rt, endB_exc, endB_no, gAdd_i, gSub_i, gLtI_i, gLe_i, gGt_i, gGe_i, gNeg_i, gIntF_i, gAbs_i, gMax2_i, gMin2_i, gLen_l, gLen_t, gTupF_l, gTupF_t, gSl_t, gRev_t, gIs_b, gIsNot_b, gIs_n, gIsNot_n, pys_nil, gZip_t, List.getElem?_cons_zero, List.getElem?_cons_succ, List.set_cons_zero, List.set_cons_succ, List.map_cons, List.map_nil, List.length_cons, List.length_nil, List.cons_append, List.nil_append, Nat.reduceAdd, Nat.reduceSub, List.replicate_succ, List.replicate_zero, ofInts_len, wipeE, List.take_length, frR_new, decide_true, decide_false, Bool.not_true, Bool.not_false, e2]
  have h3 : sPar 5 6 (mCons (mCall gTupD mNil) (mCons (mV 1) mNil)) [some (.loc 0), some (RW row), some (.py (.list (ms.map mvE))), x3, x4, none, none, none, none] (CS a b T) = .go .nx [some (.loc 0), some (RW row), some (.py (.list (ms.map mvE))), x3, x4, some (.py (.tuple [])), some (RW row), none, none] (CS a b T) := by simp -implicitDefEqProofs only [bd_ok, bd_no, bd_exc, bdN_ok, bs_ok, bs_exc, mV_ap, getV_ok, mK_ap, m1_ap, m2_ap, k2_ap, k2'_ap, mNil_ap, mCons_ap, kC1_ap, kC2_ap, mCall_ap, mCallI_ap, mItems_ap, gItems_l, gItems_t, mIf_ap, kIf_t, kIf_f, mCB_ap, mAndT_ap, mOrT_ap, mNotT_ap, kNot_ap, mAnd_ap, kAnd_t, kAnd_f, mOr_ap, kOr_t, kOr_f, mNot_ap, kNotV_ap, mB_ap, kB_ap, mFr_ap, frR_py, frR_no, frR_exc, mSl_ap, kS1_ap, kS2_ap, kS3_ap, oNone_ap, oSome_ap, kO_ap, mChain_ap, kH1_ap, kH2_ap, kH3_t, kH3_f, mMeth_ap, kMe2_ap, sSeq_ap, seqK_nx, seqK_rt, seqK_bk, seqK_ct, seqK_exc, seqK_no, sNx_ap, sNo_ap, sEx_ap, kE_ap, sRet_ap, kR_ap, sRetN_ap, sIf_ap, kSI_t, kSI_f, sAs_ap, kA_ap, asK_ok, aN_ap, kA_N, asNil_ap, asCons_ap, kG_ap, asSub_ap, kU1_ap, kU2_ap, sFor_ap, kF_ap, sPar_ap, kP2_ap, sPar3_ap, kP3_ap, endB_nx, endB_rt, endB_exc, endB_no, gAdd_i, gSub_i, gLtI_i, gLe_i, gGt_i, gGe_i, gNeg_i, gIntF_i, gAbs_i, gMax2_i, gMin2_i, gLen_l, gLen_t, gTupF_l, gTupF_t, gSl_t, gRev_t, gIs_b, gIsNot_b, gIs_n, gIsNot_n, pys_nil, gZip_t, List.getElem?_cons_zero, List.getElem?_cons_succ, List.set_cons_zero, List.set_cons_succ, List.map_cons, List.map_nil, List.length_cons, List.length_nil, List.cons_append, List.nil_append, Nat.reduceAdd, Nat.reduceSub, List.replicate_succ, List.replicate_zero, ofInts_len, wipeE, List.take_length, frR_new, decide_true, decide_false, Bool.not_true, Bool.not_false, gTupD0]
  show frR _ (endB (sSeq _ (sSeq (sFor _ _ RB) _) [some (.loc 0), some (RW row), none, none, none, none, none, none, none] _)) = _
  rw [sSeq_nx h1, sSeq_nx h2, sSeq_nx h3, sSeq_nx e3]
  simp -implicitDefEqProofs only [bd_ok, bd_no, bd_exc, bdN_ok, bs_ok, bs_exc, mV_ap, getV_ok, mK_ap, m1_ap, m2_ap, k2_ap, k2'_ap, mNil_ap, mCons_ap, kC1_ap, kC2_ap, mCall_ap, mCallI_ap, mItems_ap, gItems_l, gItems_t, mIf_ap, kIf_t, kIf_f, mCB_ap, mAndT_ap, mOrT_ap, mNotT_ap, kNot_ap, mAnd_ap, kAnd_t, kAnd_f, mOr_ap, kOr_t, kOr_f, mNot_ap, kNotV_ap, mB_ap, kB_ap, mFr_ap, frR_py, frR_no, frR_exc, mSl_ap, kS1_ap, kS2_ap, kS3_ap, oNone_ap, oSome_ap, kO_ap, mChain_ap, kH1_ap, kH2_ap, kH3_t, kH3_f, mMeth_ap, kMe2_ap, sSeq_ap, seqK_nx, seqK_rt, seqK_bk, seqK_ct, seqK_exc, seqK_no, sNx_ap, sNo_ap, sEx_ap, kE_ap, sRet_ap, kR_ap, sRetN_ap, sIf_ap, kSI_t, kSI_f, sAs_ap, kA_ap, asK_ok, aN_ap, kA_N, asNil_ap, asCons_ap, kG_ap, asSub_ap, kU1_ap, kU2_ap, sFor_ap, kF_ap, sPar_ap, kP2_ap, sPar3_ap, kP3_ap, endB_nx, endB_rt, endB_exc, endB_no, gAdd_i, gSub_i, gLtI_i, gLe_i, gGt_i, gGe_i, gNeg_i, gIntF_i, gAbs_i, gMax2_i, gMin2_i, gLen_l, gLen_t, gTupF_l, gTupF_t, gSl_t, gRev_t, gIs_b, gIsNot_b, gIs_n, gIsNot_n, pys_nil, gZip_t, List.getElem?_cons_zero, List.getElem?_cons_succ, List.set_cons_zero, List.set_cons_succ, List.map_cons, List.map_nil, List.length_cons, List.length_nil, List.cons_append, List.nil_append, Nat.reduceAdd, Nat.reduceSub, List.replicate_succ, List.replicate_zero, ofInts_len, wipeE, List.take_length, frR_new, decide_true, decide_false, Bool.not_true, Bool.not_false, e5, e6, isnot_tt, Bool.decide_eq_true, gEq_r, gNe_bb, e4', gTupD0, e7, gEq_bb, take_CS]
end LW

end P_P7
section P_P8
set_option maxHeartbeats 4000000
namespace LW
open PySem PySem.Spec PyProof.Rows L2 PX
variable {t : Bool} {f l : Nat} {row : List Int}
theorem cup_ (ns : List Int) (hn : ns.length ≤ 63) : ∃ a b, 0 ≤ a ∧ 0 ≤ b ∧ F__law_cup [.py (.list (ofInts ns))] [] = .ok (.loc 0) (CS a b []) := by
  have e1 : ∀ S, gLstF [.py (.list (ofInts ns))] S = .ok (.loc S.length) (S ++ [.lst (ofInts ns)]) := fun S => gLstF_l (fits_le (by rw [ofInts_len]; omega))
  have e2 : ∀ S, gAdd (.py (.list (ofInts ns))) (.py (.list [.int 0])) S = .ok (.loc S.length) (S ++ [.lst (ofInts (ns ++ [0]))]) := fun S => (gAdd_l (fits_le (by rw [ofInts_len]; simp only [List.length_cons, List.length_nil]; omega))).trans (by rw [← ofInts_append]; rfl)
  obtain ⟨h0, rest, hr⟩ : ∃ h0 rest, ns ++ [0] = h0 :: rest := by cases ns with
    | nil => exact ⟨0, [], rfl⟩
    | cons x r => exact ⟨x, r ++ [0], rfl⟩
  have e3 : ∀ S, gIx (.py (.list (ofInts (ns ++ [0])))) (.py (.int 0)) S = .ok (.py (.int h0)) S := by
    intro S; rw [hr]
    exact gIx_l (by rw [atI_ofInts]; have := atI_nat (h0 :: rest) 0 (by simp); rw [show ((0 : Nat) : Int) = 0 from rfl] at this; rw [this]; rfl)
  have hc : 0 ≤ iabs h0 := by unfold iabs; split <;> omega
  generalize hcc : iabs h0 = c at hc
  have e4 : gAbs [.py (.int h0)] [] = .ok (.py (.int c)) [] := by rw [← hcc]; rfl
  have e5 : ∀ S, gPow (.py (.int 10)) (.py (.int 18)) S = .ok (.py (.int 1000000000000000000)) S := fun S => rfl
  have e6 : ∀ S, gMul (.py (.int c)) (.py (.int 239)) S = .ok (.py (.int (c * 239))) S := fun S => gMul_i (cMul_r (by decide))
  have e7 : ∀ c S, gMod (.py (.int c)) (.py (.int 2077503509)) S = .ok (.py (.int (c % 2077503509))) S := fun c S => gMod_i (by decide)
  have e8 : ∀ c S, gDiv (.py (.int c)) (.py (.int 37)) S = .ok (.py (.int (c / 37))) S := fun c S => gDiv_i (cDiv_s (by decide) (by decide))
  have e9 : ∀ x y : Int, gLstD [.py (.int x), .py (.int y)] [] = .ok (.loc 0) (CS x y []) := fun x y => rfl
  have h1 : sAs (mCall gAbs (mCons (m2 gIx (mFr (m2 gAdd (mFr (mCall gLstF (mCons (mV 0) mNil))) (mFr (mCall gLstD (mCons (mK (.int 0)) mNil))))) (mK (.int 0))) mNil)) (aN 1) [some (.py (.list (ofInts ns))), none] [] = .go .nx [some (.py (.list (ofInts ns))), some (.py (.int c))] [] := by
    simp -implicitDefEqProofs only [sAs_ap, mCall_ap, mCons_ap, m2_ap, mFr_ap, mV_ap, getV_ok, bd_ok, kC1_ap, mNil_ap, kC2_ap, k2_ap, k2'_ap, mK_ap, List.getElem?_cons_zero, e1, gLstD1, e2, e3, frR_new]
    rw [e4]
    rfl
  have hm : 0 ≤ (c * 239 + 1913) % 2077503509 := Int.emod_nonneg _ (by omega)
  by_cases h : 1000000000000000000 ≤ c
  · refine ⟨c / 37, (c * 239 + 1913) % 2077503509 + 127, Int.ediv_nonneg hc (by omega), by omega, ?_⟩
    unfold F__law_cup
    rw [runM_ap]
    show endB (sSeq _ _ [some (.py (.list (ofInts ns))), none] _) = _
    rw [sSeq_nx h1]
    simp -implicitDefEqProofs only [bd_ok, bd_no, bd_exc, bdN_ok, bs_ok, bs_exc, mV_ap, getV_ok, mK_ap, m1_ap, m2_ap, k2_ap, k2'_ap, mNil_ap, mCons_ap, kC1_ap, kC2_ap, mCall_ap, mCallI_ap, mItems_ap, gItems_l, gItems_t, mIf_ap, kIf_t, kIf_f, mCB_ap, mAndT_ap, mOrT_ap, mNotT_ap, kNot_ap, mAnd_ap, kAnd_t, kAnd_f, mOr_ap, kOr_t, kOr_f, mNot_ap, kNotV_ap, mB_ap, kB_ap, mFr_ap, frR_py, frR_no, frR_exc, mSl_ap, kS1_ap, kS2_ap, kS3_ap, oNone_ap, oSome_ap, kO_ap, mChain_ap, kH1_ap, kH2_ap, kH3_t, kH3_f, mMeth_ap, kMe2_ap, sSeq_ap, seqK_nx, seqK_rt, seqK_bk, seqK_ct, seqK_exc, seqK_no, sNx_ap, sNo_ap, sEx_ap, kE_ap, sRet_ap, kR_ap, sRetN_ap, sIf_ap, kSI_t, kSI_f, sAs_ap, kA_ap, asK_ok, aN_ap, kA_N, asNil_ap, asCons_ap, kG_ap, asSub_ap, kU1_ap, kU2_ap, sFor_ap, kF_ap, sPar_ap, kP2_ap, sPar3_ap, kP3_ap, endB_nx, endB_rt, endB_exc, endB_no, gAdd_i, gSub_i, gLtI_i, gLe_i, gGt_i, gGe_i, gNeg_i, gIntF_i, gAbs_i, gMax2_i, gMin2_i, gLen_l, gLen_t, gTupF_l, gTupF_t, gSl_t, gRev_t, gIs_b, gIsNot_b, gIs_n, gIsNot_n, pys_nil, gZip_t, List.getElem?_cons_zero, List.getElem?_cons_succ, List.set_cons_zero, List.set_cons_succ, List.map_cons, List.map_nil, List.length_cons, List.length_nil, List.cons_append, List.nil_append, Nat.reduceAdd, Nat.reduceSub, List.replicate_succ, List.replicate_zero, ofInts_len, wipeE, List.take_length, frR_new, decide_true, decide_false, Bool.not_true, Bool.not_false, e5, decide_eq_true h, e6, e7, e8, e9]
  · refine ⟨0, (c * 239 + 1913) % 2077503509 + 127, by omega, by omega, ?_⟩
    unfold F__law_cup
    rw [runM_ap]
    show endB (sSeq _ _ [some (.py (.list (ofInts ns))), none] _) = _
    rw [sSeq_nx h1]
    simp -implicitDefEqProofs only [bd_ok, bd_no, bd_exc, bdN_ok, bs_ok, bs_exc, mV_ap, getV_ok, mK_ap, m1_ap, m2_ap, k2_ap, k2'_ap, mNil_ap, mCons_ap, kC1_ap, kC2_ap, mCall_ap, mCallI_ap, mItems_ap, gItems_l, gItems_t, mIf_ap, kIf_t, kIf_f, mCB_ap, mAndT_ap, mOrT_ap, mNotT_ap, kNot_ap, mAnd_ap, kAnd_t, kAnd_f, mOr_ap, kOr_t, kOr_f, mNot_ap, kNotV_ap, mB_ap, kB_ap, mFr_ap, frR_py, frR_no, frR_exc, mSl_ap, kS1_ap, kS2_ap, kS3_ap, oNone_ap, oSome_ap, kO_ap, mChain_ap, kH1_ap, kH2_ap, kH3_t, kH3_f, mMeth_ap, kMe2_ap, sSeq_ap, seqK_nx, seqK_rt, seqK_bk, seqK_ct, seqK_exc, seqK_no, sNx_ap, sNo_ap, sEx_ap, kE_ap, sRet_ap, kR_ap, sRetN_ap, sIf_ap, kSI_t, kSI_f, sAs_ap, kA_ap, asK_ok, aN_ap, kA_N, asNil_ap, asCons_ap, kG_ap, asSub_ap, kU1_ap, kU2_ap, sFor_ap, kF_ap, sPar_ap, kP2_ap, sPar3_ap, kP3_ap, endB_nx, endB_rt, endB_exc, endB_no, gAdd_i, gSub_i, gLtI_i, gLe_i, gGt_i, gGe_i, gNeg_i, gIntF_i, gAbs_i, gMax2_i, gMin2_i, gLen_l, gLen_t, gTupF_l, gTupF_t, gSl_t, gRev_t, gIs_b, gIsNot_b, gIs_n, gIsNot_n, pys_nil, gZip_t, List.getElem?_cons_zero, List.getElem?_cons_succ, List.set_cons_zero, List.set_cons_succ, List.map_cons, List.map_nil, List.length_cons, List.length_nil, List.cons_append, List.nil_append, Nat.reduceAdd, Nat.reduceSub, List.replicate_succ, List.replicate_zero, ofInts_len, wipeE, List.take_length, frR_new, decide_true, decide_false, Bool.not_true, Bool.not_false, e5, decide_eq_false h, e6, e7, e9]
/-! what is no move -/
theorem whole_b (k : Bool) (S : Store) : F_is_whole [.py (.bool k)] S = .ok (.py (.bool false)) S := F_whole (.bool k) S (fun _ h => nomatch h)
theorem ft_bool (k : Bool) (a b : Int) (S : Store) : F_is_from_to [.py (.bool k), .py (.int a), .py (.int b)] S = .ok (.py (.bool false)) S := by
  unfold F_is_from_to
  rw [runF_ap]
  unfold b_is_from_to
  simp -implicitDefEqProofs only [bd_ok, bd_no, bd_exc, bdN_ok, bs_ok, bs_exc, mV_ap, getV_ok, mK_ap, m1_ap, m2_ap, k2_ap, k2'_ap, mNil_ap, mCons_ap, kC1_ap, kC2_ap, mCall_ap, mCallI_ap, mItems_ap, gItems_l, gItems_t, mIf_ap, kIf_t, kIf_f, mCB_ap, mAndT_ap, mOrT_ap, mNotT_ap, kNot_ap, mAnd_ap, kAnd_t, kAnd_f, mOr_ap, kOr_t, kOr_f, mNot_ap, kNotV_ap, mB_ap, kB_ap, mFr_ap, frR_py, frR_no, frR_exc, mSl_ap, kS1_ap, kS2_ap, kS3_ap, oNone_ap, oSome_ap, kO_ap, mChain_ap, kH1_ap, kH2_ap, kH3_t, kH3_f, mMeth_ap, kMe2_ap, sSeq_ap, seqK_nx, seqK_rt, seqK_bk, seqK_ct, seqK_exc, seqK_no, sNx_ap, sNo_ap, sEx_ap, kE_ap, sRet_ap, kR_ap, sRetN_ap, sIf_ap, kSI_t, kSI_f, sAs_ap, kA_ap, asK_ok, aN_ap, kA_N, asNil_ap, asCons_ap, kG_ap, asSub_ap, kU1_ap, kU2_ap, sFor_ap, kF_ap, sPar_ap, kP2_ap, sPar3_ap, kP3_ap, endB_nx, endB_rt, endB_exc, endB_no, gAdd_i, gSub_i, gLtI_i, gLe_i, gGt_i, gGe_i, gNeg_i, gIntF_i, gAbs_i, gMax2_i, gMin2_i, gLen_l, gLen_t, gTupF_l, gTupF_t, gSl_t, gRev_t, gIs_b, gIsNot_b, gIs_n, gIsNot_n, pys_nil, gZip_t, List.getElem?_cons_zero, List.getElem?_cons_succ, List.set_cons_zero, List.set_cons_succ, List.map_cons, List.map_nil, List.length_cons, List.length_nil, List.cons_append, List.nil_append, Nat.reduceAdd, Nat.reduceSub, List.replicate_succ, List.replicate_zero, ofInts_len, wipeE, List.take_length, frR_new, decide_true, decide_false, Bool.not_true, Bool.not_false, whole_b]
theorem bad_shape (p : PyData) (S : Store) (h : isI p "tuple" = some false) : F_is_move [RW row, .py p] S = .ok (.py (.bool false)) S := by
  have e : ∀ v S, gIsI "tuple" [.py p, .raw v] S = .ok (.py (.bool false)) S := fun v S => by
    show (match isI p "tuple" with | some b => R.ok (D.py (.bool b)) S | none => .no) = _
    rw [h]
  unfold F_is_move
  rw [runF_ap]
  unfold b_is_move
  simp -implicitDefEqProofs only [bd_ok, bd_no, bd_exc, bdN_ok, bs_ok, bs_exc, mV_ap, getV_ok, mK_ap, m1_ap, m2_ap, k2_ap, k2'_ap, mNil_ap, mCons_ap, kC1_ap, kC2_ap, mCall_ap, mCallI_ap, mItems_ap, gItems_l, gItems_t, mIf_ap, kIf_t, kIf_f, mCB_ap, mAndT_ap, mOrT_ap, mNotT_ap, kNot_ap, mAnd_ap, kAnd_t, kAnd_f, mOr_ap, kOr_t, kOr_f, mNot_ap, kNotV_ap, mB_ap, kB_ap, mFr_ap, frR_py, frR_no, frR_exc, mSl_ap, kS1_ap, kS2_ap, kS3_ap, oNone_ap, oSome_ap, kO_ap, mChain_ap, kH1_ap, kH2_ap, kH3_t, kH3_f, mMeth_ap, kMe2_ap, sSeq_ap, seqK_nx, seqK_rt, seqK_bk, seqK_ct, seqK_exc, seqK_no, sNx_ap, sNo_ap, sEx_ap, kE_ap, sRet_ap, kR_ap, sRetN_ap, sIf_ap, kSI_t, kSI_f, sAs_ap, kA_ap, asK_ok, aN_ap, kA_N, asNil_ap, asCons_ap, kG_ap, asSub_ap, kU1_ap, kU2_ap, sFor_ap, kF_ap, sPar_ap, kP2_ap, sPar3_ap, kP3_ap, endB_nx, endB_rt, endB_exc, endB_no, gAdd_i, gSub_i, gLtI_i, gLe_i, gGt_i, gGe_i, gNeg_i, gIntF_i, gAbs_i, gMax2_i, gMin2_i, gLen_l, gLen_t, gTupF_l, gTupF_t, gSl_t, gRev_t, gIs_b, gIsNot_b, gIs_n, gIsNot_n, pys_nil, gZip_t, List.getElem?_cons_zero, List.getElem?_cons_succ, List.set_cons_zero, List.set_cons_succ, List.map_cons, List.map_nil, List.length_cons, List.length_nil, List.cons_append, List.nil_append, Nat.reduceAdd, Nat.reduceSub, List.replicate_succ, List.replicate_zero, ofInts_len, wipeE, List.take_length, frR_new, decide_true, decide_false, Bool.not_true, Bool.not_false, e]
theorem bad_len (ps : List PyData) (S : Store) (h : (ps.length : Int) ≠ 3) : F_is_move [RW row, .py (.tuple ps)] S = .ok (.py (.bool false)) S := by
  unfold F_is_move
  rw [runF_ap]
  unfold b_is_move
  simp -implicitDefEqProofs only [bd_ok, bd_no, bd_exc, bdN_ok, bs_ok, bs_exc, mV_ap, getV_ok, mK_ap, m1_ap, m2_ap, k2_ap, k2'_ap, mNil_ap, mCons_ap, kC1_ap, kC2_ap, mCall_ap, mCallI_ap, mItems_ap, gItems_l, gItems_t, mIf_ap, kIf_t, kIf_f, mCB_ap, mAndT_ap, mOrT_ap, mNotT_ap, kNot_ap, mAnd_ap, kAnd_t, kAnd_f, mOr_ap, kOr_t, kOr_f, mNot_ap, kNotV_ap, mB_ap, kB_ap, mFr_ap, frR_py, frR_no, frR_exc, mSl_ap, kS1_ap, kS2_ap, kS3_ap, oNone_ap, oSome_ap, kO_ap, mChain_ap, kH1_ap, kH2_ap, kH3_t, kH3_f, mMeth_ap, kMe2_ap, sSeq_ap, seqK_nx, seqK_rt, seqK_bk, seqK_ct, seqK_exc, seqK_no, sNx_ap, sNo_ap, sEx_ap, kE_ap, sRet_ap, kR_ap, sRetN_ap, sIf_ap, kSI_t, kSI_f, sAs_ap, kA_ap, asK_ok, aN_ap, kA_N, asNil_ap, asCons_ap, kG_ap, asSub_ap, kU1_ap, kU2_ap, sFor_ap, kF_ap, sPar_ap, kP2_ap, sPar3_ap, kP3_ap, endB_nx, endB_rt, endB_exc, endB_no, gAdd_i, gSub_i, gLtI_i, gLe_i, gGt_i, gGe_i, gNeg_i, gIntF_i, gAbs_i, gMax2_i, gMin2_i, gLen_l, gLen_t, gTupF_l, gTupF_t, gSl_t, gRev_t, gIs_b, gIsNot_b, gIs_n, gIsNot_n, pys_nil, gZip_t, List.getElem?_cons_zero, List.getElem?_cons_succ, List.set_cons_zero, List.set_cons_succ, List.map_cons, List.map_nil, List.length_cons, List.length_nil, List.cons_append, List.nil_append, Nat.reduceAdd, Nat.reduceSub, List.replicate_succ, List.replicate_zero, ofInts_len, wipeE, List.take_length, frR_new, decide_true, decide_false, Bool.not_true, Bool.not_false, gIsI_tt, gNe_i, decide_eq_false h]
theorem bad_last (k a : PyData) (z : Int) (S : Store) (h : ¬ (0 ≤ z ∧ z ≤ (row.length : Int) - 1)) : F_is_move [RW row, .py (.tuple [k, a, .int z])] S = .ok (.py (.bool false)) S := by
  have e3 := fun (env : Ev) (S : Store) => aT_ap (n := 3) (r := asCons (aN 2) (asCons (aN 3) (asCons (aN 4) asNil))) (l := [k, a, .int z]) (env := env) (S := S) rfl
  have e4 : decide (((3 : Nat) : Int) = 3) = true := rfl
  have e5 : (decide (0 ≤ z) && decide (z ≤ (row.length : Int) - 1)) = false := by
    rw [Bool.and_eq_false_iff]
    by_cases h1 : 0 ≤ z
    · exact .inr (decide_eq_false fun h2 => h ⟨h1, h2⟩)
    · exact .inl (decide_eq_false h1)
  unfold F_is_move
  rw [runF_ap]
  unfold b_is_move
  simp -implicitDefEqProofs only [bd_ok, bd_no, bd_exc, bdN_ok, bs_ok, bs_exc, mV_ap, getV_ok, mK_ap, m1_ap, m2_ap, k2_ap, k2'_ap, mNil_ap, mCons_ap, kC1_ap, kC2_ap, mCall_ap, mCallI_ap, mItems_ap, gItems_l, gItems_t, mIf_ap, kIf_t, kIf_f, mCB_ap, mAndT_ap, mOrT_ap, mNotT_ap, kNot_ap, mAnd_ap, kAnd_t, kAnd_f, mOr_ap, kOr_t, kOr_f, mNot_ap, kNotV_ap, mB_ap, kB_ap, mFr_ap, frR_py, frR_no, frR_exc, mSl_ap, kS1_ap, kS2_ap, kS3_ap, oNone_ap, oSome_ap, kO_ap, mChain_ap, kH1_ap, kH2_ap, kH3_t, kH3_f, mMeth_ap, kMe2_ap, sSeq_ap, seqK_nx, seqK_rt, seqK_bk, seqK_ct, seqK_exc, seqK_no, sNx_ap, sNo_ap, sEx_ap, kE_ap, sRet_ap, kR_ap, sRetN_ap, sIf_ap, kSI_t, kSI_f, sAs_ap, kA_ap, asK_ok, aN_ap, kA_N, asNil_ap, asCons_ap, kG_ap, asSub_ap, kU1_ap, kU2_ap, sFor_ap, kF_ap, sPar_ap, kP2_ap, sPar3_ap, kP3_ap, endB_nx, endB_rt, endB_exc, endB_no, gAdd_i, gSub_i, gLtI_i, gLe_i, gGt_i, gGe_i, gNeg_i, gIntF_i, gAbs_i, gMax2_i, gMin2_i, gLen_l, gLen_t, gTupF_l, gTupF_t, gSl_t, gRev_t, gIs_b, gIsNot_b, gIs_n, gIsNot_n, pys_nil, gZip_t, List.getElem?_cons_zero, List.getElem?_cons_succ, List.set_cons_zero, List.set_cons_succ, List.map_cons, List.map_nil, List.length_cons, List.length_nil, List.cons_append, List.nil_append, Nat.reduceAdd, Nat.reduceSub, List.replicate_succ, List.replicate_zero, ofInts_len, wipeE, List.take_length, frR_new, decide_true, decide_false, Bool.not_true, Bool.not_false, e3, gIsI_tt, gNe_i, e4, F_ft, e5]
theorem bad_first (k a : PyData) (z : Int) (S : Store) (h : 0 ≤ z ∧ z ≤ (row.length : Int) - 1) (h2 : ∀ S, F_is_from_to [.py a, .py (.int 0), .py (.int (z - 1))] S = .ok (.py (.bool false)) S) : F_is_move [RW row, .py (.tuple [k, a, .int z])] S = .ok (.py (.bool false)) S := by
  have e3 := fun (env : Ev) (S : Store) => aT_ap (n := 3) (r := asCons (aN 2) (asCons (aN 3) (asCons (aN 4) asNil))) (l := [k, a, .int z]) (env := env) (S := S) rfl
  have e4 : decide (((3 : Nat) : Int) = 3) = true := rfl
  unfold F_is_move
  rw [runF_ap]
  unfold b_is_move
  simp -implicitDefEqProofs only [bd_ok, bd_no, bd_exc, bdN_ok, bs_ok, bs_exc, mV_ap, getV_ok, mK_ap, m1_ap, m2_ap, k2_ap, k2'_ap, mNil_ap, mCons_ap, kC1_ap, kC2_ap, mCall_ap, mCallI_ap, mItems_ap, gItems_l, gItems_t, mIf_ap, kIf_t, kIf_f, mCB_ap, mAndT_ap, mOrT_ap, mNotT_ap, kNot_ap, mAnd_ap, kAnd_t, kAnd_f, mOr_ap, kOr_t, kOr_f, mNot_ap, kNotV_ap, mB_ap, kB_ap, mFr_ap, frR_py, frR_no, frR_exc, mSl_ap, kS1_ap, kS2_ap, kS3_ap, oNone_ap, oSome_ap, kO_ap, mChain_ap, kH1_ap, kH2_ap, kH3_t, kH3_f, mMeth_ap, kMe2_ap, sSeq_ap, seqK_nx, seqK_rt, seqK_bk, seqK_ct, seqK_exc, seqK_no, sNx_ap, sNo_ap, sEx_ap, kE_ap, sRet_ap, kR_ap, sRetN_ap, sIf_ap, kSI_t, kSI_f, sAs_ap, kA_ap, asK_ok, aN_ap, kA_N, asNil_ap, asCons_ap, kG_ap, asSub_ap, kU1_ap, kU2_ap, sFor_ap, kF_ap, sPar_ap, kP2_ap, sPar3_ap, kP3_ap, endB_nx, endB_rt, endB_exc, endB_no, gAdd_i, gSub_i, gLtI_i, gLe_i, gGt_i, gGe_i, gNeg_i, gIntF_i, gAbs_i, gMax2_i, gMin2_i, gLen_l, gLen_t, gTupF_l, gTupF_t, gSl_t, gRev_t, gIs_b, gIsNot_b, gIs_n, gIsNot_n, pys_nil, gZip_t, List.getElem?_cons_zero, List.getElem?_cons_succ, List.set_cons_zero, List.set_cons_succ, List.map_cons, List.map_nil, List.length_cons, List.length_nil, List.cons_append, List.nil_append, Nat.reduceAdd, Nat.reduceSub, List.replicate_succ, List.replicate_zero, ofInts_len, wipeE, List.take_length, frR_new, decide_true, decide_false, Bool.not_true, Bool.not_false, e3, gIsI_tt, gNe_i, e4, ft_true _ h.1 h.2, h2]
theorem bad_ft (i a b : Int) (h : ¬ (a ≤ i ∧ i ≤ b)) (S : Store) : F_is_from_to [.py (.int i), .py (.int a), .py (.int b)] S = .ok (.py (.bool false)) S := by
  rw [F_ft]
  congr 3
  rw [Bool.and_eq_false_iff]
  by_cases h1 : a ≤ i
  · exact .inr (decide_eq_false fun h2 => h ⟨h1, h2⟩)
  · exact .inl (decide_eq_false h1)
theorem bad_kind (k : PyData) (f l : Nat) (S : Store) (hf : f < l) (hl : l < row.length) (h1 : ∀ S, gEq (.py k) (.py (.str "turn")) S = .ok (.py (.bool false)) S) (b : Bool) (h2 : ∀ S, gEq (.py k) (.py (.str "mirror")) S = .ok (.py (.bool b)) S) (h3 : b = true → row[f] ≠ row[l]) : F_is_move [RW row, .py (.tuple [k, .int f, .int l])] S = .ok (.py (.bool false)) S := by
  have e3 := fun (env : Ev) (S : Store) => aT_ap (n := 3) (r := asCons (aN 2) (asCons (aN 3) (asCons (aN 4) asNil))) (l := [k, .int f, .int l]) (env := env) (S := S) rfl
  have e4 : decide (((3 : Nat) : Int) = 3) = true := rfl
  unfold F_is_move
  rw [runF_ap]
  unfold b_is_move
  cases b with
  | true => simp -implicitDefEqProofs only [bd_ok, bd_no, bd_exc, bdN_ok, bs_ok, bs_exc, mV_ap, getV_ok, mK_ap, m1_ap, m2_ap, k2_ap, k2'_ap, mNil_ap, mCons_ap, kC1_ap, kC2_ap, mCall_ap, mCallI_ap, mItems_ap, gItems_l, gItems_t, mIf_ap, kIf_t, kIf_f, mCB_ap, mAndT_ap, mOrT_ap, mNotT_ap, kNot_ap, mAnd_ap, kAnd_t, kAnd_f, mOr_ap, kOr_t, kOr_f, mNot_ap, kNotV_ap, mB_ap, kB_ap, mFr_ap, frR_py, frR_no, frR_exc, mSl_ap, kS1_ap, kS2_ap, kS3_ap, oNone_ap, oSome_ap, kO_ap, mChain_ap, kH1_ap, kH2_ap, kH3_t, kH3_f, mMeth_ap, kMe2_ap, sSeq_ap, seqK_nx, seqK_rt, seqK_bk, seqK_ct, seqK_exc, seqK_no, sNx_ap, sNo_ap, sEx_ap, kE_ap, sRet_ap, kR_ap, sRetN_ap, sIf_ap, kSI_t, kSI_f, sAs_ap, kA_ap, asK_ok, aN_ap, kA_N, asNil_ap, asCons_ap, kG_ap, asSub_ap, kU1_ap, kU2_ap, sFor_ap, kF_ap, sPar_ap, kP2_ap, sPar3_ap, kP3_ap, endB_nx, endB_rt, endB_exc, endB_no, gAdd_i, gSub_i, gLtI_i, gLe_i, gGt_i, gGe_i, gNeg_i, gIntF_i, gAbs_i, gMax2_i, gMin2_i, gLen_l, gLen_t, gTupF_l, gTupF_t, gSl_t, gRev_t, gIs_b, gIsNot_b, gIs_n, gIsNot_n, pys_nil, gZip_t, List.getElem?_cons_zero, List.getElem?_cons_succ, List.set_cons_zero, List.set_cons_succ, List.map_cons, List.map_nil, List.length_cons, List.length_nil, List.cons_append, List.nil_append, Nat.reduceAdd, Nat.reduceSub, List.replicate_succ, List.replicate_zero, ofInts_len, wipeE, List.take_length, frR_new, decide_true, decide_false, Bool.not_true, Bool.not_false, e3, gIsI_tt, gNe_i, e4, ft_true _ (by omega : (0 : Int) ≤ (l : Int)) (by omega : (l : Int) ≤ (row.length : Int) - 1), ft_true _ (by omega : (0 : Int) ≤ (f : Int)) (by omega : (f : Int) ≤ (l : Int) - 1), h1, h2, gIx_r row f (by omega : f < row.length), gIx_r row l hl, gEq_i, decide_eq_false (h3 rfl)]
  | false => simp -implicitDefEqProofs only [bd_ok, bd_no, bd_exc, bdN_ok, bs_ok, bs_exc, mV_ap, getV_ok, mK_ap, m1_ap, m2_ap, k2_ap, k2'_ap, mNil_ap, mCons_ap, kC1_ap, kC2_ap, mCall_ap, mCallI_ap, mItems_ap, gItems_l, gItems_t, mIf_ap, kIf_t, kIf_f, mCB_ap, mAndT_ap, mOrT_ap, mNotT_ap, kNot_ap, mAnd_ap, kAnd_t, kAnd_f, mOr_ap, kOr_t, kOr_f, mNot_ap, kNotV_ap, mB_ap, kB_ap, mFr_ap, frR_py, frR_no, frR_exc, mSl_ap, kS1_ap, kS2_ap, kS3_ap, oNone_ap, oSome_ap, kO_ap, mChain_ap, kH1_ap, kH2_ap, kH3_t, kH3_f, mMeth_ap, kMe2_ap, sSeq_ap, seqK_nx, seqK_rt, seqK_bk, seqK_ct, seqK_exc, seqK_no, sNx_ap, sNo_ap, sEx_ap, kE_ap, sRet_ap, kR_ap, sRetN_ap, sIf_ap, kSI_t, kSI_f, sAs_ap, kA_ap, asK_ok, aN_ap, kA_N, asNil_ap, asCons_ap, kG_ap, asSub_ap, kU1_ap, kU2_ap, sFor_ap, kF_ap, sPar_ap, kP2_ap, sPar3_ap, kP3_ap, endB_nx, endB_rt, endB_exc, endB_no, gAdd_i, gSub_i, gLtI_i, gLe_i, gGt_i, gGe_i, gNeg_i, gIntF_i, gAbs_i, gMax2_i, gMin2_i, gLen_l, gLen_t, gTupF_l, gTupF_t, gSl_t, gRev_t, gIs_b, gIsNot_b, gIs_n, gIsNot_n, pys_nil, gZip_t, List.getElem?_cons_zero, List.getElem?_cons_succ, List.set_cons_zero, List.set_cons_succ, List.map_cons, List.map_nil, List.length_cons, List.length_nil, List.cons_append, List.nil_append, Nat.reduceAdd, Nat.reduceSub, List.replicate_succ, List.replicate_zero, ofInts_len, wipeE, List.take_length, frR_new, decide_true, decide_false, Bool.not_true, Bool.not_false, e3, gIsI_tt, gNe_i, e4, ft_true _ (by omega : (0 : Int) ≤ (l : Int)) (by omega : (l : Int) ≤ (row.length : Int) - 1), ft_true _ (by omega : (0 : Int) ≤ (f : Int)) (by omega : (f : Int) ≤ (l : Int) - 1), h1, h2]
theorem bad_road {p : PyData} {ps : List PyData} {r b : List Int} (S : Store) (h : ∀ S, F_is_move [RW r, .py p] S = .ok (.py (.bool false)) S) (hn : r.length ≤ 12) (hb : InB 1000000 r) (hn2 : b.length ≤ 12) (hb2 : InB 1000000 b) (hm : (p :: ps).length ≤ 200) : F_is_road [RW r, RW b, .py (.tuple (p :: ps))] S = .ok (.py (.bool false)) S := by
  unfold F_is_road
  rw [runF_ap]
  unfold b_is_road
  have e200 : decide ((((p :: ps).length : Nat) : Int) ≤ 200) = true := decide_eq_true (by omega)
  have ef : ∀ (x3 x4 : Option D) S, forS (aN 4) (sSeq (sIf (mNotT (mB (mCall F_is_move (mCons (mV 3) (mCons (mV 4) mNil))))) (sRet (mK (.bool false))) sNx)
  (sAs (mCall F_do_move (mCons (mV 3) (mCons (mV 4) mNil))) (aN 3))) (p :: ps) [some (RW r), some (RW b), some (.py (.tuple (p :: ps))), some (RW r), x4] S = .go (.rt (.py (.bool false))) [some (RW r), some (RW b), some (.py (.tuple (p :: ps))), some (RW r), some (.py p)] S := by
    intro x3 x4 S
    exact forS_rt (env1 := [some (RW r), some (RW b), some (.py (.tuple (p :: ps))), some (RW r), some (.py p)]) aN_ap (by simp -implicitDefEqProofs only [bd_ok, bd_no, bd_exc, bdN_ok, bs_ok, bs_exc, mV_ap, getV_ok, mK_ap, m1_ap, m2_ap, k2_ap, k2'_ap, mNil_ap, mCons_ap, kC1_ap, kC2_ap, mCall_ap, mCallI_ap, mItems_ap, gItems_l, gItems_t, mIf_ap, kIf_t, kIf_f, mCB_ap, mAndT_ap, mOrT_ap, mNotT_ap, kNot_ap, mAnd_ap, kAnd_t, kAnd_f, mOr_ap, kOr_t, kOr_f, mNot_ap, kNotV_ap, mB_ap, kB_ap, mFr_ap, frR_py, frR_no, frR_exc, mSl_ap, kS1_ap, kS2_ap, kS3_ap, oNone_ap, oSome_ap, kO_ap, mChain_ap, kH1_ap, kH2_ap, kH3_t, kH3_f, mMeth_ap, kMe2_ap, sSeq_ap, seqK_nx, seqK_rt, seqK_bk, seqK_ct, seqK_exc, seqK_no, sNx_ap, sNo_ap, sEx_ap, kE_ap, sRet_ap, kR_ap, sRetN_ap, sIf_ap, kSI_t, kSI_f, sAs_ap, kA_ap, asK_ok, aN_ap, kA_N, asNil_ap, asCons_ap, kG_ap, asSub_ap, kU1_ap, kU2_ap, sFor_ap, kF_ap, sPar_ap, kP2_ap, sPar3_ap, kP3_ap, endB_nx, endB_rt, endB_exc, endB_no, gAdd_i, gSub_i, gLtI_i, gLe_i, gGt_i, gGe_i, gNeg_i, gIntF_i, gAbs_i, gMax2_i, gMin2_i, gLen_l, gLen_t, gTupF_l, gTupF_t, gSl_t, gRev_t, gIs_b, gIsNot_b, gIs_n, gIsNot_n, pys_nil, gZip_t, List.getElem?_cons_zero, List.getElem?_cons_succ, List.set_cons_zero, List.set_cons_succ, List.map_cons, List.map_nil, List.length_cons, List.length_nil, List.cons_append, List.nil_append, Nat.reduceAdd, Nat.reduceSub, List.replicate_succ, List.replicate_zero, ofInts_len, wipeE, List.take_length, frR_new, decide_true, decide_false, Bool.not_true, Bool.not_false, h])
  generalize p :: ps = q at *
  simp -implicitDefEqProofs only [bd_ok, bd_no, bd_exc, bdN_ok, bs_ok, bs_exc, mV_ap, getV_ok, mK_ap, m1_ap, m2_ap, k2_ap, k2'_ap, mNil_ap, mCons_ap, kC1_ap, kC2_ap, mCall_ap, mCallI_ap, mItems_ap, gItems_l, gItems_t, mIf_ap, kIf_t, kIf_f, mCB_ap, mAndT_ap, mOrT_ap, mNotT_ap, kNot_ap, mAnd_ap, kAnd_t, kAnd_f, mOr_ap, kOr_t, kOr_f, mNot_ap, kNotV_ap, mB_ap, kB_ap, mFr_ap, frR_py, frR_no, frR_exc, mSl_ap, kS1_ap, kS2_ap, kS3_ap, oNone_ap, oSome_ap, kO_ap, mChain_ap, kH1_ap, kH2_ap, kH3_t, kH3_f, mMeth_ap, kMe2_ap, sSeq_ap, seqK_nx, seqK_rt, seqK_bk, seqK_ct, seqK_exc, seqK_no, sNx_ap, sNo_ap, sEx_ap, kE_ap, sRet_ap, kR_ap, sRetN_ap, sIf_ap, kSI_t, kSI_f, sAs_ap, kA_ap, asK_ok, aN_ap, kA_N, asNil_ap, asCons_ap, kG_ap, asSub_ap, kU1_ap, kU2_ap, sFor_ap, kF_ap, sPar_ap, kP2_ap, sPar3_ap, kP3_ap, endB_nx, endB_rt, endB_exc, endB_no, gAdd_i, gSub_i, gLtI_i, gLe_i, gGt_i, gGe_i, gNeg_i, gIntF_i, gAbs_i, gMax2_i, gMin2_i, gLen_l, gLen_t, gTupF_l, gTupF_t, gSl_t, gRev_t, gIs_b, gIsNot_b, gIs_n, gIsNot_n, pys_nil, gZip_t, List.getElem?_cons_zero, List.getElem?_cons_succ, List.set_cons_zero, List.set_cons_succ, List.map_cons, List.map_nil, List.length_cons, List.length_nil, List.cons_append, List.nil_append, Nat.reduceAdd, Nat.reduceSub, List.replicate_succ, List.replicate_zero, ofInts_len, wipeE, List.take_length, frR_new, decide_true, decide_false, Bool.not_true, Bool.not_false, F_check r _ hn hb, F_check b _ hn2 hb2, F_upto, e200, ef none]
theorem long_road {ps : List PyData} {r b : List Int} (S : Store) (hn : r.length ≤ 12) (hb : InB 1000000 r) (hn2 : b.length ≤ 12) (hb2 : InB 1000000 b) (hm : 200 < ps.length) : F_is_road [RW r, RW b, .py (.tuple ps)] S = .ok (.py (.bool false)) S := by
  unfold F_is_road
  rw [runF_ap]
  unfold b_is_road
  have e200 : decide (((ps.length : Nat) : Int) ≤ 200) = false := decide_eq_false (by omega)
  simp -implicitDefEqProofs only [bd_ok, bd_no, bd_exc, bdN_ok, bs_ok, bs_exc, mV_ap, getV_ok, mK_ap, m1_ap, m2_ap, k2_ap, k2'_ap, mNil_ap, mCons_ap, kC1_ap, kC2_ap, mCall_ap, mCallI_ap, mItems_ap, gItems_l, gItems_t, mIf_ap, kIf_t, kIf_f, mCB_ap, mAndT_ap, mOrT_ap, mNotT_ap, kNot_ap, mAnd_ap, kAnd_t, kAnd_f, mOr_ap, kOr_t, kOr_f, mNot_ap, kNotV_ap, mB_ap, kB_ap, mFr_ap, frR_py, frR_no, frR_exc, mSl_ap, kS1_ap, kS2_ap, kS3_ap, oNone_ap, oSome_ap, kO_ap, mChain_ap, kH1_ap, kH2_ap, kH3_t, kH3_f, mMeth_ap, kMe2_ap, sSeq_ap, seqK_nx, seqK_rt, seqK_bk, seqK_ct, seqK_exc, seqK_no, sNx_ap, sNo_ap, sEx_ap, kE_ap, sRet_ap, kR_ap, sRetN_ap, sIf_ap, kSI_t, kSI_f, sAs_ap, kA_ap, asK_ok, aN_ap, kA_N, asNil_ap, asCons_ap, kG_ap, asSub_ap, kU1_ap, kU2_ap, sFor_ap, kF_ap, sPar_ap, kP2_ap, sPar3_ap, kP3_ap, endB_nx, endB_rt, endB_exc, endB_no, gAdd_i, gSub_i, gLtI_i, gLe_i, gGt_i, gGe_i, gNeg_i, gIntF_i, gAbs_i, gMax2_i, gMin2_i, gLen_l, gLen_t, gTupF_l, gTupF_t, gSl_t, gRev_t, gIs_b, gIsNot_b, gIs_n, gIsNot_n, pys_nil, gZip_t, List.getElem?_cons_zero, List.getElem?_cons_succ, List.set_cons_zero, List.set_cons_succ, List.map_cons, List.map_nil, List.length_cons, List.length_nil, List.cons_append, List.nil_append, Nat.reduceAdd, Nat.reduceSub, List.replicate_succ, List.replicate_zero, ofInts_len, wipeE, List.take_length, frR_new, decide_true, decide_false, Bool.not_true, Bool.not_false, F_check r _ hn hb, F_check b _ hn2 hb2, F_upto, e200]
theorem upto_l (ps : List PyData) (m : Int) (S : Store) : F_is_tuple_up_to [.py (.list ps), .py (.int m)] S = .ok (.py (.bool false)) S := by
  unfold F_is_tuple_up_to
  rw [runF_ap]
  unfold b_is_tuple_up_to
  have e : ∀ v S, gIsI "tuple" [.py (.list ps), .raw v] S = .ok (.py (.bool false)) S := fun v S => rfl
  simp -implicitDefEqProofs only [bd_ok, bd_no, bd_exc, bdN_ok, bs_ok, bs_exc, mV_ap, getV_ok, mK_ap, m1_ap, m2_ap, k2_ap, k2'_ap, mNil_ap, mCons_ap, kC1_ap, kC2_ap, mCall_ap, mCallI_ap, mItems_ap, gItems_l, gItems_t, mIf_ap, kIf_t, kIf_f, mCB_ap, mAndT_ap, mOrT_ap, mNotT_ap, kNot_ap, mAnd_ap, kAnd_t, kAnd_f, mOr_ap, kOr_t, kOr_f, mNot_ap, kNotV_ap, mB_ap, kB_ap, mFr_ap, frR_py, frR_no, frR_exc, mSl_ap, kS1_ap, kS2_ap, kS3_ap, oNone_ap, oSome_ap, kO_ap, mChain_ap, kH1_ap, kH2_ap, kH3_t, kH3_f, mMeth_ap, kMe2_ap, sSeq_ap, seqK_nx, seqK_rt, seqK_bk, seqK_ct, seqK_exc, seqK_no, sNx_ap, sNo_ap, sEx_ap, kE_ap, sRet_ap, kR_ap, sRetN_ap, sIf_ap, kSI_t, kSI_f, sAs_ap, kA_ap, asK_ok, aN_ap, kA_N, asNil_ap, asCons_ap, kG_ap, asSub_ap, kU1_ap, kU2_ap, sFor_ap, kF_ap, sPar_ap, kP2_ap, sPar3_ap, kP3_ap, endB_nx, endB_rt, endB_exc, endB_no, gAdd_i, gSub_i, gLtI_i, gLe_i, gGt_i, gGe_i, gNeg_i, gIntF_i, gAbs_i, gMax2_i, gMin2_i, gLen_l, gLen_t, gTupF_l, gTupF_t, gSl_t, gRev_t, gIs_b, gIsNot_b, gIs_n, gIsNot_n, pys_nil, gZip_t, List.getElem?_cons_zero, List.getElem?_cons_succ, List.set_cons_zero, List.set_cons_succ, List.map_cons, List.map_nil, List.length_cons, List.length_nil, List.cons_append, List.nil_append, Nat.reduceAdd, Nat.reduceSub, List.replicate_succ, List.replicate_zero, ofInts_len, wipeE, List.take_length, frR_new, decide_true, decide_false, Bool.not_true, Bool.not_false, e]
theorem list_road {ps : List PyData} {r b : List Int} (S : Store) (hn : r.length ≤ 12) (hb : InB 1000000 r) (hn2 : b.length ≤ 12) (hb2 : InB 1000000 b) : F_is_road [RW r, RW b, .py (.list ps)] S = .ok (.py (.bool false)) S := by
  unfold F_is_road
  rw [runF_ap]
  unfold b_is_road
  simp -implicitDefEqProofs only [bd_ok, bd_no, bd_exc, bdN_ok, bs_ok, bs_exc, mV_ap, getV_ok, mK_ap, m1_ap, m2_ap, k2_ap, k2'_ap, mNil_ap, mCons_ap, kC1_ap, kC2_ap, mCall_ap, mCallI_ap, mItems_ap, gItems_l, gItems_t, mIf_ap, kIf_t, kIf_f, mCB_ap, mAndT_ap, mOrT_ap, mNotT_ap, kNot_ap, mAnd_ap, kAnd_t, kAnd_f, mOr_ap, kOr_t, kOr_f, mNot_ap, kNotV_ap, mB_ap, kB_ap, mFr_ap, frR_py, frR_no, frR_exc, mSl_ap, kS1_ap, kS2_ap, kS3_ap, oNone_ap, oSome_ap, kO_ap, mChain_ap, kH1_ap, kH2_ap, kH3_t, kH3_f, mMeth_ap, kMe2_ap, sSeq_ap, seqK_nx, seqK_rt, seqK_bk, seqK_ct, seqK_exc, seqK_no, sNx_ap, sNo_ap, sEx_ap, kE_ap, sRet_ap, kR_ap, sRetN_ap, sIf_ap, kSI_t, kSI_f, sAs_ap, kA_ap, asK_ok, aN_ap, kA_N, asNil_ap, asCons_ap, kG_ap, asSub_ap, kU1_ap, kU2_ap, sFor_ap, kF_ap, sPar_ap, kP2_ap, sPar3_ap, kP3_ap, endB_nx, endB_rt, endB_exc, endB_no, gAdd_i, gSub_i, gLtI_i, gLe_i, gGt_i, gGe_i, gNeg_i, gIntF_i, gAbs_i, gMax2_i, gMin2_i, gLen_l, gLen_t, gTupF_l, gTupF_t, gSl_t, gRev_t, gIs_b, gIsNot_b, gIs_n, gIsNot_n, pys_nil, gZip_t, List.getElem?_cons_zero, List.getElem?_cons_succ, List.set_cons_zero, List.set_cons_succ, List.map_cons, List.map_nil, List.length_cons, List.length_nil, List.cons_append, List.nil_append, Nat.reduceAdd, Nat.reduceSub, List.replicate_succ, List.replicate_zero, ofInts_len, wipeE, List.take_length, frR_new, decide_true, decide_false, Bool.not_true, Bool.not_false, F_check r _ hn hb, F_check b _ hn2 hb2, upto_l]
end LW

end P_P8
section P_P9
set_option maxHeartbeats 4000000
namespace LW
open PySem PySem.Spec PyProof.Rows L2 PX
theorem gRev_r (r : List Int) (S : Store) : gRev (RW r) S = .ok (RW r.reverse) S := by
  show R.ok (D.py (.tuple (ofInts r).reverse)) S = _
  rw [ofInts_rev]
theorem gAdd_r (a b : List Int) (S : Store) (h : a.length + b.length ≤ 1000) : gAdd (RW a) (RW b) S = .ok (RW (a ++ b)) S := (gAdd_t (fits_le (by rw [ofInts_len, ofInts_len]; omega))).trans (by rw [ofInts_append])
theorem turns (ns : D) (x4 x5 x6 : Option D) : ∀ (n : Nat) (k : Int) (a b : Int) (x2 x3 : Option D), 0 ≤ a → 0 ≤ b → ∃ a' b' x2' x3', 0 ≤ a' ∧ 0 ≤ b' ∧ forS (aN 2) (sSeq (sIf (mNotT (mB (mCall F__law_right (mCons (mV 1) (mCons (mCall F__law_folds (mCons (mV 1) (mCons (mK (.int 5)) mNil))) mNil))))) (sRet (mK (.bool false))) sNx)
  (sSeq (sAs (mCall F__law_some_folds (mCons (mV 1) (mCons (mK (.int 3)) mNil))) (aN 3))
  (sIf (mNotT (mB (mCall F__law_right (mCons (mV 1) (mCons (mFr (m2 gAdd (mV 3) (mFr (m1 gRev (mV 3))))) mNil))))) (sRet (mK (.bool false))) sNx))) (rangeL k n) [some ns, some (.loc 0), x2, x3, x4, x5, x6] (CS a b []) = .go .nx [some ns, some (.loc 0), x2', x3', x4, x5, x6] (CS a' b' [])
  | 0, k, a, b, x2, x3, ha, hb => ⟨a, b, x2, x3, ha, hb, rfl⟩
  | n + 1, k, a, b, x2, x3, ha, hb => by
    obtain ⟨r1, a1, b1, l1, i1, ha1, hb1, q1⟩ := folds_ [] a b 5 (by omega) ha hb
    obtain ⟨a2, b2, ha2, hb2, q2⟩ := right_ [] a1 b1 (by omega : r1.length ≤ 12) i1 ha1 hb1
    obtain ⟨r3, a3, b3, l3, i3, ha3, hb3, q3⟩ := some_folds_ [] a2 b2 3 (by omega) (by omega) ha2 hb2
    have hi4 : InB 1000 (r3 ++ r3.reverse) := by
      intro d hd
      rcases List.mem_append.mp hd with hd | hd
      · exact i3 d hd
      · exact i3 d (List.mem_reverse.mp hd)
    obtain ⟨a4, b4, ha4, hb4, q4⟩ := right_ [] a3 b3 (by simp; omega : (r3 ++ r3.reverse).length ≤ 12) hi4 ha3 hb3
    obtain ⟨a', b', x2', x3', ha', hb', e⟩ := turns ns x4 x5 x6 n (k + 1) a4 b4 (some (.py (.int k))) (some (RW r3)) ha4 hb4
    refine ⟨a', b', x2', x3', ha', hb', ?_⟩
    have q1' : F__law_folds [.loc 0, .py (.int 5)] (CS a b []) = .ok (RW r1) (CS a1 b1 []) := q1
    have q3' : F__law_some_folds [.loc 0, .py (.int 3)] (CS a2 b2 []) = .ok (RW r3) (CS a3 b3 []) := q3
    rw [rangeL_succ, forS_nx (env1 := [some ns, some (.loc 0), some (.py (.int k)), x3, x4, x5, x6]) (env2 := [some ns, some (.loc 0), some (.py (.int k)), some (RW r3), x4, x5, x6]) (S2 := CS a4 b4 []) aN_ap (by
      simp -implicitDefEqProofs only [bd_ok, bd_no, bd_exc, bdN_ok, bs_ok, bs_exc, mV_ap, getV_ok, mK_ap, m1_ap, m2_ap, k2_ap, k2'_ap, mNil_ap, mCons_ap, kC1_ap, kC2_ap, mCall_ap, mCallI_ap, mItems_ap, gItems_l, gItems_t, mIf_ap, kIf_t, kIf_f, mCB_ap, mAndT_ap, mOrT_ap, mNotT_ap, kNot_ap, mAnd_ap, kAnd_t, kAnd_f, mOr_ap, kOr_t, kOr_f, mNot_ap, kNotV_ap, mB_ap, kB_ap, mFr_ap, frR_py, frR_no, frR_exc, mSl_ap, kS1_ap, kS2_ap, kS3_ap, oNone_ap, oSome_ap, kO_ap, mChain_ap, kH1_ap, kH2_ap, kH3_t, kH3_f, mMeth_ap, kMe2_ap, sSeq_ap, seqK_nx, seqK_rt, seqK_bk, seqK_ct, seqK_exc, seqK_no, sNx_ap, sNo_ap, sEx_ap, kE_ap, sRet_ap, kR_ap, sRetN_ap, sIf_ap, kSI_t, kSI_f, sAs_ap, kA_ap, asK_ok, aN_ap, kA_N, asNil_ap, asCons_ap, kG_ap, asSub_ap, kU1_ap, kU2_ap, sFor_ap, kF_ap, sPar_ap, kP2_ap, sPar3_ap, kP3_ap, endB_nx, endB_rt, endB_exc, endB_no, gAdd_i, gSub_i, gLtI_i, gLe_i, gGt_i, gGe_i, gNeg_i, gIntF_i, gAbs_i, gMax2_i, gMin2_i, gLen_l, gLen_t, gTupF_l, gTupF_t, gSl_t, gRev_t, gIs_b, gIsNot_b, gIs_n, gIsNot_n, pys_nil, gZip_t, List.getElem?_cons_zero, List.getElem?_cons_succ, List.set_cons_zero, List.set_cons_succ, List.map_cons, List.map_nil, List.length_cons, List.length_nil, List.cons_append, List.nil_append, Nat.reduceAdd, Nat.reduceSub, List.replicate_succ, List.replicate_zero, ofInts_len, wipeE, List.take_length, frR_new, decide_true, decide_false, Bool.not_true, Bool.not_false, q1', q2, q3', ofInts_rev, gAdd_r r3 r3.reverse _ (by simp; omega : r3.length + r3.reverse.length ≤ 1000), q4])]
    exact e
theorem inb {B : Int} {r : List Int} (h : (r.all fun c => decide (-B ≤ c) && decide (c ≤ B)) = true) : InB B r := by
  intro c hc
  have := List.all_eq_true.mp h c hc
  rw [Bool.and_eq_true] at this
  exact ⟨of_decide_eq_true this.1, of_decide_eq_true this.2⟩
abbrev R3 : D := .py (.tuple [.int 0, .int 1, .int 3])
abbrev T02 : PyData := .tuple [.str "turn", .int 0, .int 2]
theorem ex_turn (S : Store) : F_moved_row [R3, .py T02] S = .ok (.py (.tuple [.int 0, .int 2, .int 3])) S :=
  F_moved (row := [0, 1, 3]) (t := true) (f := 0) (l := 2) S ⟨by decide, by decide, .inl rfl⟩ (by decide) (inb (by decide))
theorem ex_mirror (S : Store) : F_moved_row [.py (.tuple [.int 0, .int 1, .int 3, .int 0]), .py (.tuple [.str "mirror", .int 0, .int 3])] S = .ok (.py (.tuple [.int 0, .int (-1), .int (-3), .int 0])) S :=
  F_moved (row := [0, 1, 3, 0]) (t := false) (f := 0) (l := 3) S ⟨by decide, by decide, .inr rfl⟩ (by decide) (inb (by decide))
def bad7 : List PyData := [.none, .list [.str "turn", .int 0, .int 1], .tuple [.str "turn", .int 0], .tuple [.str "turn", .int 1, .int 1], .tuple [.str "turn", .int 1, .int 0], .tuple [.str "turn", .int 0, .int 3], .tuple [.str "turn", .int (-1), .int 1]]
def bad3 : List PyData := [.tuple [.str "mirror", .int 0, .int 1], .tuple [.str "turn", .bool false, .int 1], .tuple [.str "Turn", .int 0, .int 1]]
theorem ok_Turn : PyData.strOk "Turn" = true := by decide +kernel
theorem gEq_s (a b : Str) (S : Store) (h1 : PyData.strOk a = true) (h2 : PyData.strOk b = true) : gEq (.py (.str a)) (.py (.str b)) S = .ok (.py (.bool (decide (a = b)))) S := by
  rw [gEq_p (shaped_of (shp_str 0 _ h1)) (shaped_of (shp_str 0 _ h2)), eqv_ss]
theorem bads {p : PyData} (hp : p ∈ bad7 ++ bad3) (S : Store) : F_is_move [R3, .py p] S = .ok (.py (.bool false)) S := by
  simp only [bad7, bad3, List.cons_append, List.nil_append, List.mem_cons, List.not_mem_nil, or_false] at hp
  rcases hp with h | h | h | h | h | h | h | h | h | h <;> subst h
  · exact bad_shape (row := [0, 1, 3]) _ S rfl
  · exact bad_shape (row := [0, 1, 3]) _ S rfl
  · exact bad_len (row := [0, 1, 3]) _ S (by decide)
  · exact bad_first (row := [0, 1, 3]) _ _ _ S (by decide) (bad_ft _ _ _ (by decide))
  · exact bad_first (row := [0, 1, 3]) _ _ _ S (by decide) (bad_ft _ _ _ (by decide))
  · exact bad_last (row := [0, 1, 3]) _ _ _ S (by decide)
  · exact bad_first (row := [0, 1, 3]) _ _ _ S (by decide) (bad_ft _ _ _ (by decide))
  · exact bad_kind (row := [0, 1, 3]) _ 0 1 S (by decide) (by decide) (kw_turn false) true (kw_mirror false) (fun _ => by decide)
  · exact bad_first (row := [0, 1, 3]) _ _ _ S (by decide) (ft_bool _ _ _)
  · exact bad_kind (row := [0, 1, 3]) _ 0 1 S (by decide) (by decide) (fun S => (gEq_s _ _ S ok_Turn ok_turn).trans (by rw [decide_eq_false (by decide)])) false (fun S => (gEq_s _ _ S ok_Turn ok_mirror).trans (by rw [decide_eq_false (by decide)])) (fun h => by cases h)
theorem ex_bad {p : PyData} (hp : p ∈ bad7 ++ bad3) (S : Store) : F_is_road [R3, R3, .py (.tuple [p, p])] S = .ok (.py (.bool false)) S :=
  bad_road (r := [0, 1, 3]) (b := [0, 1, 3]) S (bads hp) (by decide) (inb (by decide)) (by decide) (inb (by decide)) (by simp)
/-- turn and turn again -/
def m02 : Mov := (true, 0, 2)
theorem val3 : Val [0, 1, 3] true 0 2 := ⟨by decide, by decide, .inl rfl⟩
theorem val3' : Val [0, 2, 3] true 0 2 := ⟨by decide, by decide, .inl rfl⟩
theorem road_even : ∀ n : Nat, Road [0, 1, 3] (List.replicate (2 * n) m02) [0, 1, 3]
  | 0 => .nil _
  | n + 1 => by
    rw [show 2 * (n + 1) = 2 * n + 1 + 1 from rfl, List.replicate_succ, List.replicate_succ]
    exact .cons val3 (.cons (row := [0, 2, 3]) val3' (road_even n))
theorem map_rep (n : Nat) : (List.replicate n m02).map mvE = List.replicate n T02 := by rw [List.map_replicate]; rfl
theorem ex_200 (S : Store) : F_is_road [R3, R3, .py (.tuple (List.replicate 200 T02))] S = .ok (.py (.bool true)) S := by
  have e := F_road (beside := [0, 1, 3]) S (road_even 100) (by decide) (inb (by decide)) (by decide) (inb (by decide)) (by rw [List.length_replicate]; decide)
  rw [map_rep, decide_eq_true rfl] at e
  exact e
theorem ex_3 (S : Store) : F_is_road [R3, .py (.tuple [.int 0, .int 2, .int 3]), .py (.tuple (List.replicate 3 T02))] S = .ok (.py (.bool true)) S := by
  have e := F_road (row := [0, 1, 3]) (ms := List.replicate 3 m02) (r := [0, 2, 3]) (beside := [0, 2, 3]) S (.cons val3 (.cons (row := [0, 2, 3]) val3' (.cons val3 (.nil _)))) (by decide) (inb (by decide)) (by decide) (inb (by decide)) (by decide)
  rw [map_rep, decide_eq_true rfl] at e
  exact e
theorem ex_m (S : Store) : F_is_road [.py (.tuple [.int 0, .int 2, .int 1, .int 3, .int 2]), .py (.tuple [.int 0, .int 2, .int 3, .int 1, .int 2]), .py (.tuple [.tuple [.str "mirror", .int 1, .int 4]])] S = .ok (.py (.bool true)) S := by
  have e := F_road (row := [0, 2, 1, 3, 2]) (ms := [(false, 1, 4)]) (r := [0, 2, 3, 1, 2]) (beside := [0, 2, 3, 1, 2]) S (.cons ⟨by decide, by decide, .inr rfl⟩ (.nil _)) (by decide) (inb (by decide)) (by decide) (inb (by decide)) (by decide)
  rw [decide_eq_true rfl] at e
  exact e
theorem ex_m2 (S : Store) : F_is_road [.py (.tuple [.int 0, .int 2, .int 1, .int 3]), .py (.tuple [.int 0, .int 2, .int 1, .int 3]), .py (.tuple [.tuple [.str "mirror", .int 0, .int 3]])] S = .ok (.py (.bool false)) S :=
  bad_road (r := [0, 2, 1, 3]) (b := [0, 2, 1, 3]) S (fun S => bad_kind (row := [0, 2, 1, 3]) _ 0 3 S (by decide) (by decide) (kw_turn false) true (kw_mirror false) (fun _ => by decide)) (by decide) (inb (by decide)) (by decide) (inb (by decide)) (by decide)

theorem gLstD3 (a b c : PyData) (S : Store) : gLstD [.py a, .py b, .py c] S = .ok (.loc S.length) (S ++ [.lst [a, b, c]]) := rfl
theorem gTupD2 (a b : PyData) (S : Store) : gTupD [.py a, .py b] S = .ok (.py (.tuple [a, b])) S := rfl
theorem gTupD4 (a b c d : PyData) (S : Store) : gTupD [.py a, .py b, .py c, .py d] S = .ok (.py (.tuple [a, b, c, d])) S := rfl
theorem gTupD5 (a b c d e : PyData) (S : Store) : gTupD [.py a, .py b, .py c, .py d, .py e] S = .ok (.py (.tuple [a, b, c, d, e])) S := rfl
theorem ne3 (S : Store) : gNe (.py (.tuple [.int 0, .int 2, .int 3])) (.py (.tuple [.int 0, .int 2, .int 3])) S = .ok (.py (.bool false)) S := gNe_rr [0, 2, 3] S
theorem ne4 (S : Store) : gNe (.py (.tuple [.int 0, .int (-1), .int (-3), .int 0])) (.py (.tuple [.int 0, .int (-1), .int (-3), .int 0])) S = .ok (.py (.bool false)) S := gNe_rr [0, -1, -3, 0] S
theorem add_bad (S : Store) : gAdd (.py (.list bad7)) (.py (.list bad3)) S = .ok (.loc S.length) (S ++ [.lst (bad7 ++ bad3)]) := gAdd_l (by decide)
theorem ne_nil (S : Store) : gNe (.py (.list [])) (.py (.list [])) S = .ok (.py (.bool false)) S := rfl
theorem mul_200 (S : Store) : gMul (.py (.tuple [T02])) (.py (.int 200)) S = .ok (.py (.tuple (List.replicate 200 T02))) S := by
  have e : (List.replicate 200 [T02]).flatten = List.replicate 200 T02 := by
    rw [List.flatten_replicate_singleton]
  have h : gMul (.py (.tuple [T02])) (.py (.int 200)) S = .ok (.py (.tuple (List.replicate (200 : Int).toNat [T02]).flatten)) S := by
    unfold gMul rd
    exact if_pos rfl
  refine h.trans ?_
  show R.ok (D.py (.tuple (List.replicate 200 [T02]).flatten)) S = _
  rw [e]
theorem ex_long (S : Store) : F_is_road [R3, R3, .py (.tuple (List.replicate 200 T02 ++ List.replicate 2 T02))] S = .ok (.py (.bool false)) S :=
  long_road (r := [0, 1, 3]) (b := [0, 1, 3]) S (by decide) (inb (by decide)) (by decide) (inb (by decide)) (by rw [List.length_append, List.length_replicate, List.length_replicate]; decide)
theorem ex_list (S : Store) : F_is_road [R3, R3, .py (.list (List.replicate 200 T02))] S = .ok (.py (.bool false)) S :=
  list_road (r := [0, 1, 3]) (b := [0, 1, 3]) S (by decide) (inb (by decide)) (by decide) (inb (by decide))
theorem cut_rep (n k : Nat) (h : k ≤ n) : cutL (List.replicate n T02) none (some (k : Int)) = List.replicate k T02 := by
  rw [cutL_to, List.take_replicate, Nat.min_eq_left h]
theorem add_long (S : Store) : gAdd (.py (.tuple (List.replicate 200 T02))) (.py (.tuple (List.replicate 2 T02))) S = .ok (.py (.tuple (List.replicate 200 T02 ++ List.replicate 2 T02))) S := gAdd_t (by rw [List.length_replicate, List.length_replicate]; rfl)
theorem lst_200 (S : Store) : gLstF [.py (.tuple (List.replicate 200 T02))] S = .ok (.loc S.length) (S ++ [.lst (List.replicate 200 T02)]) := gLstF_t (by rw [List.length_replicate]; rfl)
theorem law_true (ns : List Int) (hn : ns.length ≤ 63) : ∃ S', PX.runM 7 LW.b_law [.py (.list (PX.ofInts ns))] [] = .ok (.py (.bool true)) S' := by
  obtain ⟨a, b, ha, hb, q1⟩ := cup_ ns hn
  obtain ⟨a1, b1, x2, x3, ha1, hb1, q2⟩ := turns (.py (.list (ofInts ns))) none none none 3 0 a b none none ha hb
  obtain ⟨a2, b2, ha2, hb2, q3⟩ := right_ (row := [0, 1, 3, 0, 0]) [] a1 b1 (by decide) (inb (by decide)) ha1 hb1
  obtain ⟨a3, b3, ha3, hb3, q4⟩ := right_ (row := []) [] a2 b2 (by decide) (inb (by decide)) ha2 hb2
  obtain ⟨a4, b4, ha4, hb4, q5⟩ := right_ (row := [3, 3, 3]) [] a3 b3 (by decide) (inb (by decide)) ha3 hb3
  obtain ⟨a5, b5, ha5, hb5, q6⟩ := right_ (row := [9]) [] a4 b4 (by decide) (inb (by decide)) ha4 hb4
  refine ⟨CS a5 b5 [], ?_⟩
  rw [runM_ap]
  unfold b_law
  generalize hns : PX.ofInts ns = nl at *
  generalize hS1 : CS a1 b1 [] = S1 at *
  have z : ∀ {α : Type} (x : α), x = x := fun _ => rfl
  have h1 : sAs (mCall F__law_cup (mCons (mV 0) mNil)) (aN 1) [some (.py (.list nl)), none, none, none, none, none, none] [] = .go .nx [some (.py (.list nl)), some (.loc 0), none, none, none, none, none] (CS a b []) := by simp -implicitDefEqProofs only [bd_ok, bd_no, bd_exc, bdN_ok, bs_ok, bs_exc, mV_ap, getV_ok, mK_ap, m1_ap, m2_ap, k2_ap, k2'_ap, mNil_ap, mCons_ap, kC1_ap, kC2_ap, mCall_ap, mCallI_ap, mItems_ap, gItems_l, gItems_t, mIf_ap, kIf_t, kIf_f, mCB_ap, mAndT_ap, mOrT_ap, mNotT_ap, kNot_ap, mAnd_ap, kAnd_t, kAnd_f, mOr_ap, kOr_t, kOr_f, mNot_ap, kNotV_ap, mB_ap, kB_ap, mFr_ap, frR_py, frR_no, frR_exc, mSl_ap, kS1_ap, kS2_ap, kS3_ap, oNone_ap, oSome_ap, kO_ap, mChain_ap, kH1_ap, kH2_ap, kH3_t, kH3_f, mMeth_ap, kMe2_ap, sSeq_ap, seqK_nx, seqK_rt, seqK_bk, seqK_ct, seqK_exc, seqK_no, sNx_ap, sNo_ap, sEx_ap, kE_ap, sRet_ap, kR_ap, sRetN_ap, sIf_ap, kSI_t, kSI_f, sAs_ap, kA_ap, asK_ok, aN_ap, kA_N, asNil_ap, asCons_ap, kG_ap, asSub_ap, kU1_ap, kU2_ap, sFor_ap, kF_ap, sPar_ap, kP2_ap, sPar3_ap, kP3_ap, endB_nx, endB_rt, endB_exc, endB_no, gAdd_i, gSub_i, gLtI_i, gLe_i, gGt_i, gGe_i, gNeg_i, gIntF_i, gAbs_i, gMax2_i, gMin2_i, gLen_l, gLen_t, gTupF_l, gTupF_t, gSl_t, gRev_t, gIs_b, gIsNot_b, gIs_n, gIsNot_n, pys_nil, gZip_t, List.getElem?_cons_zero, List.getElem?_cons_succ, List.set_cons_zero, List.set_cons_succ, List.map_cons, List.map_nil, List.length_cons, List.length_nil, List.cons_append, List.nil_append, Nat.reduceAdd, Nat.reduceSub, List.replicate_succ, List.replicate_zero, ofInts_len, wipeE, List.take_length, frR_new, decide_true, decide_false, Bool.not_true, Bool.not_false, q1]
  have e0 : ∀ S, gRange1 [.py (.int 3)] S = .ok (rangeL 0 3) S := fun S => rfl
  have h2 : sFor (mCallI gRange1 (mCons (mK (.int 3)) mNil)) (aN 2) (sSeq (sIf (mNotT (mB (mCall F__law_right (mCons (mV 1) (mCons (mCall F__law_folds (mCons (mV 1) (mCons (mK (.int 5)) mNil))) mNil))))) (sRet (mK (.bool false))) sNx)
  (sSeq (sAs (mCall F__law_some_folds (mCons (mV 1) (mCons (mK (.int 3)) mNil))) (aN 3))
  (sIf (mNotT (mB (mCall F__law_right (mCons (mV 1) (mCons (mFr (m2 gAdd (mV 3) (mFr (m1 gRev (mV 3))))) mNil))))) (sRet (mK (.bool false))) sNx))) [some (.py (.list nl)), some (.loc 0), none, none, none, none, none] (CS a b []) = .go .nx [some (.py (.list nl)), some (.loc 0), x2, x3, none, none, none] S1 := by simp -implicitDefEqProofs only [bd_ok, bd_no, bd_exc, bdN_ok, bs_ok, bs_exc, mV_ap, getV_ok, mK_ap, m1_ap, m2_ap, k2_ap, k2'_ap, mNil_ap, mCons_ap, kC1_ap, kC2_ap, mCall_ap, mCallI_ap, mItems_ap, gItems_l, gItems_t, mIf_ap, kIf_t, kIf_f, mCB_ap, mAndT_ap, mOrT_ap, mNotT_ap, kNot_ap, mAnd_ap, kAnd_t, kAnd_f, mOr_ap, kOr_t, kOr_f, mNot_ap, kNotV_ap, mB_ap, kB_ap, mFr_ap, frR_py, frR_no, frR_exc, mSl_ap, kS1_ap, kS2_ap, kS3_ap, oNone_ap, oSome_ap, kO_ap, mChain_ap, kH1_ap, kH2_ap, kH3_t, kH3_f, mMeth_ap, kMe2_ap, sSeq_ap, seqK_nx, seqK_rt, seqK_bk, seqK_ct, seqK_exc, seqK_no, sNx_ap, sNo_ap, sEx_ap, kE_ap, sRet_ap, kR_ap, sRetN_ap, sIf_ap, kSI_t, kSI_f, sAs_ap, kA_ap, asK_ok, aN_ap, kA_N, asNil_ap, asCons_ap, kG_ap, asSub_ap, kU1_ap, kU2_ap, sFor_ap, kF_ap, sPar_ap, kP2_ap, sPar3_ap, kP3_ap, endB_nx, endB_rt, endB_exc, endB_no, gAdd_i, gSub_i, gLtI_i, gLe_i, gGt_i, gGe_i, gNeg_i, gIntF_i, gAbs_i, gMax2_i, gMin2_i, gLen_l, gLen_t, gTupF_l, gTupF_t, gSl_t, gRev_t, gIs_b, gIsNot_b, gIs_n, gIsNot_n, pys_nil, gZip_t, List.getElem?_cons_zero, List.getElem?_cons_succ, List.set_cons_zero, List.set_cons_succ, List.map_cons, List.map_nil, List.length_cons, List.length_nil, List.cons_append, List.nil_append, Nat.reduceAdd, Nat.reduceSub, List.replicate_succ, List.replicate_zero, ofInts_len, wipeE, List.take_length, frR_new, decide_true, decide_false, Bool.not_true, Bool.not_false, e0, q2]
  have e10 : cutL (List.replicate 200 T02) none (some 2) = List.replicate 2 T02 := cut_rep 200 2 (by decide)
  have e11 : cutL (List.replicate 200 T02) none (some 3) = List.replicate 3 T02 := cut_rep 200 3 (by decide)
  have l7 : ∀ S, gLstD [.py .none, .py (.list [.str "turn", .int 0, .int 1]), .py (.tuple [.str "turn", .int 0]), .py (.tuple [.str "turn", .int 1, .int 1]), .py (.tuple [.str "turn", .int 1, .int 0]), .py (.tuple [.str "turn", .int 0, .int 3]), .py (.tuple [.str "turn", .int (-1), .int 1])] S = .ok (.loc S.length) (S ++ [.lst bad7]) := fun S => rfl
  have l3 : ∀ S, gLstD [.py (.tuple [.str "mirror", .int 0, .int 1]), .py (.tuple [.str "turn", .bool false, .int 1]), .py (.tuple [.str "Turn", .int 0, .int 1])] S = .ok (.loc S.length) (S ++ [.lst bad3]) := fun S => rfl
  have eC : ∀ (c v : Option D) S, mLc [6] (mItems (mV 4)) (aN 6) (mB (m2 gIsNot (mCall F_is_road (mCons (mCall gTupD (mCons (mK (.int 0)) (mCons (mK (.int 1)) (mCons (mK (.int 3)) mNil)))) (mCons (mCall gTupD (mCons (mK (.int 0)) (mCons (mK (.int 1)) (mCons (mK (.int 3)) mNil)))) (mCons (mCall gTupD (mCons (mV 6) (mCons (mV 6) mNil))) mNil)))) (mK (.bool false)))) (mV 6) [some (.py (.list nl)), some (.loc 0), x2, x3, some (.py (.list (bad7 ++ bad3))), none, none] S = .ok (.loc S.length) (S ++ [.lst []]) := by
    intro c v S
    rw [mLc_pure (ps := bad7 ++ bad3) (fun p => [some (.py (.list nl)), some (.loc 0), x2, x3, some (.py (.list (bad7 ++ bad3))), none, some (.py p)]) (fun _ => false) id]
    · rw [List.filter_eq_nil_iff.mpr (fun _ _ => Bool.false_ne_true)]; rfl
    · simp -implicitDefEqProofs only [bd_ok, bd_no, bd_exc, bdN_ok, bs_ok, bs_exc, mV_ap, getV_ok, mK_ap, m1_ap, m2_ap, k2_ap, k2'_ap, mNil_ap, mCons_ap, kC1_ap, kC2_ap, mCall_ap, mCallI_ap, mItems_ap, gItems_l, gItems_t, mIf_ap, kIf_t, kIf_f, mCB_ap, mAndT_ap, mOrT_ap, mNotT_ap, kNot_ap, mAnd_ap, kAnd_t, kAnd_f, mOr_ap, kOr_t, kOr_f, mNot_ap, kNotV_ap, mB_ap, kB_ap, mFr_ap, frR_py, frR_no, frR_exc, mSl_ap, kS1_ap, kS2_ap, kS3_ap, oNone_ap, oSome_ap, kO_ap, mChain_ap, kH1_ap, kH2_ap, kH3_t, kH3_f, mMeth_ap, kMe2_ap, sSeq_ap, seqK_nx, seqK_rt, seqK_bk, seqK_ct, seqK_exc, seqK_no, sNx_ap, sNo_ap, sEx_ap, kE_ap, sRet_ap, kR_ap, sRetN_ap, sIf_ap, kSI_t, kSI_f, sAs_ap, kA_ap, asK_ok, aN_ap, kA_N, asNil_ap, asCons_ap, kG_ap, asSub_ap, kU1_ap, kU2_ap, sFor_ap, kF_ap, sPar_ap, kP2_ap, sPar3_ap, kP3_ap, endB_nx, endB_rt, endB_exc, endB_no, gAdd_i, gSub_i, gLtI_i, gLe_i, gGt_i, gGe_i, gNeg_i, gIntF_i, gAbs_i, gMax2_i, gMin2_i, gLen_l, gLen_t, gTupF_l, gTupF_t, gSl_t, gRev_t, gIs_b, gIsNot_b, gIs_n, gIsNot_n, pys_nil, gZip_t, List.getElem?_cons_zero, List.getElem?_cons_succ, List.set_cons_zero, List.set_cons_succ, List.map_cons, List.map_nil, List.length_cons, List.length_nil, List.cons_append, List.nil_append, Nat.reduceAdd, Nat.reduceSub, List.replicate_succ, List.replicate_zero, ofInts_len, wipeE, List.take_length, frR_new, decide_true, decide_false, Bool.not_true, Bool.not_false]
    · decide
    · intro p hp S; rfl
    · intro p hp S
      simp -implicitDefEqProofs only [bd_ok, bd_no, bd_exc, bdN_ok, bs_ok, bs_exc, mV_ap, getV_ok, mK_ap, m1_ap, m2_ap, k2_ap, k2'_ap, mNil_ap, mCons_ap, kC1_ap, kC2_ap, mCall_ap, mCallI_ap, mItems_ap, gItems_l, gItems_t, mIf_ap, kIf_t, kIf_f, mCB_ap, mAndT_ap, mOrT_ap, mNotT_ap, kNot_ap, mAnd_ap, kAnd_t, kAnd_f, mOr_ap, kOr_t, kOr_f, mNot_ap, kNotV_ap, mB_ap, kB_ap, mFr_ap, frR_py, frR_no, frR_exc, mSl_ap, kS1_ap, kS2_ap, kS3_ap, oNone_ap, oSome_ap, kO_ap, mChain_ap, kH1_ap, kH2_ap, kH3_t, kH3_f, mMeth_ap, kMe2_ap, sSeq_ap, seqK_nx, seqK_rt, seqK_bk, seqK_ct, seqK_exc, seqK_no, sNx_ap, sNo_ap, sEx_ap, kE_ap, sRet_ap, kR_ap, sRetN_ap, sIf_ap, kSI_t, kSI_f, sAs_ap, kA_ap, asK_ok, aN_ap, kA_N, asNil_ap, asCons_ap, kG_ap, asSub_ap, kU1_ap, kU2_ap, sFor_ap, kF_ap, sPar_ap, kP2_ap, sPar3_ap, kP3_ap, endB_nx, endB_rt, endB_exc, endB_no, gAdd_i, gSub_i, gLtI_i, gLe_i, gGt_i, gGe_i, gNeg_i, gIntF_i, gAbs_i, gMax2_i, gMin2_i, gLen_l, gLen_t, gTupF_l, gTupF_t, gSl_t, gRev_t, gIs_b, gIsNot_b, gIs_n, gIsNot_n, pys_nil, gZip_t, List.getElem?_cons_zero, List.getElem?_cons_succ, List.set_cons_zero, List.set_cons_succ, List.map_cons, List.map_nil, List.length_cons, List.length_nil, List.cons_append, List.nil_append, Nat.reduceAdd, Nat.reduceSub, List.replicate_succ, List.replicate_zero, ofInts_len, wipeE, List.take_length, frR_new, decide_true, decide_false, Bool.not_true, Bool.not_false, gTupD3, gTupD2, ex_bad hp, isnot_ff]
    · intro p hp h; cases h
  generalize hbad : bad7 ++ bad3 = bad at *
  have h4 : sAs (mFr (mCall gLstD (mCons (mK .none) (mCons (mFr (mCall gLstD (mCons (mK (.str "turn")) (mCons (mK (.int 0)) (mCons (mK (.int 1)) mNil))))) (mCons (mCall gTupD (mCons (mK (.str "turn")) (mCons (mK (.int 0)) mNil))) (mCons (mCall gTupD (mCons (mK (.str "turn")) (mCons (mK (.int 1)) (mCons (mK (.int 1)) mNil)))) (mCons (mCall gTupD (mCons (mK (.str "turn")) (mCons (mK (.int 1)) (mCons (mK (.int 0)) mNil)))) (mCons (mCall gTupD (mCons (mK (.str "turn")) (mCons (mK (.int 0)) (mCons (mK (.int 3)) mNil)))) (mCons (mCall gTupD (mCons (mK (.str "turn")) (mCons (m1 gNeg (mK (.int 1))) (mCons (mK (.int 1)) mNil)))) mNil))))))))) (aN 4) [some (.py (.list nl)), some (.loc 0), x2, x3, none, none, none] S1 = .go .nx [some (.py (.list nl)), some (.loc 0), x2, x3, some (.py (.list bad7)), none, none] S1 := by
    simp -implicitDefEqProofs only [bd_ok, bd_no, bd_exc, bdN_ok, bs_ok, bs_exc, mV_ap, getV_ok, mK_ap, m1_ap, m2_ap, k2_ap, k2'_ap, mNil_ap, mCons_ap, kC1_ap, kC2_ap, mCall_ap, mCallI_ap, mItems_ap, gItems_l, gItems_t, mIf_ap, kIf_t, kIf_f, mCB_ap, mAndT_ap, mOrT_ap, mNotT_ap, kNot_ap, mAnd_ap, kAnd_t, kAnd_f, mOr_ap, kOr_t, kOr_f, mNot_ap, kNotV_ap, mB_ap, kB_ap, mFr_ap, frR_py, frR_no, frR_exc, mSl_ap, kS1_ap, kS2_ap, kS3_ap, oNone_ap, oSome_ap, kO_ap, mChain_ap, kH1_ap, kH2_ap, kH3_t, kH3_f, mMeth_ap, kMe2_ap, sSeq_ap, seqK_nx, seqK_rt, seqK_bk, seqK_ct, seqK_exc, seqK_no, sNx_ap, sNo_ap, sEx_ap, kE_ap, sRet_ap, kR_ap, sRetN_ap, sIf_ap, kSI_t, kSI_f, sAs_ap, kA_ap, asK_ok, aN_ap, kA_N, asNil_ap, asCons_ap, kG_ap, asSub_ap, kU1_ap, kU2_ap, sFor_ap, kF_ap, sPar_ap, kP2_ap, sPar3_ap, kP3_ap, endB_nx, endB_rt, endB_exc, endB_no, gAdd_i, gSub_i, gLtI_i, gLe_i, gGt_i, gGe_i, gNeg_i, gIntF_i, gAbs_i, gMax2_i, gMin2_i, gLen_l, gLen_t, gTupF_l, gTupF_t, gSl_t, gRev_t, gIs_b, gIsNot_b, gIs_n, gIsNot_n, pys_nil, gZip_t, List.getElem?_cons_zero, List.getElem?_cons_succ, List.set_cons_zero, List.set_cons_succ, List.map_cons, List.map_nil, List.length_cons, List.length_nil, List.cons_append, List.nil_append, Nat.reduceAdd, Nat.reduceSub, List.replicate_succ, List.replicate_zero, ofInts_len, wipeE, List.take_length, frR_new, decide_true, decide_false, Bool.not_true, Bool.not_false, gLstD3, gTupD2, gTupD3, l7]
  have c1 := ex_200
  have c2 := ex_long
  have c3 := ex_list
  have c4 := ex_3
  have c5 := mul_200
  have c6 := add_long
  have c7 := lst_200
  have q3' : F__law_right [.loc 0, .py (.tuple [.int 0, .int 1, .int 3, .int 0, .int 0])] S1 = .ok (.py (.bool true)) (CS a2 b2 []) := q3
  have q4' : F__law_right [.loc 0, .py (.tuple [])] (CS a2 b2 []) = .ok (.py (.bool true)) (CS a3 b3 []) := q4
  have q5' : F__law_right [.loc 0, .py (.tuple [.int 3, .int 3, .int 3])] (CS a3 b3 []) = .ok (.py (.bool true)) (CS a4 b4 []) := q5
  have q6' : F__law_right [.loc 0, .py (.tuple [.int 9])] (CS a4 b4 []) = .ok (.py (.bool true)) (CS a5 b5 []) := q6
  generalize hL : List.replicate 200 T02 ++ List.replicate 2 T02 = vL at *
  generalize hv : List.replicate 200 T02 = v at *
  generalize hv2 : List.replicate 2 T02 = v2 at *
  generalize hv3 : List.replicate 3 T02 = v3 at *
  show endB (sSeq _ _ [some (.py (.list nl)), none, none, none, none, none, none] _) = _
  rw [sSeq_nx h1, sSeq_nx h2]
  simp -implicitDefEqProofs only [bd_ok, bd_no, bd_exc, bdN_ok, bs_ok, bs_exc, mV_ap, getV_ok, mK_ap, m1_ap, m2_ap, k2_ap, k2'_ap, mNil_ap, mCons_ap, kC1_ap, kC2_ap, mCall_ap, mCallI_ap, mItems_ap, gItems_l, gItems_t, mIf_ap, kIf_t, kIf_f, mCB_ap, mAndT_ap, mOrT_ap, mNotT_ap, kNot_ap, mAnd_ap, kAnd_t, kAnd_f, mOr_ap, kOr_t, kOr_f, mNot_ap, kNotV_ap, mB_ap, kB_ap, mFr_ap, frR_py, frR_no, frR_exc, mSl_ap, kS1_ap, kS2_ap, kS3_ap, oNone_ap, oSome_ap, kO_ap, mChain_ap, kH1_ap, kH2_ap, kH3_t, kH3_f, mMeth_ap, kMe2_ap, sSeq_ap, seqK_nx, seqK_rt, seqK_bk, seqK_ct, seqK_exc, seqK_no, sNx_ap, sNo_ap, sEx_ap, kE_ap, sRet_ap, kR_ap, sRetN_ap, sIf_ap, kSI_t, kSI_f, sAs_ap, kA_ap, asK_ok, aN_ap, kA_N, asNil_ap, asCons_ap, kG_ap, asSub_ap, kU1_ap, kU2_ap, sFor_ap, kF_ap, sPar_ap, kP2_ap, sPar3_ap, kP3_ap, endB_nx, endB_rt, endB_exc, endB_no, gAdd_i, gSub_i, gLtI_i, gLe_i, gGt_i, gGe_i, gNeg_i, gIntF_i, gAbs_i, gMax2_i, gMin2_i, gLen_l, gLen_t, gTupF_l, gTupF_t, gSl_t, gRev_t, gIs_b, gIsNot_b, gIs_n, gIsNot_n, pys_nil, gZip_t, List.getElem?_cons_zero, List.getElem?_cons_succ, List.set_cons_zero, List.set_cons_succ, List.map_cons, List.map_nil, List.length_cons, List.length_nil, List.cons_append, List.nil_append, Nat.reduceAdd, Nat.reduceSub, List.replicate_succ, List.replicate_zero, ofInts_len, wipeE, List.take_length, frR_new, decide_true, decide_false, Bool.not_true, Bool.not_false, gTupD3, gTupD4, ex_turn, ne3, ex_mirror, ne4, gLstD3, gTupD2, l7, l3, add_bad, hbad, eC none none, gLstD0, ne_nil, gTupD1, c1, c2, c3, c4, c5, c6, c7, isnot_tt, e10, isnot_ff, e11, gTupD5, ex_m, ex_m2, gTupD0, q3', q4', q5', q6']
end LW

end P_P9
section P_B
set_option maxHeartbeats 4000000
namespace LW
open PySem PySem.Spec PyProof.Rows L2 PX
def top (i : Nat) : Stmt := PySem.Challenge.pw_wetfolds_k18_whole_moves_of_rows.main.body.getD i (.Pass ⟨0, 0, 0, 0⟩)
structure Zs (mg : Str → Option Value) : Prop where
  z_abs : mg "abs" = none
  z_all : mg "all" = none
  z_bool : mg "bool" = none
  z_int : mg "int" = none
  z_isinstance : mg "isinstance" = none
  z_len : mg "len" = none
  z_list : mg "list" = none
  z_range : mg "range" = none
  z_sorted : mg "sorted" = none
  z_tuple : mg "tuple" = none
  z_zip : mg "zip" = none
  i_GREATEST_CREASE : ∃ t, mg "GREATEST_CREASE" = some (.int 1000000 t)
  i_MOST_FOLDS : ∃ t, mg "MOST_FOLDS" = some (.int 12 t)
  i_MOST_MOVES : ∃ t, mg "MOST_MOVES" = some (.int 200 t)
section
variable {P : Program} {w : World} {K : PySem.W.Frag} {mg : Str → Option Value} {base : Heap}
abbrev s__law_cup : Stmt := top 27
theorem sc__law_cup : FnScope ["_law_script", "_law_cell"] ["_law_script"] (defScope s__law_cup) := ⟨rfl, rfl, rfl, by decide +kernel, rfl, by decide +kernel, by decide +kernel⟩
theorem ok__law_cup (Z : Zs mg) {f : Addr} (F : ∃ fd, FunD K "_law_cup" "_law_cup" (defArgs s__law_cup) (defBody s__law_cup) (defScope s__law_cup) [] [] f fd) (hm : mg "_law_cup" = some (.ref f)) : DefOk P w K mg base 1 "_law_cup" ["_law_script"] F__law_cup := by
  have sc := sc__law_cup
  refine def_mk (k := 0) (N := ["_law_script", "_law_cell"]) (ps := ["_law_script"]) (b := b__law_cup) F sc hm (fun _ _ _ _ _ _ us hl => match us, hl with | [_], _ => rfl) fun cdv A outer s H E hr => ?_
  have tk : Takes (cxOf (L2.CX P w) P w K mg base ["_law_script", "_law_cell"] "_law_cup" (defScope s__law_cup) f cdv A outer s H E) (fun c o _ H' => E c o H') := takes_of rfl rfl rfl rfl
  exact (sss_cons (ss_set (ps_set (i := 1) sc.nd rfl (by first | exact Or.inl rfl | exact Or.inr rfl) (se_callB call_abs cd_abs (by rfl) Z.z_abs (by decide +kernel) (sa_cons (se_ix (se_fr (se_op op_addA od_add (se_fr (se_callTy call_list_of cd_lst (by rfl) Z.z_list (by decide +kernel) (sa_cons (se_var (pv 0)) sa_nil))) (se_fr (se_lst (sa_cons (se_c (p := (.int 0)) rfl pe_int) sa_nil))))) (se_c (p := (.int 0)) rfl pe_int)) sa_nil))))
  (sss_one (ss_ret (se_lst (sa_cons (se_if (st_cmp op_ge od_ge (se_var (pv 1)) (se_op op_pow od_pow (se_c (p := (.int 10)) rfl pe_int) (se_c (p := (.int 18)) rfl pe_int)) (nomark _)) (se_op op_fdivW od_div (se_var (pv 1)) (se_c (p := (.int 37)) rfl pe_int)) (se_c (p := (.int 0)) rfl pe_int)) (sa_cons (se_op op_addA od_add (se_op op_mod od_mod (se_callTy call_int1 cd_int (by rfl) Z.z_int (by decide +kernel) (sa_cons (se_op op_addA od_add (se_op op_mulA od_mul (se_var (pv 1)) (se_c (p := (.int 239)) rfl pe_int)) (se_c (p := (.int 1913)) rfl pe_int)) sa_nil)) (se_c (p := (.int 2077503509)) rfl pe_int)) (se_c (p := (.int 127)) rfl pe_int)) sa_nil))))))
abbrev s__law_roll : Stmt := top 28
theorem sc__law_roll : FnScope ["_law_cup_here", "_law_many", "_law_found", "_law_deep"] ["_law_cup_here", "_law_many"] (defScope s__law_roll) := ⟨rfl, rfl, rfl, by decide +kernel, rfl, by decide +kernel, by decide +kernel⟩
theorem ok__law_roll (Z : Zs mg) {f : Addr} (F : ∃ fd, FunD K "_law_roll" "_law_roll" (defArgs s__law_roll) (defBody s__law_roll) (defScope s__law_roll) [] [] f fd) (hm : mg "_law_roll" = some (.ref f)) : DefOk P w K mg base 1 "_law_roll" ["_law_cup_here", "_law_many"] F__law_roll := by
  have sc := sc__law_roll
  refine DefOk.fr (N := 4) (b := b__law_roll) (def_mk (k := 0) (N := ["_law_cup_here", "_law_many", "_law_found", "_law_deep"]) (ps := ["_law_cup_here", "_law_many"]) (b := b__law_roll) F sc hm (fun _ _ _ _ _ _ us hl => match us, hl with | [_, _], _ => rfl) fun cdv A outer s H E hr => ?_)
  have tk : Takes (cxOf (L2.CX P w) P w K mg base ["_law_cup_here", "_law_many", "_law_found", "_law_deep"] "_law_roll" (defScope s__law_roll) f cdv A outer s H E) (fun c o _ H' => E c o H') := takes_of rfl rfl rfl rfl
  exact (sss_cons (ss_if (st_cmp op_gt od_gt (se_ix (se_var (pv 0)) (se_c (p := (.int 0)) rfl pe_int)) (se_c (p := (.int 0)) rfl pe_int) (nomark _)) (sss_cons (ss_set (ps_set (i := 2) sc.nd rfl (by first | exact Or.inl rfl | exact Or.inr rfl) (se_op op_mod od_mod (se_callTy call_int1 cd_int (by rfl) Z.z_int (by decide +kernel) (sa_cons (se_ix (se_var (pv 0)) (se_c (p := (.int 0)) rfl pe_int)) sa_nil)) (se_var (pv 1)))))
  (sss_cons (ss_asg (se_op op_fdivW od_div (se_ix (se_var (pv 0)) (se_c (p := (.int 0)) rfl pe_int)) (se_var (pv 1))) (sg_sub (se_var (pv 0)) (se_c (p := (.int 0)) rfl pe_int)))
  (sss_one (ss_ret (se_var (pv 2)))))) sss_nil)
  (sss_cons (ss_asg (se_op op_mod od_mod (se_callTy call_int1 cd_int (by rfl) Z.z_int (by decide +kernel) (sa_cons (se_op op_addA od_add (se_op op_mulA od_mul (se_ix (se_var (pv 0)) (se_c (p := (.int 1)) rfl pe_int)) (se_c (p := (.int 30949)) rfl pe_int)) (se_c (p := (.int 7919)) rfl pe_int)) sa_nil)) (se_c (p := (.int 2147483497)) rfl pe_int)) (sg_sub (se_var (pv 0)) (se_c (p := (.int 1)) rfl pe_int)))
  (sss_cons (ss_set (ps_set (i := 3) sc.nd rfl (by first | exact Or.inl rfl | exact Or.inr rfl) (se_op op_mod od_mod (se_callTy call_int1 cd_int (by rfl) Z.z_int (by decide +kernel) (sa_cons (se_op op_mulA od_mul (se_ix (se_var (pv 0)) (se_c (p := (.int 1)) rfl pe_int)) (se_op op_addA od_add (se_ix (se_var (pv 0)) (se_c (p := (.int 1)) rfl pe_int)) (se_c (p := (.int 191)) rfl pe_int))) sa_nil)) (se_c (p := (.int 2147483587)) rfl pe_int))))
  (sss_one (ss_ret (se_op op_mod od_mod (se_callTy call_int1 cd_int (by rfl) Z.z_int (by decide +kernel) (sa_cons (se_op op_fdivW od_div (se_var (pv 3)) (se_c (p := (.int 761)) rfl pe_int)) sa_nil)) (se_var (pv 1))))))))
abbrev s__law_some : Stmt := top 29
theorem sc__law_some : FnScope ["_law_cup_here", "_law_things"] ["_law_cup_here", "_law_things"] (defScope s__law_some) := ⟨rfl, rfl, rfl, by decide +kernel, rfl, by decide +kernel, by decide +kernel⟩
theorem ok__law_some (Z : Zs mg) (G__law_roll : DefOk P w K mg base 1 "_law_roll" ["_law_cup_here", "_law_many"] F__law_roll) {f : Addr} (F : ∃ fd, FunD K "_law_some" "_law_some" (defArgs s__law_some) (defBody s__law_some) (defScope s__law_some) [] [] f fd) (hm : mg "_law_some" = some (.ref f)) : DefOk P w K mg base 2 "_law_some" ["_law_cup_here", "_law_things"] F__law_some := by
  have sc := sc__law_some
  refine DefOk.fr (N := 2) (b := b__law_some) (def_mk (k := 1) (N := ["_law_cup_here", "_law_things"]) (ps := ["_law_cup_here", "_law_things"]) (b := b__law_some) F sc hm (fun _ _ _ _ _ _ us hl => match us, hl with | [_, _], _ => rfl) fun cdv A outer s H E hr => ?_)
  have tk : Takes (cxOf (L2.CX P w) P w K mg base ["_law_cup_here", "_law_things"] "_law_some" (defScope s__law_some) f cdv A outer s H E) (fun c o _ H' => E c o H') := takes_of rfl rfl rfl rfl
  exact (sss_one (ss_ret (se_ix (se_var (pv 1)) (se_def G__law_roll hr (by decide) (by rfl) tk (len_cons (len_cons len_nil)) (sa_cons (se_var (pv 0)) (sa_cons (se_callB call_len cd_len (by rfl) Z.z_len (by decide +kernel) (sa_cons (se_var (pv 1)) sa_nil)) sa_nil))))))
abbrev s__law_folds : Stmt := top 38
theorem sc__law_folds : FnScope ["_law_cup_here", "_law_most", "_law_many", "_law_found", "_law_step", "_law_way", "_law_turn"] ["_law_cup_here", "_law_most"] (defScope s__law_folds) := ⟨rfl, rfl, rfl, by decide +kernel, rfl, by decide +kernel, by decide +kernel⟩
theorem ok__law_folds (Z : Zs mg) (G__law_roll : DefOk P w K mg base 1 "_law_roll" ["_law_cup_here", "_law_many"] F__law_roll) (G__law_some : DefOk P w K mg base 2 "_law_some" ["_law_cup_here", "_law_things"] F__law_some) {f : Addr} (F : ∃ fd, FunD K "_law_folds" "_law_folds" (defArgs s__law_folds) (defBody s__law_folds) (defScope s__law_folds) [] [] f fd) (hm : mg "_law_folds" = some (.ref f)) : DefOk P w K mg base 3 "_law_folds" ["_law_cup_here", "_law_most"] F__law_folds := by
  have sc := sc__law_folds
  refine DefOk.fr (N := 7) (b := b__law_folds) (def_mk (k := 2) (N := ["_law_cup_here", "_law_most", "_law_many", "_law_found", "_law_step", "_law_way", "_law_turn"]) (ps := ["_law_cup_here", "_law_most"]) (b := b__law_folds) F sc hm (fun _ _ _ _ _ _ us hl => match us, hl with | [_, _], _ => rfl) fun cdv A outer s H E hr => ?_)
  have tk : Takes (cxOf (L2.CX P w) P w K mg base ["_law_cup_here", "_law_most", "_law_many", "_law_found", "_law_step", "_law_way", "_law_turn"] "_law_folds" (defScope s__law_folds) f cdv A outer s H E) (fun c o _ H' => E c o H') := takes_of rfl rfl rfl rfl
  exact (sss_cons (ss_set (ps_set (i := 2) sc.nd rfl (by first | exact Or.inl rfl | exact Or.inr rfl) (se_def G__law_roll hr (by decide) (by rfl) tk (len_cons (len_cons len_nil)) (sa_cons (se_var (pv 0)) (sa_cons (se_op op_addA od_add (se_var (pv 1)) (se_c (p := (.int 1)) rfl pe_int)) sa_nil)))))
  (sss_cons (ss_par (ps_par rfl sc.nd (i := 3) (j := 4) rfl rfl (by decide) rfl rfl (sa_cons (se_tup (sa_cons (se_op op_sub od_sub (se_def G__law_roll hr (by decide) (by rfl) tk (len_cons (len_cons len_nil)) (sa_cons (se_var (pv 0)) (sa_cons (se_c (p := (.int 15)) rfl pe_int) sa_nil))) (se_c (p := (.int 7)) rfl pe_int)) sa_nil)) (sa_cons (se_op op_addA od_add (se_c (p := (.int 1)) rfl pe_int) (se_def G__law_roll hr (by decide) (by rfl) tk (len_cons (len_cons len_nil)) (sa_cons (se_var (pv 0)) (sa_cons (se_c (p := (.int 4)) rfl pe_int) sa_nil)))) sa_nil)) (by rfl)))
  (sss_cons (ss_while (n := wf) (passes_of rfl) (st_cmp op_lt od_ltI (se_callB call_len cd_len (by rfl) Z.z_len (by decide +kernel) (sa_cons (se_var (pv 3)) sa_nil)) (se_var (pv 2)) (nomark _)) (sss_cons (ss_set (ps_set (i := 5) sc.nd rfl (by first | exact Or.inl rfl | exact Or.inr rfl) (se_def G__law_roll hr (by decide) (by rfl) tk (len_cons (len_cons len_nil)) (sa_cons (se_var (pv 0)) (sa_cons (se_c (p := (.int 8)) rfl pe_int) sa_nil)))))
  (sss_cons (ss_if (st_cmp op_gt od_gt (se_var (pv 5)) (se_c (p := (.int 3)) rfl pe_int) (nomark _)) (sss_one (ss_set (ps_set (i := 4) sc.nd rfl (by first | exact Or.inl rfl | exact Or.inr rfl) (se_def G__law_some hr (by decide) (by rfl) tk (len_cons (len_cons len_nil)) (sa_cons (se_var (pv 0)) (sa_cons (se_fr (se_lst (sa_cons (se_c (p := (.int 1)) rfl pe_int) (sa_cons (se_c (p := (.int 2)) rfl pe_int) (sa_cons (se_c (p := (.int 3)) rfl pe_int) (sa_cons (se_c (p := (.int 4)) rfl pe_int) (sa_cons (se_c (p := (.int 6)) rfl pe_int) (sa_cons (se_c (p := (.int 7)) rfl pe_int) (sa_cons (se_c (p := (.int 10)) rfl pe_int) sa_nil))))))))) sa_nil)))))) sss_nil)
  (sss_cons (ss_set (ps_set (i := 6) sc.nd rfl (by first | exact Or.inl rfl | exact Or.inr rfl) (se_def G__law_some hr (by decide) (by rfl) tk (len_cons (len_cons len_nil)) (sa_cons (se_var (pv 0)) (sa_cons (se_fr (se_lst (sa_cons (se_var (pv 4)) (sa_cons (se_un un_neg ud_neg (se_var (pv 4))) (sa_cons (se_var (pv 4)) (sa_cons (se_if (st_cmp (op_eqD hr.units) od_eq (se_var (pv 5)) (se_c (p := (.int 0)) rfl pe_int) (nomark _)) (se_c (p := (.int 0)) rfl pe_int) (se_un un_neg ud_neg (se_var (pv 4)))) sa_nil)))))) sa_nil)))))
  (sss_one (ss_set (ps_set (i := 3) sc.nd rfl (by first | exact Or.inl rfl | exact Or.inr rfl) (se_op op_addA od_add (se_var (pv 3)) (se_tup (sa_cons (se_fr (se_op op_addA od_add (se_ix (se_var (pv 3)) (se_un un_neg ud_neg (se_c (p := (.int 1)) rfl pe_int))) (se_var (pv 6)))) sa_nil))))))))))
  (sss_one (ss_ret (se_fr (se_sl (se_var (pv 3)) so_none (so_some (se_var (pv 2))))))))))
abbrev s__law_some_folds : Stmt := top 39
theorem sc__law_some_folds : FnScope ["_law_cup_here", "_law_most", "_law_found"] ["_law_cup_here", "_law_most"] (defScope s__law_some_folds) := ⟨rfl, rfl, rfl, by decide +kernel, rfl, by decide +kernel, by decide +kernel⟩
theorem ok__law_some_folds (Z : Zs mg) (G__law_roll : DefOk P w K mg base 1 "_law_roll" ["_law_cup_here", "_law_many"] F__law_roll) (G__law_folds : DefOk P w K mg base 3 "_law_folds" ["_law_cup_here", "_law_most"] F__law_folds) {f : Addr} (F : ∃ fd, FunD K "_law_some_folds" "_law_some_folds" (defArgs s__law_some_folds) (defBody s__law_some_folds) (defScope s__law_some_folds) [] [] f fd) (hm : mg "_law_some_folds" = some (.ref f)) : DefOk P w K mg base 4 "_law_some_folds" ["_law_cup_here", "_law_most"] F__law_some_folds := by
  have sc := sc__law_some_folds
  refine DefOk.fr (N := 3) (b := b__law_some_folds) (def_mk (k := 3) (N := ["_law_cup_here", "_law_most", "_law_found"]) (ps := ["_law_cup_here", "_law_most"]) (b := b__law_some_folds) F sc hm (fun _ _ _ _ _ _ us hl => match us, hl with | [_, _], _ => rfl) fun cdv A outer s H E hr => ?_)
  have tk : Takes (cxOf (L2.CX P w) P w K mg base ["_law_cup_here", "_law_most", "_law_found"] "_law_some_folds" (defScope s__law_some_folds) f cdv A outer s H E) (fun c o _ H' => E c o H') := takes_of rfl rfl rfl rfl
  exact (sss_cons (ss_set (ps_set (i := 2) sc.nd rfl (by first | exact Or.inl rfl | exact Or.inr rfl) (se_def G__law_folds hr (by decide) (by rfl) tk (len_cons (len_cons len_nil)) (sa_cons (se_var (pv 0)) (sa_cons (se_var (pv 1)) sa_nil)))))
  (sss_one (ss_ret (se_if (st_cmp (op_neD hr.units) od_ne (se_var (pv 2)) (se_tup sa_nil) (nomark _)) (se_var (pv 2)) (se_tup (sa_cons (se_op op_sub od_sub (se_def G__law_roll hr (by decide) (by rfl) tk (len_cons (len_cons len_nil)) (sa_cons (se_var (pv 0)) (sa_cons (se_c (p := (.int 15)) rfl pe_int) sa_nil))) (se_c (p := (.int 7)) rfl pe_int)) sa_nil))))))
abbrev s_is_tuple_up_to : Stmt := top 10
theorem sc_is_tuple_up_to : FnScope ["value", "most"] ["value", "most"] (defScope s_is_tuple_up_to) := ⟨rfl, rfl, rfl, by decide +kernel, rfl, by decide +kernel, by decide +kernel⟩
theorem ok_is_tuple_up_to (Z : Zs mg) {f : Addr} (F : ∃ fd, FunD K "is_tuple_up_to" "is_tuple_up_to" (defArgs s_is_tuple_up_to) (defBody s_is_tuple_up_to) (defScope s_is_tuple_up_to) [] [] f fd) (hm : mg "is_tuple_up_to" = some (.ref f)) : DefOk P w K mg base 1 "is_tuple_up_to" ["value", "most"] F_is_tuple_up_to := by
  have sc := sc_is_tuple_up_to
  refine DefOk.fr (N := 2) (b := b_is_tuple_up_to) (def_mk (k := 0) (N := ["value", "most"]) (ps := ["value", "most"]) (b := b_is_tuple_up_to) F sc hm (fun _ _ _ _ _ _ us hl => match us, hl with | [_, _], _ => rfl) fun cdv A outer s H E hr => ?_)
  have tk : Takes (cxOf (L2.CX P w) P w K mg base ["value", "most"] "is_tuple_up_to" (defScope s_is_tuple_up_to) f cdv A outer s H E) (fun c o _ H' => E c o H') := takes_of rfl rfl rfl rfl
  exact (sss_one (ss_ret (se_and (se_isI (by rfl) Z.z_isinstance (se_var (pv 0)) (pe_bltn (by rfl) Z.z_tuple (by decide +kernel) rfl)) (se_one (se_cmp op_le od_le (se_callB call_len cd_len (by rfl) Z.z_len (by decide +kernel) (sa_cons (se_var (pv 0)) sa_nil)) (se_var (pv 1)) (nomark _))))))
abbrev s_is_whole : Stmt := top 7
theorem sc_is_whole : FnScope ["value"] ["value"] (defScope s_is_whole) := ⟨rfl, rfl, rfl, by decide +kernel, rfl, by decide +kernel, by decide +kernel⟩
theorem ok_is_whole (Z : Zs mg) {f : Addr} (F : ∃ fd, FunD K "is_whole" "is_whole" (defArgs s_is_whole) (defBody s_is_whole) (defScope s_is_whole) [] [] f fd) (hm : mg "is_whole" = some (.ref f)) : DefOk P w K mg base 1 "is_whole" ["value"] F_is_whole := by
  have sc := sc_is_whole
  refine DefOk.fr (N := 1) (b := b_is_whole) (def_mk (k := 0) (N := ["value"]) (ps := ["value"]) (b := b_is_whole) F sc hm (fun _ _ _ _ _ _ us hl => match us, hl with | [_], _ => rfl) fun cdv A outer s H E hr => ?_)
  have tk : Takes (cxOf (L2.CX P w) P w K mg base ["value"] "is_whole" (defScope s_is_whole) f cdv A outer s H E) (fun c o _ H' => E c o H') := takes_of rfl rfl rfl rfl
  exact (sss_one (ss_ret (se_and (se_isI (by rfl) Z.z_isinstance (se_var (pv 0)) (pe_bltn (by rfl) Z.z_int (by decide +kernel) rfl)) (se_one (se_not (se_isI (by rfl) Z.z_isinstance (se_var (pv 0)) (pe_bltn (by rfl) Z.z_bool (by decide +kernel) rfl)))))))
abbrev s_is_from_to : Stmt := top 8
theorem sc_is_from_to : FnScope ["value", "least", "greatest"] ["value", "least", "greatest"] (defScope s_is_from_to) := ⟨rfl, rfl, rfl, by decide +kernel, rfl, by decide +kernel, by decide +kernel⟩
theorem ok_is_from_to (Z : Zs mg) (G_is_whole : DefOk P w K mg base 1 "is_whole" ["value"] F_is_whole) {f : Addr} (F : ∃ fd, FunD K "is_from_to" "is_from_to" (defArgs s_is_from_to) (defBody s_is_from_to) (defScope s_is_from_to) [] [] f fd) (hm : mg "is_from_to" = some (.ref f)) : DefOk P w K mg base 2 "is_from_to" ["value", "least", "greatest"] F_is_from_to := by
  have sc := sc_is_from_to
  refine DefOk.fr (N := 3) (b := b_is_from_to) (def_mk (k := 1) (N := ["value", "least", "greatest"]) (ps := ["value", "least", "greatest"]) (b := b_is_from_to) F sc hm (fun _ _ _ _ _ _ us hl => match us, hl with | [_, _, _], _ => rfl) fun cdv A outer s H E hr => ?_)
  have tk : Takes (cxOf (L2.CX P w) P w K mg base ["value", "least", "greatest"] "is_from_to" (defScope s_is_from_to) f cdv A outer s H E) (fun c o _ H' => E c o H') := takes_of rfl rfl rfl rfl
  exact (sss_one (ss_ret (se_and (se_def G_is_whole hr (by decide) (by rfl) tk (len_cons len_nil) (sa_cons (se_var (pv 0)) sa_nil)) (se_one (se_chain op_le op_le od_le od_le gI_noexc (se_var (pv 1)) (se_var (pv 0)) (se_var (pv 2)) (fun _ _ _ h1 h2 h3 => pe_chain op_le op_le h1 h2 h3))))))
abbrev s_is_crease : Stmt := top 9
theorem sc_is_crease : FnScope ["value"] ["value"] (defScope s_is_crease) := ⟨rfl, rfl, rfl, by decide +kernel, rfl, by decide +kernel, by decide +kernel⟩
theorem ok_is_crease (Z : Zs mg) (G_is_from_to : DefOk P w K mg base 2 "is_from_to" ["value", "least", "greatest"] F_is_from_to) {f : Addr} (F : ∃ fd, FunD K "is_crease" "is_crease" (defArgs s_is_crease) (defBody s_is_crease) (defScope s_is_crease) [] [] f fd) (hm : mg "is_crease" = some (.ref f)) : DefOk P w K mg base 3 "is_crease" ["value"] F_is_crease := by
  have sc := sc_is_crease
  refine DefOk.fr (N := 1) (b := b_is_crease) (def_mk (k := 2) (N := ["value"]) (ps := ["value"]) (b := b_is_crease) F sc hm (fun _ _ _ _ _ _ us hl => match us, hl with | [_], _ => rfl) fun cdv A outer s H E hr => ?_)
  have tk : Takes (cxOf (L2.CX P w) P w K mg base ["value"] "is_crease" (defScope s_is_crease) f cdv A outer s H E) (fun c o _ H' => E c o H') := takes_of rfl rfl rfl rfl
  exact (sss_one (ss_ret (se_def G_is_from_to hr (by decide) (by rfl) tk (len_cons (len_cons (len_cons len_nil))) (sa_cons (se_var (pv 0)) (sa_cons (se_un un_neg ud_neg (se_gint (by rfl) Z.i_GREATEST_CREASE)) (sa_cons (se_gint (by rfl) Z.i_GREATEST_CREASE) sa_nil))))))
abbrev s_fits_folds : Stmt := top 11
theorem sc_fits_folds : FnScope ["value", "item"] ["value"] (defScope s_fits_folds) := ⟨rfl, rfl, rfl, by decide +kernel, rfl, by decide +kernel, by decide +kernel⟩
theorem ok_fits_folds (Z : Zs mg) (G_is_tuple_up_to : DefOk P w K mg base 1 "is_tuple_up_to" ["value", "most"] F_is_tuple_up_to) (G_is_crease : DefOk P w K mg base 3 "is_crease" ["value"] F_is_crease) {f : Addr} (F : ∃ fd, FunD K "fits_folds" "fits_folds" (defArgs s_fits_folds) (defBody s_fits_folds) (defScope s_fits_folds) [] [] f fd) (hm : mg "fits_folds" = some (.ref f)) : DefOk P w K mg base 4 "fits_folds" ["value"] F_fits_folds := by
  have sc := sc_fits_folds
  refine DefOk.fr (N := 2) (b := b_fits_folds) (def_mk (k := 3) (N := ["value", "item"]) (ps := ["value"]) (b := b_fits_folds) F sc hm (fun _ _ _ _ _ _ us hl => match us, hl with | [_], _ => rfl) fun cdv A outer s H E hr => ?_)
  have tk : Takes (cxOf (L2.CX P w) P w K mg base ["value", "item"] "fits_folds" (defScope s_fits_folds) f cdv A outer s H E) (fun c o _ H' => E c o H') := takes_of rfl rfl rfl rfl
  exact (sss_one (ss_ret (se_and (se_def G_is_tuple_up_to hr (by decide) (by rfl) tk (len_cons (len_cons len_nil)) (sa_cons (se_var (pv 0)) (sa_cons (se_gint (by rfl) Z.i_MOST_FOLDS) sa_nil))) (se_one (se_callB (cr_all rfl) cd_all (by rfl) Z.z_all (by decide +kernel) (sa_cons (se_fr (se_lcv [("item", 1)] rfl sc.nd (si_seq (se_var (pv 0))) (blkOk_by (N := ["value", "item"]) (sc := defScope s_fits_folds) (by decide +kernel)) (fun _ _ _ _ _ => (sg_name (pg_name (i := 1) sc.nd rfl (by first | exact Or.inl rfl | exact Or.inr rfl)))) (fun _ _ _ _ _ => spt_nil) (fun _ _ _ _ _ => (se_def G_is_crease hr (by decide) (by rfl) takes0 (len_cons len_nil) (sa_cons (se_var (pv 1)) sa_nil))))) sa_nil))))))
abbrev s_check_folds : Stmt := top 12
theorem sc_check_folds : FnScope ["value"] ["value"] (defScope s_check_folds) := ⟨rfl, rfl, rfl, by decide +kernel, rfl, by decide +kernel, by decide +kernel⟩
theorem ok_check_folds (Z : Zs mg) (G_fits_folds : DefOk P w K mg base 4 "fits_folds" ["value"] F_fits_folds) {f : Addr} (F : ∃ fd, FunD K "check_folds" "check_folds" (defArgs s_check_folds) (defBody s_check_folds) (defScope s_check_folds) [] [] f fd) (hm : mg "check_folds" = some (.ref f)) : DefOk P w K mg base 5 "check_folds" ["value"] F_check_folds := by
  have sc := sc_check_folds
  refine DefOk.fr (N := 1) (b := b_check_folds) (def_mk (k := 4) (N := ["value"]) (ps := ["value"]) (b := b_check_folds) F sc hm (fun _ _ _ _ _ _ us hl => match us, hl with | [_], _ => rfl) fun cdv A outer s H E hr => ?_)
  have tk : Takes (cxOf (L2.CX P w) P w K mg base ["value"] "check_folds" (defScope s_check_folds) f cdv A outer s H E) (fun c o _ H' => E c o H') := takes_of rfl rfl rfl rfl
  exact (sss_one (ss_if (st_not (st_val (se_def G_fits_folds hr (by decide) (by rfl) tk (len_cons len_nil) (sa_cons (se_var (pv 0)) sa_nil)))) (sss_one ss_never) sss_nil))
abbrev s_do_move : Stmt := top 25
theorem sc_do_move : FnScope ["row", "move", "kind", "first", "last", "stretch", "both", "changed", "crease"] ["row", "move"] (defScope s_do_move) := ⟨rfl, rfl, rfl, by decide +kernel, rfl, by decide +kernel, by decide +kernel⟩
theorem ok_do_move (Z : Zs mg) {f : Addr} (F : ∃ fd, FunD K "do_move" "do_move" (defArgs s_do_move) (defBody s_do_move) (defScope s_do_move) [] [] f fd) (hm : mg "do_move" = some (.ref f)) : DefOk P w K mg base 1 "do_move" ["row", "move"] F_do_move := by
  have sc := sc_do_move
  refine DefOk.fr (N := 9) (b := b_do_move) (def_mk (k := 0) (N := ["row", "move", "kind", "first", "last", "stretch", "both", "changed", "crease"]) (ps := ["row", "move"]) (b := b_do_move) F sc hm (fun _ _ _ _ _ _ us hl => match us, hl with | [_, _], _ => rfl) fun cdv A outer s H E hr => ?_)
  have tk : Takes (cxOf (L2.CX P w) P w K mg base ["row", "move", "kind", "first", "last", "stretch", "both", "changed", "crease"] "do_move" (defScope s_do_move) f cdv A outer s H E) (fun c o _ H' => E c o H') := takes_of rfl rfl rfl rfl
  exact (sss_cons (ss_asg (se_var (pv 1)) (sg_tup rfl (sgs_cons (sg_name (pg_name (i := 2) sc.nd rfl (by first | exact Or.inl rfl | exact Or.inr rfl))) (sgs_cons (sg_name (pg_name (i := 3) sc.nd rfl (by first | exact Or.inl rfl | exact Or.inr rfl))) (sgs_cons (sg_name (pg_name (i := 4) sc.nd rfl (by first | exact Or.inl rfl | exact Or.inr rfl))) sgs_nil)))))
  (sss_cons (ss_set (ps_set (i := 5) sc.nd rfl (by first | exact Or.inl rfl | exact Or.inr rfl) (se_fr (se_sl (se_var (pv 0)) (so_some (se_var (pv 3))) (so_some (se_op op_addA od_add (se_var (pv 4)) (se_c (p := (.int 1)) rfl pe_int)))))))
  (sss_cons (ss_if (st_cmp (op_eqD hr.units) od_eq (se_var (pv 2)) (se_c (p := (.str "turn")) rfl pe_str) (nomark _)) (sss_cons (ss_set (ps_set (i := 6) sc.nd rfl (by first | exact Or.inl rfl | exact Or.inr rfl) (se_fr (se_op op_addA od_add (se_ix (se_var (pv 0)) (se_var (pv 3))) (se_ix (se_var (pv 0)) (se_var (pv 4)))))))
  (sss_one (ss_setLc (i := 7) [("crease", 8)] rfl sc.nd rfl rfl (sw_true rfl rfl rfl (by decide +kernel)) (si_seq (se_fr (se_rev (se_var (pv 5))))) (blkOk_by (N := ["row", "move", "kind", "first", "last", "stretch", "both", "changed", "crease"]) (sc := defScope s_do_move) (by decide +kernel)) (fun _ _ _ _ _ => (sg_name (pg_name (i := 8) sc.nd rfl (by first | exact Or.inl rfl | exact Or.inr rfl)))) (fun _ _ _ _ _ => spt_nil) (fun _ _ _ _ _ => (se_op op_sub od_sub (se_var (pv 6)) (se_var (pv 8))))))) (sss_one (ss_setLc (i := 7) [("crease", 8)] rfl sc.nd rfl rfl (sw_true rfl rfl rfl (by decide +kernel)) (si_seq (se_var (pv 5))) (blkOk_by (N := ["row", "move", "kind", "first", "last", "stretch", "both", "changed", "crease"]) (sc := defScope s_do_move) (by decide +kernel)) (fun _ _ _ _ _ => (sg_name (pg_name (i := 8) sc.nd rfl (by first | exact Or.inl rfl | exact Or.inr rfl)))) (fun _ _ _ _ _ => spt_nil) (fun _ _ _ _ _ => (se_op op_sub od_sub (se_op op_mulA od_mul (se_c (p := (.int 2)) rfl pe_int) (se_ix (se_var (pv 0)) (se_var (pv 3)))) (se_var (pv 8)))))))
  (sss_one (ss_ret (se_op op_addA od_add (se_op op_addA od_add (se_fr (se_sl (se_var (pv 0)) so_none (so_some (se_var (pv 3))))) (se_callTy call_tuple_of cd_tup (by rfl) Z.z_tuple (by decide +kernel) (sa_cons (se_var (pv 7)) sa_nil))) (se_fr (se_sl (se_var (pv 0)) (so_some (se_op op_addA od_add (se_var (pv 4)) (se_c (p := (.int 1)) rfl pe_int))) so_none))))))))
abbrev s_is_move : Stmt := top 24
theorem sc_is_move : FnScope ["row", "value", "kind", "first", "last"] ["row", "value"] (defScope s_is_move) := ⟨rfl, rfl, rfl, by decide +kernel, rfl, by decide +kernel, by decide +kernel⟩
theorem ok_is_move (Z : Zs mg) (G_is_from_to : DefOk P w K mg base 2 "is_from_to" ["value", "least", "greatest"] F_is_from_to) {f : Addr} (F : ∃ fd, FunD K "is_move" "is_move" (defArgs s_is_move) (defBody s_is_move) (defScope s_is_move) [] [] f fd) (hm : mg "is_move" = some (.ref f)) : DefOk P w K mg base 3 "is_move" ["row", "value"] F_is_move := by
  have sc := sc_is_move
  refine DefOk.fr (N := 5) (b := b_is_move) (def_mk (k := 2) (N := ["row", "value", "kind", "first", "last"]) (ps := ["row", "value"]) (b := b_is_move) F sc hm (fun _ _ _ _ _ _ us hl => match us, hl with | [_, _], _ => rfl) fun cdv A outer s H E hr => ?_)
  have tk : Takes (cxOf (L2.CX P w) P w K mg base ["row", "value", "kind", "first", "last"] "is_move" (defScope s_is_move) f cdv A outer s H E) (fun c o _ H' => E c o H') := takes_of rfl rfl rfl rfl
  exact (sss_cons (ss_if (st_w (sw_or (st_not (st_val (se_isI (by rfl) Z.z_isinstance (se_var (pv 1)) (pe_bltn (by rfl) Z.z_tuple (by decide +kernel) rfl)))) (sw_or1 (st_cmp (op_neD hr.units) od_ne (se_callB call_len cd_len (by rfl) Z.z_len (by decide +kernel) (sa_cons (se_var (pv 1)) sa_nil)) (se_c (p := (.int 3)) rfl pe_int) (nomark _))))) (sss_one (ss_ret (se_c (p := (.bool false)) rfl pe_bl))) sss_nil)
  (sss_cons (ss_asg (se_var (pv 1)) (sg_tup rfl (sgs_cons (sg_name (pg_name (i := 2) sc.nd rfl (by first | exact Or.inl rfl | exact Or.inr rfl))) (sgs_cons (sg_name (pg_name (i := 3) sc.nd rfl (by first | exact Or.inl rfl | exact Or.inr rfl))) (sgs_cons (sg_name (pg_name (i := 4) sc.nd rfl (by first | exact Or.inl rfl | exact Or.inr rfl))) sgs_nil)))))
  (sss_cons (ss_if (st_w (sw_or (st_not (st_val (se_def G_is_from_to hr (by decide) (by rfl) tk (len_cons (len_cons (len_cons len_nil))) (sa_cons (se_var (pv 4)) (sa_cons (se_c (p := (.int 0)) rfl pe_int) (sa_cons (se_op op_sub od_sub (se_callB call_len cd_len (by rfl) Z.z_len (by decide +kernel) (sa_cons (se_var (pv 0)) sa_nil)) (se_c (p := (.int 1)) rfl pe_int)) sa_nil)))))) (sw_or1 (st_not (st_val (se_def G_is_from_to hr (by decide) (by rfl) tk (len_cons (len_cons (len_cons len_nil))) (sa_cons (se_var (pv 3)) (sa_cons (se_c (p := (.int 0)) rfl pe_int) (sa_cons (se_op op_sub od_sub (se_var (pv 4)) (se_c (p := (.int 1)) rfl pe_int)) sa_nil))))))))) (sss_one (ss_ret (se_c (p := (.bool false)) rfl pe_bl))) sss_nil)
  (sss_one (ss_ret (se_or (se_cmp (op_eqD hr.units) od_eq (se_var (pv 2)) (se_c (p := (.str "turn")) rfl pe_str) (nomark _)) (se_one (se_and (se_cmp (op_eqD hr.units) od_eq (se_var (pv 2)) (se_c (p := (.str "mirror")) rfl pe_str) (nomark _)) (se_one (se_cmp (op_eqD hr.units) od_eq (se_ix (se_var (pv 0)) (se_var (pv 3))) (se_ix (se_var (pv 0)) (se_var (pv 4))) (nomark _)))))))))))
abbrev s_is_road : Stmt := top 23
theorem sc_is_road : FnScope ["folds", "beside", "value", "row", "move"] ["folds", "beside", "value"] (defScope s_is_road) := ⟨rfl, rfl, rfl, by decide +kernel, rfl, by decide +kernel, by decide +kernel⟩
theorem ok_is_road (Z : Zs mg) (G_is_tuple_up_to : DefOk P w K mg base 1 "is_tuple_up_to" ["value", "most"] F_is_tuple_up_to) (G_check_folds : DefOk P w K mg base 5 "check_folds" ["value"] F_check_folds) (G_do_move : DefOk P w K mg base 1 "do_move" ["row", "move"] F_do_move) (G_is_move : DefOk P w K mg base 3 "is_move" ["row", "value"] F_is_move) {f : Addr} (F : ∃ fd, FunD K "is_road" "is_road" (defArgs s_is_road) (defBody s_is_road) (defScope s_is_road) [] [] f fd) (hm : mg "is_road" = some (.ref f)) : DefOk P w K mg base 6 "is_road" ["folds", "beside", "value"] F_is_road := by
  have sc := sc_is_road
  refine DefOk.fr (N := 5) (b := b_is_road) (def_mk (k := 5) (N := ["folds", "beside", "value", "row", "move"]) (ps := ["folds", "beside", "value"]) (b := b_is_road) F sc hm (fun _ _ _ _ _ _ us hl => match us, hl with | [_, _, _], _ => rfl) fun cdv A outer s H E hr => ?_)
  have tk : Takes (cxOf (L2.CX P w) P w K mg base ["folds", "beside", "value", "row", "move"] "is_road" (defScope s_is_road) f cdv A outer s H E) (fun c o _ H' => E c o H') := takes_of rfl rfl rfl rfl
  exact (sss_cons (ss_expr (se_def G_check_folds hr (by decide) (by rfl) tk (len_cons len_nil) (sa_cons (se_var (pv 0)) sa_nil)))
  (sss_cons (ss_expr (se_def G_check_folds hr (by decide) (by rfl) tk (len_cons len_nil) (sa_cons (se_var (pv 1)) sa_nil)))
  (sss_cons (ss_if (st_not (st_val (se_def G_is_tuple_up_to hr (by decide) (by rfl) tk (len_cons (len_cons len_nil)) (sa_cons (se_var (pv 2)) (sa_cons (se_gint (by rfl) Z.i_MOST_MOVES) sa_nil))))) (sss_one (ss_ret (se_c (p := (.bool false)) rfl pe_bl))) sss_nil)
  (sss_cons (ss_set (ps_set (i := 3) sc.nd rfl (by first | exact Or.inl rfl | exact Or.inr rfl) (se_var (pv 0))))
  (sss_cons (ss_for (passes_of rfl) rfl (si_seq (se_var (pv 2))) (sg_name (pg_name (i := 4) sc.nd rfl (by first | exact Or.inl rfl | exact Or.inr rfl))) (sss_cons (ss_if (st_not (st_val (se_def G_is_move hr (by decide) (by rfl) tk (len_cons (len_cons len_nil)) (sa_cons (se_var (pv 3)) (sa_cons (se_var (pv 4)) sa_nil))))) (sss_one (ss_ret (se_c (p := (.bool false)) rfl pe_bl))) sss_nil)
  (sss_one (ss_set (ps_set (i := 3) sc.nd rfl (by first | exact Or.inl rfl | exact Or.inr rfl) (se_def G_do_move hr (by decide) (by rfl) tk (len_cons (len_cons len_nil)) (sa_cons (se_var (pv 3)) (sa_cons (se_var (pv 4)) sa_nil))))))))
  (sss_one (ss_ret (se_cmp (op_eqD hr.units) od_eq (se_var (pv 3)) (se_var (pv 1)) (nomark _)))))))))
abbrev s__law_moves : Stmt := top 44
theorem sc__law_moves : FnScope ["_law_folds_here", "_law_found", "_law_first", "_law_last"] ["_law_folds_here"] (defScope s__law_moves) := ⟨rfl, rfl, rfl, by decide +kernel, rfl, by decide +kernel, by decide +kernel⟩
theorem ok__law_moves (Z : Zs mg) {f : Addr} (F : ∃ fd, FunD K "_law_moves" "_law_moves" (defArgs s__law_moves) (defBody s__law_moves) (defScope s__law_moves) [] [] f fd) (hm : mg "_law_moves" = some (.ref f)) : DefOk P w K mg base 1 "_law_moves" ["_law_folds_here"] F__law_moves := by
  have sc := sc__law_moves
  refine DefOk.fr (N := 4) (b := b__law_moves) (def_mk (k := 0) (N := ["_law_folds_here", "_law_found", "_law_first", "_law_last"]) (ps := ["_law_folds_here"]) (b := b__law_moves) F sc hm (fun _ _ _ _ _ _ us hl => match us, hl with | [_], _ => rfl) fun cdv A outer s H E hr => ?_)
  have tk : Takes (cxOf (L2.CX P w) P w K mg base ["_law_folds_here", "_law_found", "_law_first", "_law_last"] "_law_moves" (defScope s__law_moves) f cdv A outer s H E) (fun c o _ H' => E c o H') := takes_of rfl rfl rfl rfl
  exact (sss_cons (ss_set (ps_set (i := 1) sc.nd rfl (by first | exact Or.inl rfl | exact Or.inr rfl) (se_fr (se_lst sa_nil))))
  (sss_cons (ss_for (passes_of rfl) rfl (si_range1 (by rfl) Z.z_range (sa_cons (se_callB call_len cd_len (by rfl) Z.z_len (by decide +kernel) (sa_cons (se_var (pv 0)) sa_nil)) sa_nil)) (sg_name (pg_name (i := 2) sc.nd rfl (by first | exact Or.inl rfl | exact Or.inr rfl))) (sss_one (ss_for (passes_of rfl) rfl (si_range2 (by rfl) Z.z_range (sa_cons (se_op op_addA od_add (se_var (pv 2)) (se_c (p := (.int 1)) rfl pe_int)) (sa_cons (se_callB call_len cd_len (by rfl) Z.z_len (by decide +kernel) (sa_cons (se_var (pv 0)) sa_nil)) sa_nil))) (sg_name (pg_name (i := 3) sc.nd rfl (by first | exact Or.inl rfl | exact Or.inr rfl))) (sss_one (ss_set (ps_set (i := 1) sc.nd rfl (by first | exact Or.inl rfl | exact Or.inr rfl) (se_fr (se_op op_addA od_add (se_fr (se_op op_addA od_add (se_var (pv 1)) (se_fr (se_lst (sa_cons (se_tup (sa_cons (se_c (p := (.str "turn")) rfl pe_str) (sa_cons (se_var (pv 2)) (sa_cons (se_var (pv 3)) sa_nil)))) sa_nil))))) (se_if (st_cmp (op_eqD hr.units) od_eq (se_ix (se_var (pv 0)) (se_var (pv 2))) (se_ix (se_var (pv 0)) (se_var (pv 3))) (nomark _)) (se_fr (se_lst (sa_cons (se_tup (sa_cons (se_c (p := (.str "mirror")) rfl pe_str) (sa_cons (se_var (pv 2)) (sa_cons (se_var (pv 3)) sa_nil)))) sa_nil))) (se_fr (se_lst sa_nil)))))))))))
  (sss_one (ss_ret (se_var (pv 1))))))
abbrev s_moved_row : Stmt := top 22
theorem sc_moved_row : FnScope ["folds", "move"] ["folds", "move"] (defScope s_moved_row) := ⟨rfl, rfl, rfl, by decide +kernel, rfl, by decide +kernel, by decide +kernel⟩
theorem ok_moved_row (Z : Zs mg) (G_check_folds : DefOk P w K mg base 5 "check_folds" ["value"] F_check_folds) (G_do_move : DefOk P w K mg base 1 "do_move" ["row", "move"] F_do_move) (G_is_move : DefOk P w K mg base 3 "is_move" ["row", "value"] F_is_move) {f : Addr} (F : ∃ fd, FunD K "moved_row" "moved_row" (defArgs s_moved_row) (defBody s_moved_row) (defScope s_moved_row) [] [] f fd) (hm : mg "moved_row" = some (.ref f)) : DefOk P w K mg base 6 "moved_row" ["folds", "move"] F_moved_row := by
  have sc := sc_moved_row
  refine DefOk.fr (N := 2) (b := b_moved_row) (def_mk (k := 5) (N := ["folds", "move"]) (ps := ["folds", "move"]) (b := b_moved_row) F sc hm (fun _ _ _ _ _ _ us hl => match us, hl with | [_, _], _ => rfl) fun cdv A outer s H E hr => ?_)
  have tk : Takes (cxOf (L2.CX P w) P w K mg base ["folds", "move"] "moved_row" (defScope s_moved_row) f cdv A outer s H E) (fun c o _ H' => E c o H') := takes_of rfl rfl rfl rfl
  exact (sss_cons (ss_expr (se_def G_check_folds hr (by decide) (by rfl) tk (len_cons len_nil) (sa_cons (se_var (pv 0)) sa_nil)))
  (sss_cons (ss_if (st_not (st_val (se_def G_is_move hr (by decide) (by rfl) tk (len_cons (len_cons len_nil)) (sa_cons (se_var (pv 0)) (sa_cons (se_var (pv 1)) sa_nil))))) (sss_one ss_never) sss_nil)
  (sss_one (ss_ret (se_def G_do_move hr (by decide) (by rfl) tk (len_cons (len_cons len_nil)) (sa_cons (se_var (pv 0)) (sa_cons (se_var (pv 1)) sa_nil)))))))
abbrev s__law_moved : Stmt := top 45
theorem sc__law_moved : FnScope ["_law_folds_here", "_law_move", "_law_word", "_law_first", "_law_last", "_law_found", "_law_at"] ["_law_folds_here", "_law_move"] (defScope s__law_moved) := ⟨rfl, rfl, rfl, by decide +kernel, rfl, by decide +kernel, by decide +kernel⟩
theorem ok__law_moved (Z : Zs mg) {f : Addr} (F : ∃ fd, FunD K "_law_moved" "_law_moved" (defArgs s__law_moved) (defBody s__law_moved) (defScope s__law_moved) [] [] f fd) (hm : mg "_law_moved" = some (.ref f)) : DefOk P w K mg base 1 "_law_moved" ["_law_folds_here", "_law_move"] F__law_moved := by
  have sc := sc__law_moved
  refine DefOk.fr (N := 7) (b := b__law_moved) (def_mk (k := 0) (N := ["_law_folds_here", "_law_move", "_law_word", "_law_first", "_law_last", "_law_found", "_law_at"]) (ps := ["_law_folds_here", "_law_move"]) (b := b__law_moved) F sc hm (fun _ _ _ _ _ _ us hl => match us, hl with | [_, _], _ => rfl) fun cdv A outer s H E hr => ?_)
  have tk : Takes (cxOf (L2.CX P w) P w K mg base ["_law_folds_here", "_law_move", "_law_word", "_law_first", "_law_last", "_law_found", "_law_at"] "_law_moved" (defScope s__law_moved) f cdv A outer s H E) (fun c o _ H' => E c o H') := takes_of rfl rfl rfl rfl
  exact (sss_cons (ss_asg (se_var (pv 1)) (sg_tup rfl (sgs_cons (sg_name (pg_name (i := 2) sc.nd rfl (by first | exact Or.inl rfl | exact Or.inr rfl))) (sgs_cons (sg_name (pg_name (i := 3) sc.nd rfl (by first | exact Or.inl rfl | exact Or.inr rfl))) (sgs_cons (sg_name (pg_name (i := 4) sc.nd rfl (by first | exact Or.inl rfl | exact Or.inr rfl))) sgs_nil)))))
  (sss_cons (ss_set (ps_set (i := 5) sc.nd rfl (by first | exact Or.inl rfl | exact Or.inr rfl) (se_callTy call_list_of cd_lst (by rfl) Z.z_list (by decide +kernel) (sa_cons (se_var (pv 0)) sa_nil))))
  (sss_cons (ss_for (passes_of rfl) rfl (si_range2 (by rfl) Z.z_range (sa_cons (se_var (pv 3)) (sa_cons (se_op op_addA od_add (se_var (pv 4)) (se_c (p := (.int 1)) rfl pe_int)) sa_nil))) (sg_name (pg_name (i := 6) sc.nd rfl (by first | exact Or.inl rfl | exact Or.inr rfl))) (sss_one (ss_if (st_cmp (op_eqD hr.units) od_eq (se_var (pv 2)) (se_c (p := (.str "turn")) rfl pe_str) (nomark _)) (sss_one (ss_asg (se_op op_sub od_sub (se_fr (se_op op_addA od_add (se_ix (se_var (pv 0)) (se_var (pv 3))) (se_ix (se_var (pv 0)) (se_var (pv 4))))) (se_ix (se_var (pv 0)) (se_op op_sub od_sub (se_fr (se_op op_addA od_add (se_var (pv 3)) (se_var (pv 4)))) (se_var (pv 6))))) (sg_sub (se_var (pv 5)) (se_var (pv 6))))) (sss_one (ss_asg (se_op op_sub od_sub (se_op op_mulA od_mul (se_c (p := (.int 2)) rfl pe_int) (se_ix (se_var (pv 0)) (se_var (pv 3)))) (se_ix (se_var (pv 0)) (se_var (pv 6)))) (sg_sub (se_var (pv 5)) (se_var (pv 6))))))))
  (sss_one (ss_ret (se_callTy call_tuple_of cd_tup (by rfl) Z.z_tuple (by decide +kernel) (sa_cons (se_var (pv 5)) sa_nil)))))))
abbrev s__law_steps : Stmt := top 34
theorem sc__law_steps : FnScope ["_law_folds_here", "_law_at"] ["_law_folds_here"] (defScope s__law_steps) := ⟨rfl, rfl, rfl, by decide +kernel, rfl, by decide +kernel, by decide +kernel⟩
theorem ok__law_steps (Z : Zs mg) {f : Addr} (F : ∃ fd, FunD K "_law_steps" "_law_steps" (defArgs s__law_steps) (defBody s__law_steps) (defScope s__law_steps) [] [] f fd) (hm : mg "_law_steps" = some (.ref f)) : DefOk P w K mg base 1 "_law_steps" ["_law_folds_here"] F__law_steps := by
  have sc := sc__law_steps
  refine DefOk.fr (N := 2) (b := b__law_steps) (def_mk (k := 0) (N := ["_law_folds_here", "_law_at"]) (ps := ["_law_folds_here"]) (b := b__law_steps) F sc hm (fun _ _ _ _ _ _ us hl => match us, hl with | [_], _ => rfl) fun cdv A outer s H E hr => ?_)
  have tk : Takes (cxOf (L2.CX P w) P w K mg base ["_law_folds_here", "_law_at"] "_law_steps" (defScope s__law_steps) f cdv A outer s H E) (fun c o _ H' => E c o H') := takes_of rfl rfl rfl rfl
  exact (sss_one (ss_ret (se_fr (se_callB cr_sortedI cd_sortI (by rfl) Z.z_sorted (by decide +kernel) (sa_cons (se_fr (se_lcv [("_law_at", 1)] rfl sc.nd (si_range1 (by rfl) Z.z_range (sa_cons (se_op op_sub od_sub (se_callB call_len cd_len (by rfl) Z.z_len (by decide +kernel) (sa_cons (se_var (pv 0)) sa_nil)) (se_c (p := (.int 1)) rfl pe_int)) sa_nil)) (blkOk_by (N := ["_law_folds_here", "_law_at"]) (sc := defScope s__law_steps) (by decide +kernel)) (fun _ _ _ _ _ => (sg_name (pg_name (i := 1) sc.nd rfl (by first | exact Or.inl rfl | exact Or.inr rfl)))) (fun _ _ _ _ _ => spt_nil) (fun _ _ _ _ _ => (se_callB call_abs cd_abs (by rfl) Z.z_abs (by decide +kernel) (sa_cons (se_op op_sub od_sub (se_ix (se_var (pv 0)) (se_op op_addA od_add (se_var (pv 1)) (se_c (p := (.int 1)) rfl pe_int))) (se_ix (se_var (pv 0)) (se_var (pv 1)))) sa_nil))))) sa_nil)))))
abbrev s__law_form : Stmt := top 35
theorem sc__law_form : FnScope ["_law_folds_here"] ["_law_folds_here"] (defScope s__law_form) := ⟨rfl, rfl, rfl, by decide +kernel, rfl, by decide +kernel, by decide +kernel⟩
theorem ok__law_form (Z : Zs mg) (G__law_steps : DefOk P w K mg base 1 "_law_steps" ["_law_folds_here"] F__law_steps) {f : Addr} (F : ∃ fd, FunD K "_law_form" "_law_form" (defArgs s__law_form) (defBody s__law_form) (defScope s__law_form) [] [] f fd) (hm : mg "_law_form" = some (.ref f)) : DefOk P w K mg base 2 "_law_form" ["_law_folds_here"] F__law_form := by
  have sc := sc__law_form
  refine DefOk.fr (N := 1) (b := b__law_form) (def_mk (k := 1) (N := ["_law_folds_here"]) (ps := ["_law_folds_here"]) (b := b__law_form) F sc hm (fun _ _ _ _ _ _ us hl => match us, hl with | [_], _ => rfl) fun cdv A outer s H E hr => ?_)
  have tk : Takes (cxOf (L2.CX P w) P w K mg base ["_law_folds_here"] "_law_form" (defScope s__law_form) f cdv A outer s H E) (fun c o _ H' => E c o H') := takes_of rfl rfl rfl rfl
  exact (sss_one (ss_ret (se_if (st_cmp (op_neD hr.units) od_ne (se_var (pv 0)) (se_tup sa_nil) (nomark _)) (se_tup (sa_cons (se_ix (se_var (pv 0)) (se_c (p := (.int 0)) rfl pe_int)) (sa_cons (se_ix (se_var (pv 0)) (se_un un_neg ud_neg (se_c (p := (.int 1)) rfl pe_int))) (sa_cons (se_callTy call_tuple_of cd_tup (by rfl) Z.z_tuple (by decide +kernel) (sa_cons (se_def G__law_steps hr (by decide) (by rfl) tk (len_cons len_nil) (sa_cons (se_var (pv 0)) sa_nil)) sa_nil)) sa_nil)))) (se_tup sa_nil))))
abbrev s_steps_between : Stmt := top 14
theorem sc_steps_between : FnScope ["folds", "crease", "further"] ["folds"] (defScope s_steps_between) := ⟨rfl, rfl, rfl, by decide +kernel, rfl, by decide +kernel, by decide +kernel⟩
theorem ok_steps_between (Z : Zs mg) {f : Addr} (F : ∃ fd, FunD K "steps_between" "steps_between" (defArgs s_steps_between) (defBody s_steps_between) (defScope s_steps_between) [] [] f fd) (hm : mg "steps_between" = some (.ref f)) : DefOk P w K mg base 1 "steps_between" ["folds"] F_steps_between := by
  have sc := sc_steps_between
  refine DefOk.fr (N := 3) (b := b_steps_between) (def_mk (k := 0) (N := ["folds", "crease", "further"]) (ps := ["folds"]) (b := b_steps_between) F sc hm (fun _ _ _ _ _ _ us hl => match us, hl with | [_], _ => rfl) fun cdv A outer s H E hr => ?_)
  have tk : Takes (cxOf (L2.CX P w) P w K mg base ["folds", "crease", "further"] "steps_between" (defScope s_steps_between) f cdv A outer s H E) (fun c o _ H' => E c o H') := takes_of rfl rfl rfl rfl
  exact (sss_one (ss_ret (se_callTy call_tuple_of cd_tup (by rfl) Z.z_tuple (by decide +kernel) (sa_cons (se_fr (se_callB cr_sortedI cd_sortI (by rfl) Z.z_sorted (by decide +kernel) (sa_cons (se_fr (se_lcv [("crease", 1), ("further", 2)] rfl sc.nd (si_zip (by rfl) Z.z_zip (sa_cons (se_var (pv 0)) (sa_cons (se_fr (se_sl (se_var (pv 0)) (so_some (se_c (p := (.int 1)) rfl pe_int)) so_none)) sa_nil))) (blkOk_by (N := ["folds", "crease", "further"]) (sc := defScope s_steps_between) (by decide +kernel)) (fun _ _ _ _ _ => (sg_tup rfl (sgs_cons (sg_name (pg_name (i := 1) sc.nd rfl (by first | exact Or.inl rfl | exact Or.inr rfl))) (sgs_cons (sg_name (pg_name (i := 2) sc.nd rfl (by first | exact Or.inl rfl | exact Or.inr rfl))) sgs_nil)))) (fun _ _ _ _ _ => spt_nil) (fun _ _ _ _ _ => (se_callB call_abs cd_abs (by rfl) Z.z_abs (by decide +kernel) (sa_cons (se_op op_sub od_sub (se_var (pv 2)) (se_var (pv 1))) sa_nil))))) sa_nil))) sa_nil))))
abbrev s_form_between : Stmt := top 16
theorem sc_form_between : FnScope ["folds"] ["folds"] (defScope s_form_between) := ⟨rfl, rfl, rfl, by decide +kernel, rfl, by decide +kernel, by decide +kernel⟩
theorem ok_form_between (Z : Zs mg) (G_steps_between : DefOk P w K mg base 1 "steps_between" ["folds"] F_steps_between) {f : Addr} (F : ∃ fd, FunD K "form_between" "form_between" (defArgs s_form_between) (defBody s_form_between) (defScope s_form_between) [] [] f fd) (hm : mg "form_between" = some (.ref f)) : DefOk P w K mg base 2 "form_between" ["folds"] F_form_between := by
  have sc := sc_form_between
  refine DefOk.fr (N := 1) (b := b_form_between) (def_mk (k := 1) (N := ["folds"]) (ps := ["folds"]) (b := b_form_between) F sc hm (fun _ _ _ _ _ _ us hl => match us, hl with | [_], _ => rfl) fun cdv A outer s H E hr => ?_)
  have tk : Takes (cxOf (L2.CX P w) P w K mg base ["folds"] "form_between" (defScope s_form_between) f cdv A outer s H E) (fun c o _ H' => E c o H') := takes_of rfl rfl rfl rfl
  exact (sss_one (ss_ret (se_tup (sa_cons (se_ix (se_var (pv 0)) (se_c (p := (.int 0)) rfl pe_int)) (sa_cons (se_ix (se_var (pv 0)) (se_un un_neg ud_neg (se_c (p := (.int 1)) rfl pe_int))) (sa_cons (se_def G_steps_between hr (by decide) (by rfl) tk (len_cons len_nil) (sa_cons (se_var (pv 0)) sa_nil)) sa_nil))))))
abbrev s_do_the_same : Stmt := top 19
theorem sc_do_the_same : FnScope ["folds", "beside"] ["folds", "beside"] (defScope s_do_the_same) := ⟨rfl, rfl, rfl, by decide +kernel, rfl, by decide +kernel, by decide +kernel⟩
theorem ok_do_the_same (Z : Zs mg) (G_form_between : DefOk P w K mg base 2 "form_between" ["folds"] F_form_between) {f : Addr} (F : ∃ fd, FunD K "do_the_same" "do_the_same" (defArgs s_do_the_same) (defBody s_do_the_same) (defScope s_do_the_same) [] [] f fd) (hm : mg "do_the_same" = some (.ref f)) : DefOk P w K mg base 3 "do_the_same" ["folds", "beside"] F_do_the_same := by
  have sc := sc_do_the_same
  refine DefOk.fr (N := 2) (b := b_do_the_same) (def_mk (k := 2) (N := ["folds", "beside"]) (ps := ["folds", "beside"]) (b := b_do_the_same) F sc hm (fun _ _ _ _ _ _ us hl => match us, hl with | [_, _], _ => rfl) fun cdv A outer s H E hr => ?_)
  have tk : Takes (cxOf (L2.CX P w) P w K mg base ["folds", "beside"] "do_the_same" (defScope s_do_the_same) f cdv A outer s H E) (fun c o _ H' => E c o H') := takes_of rfl rfl rfl rfl
  exact (sss_cons (ss_if (st_w (sw_or (st_cmp (op_eqD hr.units) od_eq (se_callB call_len cd_len (by rfl) Z.z_len (by decide +kernel) (sa_cons (se_var (pv 0)) sa_nil)) (se_c (p := (.int 0)) rfl pe_int) (nomark _)) (sw_or1 (st_cmp (op_eqD hr.units) od_eq (se_callB call_len cd_len (by rfl) Z.z_len (by decide +kernel) (sa_cons (se_var (pv 1)) sa_nil)) (se_c (p := (.int 0)) rfl pe_int) (nomark _))))) (sss_one (ss_ret (se_cmp (op_eqD hr.units) od_eq (se_callB call_len cd_len (by rfl) Z.z_len (by decide +kernel) (sa_cons (se_var (pv 0)) sa_nil)) (se_callB call_len cd_len (by rfl) Z.z_len (by decide +kernel) (sa_cons (se_var (pv 1)) sa_nil)) (nomark _)))) sss_nil)
  (sss_one (ss_ret (se_cmp (op_eqD hr.units) od_eq (se_def G_form_between hr (by decide) (by rfl) tk (len_cons len_nil) (sa_cons (se_var (pv 0)) sa_nil)) (se_def G_form_between hr (by decide) (by rfl) tk (len_cons len_nil) (sa_cons (se_var (pv 1)) sa_nil)) (nomark _)))))
abbrev s_rows_alike : Stmt := top 18
theorem sc_rows_alike : FnScope ["folds", "beside"] ["folds", "beside"] (defScope s_rows_alike) := ⟨rfl, rfl, rfl, by decide +kernel, rfl, by decide +kernel, by decide +kernel⟩
theorem ok_rows_alike (Z : Zs mg) (G_check_folds : DefOk P w K mg base 5 "check_folds" ["value"] F_check_folds) (G_do_the_same : DefOk P w K mg base 3 "do_the_same" ["folds", "beside"] F_do_the_same) {f : Addr} (F : ∃ fd, FunD K "rows_alike" "rows_alike" (defArgs s_rows_alike) (defBody s_rows_alike) (defScope s_rows_alike) [] [] f fd) (hm : mg "rows_alike" = some (.ref f)) : DefOk P w K mg base 6 "rows_alike" ["folds", "beside"] F_rows_alike := by
  have sc := sc_rows_alike
  refine DefOk.fr (N := 2) (b := b_rows_alike) (def_mk (k := 5) (N := ["folds", "beside"]) (ps := ["folds", "beside"]) (b := b_rows_alike) F sc hm (fun _ _ _ _ _ _ us hl => match us, hl with | [_, _], _ => rfl) fun cdv A outer s H E hr => ?_)
  have tk : Takes (cxOf (L2.CX P w) P w K mg base ["folds", "beside"] "rows_alike" (defScope s_rows_alike) f cdv A outer s H E) (fun c o _ H' => E c o H') := takes_of rfl rfl rfl rfl
  exact (sss_cons (ss_expr (se_def G_check_folds hr (by decide) (by rfl) tk (len_cons len_nil) (sa_cons (se_var (pv 0)) sa_nil)))
  (sss_cons (ss_expr (se_def G_check_folds hr (by decide) (by rfl) tk (len_cons len_nil) (sa_cons (se_var (pv 1)) sa_nil)))
  (sss_one (ss_ret (se_def G_do_the_same hr (by decide) (by rfl) tk (len_cons (len_cons len_nil)) (sa_cons (se_var (pv 0)) (sa_cons (se_var (pv 1)) sa_nil)))))))
abbrev s__law_right : Stmt := top 46
theorem sc__law_right : FnScope ["_law_cup_here", "_law_folds_here", "_law_moves_here", "_law_move", "_law_there", "_law_road", "_law_here", "_law_turn", "_law_other"] ["_law_cup_here", "_law_folds_here"] (defScope s__law_right) := ⟨rfl, rfl, rfl, by decide +kernel, rfl, by decide +kernel, by decide +kernel⟩
theorem ok__law_right (Z : Zs mg) (G__law_some : DefOk P w K mg base 2 "_law_some" ["_law_cup_here", "_law_things"] F__law_some) (G__law_folds : DefOk P w K mg base 3 "_law_folds" ["_law_cup_here", "_law_most"] F__law_folds) (G_is_road : DefOk P w K mg base 6 "is_road" ["folds", "beside", "value"] F_is_road) (G__law_moves : DefOk P w K mg base 1 "_law_moves" ["_law_folds_here"] F__law_moves) (G_moved_row : DefOk P w K mg base 6 "moved_row" ["folds", "move"] F_moved_row) (G__law_moved : DefOk P w K mg base 1 "_law_moved" ["_law_folds_here", "_law_move"] F__law_moved) (G__law_form : DefOk P w K mg base 2 "_law_form" ["_law_folds_here"] F__law_form) (G_rows_alike : DefOk P w K mg base 6 "rows_alike" ["folds", "beside"] F_rows_alike) {f : Addr} (F : ∃ fd, FunD K "_law_right" "_law_right" (defArgs s__law_right) (defBody s__law_right) (defScope s__law_right) [] [] f fd) (hm : mg "_law_right" = some (.ref f)) : DefOk P w K mg base 7 "_law_right" ["_law_cup_here", "_law_folds_here"] F__law_right := by
  have sc := sc__law_right
  refine DefOk.fr (N := 9) (b := b__law_right) (def_mk (k := 6) (N := ["_law_cup_here", "_law_folds_here", "_law_moves_here", "_law_move", "_law_there", "_law_road", "_law_here", "_law_turn", "_law_other"]) (ps := ["_law_cup_here", "_law_folds_here"]) (b := b__law_right) F sc hm (fun _ _ _ _ _ _ us hl => match us, hl with | [_, _], _ => rfl) fun cdv A outer s H E hr => ?_)
  have tk : Takes (cxOf (L2.CX P w) P w K mg base ["_law_cup_here", "_law_folds_here", "_law_moves_here", "_law_move", "_law_there", "_law_road", "_law_here", "_law_turn", "_law_other"] "_law_right" (defScope s__law_right) f cdv A outer s H E) (fun c o _ H' => E c o H') := takes_of rfl rfl rfl rfl
  exact (sss_cons (ss_set (ps_set (i := 2) sc.nd rfl (by first | exact Or.inl rfl | exact Or.inr rfl) (se_def G__law_moves hr (by decide) (by rfl) tk (len_cons len_nil) (sa_cons (se_var (pv 1)) sa_nil))))
  (sss_cons (ss_for (passes_of rfl) rfl (si_seq (se_var (pv 2))) (sg_name (pg_name (i := 3) sc.nd rfl (by first | exact Or.inl rfl | exact Or.inr rfl))) (sss_cons (ss_set (ps_set (i := 4) sc.nd rfl (by first | exact Or.inl rfl | exact Or.inr rfl) (se_def G_moved_row hr (by decide) (by rfl) tk (len_cons (len_cons len_nil)) (sa_cons (se_var (pv 1)) (sa_cons (se_var (pv 3)) sa_nil)))))
  (sss_cons (ss_if (st_w (sw_or (st_cmp (op_neD hr.units) od_ne (se_var (pv 4)) (se_def G__law_moved hr (by decide) (by rfl) tk (len_cons (len_cons len_nil)) (sa_cons (se_var (pv 1)) (sa_cons (se_var (pv 3)) sa_nil))) (nomark _)) (sw_or (st_cmp (op_neD hr.units) od_ne (se_def G__law_form hr (by decide) (by rfl) tk (len_cons len_nil) (sa_cons (se_var (pv 4)) sa_nil)) (se_def G__law_form hr (by decide) (by rfl) tk (len_cons len_nil) (sa_cons (se_var (pv 1)) sa_nil)) (nomark _)) (sw_or1 (st_cmp op_isnotA od_isnot (se_def G_rows_alike hr (by decide) (by rfl) tk (len_cons (len_cons len_nil)) (sa_cons (se_var (pv 1)) (sa_cons (se_var (pv 4)) sa_nil))) (se_c (p := (.bool true)) rfl pe_bl) (nomark _)))))) (sss_one (ss_ret (se_c (p := (.bool false)) rfl pe_bl))) sss_nil)
  (sss_one (ss_if (st_w (sw_or (st_cmp op_isnotA od_isnot (se_def G_is_road hr (by decide) (by rfl) tk (len_cons (len_cons (len_cons len_nil))) (sa_cons (se_var (pv 1)) (sa_cons (se_var (pv 4)) (sa_cons (se_tup (sa_cons (se_var (pv 3)) sa_nil)) sa_nil)))) (se_c (p := (.bool true)) rfl pe_bl) (nomark _)) (sw_or1 (st_cmp (op_neD hr.units) od_ne (se_def G_moved_row hr (by decide) (by rfl) tk (len_cons (len_cons len_nil)) (sa_cons (se_var (pv 4)) (sa_cons (se_var (pv 3)) sa_nil))) (se_var (pv 1)) (nomark _))))) (sss_one (ss_ret (se_c (p := (.bool false)) rfl pe_bl))) sss_nil)))))
  (sss_cons (ss_par (ps_par rfl sc.nd (i := 5) (j := 6) rfl rfl (by decide) rfl rfl (sa_cons (se_tup sa_nil) (sa_cons (se_var (pv 1)) sa_nil)) (by rfl)))
  (sss_cons (ss_for (passes_of rfl) rfl (si_range1 (by rfl) Z.z_range (sa_cons (se_if (st_cmp (op_neD hr.units) od_ne (se_var (pv 2)) (se_fr (se_lst sa_nil)) (nomark _)) (se_c (p := (.int 6)) rfl pe_int) (se_c (p := (.int 0)) rfl pe_int)) sa_nil)) (sg_name (pg_name (i := 7) sc.nd rfl (by first | exact Or.inl rfl | exact Or.inr rfl))) (sss_cons (ss_set (ps_set (i := 3) sc.nd rfl (by first | exact Or.inl rfl | exact Or.inr rfl) (se_def G__law_some hr (by decide) (by rfl) tk (len_cons (len_cons len_nil)) (sa_cons (se_var (pv 0)) (sa_cons (se_def G__law_moves hr (by decide) (by rfl) tk (len_cons len_nil) (sa_cons (se_var (pv 6)) sa_nil)) sa_nil)))))
  (sss_one (ss_par (ps_par rfl sc.nd (i := 5) (j := 6) rfl rfl (by decide) rfl rfl (sa_cons (se_op op_addA od_add (se_var (pv 5)) (se_tup (sa_cons (se_var (pv 3)) sa_nil))) (sa_cons (se_def G__law_moved hr (by decide) (by rfl) tk (len_cons (len_cons len_nil)) (sa_cons (se_var (pv 6)) (sa_cons (se_var (pv 3)) sa_nil))) sa_nil)) (by rfl))))))
  (sss_cons (ss_if (st_w (sw_or (st_cmp op_isnotA od_isnot (se_def G_is_road hr (by decide) (by rfl) tk (len_cons (len_cons (len_cons len_nil))) (sa_cons (se_var (pv 1)) (sa_cons (se_var (pv 6)) (sa_cons (se_var (pv 5)) sa_nil)))) (se_c (p := (.bool true)) rfl pe_bl) (nomark _)) (sw_or1 (st_cmp (op_neD hr.units) od_ne (se_cmp op_isA od_is (se_def G_is_road hr (by decide) (by rfl) tk (len_cons (len_cons (len_cons len_nil))) (sa_cons (se_var (pv 1)) (sa_cons (se_var (pv 1)) (sa_cons (se_var (pv 5)) sa_nil)))) (se_c (p := (.bool true)) rfl pe_bl) (nomark _)) (se_cmp (op_eqD hr.units) od_eq (se_var (pv 6)) (se_var (pv 1)) (nomark _)) (nomark _))))) (sss_one (ss_ret (se_c (p := (.bool false)) rfl pe_bl))) sss_nil)
  (sss_cons (ss_set (ps_set (i := 8) sc.nd rfl (by first | exact Or.inl rfl | exact Or.inr rfl) (se_def G__law_folds hr (by decide) (by rfl) tk (len_cons (len_cons len_nil)) (sa_cons (se_var (pv 0)) (sa_cons (se_c (p := (.int 4)) rfl pe_int) sa_nil)))))
  (sss_one (ss_ret (se_cmp (op_eqD hr.units) od_eq (se_def G_is_road hr (by decide) (by rfl) tk (len_cons (len_cons (len_cons len_nil))) (sa_cons (se_var (pv 1)) (sa_cons (se_var (pv 8)) (sa_cons (se_tup sa_nil) sa_nil)))) (se_cmp (op_eqD hr.units) od_eq (se_var (pv 1)) (se_var (pv 8)) (nomark _)) (nomark _))))))))))
abbrev s_law : Stmt := top 47
theorem sc_law : FnScope ["_law_script", "_law_cup_here", "_law_turn", "_law_folds_here", "_law_bad", "_law_value", "_law_move"] ["_law_script"] (defScope s_law) := ⟨rfl, rfl, rfl, by decide +kernel, rfl, by decide +kernel, by decide +kernel⟩
theorem ok_law (Z : Zs mg) (G__law_cup : DefOk P w K mg base 1 "_law_cup" ["_law_script"] F__law_cup) (G__law_folds : DefOk P w K mg base 3 "_law_folds" ["_law_cup_here", "_law_most"] F__law_folds) (G__law_some_folds : DefOk P w K mg base 4 "_law_some_folds" ["_law_cup_here", "_law_most"] F__law_some_folds) (G_is_road : DefOk P w K mg base 6 "is_road" ["folds", "beside", "value"] F_is_road) (G_moved_row : DefOk P w K mg base 6 "moved_row" ["folds", "move"] F_moved_row) (G__law_right : DefOk P w K mg base 7 "_law_right" ["_law_cup_here", "_law_folds_here"] F__law_right) {f : Addr} {fd : FuncData} (F : FunD K "law" "law" (defArgs s_law) (defBody s_law) (defScope s_law) [] [] f fd)
    (hF : ∀ ns : List Int, ns.length ≤ 63 → ∃ S', runM 7 b_law [.py (.list (ofInts ns))] [] = .ok (.py (.bool true)) S') : FnOk P w K mg base CX0 8 f fd ["_law_script"] (spLaw K) := by
  have sc := sc_law
  refine law_mk (b := b_law) F sc (fun cdv A outer s H E hr => ?_) hF
  have tk : Takes (cxOf CX0 P w K mg base ["_law_script", "_law_cup_here", "_law_turn", "_law_folds_here", "_law_bad", "_law_value", "_law_move"] "law" (defScope s_law) f cdv A outer s H E).nox W0 := takes0
  exact (sss_cons (ss_set (ps_set (i := 1) sc.nd rfl (by first | exact Or.inl rfl | exact Or.inr rfl) (se_def G__law_cup hr (by decide) (by rfl) tk (len_cons len_nil) (sa_cons (se_var (pv 0)) sa_nil))))
  (sss_cons (ss_for PassesOwn.never rfl (si_range1 (by rfl) Z.z_range (sa_cons (se_c (p := (.int 3)) rfl pe_int) sa_nil)) (sg_name (pg_name (i := 2) sc.nd rfl (by first | exact Or.inl rfl | exact Or.inr rfl))) (sss_cons (ss_if (st_not (st_val (se_def G__law_right hr (by decide) (by rfl) tk (len_cons (len_cons len_nil)) (sa_cons (se_var (pv 1)) (sa_cons (se_def G__law_folds hr (by decide) (by rfl) tk (len_cons (len_cons len_nil)) (sa_cons (se_var (pv 1)) (sa_cons (se_c (p := (.int 5)) rfl pe_int) sa_nil))) sa_nil))))) (sss_one (ss_ret (se_c (p := (.bool false)) rfl pe_bl))) sss_nil)
  (sss_cons (ss_set (ps_set (i := 3) sc.nd rfl (by first | exact Or.inl rfl | exact Or.inr rfl) (se_def G__law_some_folds hr (by decide) (by rfl) tk (len_cons (len_cons len_nil)) (sa_cons (se_var (pv 1)) (sa_cons (se_c (p := (.int 3)) rfl pe_int) sa_nil)))))
  (sss_one (ss_if (st_not (st_val (se_def G__law_right hr (by decide) (by rfl) tk (len_cons (len_cons len_nil)) (sa_cons (se_var (pv 1)) (sa_cons (se_fr (se_op op_addA od_add (se_var (pv 3)) (se_fr (se_rev (se_var (pv 3)))))) sa_nil))))) (sss_one (ss_ret (se_c (p := (.bool false)) rfl pe_bl))) sss_nil)))))
  (sss_cons (ss_if (st_w (sw_or (st_cmp (op_neD hr.units) od_ne (se_def G_moved_row hr (by decide) (by rfl) tk (len_cons (len_cons len_nil)) (sa_cons (se_tup (sa_cons (se_c (p := (.int 0)) rfl pe_int) (sa_cons (se_c (p := (.int 1)) rfl pe_int) (sa_cons (se_c (p := (.int 3)) rfl pe_int) sa_nil)))) (sa_cons (se_tup (sa_cons (se_c (p := (.str "turn")) rfl pe_str) (sa_cons (se_c (p := (.int 0)) rfl pe_int) (sa_cons (se_c (p := (.int 2)) rfl pe_int) sa_nil)))) sa_nil))) (se_tup (sa_cons (se_c (p := (.int 0)) rfl pe_int) (sa_cons (se_c (p := (.int 2)) rfl pe_int) (sa_cons (se_c (p := (.int 3)) rfl pe_int) sa_nil)))) (nomark _)) (sw_or1 (st_cmp (op_neD hr.units) od_ne (se_def G_moved_row hr (by decide) (by rfl) tk (len_cons (len_cons len_nil)) (sa_cons (se_tup (sa_cons (se_c (p := (.int 0)) rfl pe_int) (sa_cons (se_c (p := (.int 1)) rfl pe_int) (sa_cons (se_c (p := (.int 3)) rfl pe_int) (sa_cons (se_c (p := (.int 0)) rfl pe_int) sa_nil))))) (sa_cons (se_tup (sa_cons (se_c (p := (.str "mirror")) rfl pe_str) (sa_cons (se_c (p := (.int 0)) rfl pe_int) (sa_cons (se_c (p := (.int 3)) rfl pe_int) sa_nil)))) sa_nil))) (se_tup (sa_cons (se_c (p := (.int 0)) rfl pe_int) (sa_cons (se_un un_neg ud_neg (se_c (p := (.int 1)) rfl pe_int)) (sa_cons (se_un un_neg ud_neg (se_c (p := (.int 3)) rfl pe_int)) (sa_cons (se_c (p := (.int 0)) rfl pe_int) sa_nil))))) (nomark _))))) (sss_one (ss_ret (se_c (p := (.bool false)) rfl pe_bl))) sss_nil)
  (sss_cons (ss_set (ps_set (i := 4) sc.nd rfl (by first | exact Or.inl rfl | exact Or.inr rfl) (se_fr (se_lst (sa_cons (se_c (p := .none) rfl pe_non) (sa_cons (se_fr (se_lst (sa_cons (se_c (p := (.str "turn")) rfl pe_str) (sa_cons (se_c (p := (.int 0)) rfl pe_int) (sa_cons (se_c (p := (.int 1)) rfl pe_int) sa_nil))))) (sa_cons (se_tup (sa_cons (se_c (p := (.str "turn")) rfl pe_str) (sa_cons (se_c (p := (.int 0)) rfl pe_int) sa_nil))) (sa_cons (se_tup (sa_cons (se_c (p := (.str "turn")) rfl pe_str) (sa_cons (se_c (p := (.int 1)) rfl pe_int) (sa_cons (se_c (p := (.int 1)) rfl pe_int) sa_nil)))) (sa_cons (se_tup (sa_cons (se_c (p := (.str "turn")) rfl pe_str) (sa_cons (se_c (p := (.int 1)) rfl pe_int) (sa_cons (se_c (p := (.int 0)) rfl pe_int) sa_nil)))) (sa_cons (se_tup (sa_cons (se_c (p := (.str "turn")) rfl pe_str) (sa_cons (se_c (p := (.int 0)) rfl pe_int) (sa_cons (se_c (p := (.int 3)) rfl pe_int) sa_nil)))) (sa_cons (se_tup (sa_cons (se_c (p := (.str "turn")) rfl pe_str) (sa_cons (se_un un_neg ud_neg (se_c (p := (.int 1)) rfl pe_int)) (sa_cons (se_c (p := (.int 1)) rfl pe_int) sa_nil)))) sa_nil)))))))))))
  (sss_cons (ss_set (ps_set (i := 4) sc.nd rfl (by first | exact Or.inl rfl | exact Or.inr rfl) (se_fr (se_op op_addA od_add (se_var (pv 4)) (se_fr (se_lst (sa_cons (se_tup (sa_cons (se_c (p := (.str "mirror")) rfl pe_str) (sa_cons (se_c (p := (.int 0)) rfl pe_int) (sa_cons (se_c (p := (.int 1)) rfl pe_int) sa_nil)))) (sa_cons (se_tup (sa_cons (se_c (p := (.str "turn")) rfl pe_str) (sa_cons (se_c (p := (.bool false)) rfl pe_bl) (sa_cons (se_c (p := (.int 1)) rfl pe_int) sa_nil)))) (sa_cons (se_tup (sa_cons (se_c (p := (.str "Turn")) rfl pe_str) (sa_cons (se_c (p := (.int 0)) rfl pe_int) (sa_cons (se_c (p := (.int 1)) rfl pe_int) sa_nil)))) sa_nil)))))))))
  (sss_cons (ss_if (st_cmp (op_neD hr.units) od_ne (se_fr (se_lcv [("_law_move", 6)] rfl sc.nd (si_seq (se_var (pv 4))) (blkOk_by (N := ["_law_script", "_law_cup_here", "_law_turn", "_law_folds_here", "_law_bad", "_law_value", "_law_move"]) (sc := defScope s_law) (by decide +kernel)) (fun _ _ _ _ _ => (sg_name (pg_name (i := 6) sc.nd rfl (by first | exact Or.inl rfl | exact Or.inr rfl)))) (fun _ _ _ _ _ => (spt_one (st_cmp op_isnotA od_isnot (se_def G_is_road hr (by decide) (by rfl) takes0 (len_cons (len_cons (len_cons len_nil))) (sa_cons (se_tup (sa_cons (se_c (p := (.int 0)) rfl pe_int) (sa_cons (se_c (p := (.int 1)) rfl pe_int) (sa_cons (se_c (p := (.int 3)) rfl pe_int) sa_nil)))) (sa_cons (se_tup (sa_cons (se_c (p := (.int 0)) rfl pe_int) (sa_cons (se_c (p := (.int 1)) rfl pe_int) (sa_cons (se_c (p := (.int 3)) rfl pe_int) sa_nil)))) (sa_cons (se_tup (sa_cons (se_var (pv 6)) (sa_cons (se_var (pv 6)) sa_nil))) sa_nil)))) (se_c (p := (.bool false)) rfl pe_bl) (nomark _)))) (fun _ _ _ _ _ => (se_var (pv 6))))) (se_fr (se_lst sa_nil)) (nomark _)) (sss_one (ss_ret (se_c (p := (.bool false)) rfl pe_bl))) sss_nil)
  (sss_cons (ss_set (ps_set (i := 5) sc.nd rfl (by first | exact Or.inl rfl | exact Or.inr rfl) (se_op op_mulA od_mul (se_tup (sa_cons (se_tup (sa_cons (se_c (p := (.str "turn")) rfl pe_str) (sa_cons (se_c (p := (.int 0)) rfl pe_int) (sa_cons (se_c (p := (.int 2)) rfl pe_int) sa_nil)))) sa_nil)) (se_c (p := (.int 200)) rfl pe_int))))
  (sss_cons (ss_if (st_w (sw_or (st_cmp op_isnotA od_isnot (se_def G_is_road hr (by decide) (by rfl) tk (len_cons (len_cons (len_cons len_nil))) (sa_cons (se_tup (sa_cons (se_c (p := (.int 0)) rfl pe_int) (sa_cons (se_c (p := (.int 1)) rfl pe_int) (sa_cons (se_c (p := (.int 3)) rfl pe_int) sa_nil)))) (sa_cons (se_tup (sa_cons (se_c (p := (.int 0)) rfl pe_int) (sa_cons (se_c (p := (.int 1)) rfl pe_int) (sa_cons (se_c (p := (.int 3)) rfl pe_int) sa_nil)))) (sa_cons (se_var (pv 5)) sa_nil)))) (se_c (p := (.bool true)) rfl pe_bl) (nomark _)) (sw_or1 (st_cmp op_isnotA od_isnot (se_def G_is_road hr (by decide) (by rfl) tk (len_cons (len_cons (len_cons len_nil))) (sa_cons (se_tup (sa_cons (se_c (p := (.int 0)) rfl pe_int) (sa_cons (se_c (p := (.int 1)) rfl pe_int) (sa_cons (se_c (p := (.int 3)) rfl pe_int) sa_nil)))) (sa_cons (se_tup (sa_cons (se_c (p := (.int 0)) rfl pe_int) (sa_cons (se_c (p := (.int 1)) rfl pe_int) (sa_cons (se_c (p := (.int 3)) rfl pe_int) sa_nil)))) (sa_cons (se_fr (se_op op_addA od_add (se_var (pv 5)) (se_fr (se_sl (se_var (pv 5)) so_none (so_some (se_c (p := (.int 2)) rfl pe_int)))))) sa_nil)))) (se_c (p := (.bool false)) rfl pe_bl) (nomark _))))) (sss_one (ss_ret (se_c (p := (.bool false)) rfl pe_bl))) sss_nil)
  (sss_cons (ss_if (st_w (sw_or (st_cmp op_isnotA od_isnot (se_def G_is_road hr (by decide) (by rfl) tk (len_cons (len_cons (len_cons len_nil))) (sa_cons (se_tup (sa_cons (se_c (p := (.int 0)) rfl pe_int) (sa_cons (se_c (p := (.int 1)) rfl pe_int) (sa_cons (se_c (p := (.int 3)) rfl pe_int) sa_nil)))) (sa_cons (se_tup (sa_cons (se_c (p := (.int 0)) rfl pe_int) (sa_cons (se_c (p := (.int 1)) rfl pe_int) (sa_cons (se_c (p := (.int 3)) rfl pe_int) sa_nil)))) (sa_cons (se_fr (se_callTy call_list_of cd_lst (by rfl) Z.z_list (by decide +kernel) (sa_cons (se_var (pv 5)) sa_nil))) sa_nil)))) (se_c (p := (.bool false)) rfl pe_bl) (nomark _)) (sw_or1 (st_cmp op_isnotA od_isnot (se_def G_is_road hr (by decide) (by rfl) tk (len_cons (len_cons (len_cons len_nil))) (sa_cons (se_tup (sa_cons (se_c (p := (.int 0)) rfl pe_int) (sa_cons (se_c (p := (.int 1)) rfl pe_int) (sa_cons (se_c (p := (.int 3)) rfl pe_int) sa_nil)))) (sa_cons (se_tup (sa_cons (se_c (p := (.int 0)) rfl pe_int) (sa_cons (se_c (p := (.int 2)) rfl pe_int) (sa_cons (se_c (p := (.int 3)) rfl pe_int) sa_nil)))) (sa_cons (se_fr (se_sl (se_var (pv 5)) so_none (so_some (se_c (p := (.int 3)) rfl pe_int)))) sa_nil)))) (se_c (p := (.bool true)) rfl pe_bl) (nomark _))))) (sss_one (ss_ret (se_c (p := (.bool false)) rfl pe_bl))) sss_nil)
  (sss_cons (ss_if (st_cmp op_isnotA od_isnot (se_def G_is_road hr (by decide) (by rfl) tk (len_cons (len_cons (len_cons len_nil))) (sa_cons (se_tup (sa_cons (se_c (p := (.int 0)) rfl pe_int) (sa_cons (se_c (p := (.int 2)) rfl pe_int) (sa_cons (se_c (p := (.int 1)) rfl pe_int) (sa_cons (se_c (p := (.int 3)) rfl pe_int) (sa_cons (se_c (p := (.int 2)) rfl pe_int) sa_nil)))))) (sa_cons (se_tup (sa_cons (se_c (p := (.int 0)) rfl pe_int) (sa_cons (se_c (p := (.int 2)) rfl pe_int) (sa_cons (se_c (p := (.int 3)) rfl pe_int) (sa_cons (se_c (p := (.int 1)) rfl pe_int) (sa_cons (se_c (p := (.int 2)) rfl pe_int) sa_nil)))))) (sa_cons (se_tup (sa_cons (se_tup (sa_cons (se_c (p := (.str "mirror")) rfl pe_str) (sa_cons (se_c (p := (.int 1)) rfl pe_int) (sa_cons (se_c (p := (.int 4)) rfl pe_int) sa_nil)))) sa_nil)) sa_nil)))) (se_c (p := (.bool true)) rfl pe_bl) (nomark _)) (sss_one (ss_ret (se_c (p := (.bool false)) rfl pe_bl))) sss_nil)
  (sss_cons (ss_if (st_cmp op_isnotA od_isnot (se_def G_is_road hr (by decide) (by rfl) tk (len_cons (len_cons (len_cons len_nil))) (sa_cons (se_tup (sa_cons (se_c (p := (.int 0)) rfl pe_int) (sa_cons (se_c (p := (.int 2)) rfl pe_int) (sa_cons (se_c (p := (.int 1)) rfl pe_int) (sa_cons (se_c (p := (.int 3)) rfl pe_int) sa_nil))))) (sa_cons (se_tup (sa_cons (se_c (p := (.int 0)) rfl pe_int) (sa_cons (se_c (p := (.int 2)) rfl pe_int) (sa_cons (se_c (p := (.int 1)) rfl pe_int) (sa_cons (se_c (p := (.int 3)) rfl pe_int) sa_nil))))) (sa_cons (se_tup (sa_cons (se_tup (sa_cons (se_c (p := (.str "mirror")) rfl pe_str) (sa_cons (se_c (p := (.int 0)) rfl pe_int) (sa_cons (se_c (p := (.int 3)) rfl pe_int) sa_nil)))) sa_nil)) sa_nil)))) (se_c (p := (.bool false)) rfl pe_bl) (nomark _)) (sss_one (ss_ret (se_c (p := (.bool false)) rfl pe_bl))) sss_nil)
  (sss_one (ss_ret (se_and (se_def G__law_right hr (by decide) (by rfl) tk (len_cons (len_cons len_nil)) (sa_cons (se_var (pv 1)) (sa_cons (se_tup (sa_cons (se_c (p := (.int 0)) rfl pe_int) (sa_cons (se_c (p := (.int 1)) rfl pe_int) (sa_cons (se_c (p := (.int 3)) rfl pe_int) (sa_cons (se_c (p := (.int 0)) rfl pe_int) (sa_cons (se_c (p := (.int 0)) rfl pe_int) sa_nil)))))) sa_nil))) (se_and (se_def G__law_right hr (by decide) (by rfl) tk (len_cons (len_cons len_nil)) (sa_cons (se_var (pv 1)) (sa_cons (se_tup sa_nil) sa_nil))) (se_and (se_def G__law_right hr (by decide) (by rfl) tk (len_cons (len_cons len_nil)) (sa_cons (se_var (pv 1)) (sa_cons (se_tup (sa_cons (se_c (p := (.int 3)) rfl pe_int) (sa_cons (se_c (p := (.int 3)) rfl pe_int) (sa_cons (se_c (p := (.int 3)) rfl pe_int) sa_nil)))) sa_nil))) (se_one (se_def G__law_right hr (by decide) (by rfl) tk (len_cons (len_cons len_nil)) (sa_cons (se_var (pv 1)) (sa_cons (se_tup (sa_cons (se_c (p := (.int 9)) rfl pe_int) sa_nil)) sa_nil))))))))))))))))))))
end

end LW
end P_B
section P_C
set_option maxHeartbeats 0
namespace LW
open PySem PySem.Spec PyProof.Rows L2 PX
def d__law_cup : He.DefD := ⟨("_law_cup", none), "_law_cup", "_law_cup", defArgs s__law_cup, defBody s__law_cup, defScope s__law_cup, [], []⟩
def d__law_roll : He.DefD := ⟨("_law_roll", none), "_law_roll", "_law_roll", defArgs s__law_roll, defBody s__law_roll, defScope s__law_roll, [], []⟩
def d__law_some : He.DefD := ⟨("_law_some", none), "_law_some", "_law_some", defArgs s__law_some, defBody s__law_some, defScope s__law_some, [], []⟩
def d__law_folds : He.DefD := ⟨("_law_folds", none), "_law_folds", "_law_folds", defArgs s__law_folds, defBody s__law_folds, defScope s__law_folds, [], []⟩
def d__law_some_folds : He.DefD := ⟨("_law_some_folds", none), "_law_some_folds", "_law_some_folds", defArgs s__law_some_folds, defBody s__law_some_folds, defScope s__law_some_folds, [], []⟩
def d_is_tuple_up_to : He.DefD := ⟨("is_tuple_up_to", none), "is_tuple_up_to", "is_tuple_up_to", defArgs s_is_tuple_up_to, defBody s_is_tuple_up_to, defScope s_is_tuple_up_to, [], []⟩
def d_is_whole : He.DefD := ⟨("is_whole", none), "is_whole", "is_whole", defArgs s_is_whole, defBody s_is_whole, defScope s_is_whole, [], []⟩
def d_is_from_to : He.DefD := ⟨("is_from_to", none), "is_from_to", "is_from_to", defArgs s_is_from_to, defBody s_is_from_to, defScope s_is_from_to, [], []⟩
def d_is_crease : He.DefD := ⟨("is_crease", none), "is_crease", "is_crease", defArgs s_is_crease, defBody s_is_crease, defScope s_is_crease, [], []⟩
def d_fits_folds : He.DefD := ⟨("fits_folds", none), "fits_folds", "fits_folds", defArgs s_fits_folds, defBody s_fits_folds, defScope s_fits_folds, [], []⟩
def d_check_folds : He.DefD := ⟨("check_folds", none), "check_folds", "check_folds", defArgs s_check_folds, defBody s_check_folds, defScope s_check_folds, [], []⟩
def d_do_move : He.DefD := ⟨("do_move", none), "do_move", "do_move", defArgs s_do_move, defBody s_do_move, defScope s_do_move, [], []⟩
def d_is_move : He.DefD := ⟨("is_move", none), "is_move", "is_move", defArgs s_is_move, defBody s_is_move, defScope s_is_move, [], []⟩
def d_is_road : He.DefD := ⟨("is_road", none), "is_road", "is_road", defArgs s_is_road, defBody s_is_road, defScope s_is_road, [], []⟩
def d__law_moves : He.DefD := ⟨("_law_moves", none), "_law_moves", "_law_moves", defArgs s__law_moves, defBody s__law_moves, defScope s__law_moves, [], []⟩
def d_moved_row : He.DefD := ⟨("moved_row", none), "moved_row", "moved_row", defArgs s_moved_row, defBody s_moved_row, defScope s_moved_row, [], []⟩
def d__law_moved : He.DefD := ⟨("_law_moved", none), "_law_moved", "_law_moved", defArgs s__law_moved, defBody s__law_moved, defScope s__law_moved, [], []⟩
def d__law_steps : He.DefD := ⟨("_law_steps", none), "_law_steps", "_law_steps", defArgs s__law_steps, defBody s__law_steps, defScope s__law_steps, [], []⟩
def d__law_form : He.DefD := ⟨("_law_form", none), "_law_form", "_law_form", defArgs s__law_form, defBody s__law_form, defScope s__law_form, [], []⟩
def d_steps_between : He.DefD := ⟨("steps_between", none), "steps_between", "steps_between", defArgs s_steps_between, defBody s_steps_between, defScope s_steps_between, [], []⟩
def d_form_between : He.DefD := ⟨("form_between", none), "form_between", "form_between", defArgs s_form_between, defBody s_form_between, defScope s_form_between, [], []⟩
def d_do_the_same : He.DefD := ⟨("do_the_same", none), "do_the_same", "do_the_same", defArgs s_do_the_same, defBody s_do_the_same, defScope s_do_the_same, [], []⟩
def d_rows_alike : He.DefD := ⟨("rows_alike", none), "rows_alike", "rows_alike", defArgs s_rows_alike, defBody s_rows_alike, defScope s_rows_alike, [], []⟩
def d__law_right : He.DefD := ⟨("_law_right", none), "_law_right", "_law_right", defArgs s__law_right, defBody s__law_right, defScope s__law_right, [], []⟩
def d_law : He.DefD := ⟨("law", none), "law", "law", defArgs s_law, defBody s_law, defScope s_law, [], []⟩
def fn : List He.DefD := [d__law_cup, d__law_roll, d__law_some, d__law_folds, d__law_some_folds, d_is_tuple_up_to, d_is_whole, d_is_from_to, d_is_crease, d_fits_folds, d_check_folds, d_do_move, d_is_move, d_is_road, d__law_moves, d_moved_row, d__law_moved, d__law_steps, d__law_form, d_steps_between, d_form_between, d_do_the_same, d_rows_alike, d__law_right, d_law]
def fa : List He.Fa := [.glo "_law_cup", .glo "_law_roll", .glo "_law_some", .glo "_law_folds", .glo "_law_some_folds", .glo "is_tuple_up_to", .glo "is_whole", .glo "is_from_to", .glo "is_crease", .glo "fits_folds", .glo "check_folds", .glo "do_move", .glo "is_move", .glo "is_road", .glo "_law_moves", .glo "moved_row", .glo "_law_moved", .glo "_law_steps", .glo "_law_form", .glo "steps_between", .glo "form_between", .glo "do_the_same", .glo "rows_alike", .glo "_law_right", .glo "law", .free "abs", .free "all", .free "bool", .free "int", .free "isinstance", .free "len", .free "list", .free "range", .free "sorted", .free "tuple", .free "zip", .int "GREATEST_CREASE" 1000000, .int "MOST_FOLDS" 12, .int "MOST_MOVES" 200]
abbrev R : PySem.W.OpenRow := PySem.W.OpenLaw.row PySem.Challenge.rw_wetfolds_k18_whole_moves_of_rows
abbrev hk : PySem.W.Hook := He.hookD 4 fa fn
def ob (s : PySem.W.SharedT) : He.AlD := He.obsDG 4 fa fn (HandSHeadRun.getT s)
theorem ob_eq (s : PySem.W.SharedT) : ob s = hk.obs s.abs := He.obsDG_eq (HandSHeadRun.getT_eq s)
def loose : List Str := (["FoldError", "InvalidFolds", "InvalidMove", "GREATEST_CREASE", "MOST_FOLDS", "is_whole", "is_from_to", "is_crease", "is_tuple_up_to", "fits_folds", "check_folds", "steps_between", "form_between", "rows_alike", "do_the_same", "MOST_MOVES", "moved_row", "is_road", "is_move", "do_move", "_law_cup", "_law_roll", "_law_some", "_law_tidy", "_law_fold", "_law_folded", "_law_print", "_law_steps", "_law_form", "_law_place"] : List Str) ++ (["_law_together", "_law_folds", "_law_some_folds", "_law_strip", "_law_strip_on", "_law_own_mirror", "_law_like_row", "_law_moves", "_law_moved", "_law_right"] : List Str)
theorem run_ (w : World) : HandSHeadRun.RunEq R (PySem.W.view R.prog [47]) hk ob 3000 loose w := by
  intro os
  kernel_rfl
theorem facts {P : Program} {w : World} {K : PySem.W.Frag} {h : Heap} {mg : Str → Option Value} {f : Addr} (hF : ∀ ns : List Int, ns.length ≤ 63 → ∃ S', runM 7 b_law [.py (.list (ofInts ns))] [] = .ok (.py (.bool true)) S') (X : K.In h) (G : h.Ns mainGlobals mg) (hfa : mg ("law" : Str) = some (.ref f)) (c : He.SaysD fa fn K) :
    ∃ fd : FuncData, (∀ (s : Shared) (v : Value), BindsTo s fd ⟨[v], []⟩ [("_law_script", v)]) ∧ ∀ base : Heap, K.In base → base.Ns mainGlobals mg → FnOk P w K mg base CX0 8 f fd ["_law_script"] (spLaw K) := by
  have Z : Zs mg := ⟨He.free_ok X G (c.fact 25 (f := .free "abs") rfl), He.free_ok X G (c.fact 26 (f := .free "all") rfl), He.free_ok X G (c.fact 27 (f := .free "bool") rfl), He.free_ok X G (c.fact 28 (f := .free "int") rfl), He.free_ok X G (c.fact 29 (f := .free "isinstance") rfl), He.free_ok X G (c.fact 30 (f := .free "len") rfl), He.free_ok X G (c.fact 31 (f := .free "list") rfl), He.free_ok X G (c.fact 32 (f := .free "range") rfl), He.free_ok X G (c.fact 33 (f := .free "sorted") rfl), He.free_ok X G (c.fact 34 (f := .free "tuple") rfl), He.free_ok X G (c.fact 35 (f := .free "zip") rfl), He.int_ok X G (c.fact 36 (f := .int "GREATEST_CREASE" 1000000) rfl), He.int_ok X G (c.fact 37 (f := .int "MOST_FOLDS" 12) rfl), He.int_ok X G (c.fact 38 (f := .int "MOST_MOVES" 200) rfl)⟩
  have g__law_cup := He.glo_ok X G (c.fact 0 (f := .glo "_law_cup") rfl)
  have F__law_cup_ := c.def_ 0 (d := d__law_cup) rfl
  have G__law_cup : ∀ base, DefOk P w K mg base 1 "_law_cup" ["_law_script"] F__law_cup := fun base => ok__law_cup Z F__law_cup_ g__law_cup
  have g__law_roll := He.glo_ok X G (c.fact 1 (f := .glo "_law_roll") rfl)
  have F__law_roll_ := c.def_ 1 (d := d__law_roll) rfl
  have G__law_roll : ∀ base, DefOk P w K mg base 1 "_law_roll" ["_law_cup_here", "_law_many"] F__law_roll := fun base => ok__law_roll Z F__law_roll_ g__law_roll
  have g__law_some := He.glo_ok X G (c.fact 2 (f := .glo "_law_some") rfl)
  have F__law_some_ := c.def_ 2 (d := d__law_some) rfl
  have G__law_some : ∀ base, DefOk P w K mg base 2 "_law_some" ["_law_cup_here", "_law_things"] F__law_some := fun base => ok__law_some Z (G__law_roll base) F__law_some_ g__law_some
  have g__law_folds := He.glo_ok X G (c.fact 3 (f := .glo "_law_folds") rfl)
  have F__law_folds_ := c.def_ 3 (d := d__law_folds) rfl
  have G__law_folds : ∀ base, DefOk P w K mg base 3 "_law_folds" ["_law_cup_here", "_law_most"] F__law_folds := fun base => ok__law_folds Z (G__law_roll base) (G__law_some base) F__law_folds_ g__law_folds
  have g__law_some_folds := He.glo_ok X G (c.fact 4 (f := .glo "_law_some_folds") rfl)
  have F__law_some_folds_ := c.def_ 4 (d := d__law_some_folds) rfl
  have G__law_some_folds : ∀ base, DefOk P w K mg base 4 "_law_some_folds" ["_law_cup_here", "_law_most"] F__law_some_folds := fun base => ok__law_some_folds Z (G__law_roll base) (G__law_folds base) F__law_some_folds_ g__law_some_folds
  have g_is_tuple_up_to := He.glo_ok X G (c.fact 5 (f := .glo "is_tuple_up_to") rfl)
  have F_is_tuple_up_to_ := c.def_ 5 (d := d_is_tuple_up_to) rfl
  have G_is_tuple_up_to : ∀ base, DefOk P w K mg base 1 "is_tuple_up_to" ["value", "most"] F_is_tuple_up_to := fun base => ok_is_tuple_up_to Z F_is_tuple_up_to_ g_is_tuple_up_to
  have g_is_whole := He.glo_ok X G (c.fact 6 (f := .glo "is_whole") rfl)
  have F_is_whole_ := c.def_ 6 (d := d_is_whole) rfl
  have G_is_whole : ∀ base, DefOk P w K mg base 1 "is_whole" ["value"] F_is_whole := fun base => ok_is_whole Z F_is_whole_ g_is_whole
  have g_is_from_to := He.glo_ok X G (c.fact 7 (f := .glo "is_from_to") rfl)
  have F_is_from_to_ := c.def_ 7 (d := d_is_from_to) rfl
  have G_is_from_to : ∀ base, DefOk P w K mg base 2 "is_from_to" ["value", "least", "greatest"] F_is_from_to := fun base => ok_is_from_to Z (G_is_whole base) F_is_from_to_ g_is_from_to
  have g_is_crease := He.glo_ok X G (c.fact 8 (f := .glo "is_crease") rfl)
  have F_is_crease_ := c.def_ 8 (d := d_is_crease) rfl
  have G_is_crease : ∀ base, DefOk P w K mg base 3 "is_crease" ["value"] F_is_crease := fun base => ok_is_crease Z (G_is_from_to base) F_is_crease_ g_is_crease
  have g_fits_folds := He.glo_ok X G (c.fact 9 (f := .glo "fits_folds") rfl)
  have F_fits_folds_ := c.def_ 9 (d := d_fits_folds) rfl
  have G_fits_folds : ∀ base, DefOk P w K mg base 4 "fits_folds" ["value"] F_fits_folds := fun base => ok_fits_folds Z (G_is_tuple_up_to base) (G_is_crease base) F_fits_folds_ g_fits_folds
  have g_check_folds := He.glo_ok X G (c.fact 10 (f := .glo "check_folds") rfl)
  have F_check_folds_ := c.def_ 10 (d := d_check_folds) rfl
  have G_check_folds : ∀ base, DefOk P w K mg base 5 "check_folds" ["value"] F_check_folds := fun base => ok_check_folds Z (G_fits_folds base) F_check_folds_ g_check_folds
  have g_do_move := He.glo_ok X G (c.fact 11 (f := .glo "do_move") rfl)
  have F_do_move_ := c.def_ 11 (d := d_do_move) rfl
  have G_do_move : ∀ base, DefOk P w K mg base 1 "do_move" ["row", "move"] F_do_move := fun base => ok_do_move Z F_do_move_ g_do_move
  have g_is_move := He.glo_ok X G (c.fact 12 (f := .glo "is_move") rfl)
  have F_is_move_ := c.def_ 12 (d := d_is_move) rfl
  have G_is_move : ∀ base, DefOk P w K mg base 3 "is_move" ["row", "value"] F_is_move := fun base => ok_is_move Z (G_is_from_to base) F_is_move_ g_is_move
  have g_is_road := He.glo_ok X G (c.fact 13 (f := .glo "is_road") rfl)
  have F_is_road_ := c.def_ 13 (d := d_is_road) rfl
  have G_is_road : ∀ base, DefOk P w K mg base 6 "is_road" ["folds", "beside", "value"] F_is_road := fun base => ok_is_road Z (G_is_tuple_up_to base) (G_check_folds base) (G_do_move base) (G_is_move base) F_is_road_ g_is_road
  have g__law_moves := He.glo_ok X G (c.fact 14 (f := .glo "_law_moves") rfl)
  have F__law_moves_ := c.def_ 14 (d := d__law_moves) rfl
  have G__law_moves : ∀ base, DefOk P w K mg base 1 "_law_moves" ["_law_folds_here"] F__law_moves := fun base => ok__law_moves Z F__law_moves_ g__law_moves
  have g_moved_row := He.glo_ok X G (c.fact 15 (f := .glo "moved_row") rfl)
  have F_moved_row_ := c.def_ 15 (d := d_moved_row) rfl
  have G_moved_row : ∀ base, DefOk P w K mg base 6 "moved_row" ["folds", "move"] F_moved_row := fun base => ok_moved_row Z (G_check_folds base) (G_do_move base) (G_is_move base) F_moved_row_ g_moved_row
  have g__law_moved := He.glo_ok X G (c.fact 16 (f := .glo "_law_moved") rfl)
  have F__law_moved_ := c.def_ 16 (d := d__law_moved) rfl
  have G__law_moved : ∀ base, DefOk P w K mg base 1 "_law_moved" ["_law_folds_here", "_law_move"] F__law_moved := fun base => ok__law_moved Z F__law_moved_ g__law_moved
  have g__law_steps := He.glo_ok X G (c.fact 17 (f := .glo "_law_steps") rfl)
  have F__law_steps_ := c.def_ 17 (d := d__law_steps) rfl
  have G__law_steps : ∀ base, DefOk P w K mg base 1 "_law_steps" ["_law_folds_here"] F__law_steps := fun base => ok__law_steps Z F__law_steps_ g__law_steps
  have g__law_form := He.glo_ok X G (c.fact 18 (f := .glo "_law_form") rfl)
  have F__law_form_ := c.def_ 18 (d := d__law_form) rfl
  have G__law_form : ∀ base, DefOk P w K mg base 2 "_law_form" ["_law_folds_here"] F__law_form := fun base => ok__law_form Z (G__law_steps base) F__law_form_ g__law_form
  have g_steps_between := He.glo_ok X G (c.fact 19 (f := .glo "steps_between") rfl)
  have F_steps_between_ := c.def_ 19 (d := d_steps_between) rfl
  have G_steps_between : ∀ base, DefOk P w K mg base 1 "steps_between" ["folds"] F_steps_between := fun base => ok_steps_between Z F_steps_between_ g_steps_between
  have g_form_between := He.glo_ok X G (c.fact 20 (f := .glo "form_between") rfl)
  have F_form_between_ := c.def_ 20 (d := d_form_between) rfl
  have G_form_between : ∀ base, DefOk P w K mg base 2 "form_between" ["folds"] F_form_between := fun base => ok_form_between Z (G_steps_between base) F_form_between_ g_form_between
  have g_do_the_same := He.glo_ok X G (c.fact 21 (f := .glo "do_the_same") rfl)
  have F_do_the_same_ := c.def_ 21 (d := d_do_the_same) rfl
  have G_do_the_same : ∀ base, DefOk P w K mg base 3 "do_the_same" ["folds", "beside"] F_do_the_same := fun base => ok_do_the_same Z (G_form_between base) F_do_the_same_ g_do_the_same
  have g_rows_alike := He.glo_ok X G (c.fact 22 (f := .glo "rows_alike") rfl)
  have F_rows_alike_ := c.def_ 22 (d := d_rows_alike) rfl
  have G_rows_alike : ∀ base, DefOk P w K mg base 6 "rows_alike" ["folds", "beside"] F_rows_alike := fun base => ok_rows_alike Z (G_check_folds base) (G_do_the_same base) F_rows_alike_ g_rows_alike
  have g__law_right := He.glo_ok X G (c.fact 23 (f := .glo "_law_right") rfl)
  have F__law_right_ := c.def_ 23 (d := d__law_right) rfl
  have G__law_right : ∀ base, DefOk P w K mg base 7 "_law_right" ["_law_cup_here", "_law_folds_here"] F__law_right := fun base => ok__law_right Z (G__law_some base) (G__law_folds base) (G_is_road base) (G__law_moves base) (G_moved_row base) (G__law_moved base) (G__law_form base) (G_rows_alike base) F__law_right_ g__law_right
  obtain ⟨fd, F⟩ := c.def_ 24 (d := d_law) rfl
  have e := hfa.symm.trans (He.glo_ok X G (c.fact 24 (f := .glo "law") rfl))
  cases e
  have b := FunD.bindsA (ps := ["_law_script"]) F fun _ _ _ _ _ _ us hl => match us, hl with | [_], _ => rfl
  exact ⟨fd, fun s v => b s [v] rfl, fun base _ _ => ok_law Z (G__law_cup base) (G__law_folds base) (G__law_some_folds base) (G_is_road base) (G_moved_row base) (G__law_right base) F hF⟩
end LW

end P_C
section P_D
set_option maxHeartbeats 0
open PySem PySem.W PySem.Calls PyProof.Rows
set_option maxRecDepth 100000 in
set_option maxHeartbeats 0 in
theorem PySem.Challenge.cw_wetfolds_k18_whole_moves_of_rows_holds : PySem.Challenge.rw_wetfolds_k18_whole_moves_of_rows.Holds := by
  w_on; o_law
  refine HandSHeadRun.head_any (r := OpenLaw.row PySem.Challenge.rw_wetfolds_k18_whole_moves_of_rows) (q := view (OpenLaw.row PySem.Challenge.rw_wetfolds_k18_whole_moves_of_rows).prog [47]) (H := LW.hk) (ob := LW.ob) (M := 3000) (loose := LW.loose) (d := HandSHeadRun.topDef (OpenLaw.row PySem.Challenge.rw_wetfolds_k18_whole_moves_of_rows).prog 47) (kwd := []) LW.ob_eq
    (by kernel_rfl) (fun s => by kernel_rfl) LW.run_ (by kernel_rfl) (by kernel_rfl) (by kernel_rfl) (by rfl) (by first | assumption | decide +kernel) (by decide +kernel) ⟨rfl, rfl, rfl, rfl, rfl, by decide +kernel⟩ ?hw ?hc
  case hw => w_witness2
  case hc =>
    refine L2.walk_ofE (l := PySem.Challenge.rw_wetfolds_k18_whole_moves_of_rows) (n := 63) (k := 8) (x := "_law_script") (CX := L2.CX0) rfl (by decide) (by kernel_rfl) ⟨rfl, by decide, by decide⟩ ?F (fun _ _ _ _ z => z)
    intro w mg fa h Y G hmg0
    obtain ⟨K, KX, c⟩ := Y
    have hmg : mg ("law" : PySem.Str) = some (.ref fa) := by
      have e : (HandSHeadRun.topDef (OpenLaw.row PySem.Challenge.rw_wetfolds_k18_whole_moves_of_rows).prog 47).name = ("law" : PySem.Str) := by kernel_rfl
      rw [← e]
      exact hmg0
    obtain ⟨fd, hb, hF⟩ := LW.facts (P := (PySem.Challenge.rw_wetfolds_k18_whole_moves_of_rows).prog) (w := w) LW.law_true KX G hmg c
    exact ⟨K, fd, PX.spLaw K, KX, hb, fun H a ns hl _ hS => ⟨a, ns, rfl, hS, hl, fun _ => rfl⟩, hF⟩

end P_D
